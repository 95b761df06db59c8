import PyProof.Rows.All
import Wide.All
import OpenK.AllK
import Wide.FinOn
import Lean
import PyProof.EqAt
import PyProof.EqKinds
import PyProof.NeKinds
import PyProof.TupleCall
import PySem.Challenge.RW_clonewood_k15_whole_life_of_a_file
import PyProof.Rows.Range3
import PyProof.SetKind
import PyProof.Rows.SetFrom
import KE.KDictList
set_option Elab.async false
set_option linter.all false
set_option maxRecDepth 100000
/-! THE HAND LAYER, for ints, bools, texts, own classes, LISTS and tuples (index, slices, in, append, pop ..), calls, loops. Paste it whole ahead of your own text; what your proof does not reach may be deleted. -/
namespace L2
open PySem PySem.Spec PyProof.Rows

/-- a key: an int or a str -/
abbrev Key := Sum Int Str
def keyIs : Key → Value → Bool
  | .inl k, v => Value.isInt k v
  | .inr x, v => Value.isStrOf x v
def keyH (w : World) : Key → Int
  | .inl k => hashInt k
  | .inr x => hashStr w x
theorem keyIs_shape : ∀ {k : Key} {v : Value}, keyIs k v = true → (∃ i t, k = Sum.inl i ∧ v = Value.int i t) ∨ (∃ x t, k = Sum.inr x ∧ v = Value.str x t)
  | .inl i, v, h => by
    obtain ⟨t, e⟩ := Value.isInt_shape (k := i) (v := v) h
    exact .inl ⟨i, t, rfl, e⟩
  | .inr x, v, h => by
    obtain ⟨t, e⟩ := Value.isStrOf_shape (x := x) (v := v) h
    exact .inr ⟨x, t, rfl, e⟩
theorem keyIs_int (i : Int) (t : Tok) : keyIs (.inl i) (.int i t) = true := by simp [keyIs, Value.isInt]
theorem keyIs_str (x : Str) (t : Tok) : keyIs (.inr x) (.str x t) = true := by simp [keyIs, Value.isStrOf]
theorem key_ll (a b : Int) : decide ((Sum.inl a : Key) = Sum.inl b) = (a == b) := by
  by_cases e : a = b
  · subst e; simp
  · have h : ¬ (Sum.inl a : Key) = Sum.inl b := fun q => e (Sum.inl.inj q)
    rw [decide_eq_false h]
    exact (beq_eq_false_iff_ne.mpr e).symm
theorem key_rr (a b : Str) : decide ((Sum.inr a : Key) = Sum.inr b) = decide (a = b) := by
  by_cases e : a = b
  · subst e; simp
  · have h : ¬ (Sum.inr a : Key) = Sum.inr b := fun q => e (Sum.inr.inj q)
    rw [decide_eq_false h, decide_eq_false e]
theorem key_lr (a : Int) (b : Str) : decide ((Sum.inl a : Key) = Sum.inr b) = false := decide_eq_false (fun q => nomatch q)
theorem key_rl (a : Str) (b : Int) : decide ((Sum.inr a : Key) = Sum.inl b) = false := decide_eq_false (fun q => nomatch q)

def mixKind (prog : Program) (w : World) : PySem.KeyKind prog w Key where
  is := keyIs
  hash := keyH w
  inj := fun v a b ha hb => by
    rcases keyIs_shape ha with ⟨i, t, rfl, rfl⟩ | ⟨x, t, rfl, rfl⟩
    · rcases keyIs_shape hb with ⟨j, u, rfl, e⟩ | ⟨y, u, rfl, e⟩
      · injection e with e1 _; rw [e1]
      · exact nomatch e
    · rcases keyIs_shape hb with ⟨j, u, rfl, e⟩ | ⟨y, u, rfl, e⟩
      · exact nomatch e
      · injection e with e1 _; rw [e1]
  byValue := fun k v h => by
    rcases keyIs_shape h with ⟨i, t, rfl, rfl⟩ | ⟨x, t, rfl, rfl⟩ <;> rfl
  pyHash := fun hv h => by
    rcases keyIs_shape hv with ⟨i, t, rfl, rfl⟩ | ⟨x, t, rfl, rfl⟩
    · exact wpAny_pyHash_int h
    · exact wpAny_pyHash_str h
  eqBool := fun hu hv h => by
    rcases keyIs_shape hu with ⟨i, t, rfl, rfl⟩ | ⟨x, t, rfl, rfl⟩
    · rcases keyIs_shape hv with ⟨j, u, rfl, rfl⟩ | ⟨y, u, rfl, rfl⟩
      · rw [key_ll] at h; exact wpAny_eqBool_int h
      · rw [key_lr] at h; exact SeqAt.EqAt.int_str i t y u _ _ _ _ h
    · rcases keyIs_shape hv with ⟨j, u, rfl, rfl⟩ | ⟨y, u, rfl, rfl⟩
      · rw [key_rl] at h; exact SeqAt.EqAt.str_int x t j u _ _ _ _ h
      · rw [key_rr] at h; exact wpAny_eqBool_str h
  «strs» := fun k x t v h => by
    rcases keyIs_shape h with ⟨i, u, rfl, e⟩ | ⟨y, u, rfl, e⟩
    · exact nomatch e
    · injection e with e1 _
      subst e1
      cases v <;> rfl

theorem mixKind_int (prog : Program) (w : World) (i : Int) (t : Tok) : (mixKind prog w).is (.inl i) (.int i t) = true := keyIs_int i t
theorem mixKind_str (prog : Program) (w : World) (x : Str) (t : Tok) : (mixKind prog w).is (.inr x) (.str x t) = true := keyIs_str x t
end L2

namespace L2
open PySem PySem.Spec PyProof.Rows

/-- a value, without the heap -/
inductive V where
  | non | bl (b : Bool) | int (i : Int) | str (x : Str) | byt (b : Array UInt8) | flt (b : UInt64) | ref (a : Addr) | ty (n : String)
  deriving DecidableEq

def RelV : V → Value → Prop
  | .non, u => u = Value.none
  | .bl b, u => u = Value.bool b
  | .int i, u => ∃ t, u = Value.int i t
  | .str x, u => ∃ t, u = Value.str x t
  | .byt b, u => ∃ t, u = Value.bytes b t
  | .flt b, u => ∃ t, u = Value.float b t
  | .ref a, u => u = Value.ref a
  | .ty n, u => u = Value.type n

abbrev Vals : List V → List Value → Prop := Paired RelV
theorem Vals.length {xs : List V} {us : List Value} (r : Vals xs us) : xs.length = us.length := Paired.length r
theorem Vals.get : ∀ {xs : List V} {us : List Value} {i : Nat} {x : V}, Vals xs us → xs[i]? = some x → ∃ u, us[i]? = some u ∧ RelV x u
  | _, _, _, _, .nil, e => by simp at e
  | _, _, 0, _, .cons r _, e => by simp at e; subst e; exact ⟨_, rfl, r⟩
  | _, _, i + 1, x, .cons _ t, e => by
    obtain ⟨u, h1, h2⟩ := Vals.get (i := i) (x := x) t (by simpa using e)
    exact ⟨u, by simpa using h1, h2⟩
theorem Vals.set {x : V} {u : Value} (r : RelV x u) : ∀ {xs : List V} {us : List Value} (i : Nat), Vals xs us → Vals (xs.set i x) (us.set i u)
  | _, _, _, .nil => .nil
  | _, _, 0, .cons _ t => .cons r t
  | _, _, i + 1, .cons q t => .cons q (Vals.set r i t)
theorem Vals.append : ∀ {xs ys : List V} {us ws : List Value}, Vals xs us → Vals ys ws → Vals (xs ++ ys) (us ++ ws)
  | _, _, _, _, .nil, s => s
  | _, _, _, _, .cons r t, s => .cons r (Vals.append t s)
theorem Vals.take : ∀ {xs : List V} {us : List Value} (n : Nat), Vals xs us → Vals (xs.take n) (us.take n)
  | _, _, 0, _ => .nil
  | _, _, _ + 1, .nil => .nil
  | _, _, n + 1, .cons r t => .cons r (Vals.take n t)
theorem Vals.drop : ∀ {xs : List V} {us : List Value} (n : Nat), Vals xs us → Vals (xs.drop n) (us.drop n)
  | _, _, 0, r => r
  | _, _, _ + 1, .nil => .nil
  | _, _, n + 1, .cons _ t => Vals.drop n t
def RelO : Option V → Option Value → Prop
  | some v, some u => RelV v u
  | none, none => True
  | _, _ => False
def KV {κ : Type} : List (κ × V) → List (κ × Value) → Prop := Paired fun (p : κ × V) (q : κ × Value) => p.1 = q.1 ∧ RelV p.2 q.2

/-- a key of a dict (00_mix): an int or a text -/
def kV : Key → V
  | .inl i => .int i
  | .inr x => .str x

/-- what stands at a tracked address -/
inductive HO where
  /-- a list -/
  | lst (xs : List V)
  /-- a tuple (never changes) -/
  | tup (xs : List V)
  /-- a dict whose keys are ints and texts; one whose keys are tuples of ints and texts (the empty one is both) -/
  | dK (kvs : List (Key × V)) | dT (kvs : List (List Key × V))
  /-- a set of ints: its members, its size -/
  | set (S : Int → Bool) (n : Nat)
  /-- an instance of the class at C, its dict at dx, its attributes -/
  | ins (C dx : Addr) (fs : List (Str × V))
  /-- the dict of the instance at x -/
  | own (x : Addr)
  /-- the dict of an exception -/
  | xd (fs : List (Str × V))
  /-- a bound method, f of x -/
  | met (f x : Addr)
  /-- a range object lo, lo + 1, .. below hi -/
  | rng (lo hi : Int)
  /-- a thing that is known to the object (the script; a dict while a loop walks it): read, never written while it is so -/
  | frz (o : Obj) (u : HO)
  /-- a code object's table -/
  | tbl (ps : Array Value)
  /-- any other thing, by what is true of its one object (a def of one's own: SetO a S n := HO.ext fun h => ..) -/
  | ext (φ : Heap → Prop)

abbrev Hp := Addr → Option HO
def upd (H : Hp) (a : Addr) (o : HO) : Hp := fun b => if b = a then some o else H b
theorem upd_same {H : Hp} {a : Addr} {o : HO} : upd H a o a = some o := by unfold upd; rw [if_pos rfl]
theorem upd_ne {H : Hp} {a b : Addr} {o : HO} (h : b ≠ a) : upd H a o b = H b := by unfold upd; rw [if_neg h]
/-- two objects of different content stand apart -/
theorem ne_of {H : Hp} {a b : Addr} {o u : HO} (h : H a = some o) (h' : H b = some u) (d : o ≠ u) : a ≠ b := by
  intro e; subst e; rw [h] at h'; exact d (Option.some.inj h')
theorem ne_of_none {H : Hp} {a b : Addr} {o : HO} (h : H a = some o) (h' : H b = none) : a ≠ b := by
  intro e; subst e; rw [h] at h'; cases h'

section
variable (P : Program) (w : World)
def ObjOk (H : Hp) (h : Heap) (a : Addr) : HO → Prop
  | .lst xs => xs.length ≤ sizeLine ∧ ∃ (its : List Value) (n : Nat), Vals xs its ∧ h.get? a = some { cls := .type "list", data := .seq its.toArray n }
  | .tup xs => xs.length ≤ sizeLine ∧ ∃ its : List Value, Vals xs its ∧ IsTup h a its.toArray
  | .dK kvs => kvs.length ≤ sizeLine ∧ (a == sysModules) = false ∧ ∃ vs, KV kvs vs ∧ h.DictOf (mixKind P w) a vs
  | .dT kvs => kvs.length ≤ sizeLine ∧ (a == sysModules) = false ∧ ∃ xs : List (List Key × Addr × Value),
      Paired (fun (p : List Key × V) (q : List Key × Addr × Value) => p.1 = q.1 ∧ H q.2.1 = some (.tup (p.1.map kV)) ∧ RelV p.2 q.2.2) kvs xs ∧
      ∃ o es ep, h.get? a = some o ∧ o.ExactDict ∧ o.data = .dict es ep ∧ es.toList = xs.map (entryOfKey (tupleKind (mixKind P w))) ∧ (xs.map (·.1)).Nodup
  | .set S n => h.SetOf (intKind P w) a S n
  | .ins C dx fs => H dx = some (.own a) ∧ fs.length ≤ 1000 ∧ dx ≠ a ∧ h.get? a = some (PySem.W.instObj C dx) ∧
      ∃ mA, h.Ns1 dx mA ∧ (∀ f, RelO (fs.lookup f) (mA f)) ∧ PySem.Within mA (fs.map (·.1))
  | .own _ => ∃ o, h.get? a = some o
  | .xd fs => ∃ mA, h.Ns1 a mA ∧ ∀ f, RelO (fs.lookup f) (mA f)
  | .rng lo hi => ∃ t u v, h.get? a = some { cls := .type "range", data := .fields #[.int lo t, .int hi u, .int 1 v] }
  | .frz o u => h.get? a = some o ∧ ObjOk H h a u
  | .tbl ps => h.get? a = some { cls := .none, data := .fields ps }
  | .met f x => h.get? a = some (PySem.W.methodObj (.ref f) (.ref x))
  | .ext φ => φ h ∧ (∃ o, h.get? a = some o) ∧ ∀ h1 h2 : Heap, φ h1 → (∀ o, h1.get? a = some o → h2.get? a = some o) → φ h2
/-- the abstract heap is held -/
def HOk (H : Hp) (h : Heap) : Prop := ∀ a o, H a = some o → ObjOk P w H h a o
end

section
variable {P : Program} {w : World} {H H' : Hp} {h h' : Heap} {a : Addr} {o : HO}
theorem ObjOk.lt (x : ObjOk P w H h a o) : a < h.objs.size := by
  cases o with
  | lst xs => obtain ⟨_, _, _, _, e⟩ := x; exact Heap.lt_size e
  | tup xs => obtain ⟨_, _, _, p⟩ := x; exact p.lt
  | dK kvs => obtain ⟨_, _, _, _, o, _, _, e, _⟩ := x; exact Heap.lt_size e
  | dT kvs => obtain ⟨_, _, _, _, o, _, _, e, _⟩ := x; exact Heap.lt_size e
  | set S n => obtain ⟨o, _, _, _, e, _⟩ := x; exact Heap.lt_size e
  | ins C dx fs => obtain ⟨_, _, _, e, _⟩ := x; exact Heap.lt_size e
  | own y => obtain ⟨_, e⟩ := x; exact Heap.lt_size e
  | xd fs => obtain ⟨_, ⟨_, _, _, e, _⟩, _⟩ := x; exact Heap.lt_size e
  | rng lo hi => obtain ⟨_, _, _, e⟩ := x; exact Heap.lt_size e
  | frz ob u => obtain ⟨e, _⟩ := x; exact Heap.lt_size e
  | tbl ps => exact Heap.lt_size (show h.get? a = some _ from x)
  | met f y => exact Heap.lt_size (show h.get? a = some _ from x)
  | ext φ => obtain ⟨_, ⟨_, e⟩, _⟩ := x; exact Heap.lt_size e
theorem Paired.mapP {α β : Type} {F G : α → β → Prop} : ∀ {l₁ : List α} {l₂ : List β}, Paired F l₁ l₂ → (∀ a b, F a b → G a b) → Paired G l₁ l₂
  | _, _, .nil, _ => .nil
  | _, _, .cons r t, f => .cons (f _ _ r) (Paired.mapP t f)
/-- what an object's description leans on: its own object, its own dict, the tuples -/
theorem ObjOk.stay (x : ObjOk P w H h a o) (k : ∀ b u, (b = a ∨ H b = some (.own a)) → h.get? b = some u → h'.get? b = some u)
    (ho : ∀ b, H b = some (.own a) → H' b = some (.own a)) (ht : ∀ b xs, H b = some (.tup xs) → H' b = some (.tup xs)) : ObjOk P w H' h' a o := by
  induction o with
  | lst xs => obtain ⟨z, its, n, r, e⟩ := x; exact ⟨z, its, n, r, k _ _ (.inl rfl) e⟩
  | tup xs => obtain ⟨z, its, r, ob, e, c⟩ := x; exact ⟨z, its, r, ob, k _ _ (.inl rfl) e, c⟩
  | dK kvs => obtain ⟨z, y, vs, r, ob, es, ep, e, c⟩ := x; exact ⟨z, y, vs, r, ob, es, ep, k _ _ (.inl rfl) e, c⟩
  | dT kvs =>
    obtain ⟨z, y, xs, r, ob, es, ep, e, c⟩ := x
    exact ⟨z, y, xs, Paired.mapP r fun p q z => ⟨z.1, ht _ _ z.2.1, z.2.2⟩, ob, es, ep, k _ _ (.inl rfl) e, c⟩
  | set S n => obtain ⟨ob, es, ep, t, e, c⟩ := x; exact ⟨ob, es, ep, t, k _ _ (.inl rfl) e, c⟩
  | ins C dx fs =>
    obtain ⟨d, z, ne, e, mA, ⟨od, es, ep, e2, c⟩, r⟩ := x
    exact ⟨ho _ d, z, ne, k _ _ (.inl rfl) e, mA, ⟨od, es, ep, k _ _ (.inr d) e2, c⟩, r⟩
  | own y => obtain ⟨ob, e⟩ := x; exact ⟨ob, k _ _ (.inl rfl) e⟩
  | xd fs => obtain ⟨mA, ⟨od, es, ep, e, c⟩, r⟩ := x; exact ⟨mA, ⟨od, es, ep, k _ _ (.inl rfl) e, c⟩, r⟩
  | rng lo hi => obtain ⟨t, u, v, e⟩ := x; exact ⟨t, u, v, k _ _ (.inl rfl) e⟩
  | frz ob u ih => obtain ⟨e, q⟩ := x; exact ⟨k _ _ (.inl rfl) e, ih q⟩
  | tbl ps =>
    have e : h.get? a = some { cls := .none, data := .fields ps } := x
    show h'.get? a = some { cls := .none, data := .fields ps }
    exact k a _ (.inl rfl) e
  | met f y =>
    have e : h.get? a = some (PySem.W.methodObj (.ref f) (.ref y)) := x
    show h'.get? a = some (PySem.W.methodObj (.ref f) (.ref y))
    exact k a _ (.inl rfl) e
  | ext φ => obtain ⟨p, ⟨o, e⟩, st⟩ := x; exact ⟨st _ _ p fun o q => k _ _ (.inl rfl) q, ⟨o, k _ _ (.inl rfl) e⟩, st⟩
theorem HOk.lt (x : HOk P w H h) (e : H a = some o) : a < h.objs.size := (x a o e).lt
theorem HOk.fresh (x : HOk P w H h) (e : h.objs.size ≤ a) : H a = none := by
  cases q : H a with
  | none => rfl
  | some u => exact absurd (Nat.lt_of_lt_of_le (x.lt q) e) (Nat.lt_irrefl _)
/-- every object of the heap is kept -/
theorem HOk.kept (x : HOk P w H h) (k : ∀ b u, h.get? b = some u → h'.get? b = some u) : HOk P w H h' := fun a o e =>
  (x a o e).stay (fun b u _ q => k b u q) (fun _ q => q) fun _ _ q => q
/-- a new object is laid and tracked -/
theorem HOk.laid (x : HOk P w H h) (k : ∀ b u, h.get? b = some u → h'.get? b = some u) (hp : h.objs.size ≤ a) (new : ObjOk P w (upd H a o) h' a o) : HOk P w (upd H a o) h' := fun b u e => by
  have hn := x.fresh hp
  by_cases hb : b = a
  · subst hb; rw [upd_same] at e; cases e; exact new
  · rw [upd_ne hb] at e
    exact (x b u e).stay (fun c v _ q => k c v q) (fun c q => by rw [upd_ne (ne_of_none q hn)]; exact q) fun c xs q => by rw [upd_ne (ne_of_none q hn)]; exact q
end

/-- what may be read as u: it is u, or a known u -/
def Rd (H : Hp) (a : Addr) (u : HO) : Prop := H a = some u ∨ ∃ o, H a = some (.frz o u)
theorem Rd.ok {P : Program} {w : World} {H : Hp} {h : Heap} {a : Addr} {u : HO} (r : Rd H a u) (x : HOk P w H h) : ObjOk P w H h a u := by
  rcases r with r | ⟨o, r⟩
  · exact x a u r
  · obtain ⟨_, q⟩ := x a _ r
    exact q
/-- what may be written -/
def Mut : Option HO → Prop
  | some (.lst _) => True
  | some (.dK _) => True
  | some (.dT _) => True
  | some (.set _ _) => True
  | some (.ins _ _ _) => True
  | some (.ext _) => True
  | _ => False
section
variable {P : Program} {w : World} {H : Hp} {h h' : Heap} {x e : Addr} {o' : HO}
/-- the object at e is changed: x itself, or the dict of the instance x -/
theorem HOk.write (ok : HOk P w H h) (mu : Mut (H x)) (he : e = x ∨ H e = some (.own x)) (k : ∀ b u, b ≠ e → h.get? b = some u → h'.get? b = some u) (heo : ∃ u, h'.get? e = some u)
    (new : ObjOk P w (upd H x o') h' x o') : HOk P w (upd H x o') h' := fun b u q => by
  have nown : ∀ c y, H c = some (.own y) → c ≠ x := fun c y r z => by subst z; rw [r] at mu; exact mu
  have ntup : ∀ c xs, H c = some (.tup xs) → c ≠ x := fun c xs r z => by subst z; rw [r] at mu; exact mu
  by_cases hb : b = x
  · subst hb; rw [upd_same] at q; cases q; exact new
  · rw [upd_ne hb] at q
    by_cases hbe : b = e
    · have q' : H b = some (.own x) := by
        rcases he with z | z
        · exact absurd (hbe.trans z) hb
        · rw [hbe]; exact z
      rw [q] at q'; cases q'
      obtain ⟨v, hv⟩ := heo
      exact ⟨v, by rw [hbe]; exact hv⟩
    · refine (ok b u q).stay (fun c v hc r => k c v ?_ r) (fun c r => by rw [upd_ne (nown c b r)]; exact r) fun c xs r => by rw [upd_ne (ntup c xs r)]; exact r
      rcases hc with rfl | hc
      · exact hbe
      · rintro rfl
        rcases he with z | z
        · exact nown c b hc z
        · rw [hc] at z; cases z; exact hb rfl
end

/-! ### kept unless tracked; of the frames at fs (the callers') the slots may change (an exception that passes writes there); of the records at ex (iterators) nothing is said -/
structure Un (fs ex : List Addr) (H H' : Hp) (h h' : Heap) : Prop where
  keep : ∀ b o, h.get? b = some o → H b = none → b ∉ fs → b ∉ ex → h'.get? b = some o
  slot : ∀ b o, h.get? b = some o → H b = none → b ∈ fs → b ∉ ex → ∃ sl, h'.get? b = some { o with slots := sl }
  free : ∀ b o, h.get? b = some o → H b = none → b ∉ ex → H' b = none
  there : ∀ b o, h.get? b = some o → b ∉ ex → ∃ o', h'.get? b = some o'
  tups : ∀ b xs, H b = some (.tup xs) → H' b = some (.tup xs)
  frzs : ∀ b o u, H b = some (.frz o u) → H' b = some (.frz o u)
  tbls : ∀ b ps, H b = some (.tbl ps) → ∃ more, H' b = some (.tbl (ps ++ more))
section
variable {fs fs' ex ex' : List Addr} {H H1 H2 : Hp} {h h1 h2 h' : Heap} {a x e : Addr} {o : HO}
theorem Un.any (u : Un fs ex H H1 h h1) {b : Addr} {ob : Obj} (q : h.get? b = some ob) (n : H b = none) (hx : b ∉ ex) : ∃ sl, h1.get? b = some { ob with slots := sl } := by
  by_cases hb : b ∈ fs
  · exact u.slot b ob q n hb hx
  · exact ⟨ob.slots, u.keep b ob q n hb hx⟩
theorem Un.kept (k : ∀ b u, h.get? b = some u → h'.get? b = some u) : Un fs ex H H h h' :=
  ⟨fun b ob q _ _ _ => k b ob q, fun b ob q _ _ _ => ⟨ob.slots, k b ob q⟩, fun _ _ _ n _ => n, fun b ob q _ => ⟨ob, k b ob q⟩, fun _ _ q => q, fun _ _ _ q => q, fun _ ps q => ⟨#[], by rw [q]; simp⟩⟩
theorem Un.refl : Un fs ex H H h h := Un.kept fun _ _ q => q
theorem Un.laid (k : ∀ b u, h.get? b = some u → h'.get? b = some u) (hp : h.objs.size ≤ a) (hn : H a = none) : Un fs ex H (upd H a o) h h' where
  keep := fun b u q _ _ _ => k b u q
  slot := fun b u q _ _ _ => ⟨u.slots, k b u q⟩
  free := fun b u q n _ => by rw [upd_ne (Nat.ne_of_lt (Nat.lt_of_lt_of_le (Heap.lt_size q) hp))]; exact n
  there := fun b u q _ => ⟨u, k b u q⟩
  tups := fun b xs q => by rw [upd_ne (ne_of_none q hn)]; exact q
  frzs := fun b u xs q => by rw [upd_ne (ne_of_none q hn)]; exact q
  tbls := fun b ps q => ⟨#[], by rw [upd_ne (ne_of_none q hn), q]; simp⟩
theorem Un.write (mu : Mut (H x)) (he : e = x ∨ H e = some (.own x)) (k : ∀ b u, b ≠ e → h.get? b = some u → h'.get? b = some u) (heo : ∃ u, h'.get? e = some u) : Un fs ex H (upd H x o) h h' := by
  have hx : ∀ b, H b = none → b ≠ x := fun b n z => by subst z; rw [n] at mu; exact mu
  have hb : ∀ b, H b = none → b ≠ e := fun b n z => by
    subst z
    rcases he with r | r
    · exact hx b n r
    · rw [n] at r; cases r
  have hm : ∀ b u, H b = some u → ¬ Mut (some u) → b ≠ x := fun b u q nm z => by subst z; rw [q] at mu; exact nm mu
  refine ⟨fun b u q n _ _ => k b u (hb b n) q, fun b u q n _ _ => ⟨u.slots, k b u (hb b n) q⟩, fun b u q n _ => by rw [upd_ne (hx b n)]; exact n, fun b u q _ => ?_,
    fun b xs q => by rw [upd_ne (hm b _ q fun z => z)]; exact q, fun b u xs q => by rw [upd_ne (hm b _ q fun z => z)]; exact q, fun b ps q => ⟨#[], by rw [upd_ne (hm b _ q fun z => z), q]; simp⟩⟩
  by_cases hbe : b = e
  · subst hbe; exact heo
  · exact ⟨u, k b u hbe q⟩
end

/-! ### the heap without what is tracked -/
def trk (h : Heap) (H : Hp) : List Addr := (List.range h.objs.size).filter fun a => (H a).isSome
def hidT (h : Heap) (H : Hp) : Heap := PySem.W.hideAll h (trk h H)
theorem hidT_size (h : Heap) (H : Hp) : (hidT h H).objs.size = h.objs.size := PySem.W.hideAll_size _ _
theorem hidT_get {h : Heap} {H : Hp} {b : Addr} {o : Obj} (e : h.get? b = some o) (n : H b = none) : (hidT h H).get? b = some o :=
  PySem.W.hideAll_get _ e fun hm => by
    have q : (H b).isSome = true := (List.mem_filter.mp hm).2
    rw [n] at q; simp at q
theorem of_hidT {h : Heap} {H : Hp} {b : Addr} {o : Obj} (e : (hidT h H).get? b = some o) : h.get? b = some o ∧ H b = none := by
  have e' : h.get? b = some o := PySem.W.of_hideAll (trk h H) e
  refine ⟨e', ?_⟩
  cases q : H b with
  | none => rfl
  | some x =>
    have hm : b ∈ trk h H := List.mem_filter.mpr ⟨List.mem_range.mpr (Heap.lt_size e'), by simp [q]⟩
    have z : (hidT h H).get? b = none := PySem.W.hideAll_none (trk h H) hm
    rw [z] at e; cases e

/-! ### OpenK's ledger, filled with every new object but one -/
def allNews (g h : Heap) (L : Addr) : List (Addr × Obj) := (List.range h.objs.size).filterMap fun a => if a = L ∨ (g.get? a).isSome = true then none else (h.get? a).map fun o => (a, o)
theorem mem_allNews {g h : Heap} {L a : Addr} {o : Obj} (h1 : a ≠ L) (h2 : g.get? a = none) (h3 : h.get? a = some o) : (a, o) ∈ allNews g h L :=
  List.mem_filterMap.mpr ⟨a, List.mem_range.mpr (Heap.lt_size h3), by simp [h1, h2, h3]⟩
theorem of_mem_allNews {g h : Heap} {L : Addr} {p : Addr × Obj} (hp : p ∈ allNews g h L) : p.1 ≠ L ∧ g.get? p.1 = none ∧ h.get? p.1 = some p.2 := by
  obtain ⟨b, _, e⟩ := List.mem_filterMap.mp hp
  split at e
  · cases e
  · rename_i hn
    cases q : h.get? b with
    | none => rw [q] at e; simp at e
    | some u =>
      rw [q] at e
      simp only [Option.map_some, Option.some.injEq] at e
      subst e
      refine ⟨fun z => hn (.inl z), ?_, q⟩
      show g.get? b = none
      cases r : g.get? b with
      | none => rfl
      | some v => exact (hn (.inr (by simp [r]))).elim
theorem news_all {g h : Heap} {L : Addr} : News g L h (allNews g h L) := fun p hp => let ⟨a, b, c⟩ := of_mem_allNews hp; ⟨c, a, b⟩
end L2

namespace L2
open PySem PySem.Spec PyProof.Rows

/-- the module's facts, over the base: the heap at the law's entry without what is tracked there -/
structure Mod (K : PySem.W.Frag) (mg : Str → Option Value) (base : Heap) : Prop where
  kin : K.In base
  glob : base.Ns mainGlobals mg
  blt : ∃ mb, base.Ns builtinsNs mb ∧ ∀ x : Str, x ≠ "__name__" → mb x = bootBuiltins x
  nolimit : base.NoLimit

/-- the context: a def's body (or a comprehension's block) running. base: fixed through the whole law; s₀, H₀: the entry; outer: the frames whose slots others may change (a def's callers); stack: all frames that run;
   ex: iterators that were made ahead of the entry and are walked here (a comprehension's); fn: the names whose cells were made at the entry (a def: all; a comprehension's block: its own); calm: not within an except suite; pn: pins that every state bears; xe: what is wanted of an exception that leaves the code -/
structure Cx where
  prog : Program
  w : World
  K : PySem.W.Frag
  mg : Str → Option Value
  base : Heap
  A : Around
  N : List Str
  s₀ : Shared
  H₀ : Hp
  env : Env
  outer : List Env
  stack : List Env
  ex : List Addr
  fn : Str → Bool
  calm : Bool
  pn : List (Addr × Obj)
  xe : Value → Shared → Prop
/-- the callers' frames -/
def frs (l : List Env) : List Addr := l.filterMap (·.frame)
abbrev Cx.fs (X : Cx) : List Addr := frs X.outer

def Vis (sc : Scope) (x : Str) : Prop := sc.names.lookup x = some .local ∨ sc.names.lookup x = some .cell ∨ sc.names.lookup x = some .free
def Loc (sc : Scope) (x : Str) : Prop := sc.names.lookup x = some .local ∨ sc.names.lookup x = some .cell
def Look (env : Env) (h : Heap) (m : Str → Option Value) (x : Str) (u : Value) : Prop :=
  (env.kindOf x = some .local ∧ m x = some u) ∨ ((env.kindOf x = some .cell ∨ env.kindOf x = some .free) ∧ ∃ c, env.cells.lookup x = some c ∧ h.IsCell c (some u))

structure Cx.Ok (X : Cx) : Prop where
  mod : Mod X.K X.mg X.base
  kind : X.env.scope.kind = .function
  glob : X.env.globals = mainGlobals
  blt : X.env.builtins = builtinsNs
  above : X.s₀.heap.objs.size ≤ X.env.locals
  inj : ∀ x y c, X.env.cells.lookup x = some c → X.env.cells.lookup y = some c → x = y
  has : ∀ x, (X.env.kindOf x = some .cell ∨ X.env.kindOf x = some .free) → ∃ c, X.env.cells.lookup x = some c
  cab : ∀ x c, X.fn x = true → X.env.cells.lookup x = some c → X.s₀.heap.objs.size ≤ c
  hd : X.calm = true → X.A.handled = none
  frames : X.A.frames = some X.stack
  stk : X.stack = X.outer ∨ (X.stack = X.env :: X.outer ∧ X.env.frame = some X.env.locals)
  exf : ∀ b ∈ X.ex, b ≠ X.env.locals ∧ ∀ x c, X.env.cells.lookup x = some c → c ≠ b
  bs : ∀ b o, X.base.get? b = some o → X.s₀.heap.get? b = some o ∧ X.H₀ b = none
  bsz : X.base.objs.size ≤ X.s₀.heap.objs.size
  noex : ∀ b o, X.base.get? b = some o → b ∉ X.ex
  exfs : ∀ b ∈ X.ex, b ∉ X.fs
  funs : X.s₀.heap.FunFrames X.base X.outer
  frf : ∀ b ∈ X.fs, X.H₀ b = none

structure Inv (X : Cx) (pins : List (Addr × Obj)) (σ : List (Option V)) (H : Hp) (s : Shared) : Prop where
  ok : X.Ok
  os : s.os = X.s₀.os
  bare : AllBare s.gens
  base : Un X.fs X.ex X.H₀ H X.s₀.heap s.heap
  loc : ∃ m, s.heap.Ns X.env.locals m ∧ ∀ (i : Nat) (x : Str) (v : V), X.N[i]? = some x → σ[i]? = some (some v) → Vis X.env.scope x → ∃ u, RelV v u ∧ Look X.env s.heap m x u
  cell : ∀ x c, X.env.cells.lookup x = some c → ∃ v, s.heap.IsCell c v
  free : H X.env.locals = none
  freeC : ∀ x c, X.env.cells.lookup x = some c → H c = none
  pin : ∀ p ∈ X.pn ++ pins, s.heap.get? p.1 = some p.2 ∧ H p.1 = none ∧ p.1 ≠ X.env.locals ∧ p.1 ∉ X.fs ∧ ∀ v, p.2.data ≠ .cell v
  hok : HOk X.prog X.w H s.heap
  len : σ.length = X.N.length

section
variable {X : Cx} {pins : List (Addr × Obj)} {σ : List (Option V)} {H H' : Hp} {s : Shared} {h' : Heap}

theorem Cx.Ok.nofr (ok : X.Ok) {b : Addr} {o : Obj} (e : X.base.get? b = some o) : b ∉ X.fs := fun hb => by
  have := (ok.funs.mem hb).1
  rw [e] at this; cases this
theorem Inv.bs (I : Inv X pins σ H s) : ∀ b o, X.base.get? b = some o → s.heap.get? b = some o ∧ H b = none := fun b o e =>
  ⟨I.base.keep b o (I.ok.bs b o e).1 (I.ok.bs b o e).2 (I.ok.nofr e) (I.ok.noex b o e), I.base.free b o (I.ok.bs b o e).1 (I.ok.bs b o e).2 (I.ok.noex b o e)⟩
theorem Inv.bk (I : Inv X pins σ H s) : ∀ b o, X.base.get? b = some o → s.heap.get? b = some o := fun b o e => (I.bs b o e).1
theorem Inv.mod (I : Inv X pins σ H s) : Mod X.K X.mg X.base := I.ok.mod
theorem Inv.kIn (I : Inv X pins σ H s) : X.K.In s.heap := I.ok.mod.kin.keeps I.bk
theorem Inv.nolimit (I : Inv X pins σ H s) : s.heap.NoLimit := I.ok.mod.nolimit.keeps I.bk
/-- the frame over the base: for OpenK's rules (K.In X.base is I.mod.kin) -/
theorem Inv.fr (I : Inv X pins σ H s) : ∃ m, Fr X.base X.env.locals s.heap m :=
  let ⟨m, hn, _⟩ := I.loc
  ⟨m, hn, I.bk, Nat.le_trans I.ok.bsz I.ok.above⟩
theorem Inv.lt (I : Inv X pins σ H s) : X.env.locals < s.heap.objs.size := let ⟨_, hn, _⟩ := I.loc; hn.lt
theorem Inv.sz (I : Inv X pins σ H s) : X.s₀.heap.objs.size ≤ s.heap.objs.size := Nat.le_trans I.ok.above (Nat.le_of_lt I.lt)
theorem Inv.nofs (I : Inv X pins σ H s) {a : Addr} (h : s.heap.objs.size ≤ a) : a ∉ X.fs := fun hb => by
  obtain ⟨_, o, ho, _⟩ := I.ok.funs.mem hb
  exact absurd (Nat.lt_of_lt_of_le (Heap.lt_size ho) (Nat.le_trans I.sz h)) (Nat.lt_irrefl _)
theorem Inv.cne (I : Inv X pins σ H s) : ∀ x c, X.env.cells.lookup x = some c → c ≠ X.env.locals := fun x c e z => by
  obtain ⟨v, o, ho, hd⟩ := I.cell x c e
  obtain ⟨m, ⟨o', es, ep, ho', hd', _⟩, _⟩ := I.loc
  rw [z, ho'] at ho; cases ho; rw [hd'] at hd; cases hd
theorem Inv.funs (I : Inv X pins σ H s) : s.heap.FunFrames X.base X.outer := by
  have all : ∀ (l : List Env), (∀ b ∈ frs l, b ∈ X.fs) → X.s₀.heap.FunFrames X.base l → s.heap.FunFrames X.base l := by
    intro l
    induction l with
    | nil => intro _ _; trivial
    | cons env r ih =>
      intro hs hl
      obtain ⟨hk, ⟨L, o, hf, hn, ho, hd⟩, hr⟩ := hl
      have hL : L ∈ X.fs := hs L (by unfold frs; rw [List.filterMap_cons, hf]; exact List.mem_cons_self)
      obtain ⟨sl, e⟩ := I.base.slot L o ho (I.ok.frf L hL) hL fun z => I.ok.exfs L z hL
      exact ⟨hk, ⟨L, _, hf, hn, e, hd⟩, ih (fun b hb => hs b (by unfold frs; rw [List.filterMap_cons, hf]; exact List.mem_cons_of_mem _ hb)) hr⟩
  exact all X.outer (fun _ hb => hb) I.ok.funs

/-- the frames that run, for a call -/
theorem Inv.stack (I : Inv X pins σ H s) : s.heap.FunFrames X.base X.stack := by
  rcases I.ok.stk with e | ⟨e, hf⟩
  · rw [e]; exact I.funs
  · rw [e]
    obtain ⟨m, hn, _⟩ := I.loc
    refine .cons (by rw [I.ok.kind]; decide) hf hn ?_ I.funs
    exact Heap.get?_none_of_le (Nat.le_trans I.ok.bsz I.ok.above)
theorem Inv.stkSub (I : Inv X pins σ H s) : ∀ b ∈ frs X.stack, b ∈ X.env.locals :: X.fs := fun b hb => by
  rcases I.ok.stk with e | ⟨e, hf⟩
  · rw [e] at hb; exact List.mem_cons_of_mem _ hb
  · rw [e] at hb
    unfold frs at hb
    rw [List.filterMap_cons, hf] at hb
    exact hb
theorem Inv.stkFree (I : Inv X pins σ H s) : ∀ b ∈ frs X.stack, H b = none := fun b hb => by
  rcases List.mem_cons.mp (I.stkSub b hb) with e | hb
  · rw [e]; exact I.free
  · obtain ⟨_, o, ho, _⟩ := I.ok.funs.mem hb
    exact I.base.free b o ho (I.ok.frf b hb) fun z => I.ok.exfs b z hb

/-- THE STEP: the untracked objects but the frame and the records at ch are kept (the callers' frames up to slots), the frame's map is kept, the new abstract heap is held -/
theorem Inv.step {g' : Array GenState} {t' : Nat} {d' : Drawn} {ch : List Addr} (I : Inv X pins σ H s)
    (hch : ∀ b ∈ ch, (b ∈ X.ex ∨ X.s₀.heap.objs.size ≤ b) ∧ b ≠ X.env.locals ∧ (∀ x c, X.env.cells.lookup x = some c → c ≠ b) ∧ ∀ p ∈ X.pn ++ pins, p.1 ≠ b)
    (keep : ∀ b o, b ≠ X.env.locals → b ∉ X.fs → b ∉ ch → s.heap.get? b = some o → H b = none → h'.get? b = some o)
    (slot : ∀ b o, b ≠ X.env.locals → b ∈ X.fs → b ∉ ch → s.heap.get? b = some o → H b = none → ∃ sl, h'.get? b = some { o with slots := sl }) (free : ∀ b o, b ∉ ch → s.heap.get? b = some o → H b = none → H' b = none)
    (there : ∀ b o, b ∉ ch → s.heap.get? b = some o → ∃ o', h'.get? b = some o')
    (tups : ∀ b xs, H b = some (.tup xs) → H' b = some (.tup xs)) (frzs : ∀ b o u, H b = some (.frz o u) → H' b = some (.frz o u)) (tbls : ∀ b ps, H b = some (.tbl ps) → ∃ more, H' b = some (.tbl (ps ++ more)))
    (ns : ∀ m, s.heap.Ns X.env.locals m → h'.Ns X.env.locals m) (hok : HOk X.prog X.w H' h') (hg : AllBare g') :
    Inv X pins σ H' { s with heap := h', gens := g', drawn := d', toks := t' } := by
  have neL : ∀ b o, X.s₀.heap.get? b = some o → b ≠ X.env.locals := fun b o e => Nat.ne_of_lt (Nat.lt_of_lt_of_le (Heap.lt_size e) I.ok.above)
  have neC : ∀ b o, X.s₀.heap.get? b = some o → b ∉ X.ex → b ∉ ch := fun b o e hx hb => by
    rcases (hch b hb).1 with z | z
    · exact hx z
    · exact absurd (Nat.lt_of_lt_of_le (Heap.lt_size e) z) (Nat.lt_irrefl _)
  have cellK : ∀ x c, X.env.cells.lookup x = some c → ∀ v, s.heap.IsCell c v → h'.IsCell c v := fun x c e v ⟨o, ho, hd⟩ => by
    have nch : c ∉ ch := fun z => (hch c z).2.2.1 x c e rfl
    by_cases hc : c ∈ X.fs
    · obtain ⟨sl, q⟩ := slot c o (I.cne x c e) hc nch ho (I.freeC x c e)
      exact ⟨_, q, hd⟩
    · exact ⟨o, keep c o (I.cne x c e) hc nch ho (I.freeC x c e), hd⟩
  refine ⟨I.ok, I.os, hg, ⟨fun b o e n hb hx => ?_, fun b o e n hb hx => ?_, fun b o e n hx => ?_, fun b o e hx => ?_, fun b xs e => tups b xs (I.base.tups b xs e), fun b o xs e => frzs b o xs (I.base.frzs b o xs e), fun b ps e => ?_⟩, ?_, fun x c e => ?_, ?_, fun x c e => ?_, fun p hp => ?_, hok, I.len⟩
  · exact keep b o (neL b o e) hb (neC b o e hx) (I.base.keep b o e n hb hx) (I.base.free b o e n hx)
  · obtain ⟨sl, e1⟩ := I.base.slot b o e n hb hx
    obtain ⟨sl', e2⟩ := slot b _ (neL b o e) hb (neC b o e hx) e1 (I.base.free b o e n hx)
    exact ⟨sl', e2⟩
  · obtain ⟨o', e1⟩ := I.base.there b o e hx
    exact free b o' (neC b o e hx) e1 (I.base.free b o e n hx)
  · obtain ⟨o', e1⟩ := I.base.there b o e hx
    exact there b o' (neC b o e hx) e1
  · obtain ⟨m1, e1⟩ := I.base.tbls b ps e
    obtain ⟨m2, e2⟩ := tbls b _ e1
    exact ⟨m1 ++ m2, by rw [e2, Array.append_assoc]⟩
  · obtain ⟨m, hn, hl⟩ := I.loc
    refine ⟨m, ns m hn, fun i x v e1 e2 e3 => ?_⟩
    obtain ⟨u, r, l⟩ := hl i x v e1 e2 e3
    refine ⟨u, r, ?_⟩
    rcases l with l | ⟨k, c, e, z⟩
    · exact .inl l
    · exact .inr ⟨k, c, e, cellK x c e _ z⟩
  · obtain ⟨v, z⟩ := I.cell x c e
    exact ⟨v, cellK x c e v z⟩
  · obtain ⟨m, ⟨o, _, _, ho, _⟩, _⟩ := I.loc
    exact free _ o (fun z => (hch _ z).2.1 rfl) ho I.free
  · obtain ⟨v, o, ho, hd⟩ := I.cell x c e
    exact free c o (fun z => (hch c z).2.2.1 x c e rfl) ho (I.freeC x c e)
  · obtain ⟨e, n, ne, nf, d⟩ := I.pin p hp
    have nch : p.1 ∉ ch := fun z => (hch p.1 z).2.2.2 p hp rfl
    exact ⟨keep p.1 p.2 ne nf nch e n, free p.1 p.2 nch e n, ne, nf, d⟩
/-- .. where the frame's own object is kept too -/
theorem Inv.un {t' : Nat} (I : Inv X pins σ H s) (u : Un X.fs [] H H' s.heap h') (hok : HOk X.prog X.w H' h') : Inv X pins σ H' { s with heap := h', toks := t' } := by
  obtain ⟨m, ⟨o, es, ep, ho, r⟩, _⟩ := id I.loc
  obtain ⟨sl, hL⟩ := u.any ho I.free (by simp)
  exact I.step (g' := s.gens) (d' := s.drawn) (ch := []) (fun _ z => nomatch z) (fun b o _ hb _ e n => u.keep b o e n hb (by simp)) (fun b o _ hb _ e n => u.slot b o e n hb (by simp)) (fun b o _ e n => u.free b o e n (by simp)) (fun b o _ e => u.there b o e (by simp)) u.tups u.frzs u.tbls (fun m' hm => by
    obtain ⟨o', es', ep', ho', r'⟩ := hm
    rw [ho] at ho'; cases ho'
    exact ⟨_, es', ep', hL, r'⟩) hok I.bare
/-- behind a call (or a comprehension's block): the slots of this frame may have changed too, the records at ch may have turned -/
theorem Inv.call {g' : Array GenState} {t' : Nat} {d' : Drawn} {ch : List Addr} (I : Inv X pins σ H s) (u : Un (frs X.stack) ch H H' s.heap h') (hok : HOk X.prog X.w H' h') (hg : AllBare g')
    (hch : ∀ b ∈ ch, (b ∈ X.ex ∨ X.s₀.heap.objs.size ≤ b) ∧ b ≠ X.env.locals ∧ (∀ x c, X.env.cells.lookup x = some c → c ≠ b) ∧ ∀ p ∈ X.pn ++ pins, p.1 ≠ b) :
    Inv X pins σ H' { s with heap := h', gens := g', drawn := d', toks := t' } := by
  obtain ⟨m, ⟨o, es, ep, ho, r⟩, _⟩ := id I.loc
  obtain ⟨sl, hL⟩ := u.any ho I.free fun z => (hch _ z).2.1 rfl
  exact I.step (ch := ch) hch (fun b o hL hb hc e n => u.keep b o e n (fun z => (List.mem_cons.mp (I.stkSub b z)).elim hL hb) hc) (fun b o _ _ hc e n => u.any e n hc) (fun b o hc e n => u.free b o e n hc) (fun b o hc e => u.there b o e hc) u.tups u.frzs u.tbls (fun m' hm => by
    obtain ⟨o', es', ep', ho', r'⟩ := hm
    rw [ho] at ho'; cases ho'
    exact ⟨_, es', ep', hL, r'⟩) hok hg
/-- an untracked record of ours (an iterator) has turned -/
theorem Inv.turned {t' : Nat} {it : Addr} (I : Inv X pins σ H s) (k : ∀ b o, b ≠ it → s.heap.get? b = some o → h'.get? b = some o) (hn : H it = none) (hL : it ≠ X.env.locals)
    (h1 : it ∈ X.ex ∨ X.s₀.heap.objs.size ≤ it) (h2 : ∀ x c, X.env.cells.lookup x = some c → c ≠ it) (h3 : ∀ p ∈ X.pn ++ pins, p.1 ≠ it) : Inv X pins σ H { s with heap := h', toks := t' } := by
  have nit : ∀ b u, H b = some u → b ≠ it := fun b u e z => by rw [z, hn] at e; cases e
  refine I.step (g' := s.gens) (d' := s.drawn) (ch := [it]) (fun b hb => ?_) (fun b o _ _ hc e _ => k b o (fun z => hc (by simp [z])) e) (fun b o _ _ hc e _ => ⟨o.slots, k b o (fun z => hc (by simp [z])) e⟩) (fun _ _ _ _ n => n)
    (fun b o hc e => ⟨o, k b o (fun z => hc (by simp [z])) e⟩) (fun _ _ e => e) (fun _ _ _ e => e) (fun b ps e => ⟨#[], by rw [e]; simp⟩) (fun m hm => ?_) (fun b u e => ?_) I.bare
  · have e : b = it := by simpa using hb
    subst e
    exact ⟨h1, hL, h2, h3⟩
  · obtain ⟨o, es, ep, ho, r⟩ := hm
    exact ⟨o, es, ep, k _ o (Ne.symm hL) ho, r⟩
  · refine (I.hok b u e).stay (fun c v hc q => k c v ?_ q) (fun _ q => q) fun _ _ q => q
    rcases hc with z | z
    · rw [z]; exact nit b u e
    · exact nit c _ z
theorem Inv.tok (I : Inv X pins σ H s) (t : Nat) : Inv X pins σ H { s with toks := t } := I.un (h' := s.heap) (t' := t) Un.refl I.hok
/-- all objects kept -/
theorem Inv.kept {t' : Nat} (I : Inv X pins σ H s) (k : ∀ b u, s.heap.get? b = some u → h'.get? b = some u) : Inv X pins σ H { s with heap := h', toks := t' } := I.un (Un.kept k) (I.hok.kept k)
/-- a new object laid and tracked -/
theorem Inv.laid {a : Addr} {o : HO} {t' : Nat} (I : Inv X pins σ H s) (k : ∀ b u, s.heap.get? b = some u → h'.get? b = some u) (hp : s.heap.objs.size ≤ a) (new : ObjOk X.prog X.w (upd H a o) h' a o) :
    Inv X pins σ (upd H a o) { s with heap := h', toks := t' } := I.un (Un.laid k hp (I.hok.fresh hp)) (I.hok.laid k hp new)
/-- an object written -/
theorem Inv.write {x e : Addr} {o : HO} {t' : Nat} (I : Inv X pins σ H s) (mu : Mut (H x)) (he : e = x ∨ H e = some (.own x)) (k : ∀ b u, b ≠ e → s.heap.get? b = some u → h'.get? b = some u) (heo : ∃ u, h'.get? e = some u)
    (new : ObjOk X.prog X.w (upd H x o) h' x o) : Inv X pins σ (upd H x o) { s with heap := h', toks := t' } := I.un (Un.write mu he k heo) (I.hok.write mu he k heo new)
theorem Inv.pins_of {pins' : List (Addr × Obj)} (I : Inv X pins σ H s) (h : ∀ p ∈ pins', s.heap.get? p.1 = some p.2 ∧ H p.1 = none ∧ p.1 ≠ X.env.locals ∧ p.1 ∉ X.fs ∧ ∀ v, p.2.data ≠ .cell v) : Inv X pins' σ H s :=
  ⟨I.ok, I.os, I.bare, I.base, I.loc, I.cell, I.free, I.freeC, fun p hp => (List.mem_append.mp hp).elim (fun z => I.pin p (List.mem_append_left _ z)) (h p), I.hok, I.len⟩

theorem nodup_ix {N : List Str} (hN : N.Nodup) {i j : Nat} {x : Str} (a : N[i]? = some x) (b : N[j]? = some x) : i = j := by
  obtain ⟨h1, e1⟩ := List.getElem?_eq_some_iff.mp a
  obtain ⟨h2, e2⟩ := List.getElem?_eq_some_iff.mp b
  exact (List.getElem_inj hN).mp (e1.trans e2.symm)

/-- a name is stored; what changed -/
theorem store_ok2 {M : Model} {A : Around} {E : Value → Shared → Prop} {i : Nat} {x : Str} {v : V} {u : Value} {Q : Unit → Shared → Prop} (I : Inv X pins σ H s) (hN : X.N.Nodup) (hi : X.N[i]? = some x) (hx : Loc X.env.scope x) (r : RelV v u)
    (h : ∀ s', Inv X pins (σ.set i (some v)) H s' → (∃ a, Heap.SameBut a s.heap s'.heap ∧ (a = X.env.locals ∨ X.env.cells.lookup x = some a)) → Q () s') (hf : X.fn x = true ∨ X.env.scope.names.lookup x = some .local := by first | exact .inl rfl | exact .inr rfl | assumption) : wpAny M A (storeName X.env x u) Q E s := by
  obtain ⟨m, hn, hl⟩ := id I.loc
  have hcls : (X.env.scope.kind == .class || (X.env.scope.kind == .module && X.env.locals != X.env.globals)) = false := by rw [I.ok.kind]; rfl
  have hiσ : i < σ.length := by rw [I.len]; exact (List.getElem?_eq_some_iff.mp hi).1
  have cne := I.cne
  have tracked : ∀ {a : Addr} {h' : Heap}, (∃ o, s.heap.get? a = some o ∧ H a = none) → Heap.SameBut a s.heap h' → HOk X.prog X.w H h' := fun {a h'} ha hs b ob e => by
    obtain ⟨_, _, hfree⟩ := ha
    refine (I.hok b ob e).stay (fun c w' hc q => (hs.2 c ?_).trans q) (fun _ q => q) fun _ _ q => q
    rintro rfl
    rcases hc with rfl | hc
    · rw [hfree] at e; cases e
    · rw [hfree] at hc; cases hc
  rcases hx with hk | hk
  · refine wpAny_storeName_local hk hn (fun h' hn' hs => ?_) hcls
    obtain ⟨oL, _, _, hoL, _⟩ := id hn
    refine h _ ⟨I.ok, I.os, I.bare, ⟨fun b o e n hb hx => ?_, fun b o e n hb hx => ?_, I.base.free, fun b o e hx => ?_, I.base.tups, I.base.frzs, I.base.tbls⟩, ⟨_, hn', fun j y v' e1 e2 e3 => ?_⟩, fun y c e => ?_, I.free, I.freeC, fun p hp => ?_, tracked ⟨oL, hoL, I.free⟩ hs, by simpa using I.len⟩ ⟨_, hs, .inl rfl⟩
    · exact (hs.2 b (Nat.ne_of_lt (Nat.lt_of_lt_of_le (Heap.lt_size e) I.ok.above))).trans (I.base.keep b o e n hb hx)
    · obtain ⟨sl, e1⟩ := I.base.slot b o e n hb hx
      exact ⟨sl, (hs.2 b (Nat.ne_of_lt (Nat.lt_of_lt_of_le (Heap.lt_size e) I.ok.above))).trans e1⟩
    · obtain ⟨o', e1⟩ := I.base.there b o e hx
      exact ⟨o', (hs.2 b (Nat.ne_of_lt (Nat.lt_of_lt_of_le (Heap.lt_size e) I.ok.above))).trans e1⟩
    · by_cases hj : j = i
      · subst hj
        rw [hi] at e1; cases e1
        rw [List.getElem?_set_self hiσ] at e2
        cases e2
        exact ⟨u, r, .inl ⟨hk, by simp⟩⟩
      · rw [List.getElem?_set_ne (Ne.symm hj)] at e2
        obtain ⟨u', r', q⟩ := hl j y v' e1 e2 e3
        refine ⟨u', r', ?_⟩
        rcases q with ⟨k, e⟩ | ⟨k, c, e, z⟩
        · refine .inl ⟨k, ?_⟩
          have : y ≠ x := fun e => hj (nodup_ix hN e1 (e ▸ hi))
          simp [this, e]
        · exact .inr ⟨k, c, e, z.sameBut hs (cne y c e)⟩
    · obtain ⟨w', z⟩ := I.cell y c e
      exact ⟨w', z.sameBut hs (cne y c e)⟩
    · obtain ⟨e, n, ne, nf, d⟩ := I.pin p hp
      exact ⟨(hs.2 p.1 ne).trans e, n, ne, nf, d⟩
  · have hfn : X.fn x = true := by
      rcases hf with z | z
      · exact z
      · rw [z] at hk; cases hk
    obtain ⟨c, hc⟩ := I.ok.has x (.inl hk)
    obtain ⟨w', z⟩ := I.cell x c hc
    refine wpAny_storeName_cell I.ok.kind hk hc z (fun h' hc' hs => ?_)
    obtain ⟨oc, hoc, hocd⟩ := id z
    refine h { s with heap := h' } ⟨I.ok, I.os, I.bare, ⟨fun b o e n hb hx => ?_, fun b o e n hb hx => ?_, I.base.free, fun b o e hx => ?_, I.base.tups, I.base.frzs, I.base.tbls⟩, ⟨m, hn.sameBut hs (Ne.symm (cne x c hc)), fun j y v' e1 e2 e3 => ?_⟩, fun y c' e => ?_, I.free, I.freeC, fun p hp => ?_, tracked ⟨oc, hoc, I.freeC x c hc⟩ hs, by simpa using I.len⟩ ⟨c, hs, .inr hc⟩
    · exact (hs.2 b (Nat.ne_of_lt (Nat.lt_of_lt_of_le (Heap.lt_size e) (I.ok.cab x c hfn hc)))).trans (I.base.keep b o e n hb hx)
    · obtain ⟨sl, e1⟩ := I.base.slot b o e n hb hx
      exact ⟨sl, (hs.2 b (Nat.ne_of_lt (Nat.lt_of_lt_of_le (Heap.lt_size e) (I.ok.cab x c hfn hc)))).trans e1⟩
    · obtain ⟨o', e1⟩ := I.base.there b o e hx
      exact ⟨o', (hs.2 b (Nat.ne_of_lt (Nat.lt_of_lt_of_le (Heap.lt_size e) (I.ok.cab x c hfn hc)))).trans e1⟩
    · by_cases hj : j = i
      · subst hj
        rw [hi] at e1; cases e1
        rw [List.getElem?_set_self hiσ] at e2
        cases e2
        exact ⟨u, r, .inr ⟨.inl hk, c, hc, hc'⟩⟩
      · rw [List.getElem?_set_ne (Ne.symm hj)] at e2
        obtain ⟨u', r', q⟩ := hl j y v' e1 e2 e3
        refine ⟨u', r', ?_⟩
        rcases q with q | ⟨k, c', e, z'⟩
        · exact .inl q
        · refine .inr ⟨k, c', e, z'.sameBut hs ?_⟩
          rintro rfl
          exact hj (nodup_ix hN e1 (I.ok.inj _ _ _ e hc ▸ hi))
    · by_cases hcc : c' = c
      · subst hcc; exact ⟨_, hc'⟩
      · obtain ⟨w2, z2⟩ := I.cell y c' e
        exact ⟨w2, z2.sameBut hs hcc⟩
    · obtain ⟨e, n, ne, nf, d⟩ := I.pin p hp
      refine ⟨(hs.2 p.1 ?_).trans e, n, ne, nf, d⟩
      intro q
      rw [q, hoc] at e
      have q' : oc = p.2 := Option.some.inj e
      exact d w' (by rw [← q']; exact hocd)
theorem store_ok {M : Model} {A : Around} {E : Value → Shared → Prop} {i : Nat} {x : Str} {v : V} {u : Value} {Q : Unit → Shared → Prop} (I : Inv X pins σ H s) (hN : X.N.Nodup) (hi : X.N[i]? = some x) (hx : Loc X.env.scope x) (r : RelV v u)
    (h : ∀ s', Inv X pins (σ.set i (some v)) H s' → Q () s') (hf : X.fn x = true ∨ X.env.scope.names.lookup x = some .local := by first | exact .inl rfl | exact .inr rfl | assumption) : wpAny M A (storeName X.env x u) Q E s :=
  store_ok2 I hN hi hx r (fun s' I' _ => h s' I') hf
end

/-! ### the judgements -/
/-- an exception: its class, its own dict's address (where it has one), the abstract heap behind it -/
abbrev XK := Value → Option Addr → Hp → Prop
abbrev St := List (Option V)
abbrev VK := V → Hp → Prop
/-- an expression's reading; a test's; an argument list's -/
abbrev TE := St → Hp → VK → Prop
abbrev TT := St → Hp → (Bool → Hp → Prop) → Prop
abbrev TA := St → Hp → (List V → Hp → Prop) → Prop
/-- what is wanted behind a statement -/
structure Ends where
  nx : St → Hp → Prop
  rt : VK
  bk : St → Hp → Prop := fun _ _ => False
  ct : St → Hp → Prop := fun _ _ => False
abbrev TS := Ends → St → Hp → Prop

def EP (X : Cx) (pins : List (Addr × Obj)) (σ : St) (Q : VK) (u : Value) (s' : Shared) : Prop := ∃ v H', Inv X pins σ H' s' ∧ RelV v u ∧ Q v H'
def TP (X : Cx) (pins : List (Addr × Obj)) (σ : St) (Q : Bool → Hp → Prop) (b : Bool) (s' : Shared) : Prop := ∃ H', Inv X pins σ H' s' ∧ Q b H'
def AP (X : Cx) (pins : List (Addr × Obj)) (σ : St) (Q : List V → Hp → Prop) (us : List Value) (s' : Shared) : Prop := ∃ vs H', Inv X pins σ H' s' ∧ Vals vs us ∧ Q vs H'
def SP (X : Cx) (pins : List (Addr × Obj)) (D : Ends) (f : Flow) (s' : Shared) : Prop :=
  match f with
  | .next => ∃ σ' H', Inv X pins σ' H' s' ∧ D.nx σ' H'
  | .brk => ∃ σ' H', Inv X pins σ' H' s' ∧ D.bk σ' H'
  | .cont => ∃ σ' H', Inv X pins σ' H' s' ∧ D.ct σ' H'
  | .ret u => ∃ v σ' H', Inv X pins σ' H' s' ∧ RelV v u ∧ D.rt v H'

def PE (X : Cx) (e : Expr) (t : TE) : Prop :=
  ∀ (pins : List (Addr × Obj)) (s : Shared) (σ : St) (H : Hp) (Q : VK), Inv X pins σ H s → t σ H Q → wpAny (model X.prog X.w) X.A (eval e X.env) (EP X pins σ Q) X.xe s
def PT (X : Cx) (e : Expr) (t : TT) : Prop :=
  ∀ (pins : List (Addr × Obj)) (s : Shared) (σ : St) (H : Hp) (Q : Bool → Hp → Prop), Inv X pins σ H s → t σ H Q → wpAny (model X.prog X.w) X.A (isTrue e X.env (eval e X.env)) (TP X pins σ Q) X.xe s
/-- a test whatever its 'whole' is (and, or) -/
def PW (X : Cx) (e : Expr) (t : TT) : Prop :=
  ∀ (whole : Sem Value) (pins : List (Addr × Obj)) (s : Shared) (σ : St) (H : Hp) (Q : Bool → Hp → Prop), Inv X pins σ H s → t σ H Q → wpAny (model X.prog X.w) X.A (isTrue e X.env whole) (TP X pins σ Q) X.xe s
theorem PW.pt {X : Cx} {e : Expr} {t : TT} (h : PW X e t) : PT X e t := h _
/-- an argument list (no star), from the left -/
def PA (X : Cx) (es : List Expr) (t : TA) : Prop :=
  ∀ (pos : Pos) (pins : List (Addr × Obj)) (s : Shared) (σ : St) (H : Hp) (Q : List V → Hp → Prop), Inv X pins σ H s → t σ H Q → wpAny (model X.prog X.w) X.A (spliced (backTo pos (starEach es X.env))) (AP X pins σ Q) X.xe s
def PS (X : Cx) (st : Stmt) (t : TS) : Prop :=
  ∀ (pins : List (Addr × Obj)) (s : Shared) (σ : St) (H : Hp) (D : Ends), Inv X pins σ H s → t D σ H → wpAny (model X.prog X.w) X.A (exec st X.env) (SP X pins D) X.xe s
def PSs (X : Cx) (st : List Stmt) (t : TS) : Prop :=
  ∀ (pins : List (Addr × Obj)) (s : Shared) (σ : St) (H : Hp) (D : Ends), Inv X pins σ H s → t D σ H → wpAny (model X.prog X.w) X.A (execs st X.env) (SP X pins D) X.xe s
/-- weaken the end -/
theorem thn {α : Type} {t : Sem α} {Q Q' : α → Shared → Prop} {M : Model} {A : Around} {E : Value → Shared → Prop} {s : Shared} (h : wpAny M A t Q E s) (hQ : ∀ a s, Q a s → Q' a s) : wpAny M A t Q' E s := wpAny_mono h hQ fun _ _ x => x
end L2

namespace L2
open PySem PySem.Spec PyProof.Rows
section
variable {X : Cx}

/-- two expressions in a row -/
theorem bin {a b : Expr} {ta tb : TE} (ha : PE X a ta) (hb : PE X b tb) {pins : List (Addr × Obj)} {s : Shared} {σ : St} {H : Hp} {R : V → V → Hp → Prop} (I : Inv X pins σ H s) (h : ta σ H fun x H1 => tb σ H1 fun y H2 => R x y H2)
    {α : Type} {Q : α → Shared → Prop} {f : Value → Value → Sem α}
    (hf : ∀ v u s2 x y H2, Inv X pins σ H2 s2 → RelV x v → RelV y u → R x y H2 → wpAny (model X.prog X.w) X.A (f v u) Q X.xe s2) :
    wpAny (model X.prog X.w) X.A (eval a X.env) (fun v s₁ => wpAny (model X.prog X.w) X.A (eval b X.env) (fun u s₂ => wpAny (model X.prog X.w) X.A (f v u) Q X.xe s₂) X.xe s₁) X.xe s := by
  refine thn (ha pins s σ H _ I h) fun v s1 ⟨x, H1, I1, r1, q1⟩ => ?_
  refine thn (hb pins s1 σ H1 _ I1 q1) fun u s2 ⟨y, H2, I2, r2, q2⟩ => ?_
  exact hf v u s2 x y H2 I2 r1 r2 q2

/-! ### names and constants -/
def tVar (i : Nat) : TE := fun σ H Q => ∃ v, σ[i]? = some (some v) ∧ Q v H
def tC (v : V) : TE := fun _ H Q => Q v H
theorem pe_var {i : Nat} {x : Str} {pos : Pos} (hN : X.N[i]? = some x) (hv : Vis X.env.scope x) (hd : (x == ("__debug__" : Str)) = false := by decide) (hcd : (x == ("__classdict__" : Str)) = false := by decide) : PE X (.Name x pos) (tVar i) := by
  intro pins s σ H Q I h
  obtain ⟨v, e, h⟩ := h
  obtain ⟨m, hn, hl⟩ := I.loc
  obtain ⟨u, r, l⟩ := hl i x v hN e hv
  have fin : EP X pins σ Q u s := ⟨v, H, I, r, h⟩
  rcases l with ⟨hk, hm⟩ | ⟨hk, c, hc, hcell⟩
  · exact wpAny_Name (wpAny_loadName_local I.ok.kind hk hn hm fin) hd
  · rcases hk with hk | hk
    · exact wpAny_Name (wpAny_loadName_cell I.ok.kind hk hc hcell fin) hd
    · exact wpAny_Name (wpAny_loadName_free I.ok.kind hk hc hcell fin hcd) hd
theorem pe_int {i j pos} : PE X (.Constant (.int i) j pos) (tC (.int i)) := fun _ _ _ H _ I h => wpAny_Constant_int ⟨.int i, H, I.tok _, ⟨_, rfl⟩, h⟩
theorem pe_bl {b j pos} : PE X (.Constant (.bool b) j pos) (tC (.bl b)) := fun _ _ _ H _ I h => Constant_bool ⟨.bl b, H, I, rfl, h⟩
theorem pe_non {j pos} : PE X (.Constant .none j pos) (tC .non) := fun _ _ _ H _ I h => Constant_none ⟨.non, H, I, rfl, h⟩
theorem pe_str {x j pos} : PE X (.Constant (.str x) j pos) (tC (.str x)) := fun _ _ _ H _ I h => Calls.Constant_str ⟨.str x, H, I.tok _, ⟨_, rfl⟩, h⟩

/-- a global name of the def -/
def Gl (X : Cx) (x : Str) : Prop := X.env.kindOf x = some .globalImplicit
theorem ld_glob {E : Value → Shared → Prop} {pins : List (Addr × Obj)} {s : Shared} {σ : St} {H : Hp} {x : Str} {u : Value} {pos : Pos} {Q : Value → Shared → Prop} (I : Inv X pins σ H s) (hg : Gl X x) (hm : X.mg x = some u) (h : Q u s)
    (hd : (x == ("__debug__" : Str)) = false := by decide) : wpAny (model X.prog X.w) X.A (eval (.Name x pos) X.env) Q E s :=
  Calls.Name_function_global I.ok.kind hg (Calls.loadGlobal_global (by rw [I.ok.glob]; exact I.mod.glob.keeps I.bk) hm h) hd
theorem ld_blt {E : Value → Shared → Prop} {pins : List (Addr × Obj)} {s : Shared} {σ : St} {H : Hp} {x : Str} {u : Value} {pos : Pos} {Q : Value → Shared → Prop} (I : Inv X pins σ H s) (hg : Gl X x) (hm : X.mg x = none) (hv : bootBuiltins x = some u) (h : Q u s)
    (hn : x ≠ "__name__" := by decide) (hd : (x == ("__debug__" : Str)) = false := by decide) : wpAny (model X.prog X.w) X.A (eval (.Name x pos) X.env) Q E s := by
  obtain ⟨mb, h1, h2⟩ := I.mod.blt
  exact Calls.Name_function_global I.ok.kind hg (Calls.loadGlobal_builtin (by rw [I.ok.glob]; exact I.mod.glob.keeps I.bk) hm (by rw [I.ok.blt]; exact h1.keeps I.bk) ((h2 x hn).trans hv) h) hd
/-- a module's constant, a class, a function, as a value -/
theorem pe_glob {x : Str} {v : V} {u : Value} {pos : Pos} (hg : Gl X x) (hm : X.mg x = some u) (r : RelV v u) (hd : (x == ("__debug__" : Str)) = false := by decide) : PE X (.Name x pos) (tC v) :=
  fun _ _ _ H _ I h => ld_glob I hg hm ⟨v, H, I, r, h⟩ hd
theorem pe_bltn {x : Str} {v : V} {u : Value} {pos : Pos} (hg : Gl X x) (hm : X.mg x = none) (hv : bootBuiltins x = some u) (r : RelV v u) (hn : x ≠ "__name__" := by decide) (hd : (x == ("__debug__" : Str)) = false := by decide) : PE X (.Name x pos) (tC v) :=
  fun _ _ _ H _ I h => ld_blt I hg hm hv ⟨v, H, I, r, h⟩ hn hd

/-! ### arithmetic -/
variable {a b : Expr} {ta tb : TE} {pos : Pos}
/-! ### comparisons -/
def PC (X : Cx) (op : CmpOp) (a b : Expr) (t : TE) : Prop :=
  ∀ (pins : List (Addr × Obj)) (s : Shared) (σ : St) (H : Hp) (Q : VK), Inv X pins σ H s → t σ H Q →
    wpAny (model X.prog X.w) X.A (eval a X.env) (fun v s₁ => wpAny (model X.prog X.w) X.A (eval b X.env) (fun u s₂ => wpAny (model X.prog X.w) X.A (compareOp op v u) (EP X pins σ Q) X.xe s₂) X.xe s₁) X.xe s
/-- a comparison as a value, as a test -/
def tB (t : TE) : TT := fun σ H Q => t σ H fun x H1 => ∃ c, x = .bl c ∧ Q c H1
theorem pt_cmp {op : CmpOp} {t : TE} (h : PC X op a b t) (h1 : behindInMarks op b = false := by first | exact nobehind _ (by decide) (by decide) | rfl) : PT X (.Compare a [op] [b] pos) (tB t) := by
  intro pins s σ H Q I hw
  refine wpAny_isTrue_Compare1 (thn (h pins s σ H _ I hw) fun v s1 h1 => thn h1 fun u s2 h2 => thn h2 fun c s3 ⟨x, H1, I1, r1, q1⟩ => ?_) h1
  obtain ⟨d, rfl, q⟩ := q1
  cases r1
  exact wpAny_truthy_bool ⟨H1, I1, q⟩
/-- an expression whose value is a bool, as a test -/
theorem pt_val {e : Expr} {t : TE} (h : PE X e t) (he : ∀ whole, isTrue e X.env whole = (do let v ← whole; standAt e.pos; holding [v] (truthy v)) := by intro _; rfl) : PT X e (tB t) := by
  intro pins s σ H Q I hw
  refine isTrue_plain (thn (h pins s σ H _ I hw) fun v s1 ⟨x, H1, I1, r1, q1⟩ => ?_) (he _)
  obtain ⟨d, rfl, q⟩ := q1
  cases r1
  exact wpAny_truthy_bool ⟨H1, I1, q⟩

/-! ### and, or, not -/
variable {tA tB' : TT} {rest : List Expr}
def tAnd (t u : TT) : TT := fun σ H Q => t σ H fun c H1 => if c = true then u σ H1 Q else Q false H1
def tOr (t u : TT) : TT := fun σ H Q => t σ H fun c H1 => if c = true then Q true H1 else u σ H1 Q
def tNot (t : TT) : TT := fun σ H Q => t σ H fun c H1 => Q (!c) H1
theorem pw_and1 (ha : PT X a tA) : PW X (.BoolOp .And [a] pos) tA := by
  intro wh pins s σ H Q I h
  refine isTrue_and (thn (ha pins s σ H Q I h) fun c s1 e => ?_)
  cases c with
  | true => exact isTrue_and_nil e
  | false => exact e
theorem pw_or1 (ha : PT X a tA) : PW X (.BoolOp .Or [a] pos) tA := by
  intro wh pins s σ H Q I h
  refine isTrue_or (thn (ha pins s σ H Q I h) fun c s1 e => ?_)
  cases c with
  | false => exact isTrue_or_nil e
  | true => exact e
theorem pw_and (ha : PT X a tA) (hb : PW X (.BoolOp .And (b :: rest) pos) tB') : PW X (.BoolOp .And (a :: b :: rest) pos) (tAnd tA tB') := by
  intro wh pins s σ H Q I h
  refine isTrue_and (thn (ha pins s σ H _ I h) fun c s1 ⟨H1, I1, q1⟩ => ?_)
  cases c with
  | true => exact hb wh pins s1 σ H1 Q I1 q1
  | false => exact ⟨H1, I1, q1⟩
theorem pw_or (ha : PT X a tA) (hb : PW X (.BoolOp .Or (b :: rest) pos) tB') : PW X (.BoolOp .Or (a :: b :: rest) pos) (tOr tA tB') := by
  intro wh pins s σ H Q I h
  refine isTrue_or (thn (ha pins s σ H _ I h) fun c s1 ⟨H1, I1, q1⟩ => ?_)
  cases c with
  | true => exact ⟨H1, I1, q1⟩
  | false => exact hb wh pins s1 σ H1 Q I1 q1
theorem pt_not (ha : PT X a tA) : PT X (.UnaryOp .Not a pos) (tNot tA) := by
  intro pins s σ H Q I h
  exact isTrue_not (ha pins s σ H (fun c H1 => Q (!c) H1) I h)
/-- .. as values (bools) -/
def tAndV (ta tb : TE) : TE := fun σ H Q => ta σ H fun x H1 => ∃ c, x = .bl c ∧ if c = true then tb σ H1 Q else Q (.bl false) H1
def tNotV (ta : TE) : TE := fun σ H Q => ta σ H fun x H1 => ∃ c, x = .bl c ∧ Q (.bl (!c)) H1
theorem pe_one {op} {t : TE} (h : PE X a t) : PE X (.BoolOp op [a] pos) t := fun pins s σ H Q I hw => BoolOp_one (h pins s σ H Q I hw)
theorem pe_and (ha : PE X a ta) (hb : PE X (.BoolOp .And (b :: rest) pos) tb) : PE X (.BoolOp .And (a :: b :: rest) pos) (tAndV ta tb) := by
  intro pins s σ H Q I h
  refine BoolOp_and (thn (ha pins s σ H _ I h) fun v s1 ⟨x, H1, I1, r1, q1⟩ => ?_)
  obtain ⟨c, rfl, q1⟩ := q1
  cases r1
  refine wpAny_truthy_bool ?_
  cases c with
  | true => exact hb pins s1 σ H1 Q I1 q1
  | false => exact ⟨.bl false, H1, I1, rfl, q1⟩
theorem pe_not (ha : PE X a ta) : PE X (.UnaryOp .Not a pos) (tNotV ta) := by
  intro pins s σ H Q I h
  refine UnaryOp_ (thn (ha pins s σ H _ I h) fun v s1 ⟨x, H1, I1, r1, q1⟩ => ?_)
  obtain ⟨c, rfl, q1⟩ := q1
  cases r1
  exact not_of (wpAny_truthy_bool ⟨.bl (!c), H1, I1, rfl, q1⟩)
/-- a if t else b -/
def tIf (t : TT) (ta tb : TE) : TE := fun σ H Q => t σ H fun c H1 => if c = true then ta σ H1 Q else tb σ H1 Q
theorem pe_ifExp {c : Expr} (hc : PT X c tA) (ha : PE X a ta) (hb : PE X b tb) : PE X (.IfExp c a b pos) (tIf tA ta tb) := by
  intro pins s σ H Q I h
  refine wpAny_IfExp (thn (hc pins s σ H _ I h) fun d s1 ⟨H1, I1, q1⟩ => ?_)
  cases d with
  | true => exact ha pins s1 σ H1 Q I1 q1
  | false => exact hb pins s1 σ H1 Q I1 q1
end
end L2

namespace L2
open PySem PySem.Spec PyProof.Rows

/-! ### a list, a tuple that is read: tracked, frozen, or an object of the module -/
def SqL (K : PySem.W.Frag) (H : Hp) (a : Addr) (xs : List V) : Prop :=
  Rd H a (.lst xs) ∨
    ∃ (o : Obj) (its : Array Value) (n : Nat), K.lookup a = some o ∧ o.cls = .type "list" ∧ o.dict = none ∧ o.data = .seq its n ∧ its.size ≤ sizeLine ∧ Vals xs its.toList
def SqT (K : PySem.W.Frag) (H : Hp) (a : Addr) (xs : List V) : Prop :=
  Rd H a (.tup xs) ∨
    ∃ (o : Obj) (its : Array Value) (n : Nat), K.lookup a = some o ∧ o.cls = .type "tuple" ∧ o.data = .seq its n ∧ its.size ≤ sizeLine ∧ Vals xs its.toList
def absV : Value → Option V
  | .none => some .non
  | .bool b => some (.bl b)
  | .int i _ => some (.int i)
  | .str x _ => some (.str x)
  | .bytes b _ => some (.byt b)
  | .float b _ => some (.flt b)
  | .ref a => some (.ref a)
  | .type n => some (.ty n)
  | _ => none
theorem RelV.abs {x : V} {u : Value} (r : RelV x u) : absV u = some x := by
  cases x with
  | non => cases r; rfl
  | bl _ => cases r; rfl
  | int _ => obtain ⟨t, rfl⟩ := r; rfl
  | str _ => obtain ⟨t, rfl⟩ := r; rfl
  | byt _ => obtain ⟨t, rfl⟩ := r; rfl
  | flt _ => obtain ⟨t, rfl⟩ := r; rfl
  | ref _ => cases r; rfl
  | ty _ => cases r; rfl
theorem RelV.inj {x y : V} {u : Value} (r : RelV x u) (q : RelV y u) : x = y := Option.some.inj (r.abs.symm.trans q.abs)
theorem Vals.inj : ∀ {xs ys : List V} {us : List Value}, Vals xs us → Vals ys us → xs = ys
  | _, _, _, .nil, .nil => rfl
  | _, _, _, .cons r t, .cons r' t' => by rw [r.inj r', Vals.inj t t']
section
variable {X : Cx} {pins : List (Addr × Obj)} {σ : St} {H : Hp} {s : Shared} {a : Addr} {xs ys : List V}
theorem SqL.of {K : PySem.W.Frag} (h : H a = some (.lst xs)) : SqL K H a xs := .inl (.inl h)
theorem SqT.of {K : PySem.W.Frag} (h : H a = some (.tup xs)) : SqT K H a xs := .inl (.inl h)
theorem Inv.list (I : Inv X pins σ H s) (h : SqL X.K H a xs) : ∃ its : List Value, Vals xs its ∧ PlainL s.heap a its.toArray ∧ xs.length ≤ sizeLine := by
  rcases h with h | ⟨o, its, n, hk, hc, hd, hs, hz, r⟩
  · obtain ⟨z, its, n, r, e⟩ := h.ok I.hok
    exact ⟨its, r, ⟨_, n, e, rfl, rfl, rfl⟩, z⟩
  · refine ⟨its.toList, r, ⟨o, n, I.kIn a o hk, hc, hd, by simpa using hs⟩, ?_⟩
    have e := r.length
    simp only [Array.length_toList] at e
    omega
theorem Inv.tuple (I : Inv X pins σ H s) (h : SqT X.K H a xs) : ∃ its : List Value, Vals xs its ∧ IsTup s.heap a its.toArray ∧ xs.length ≤ sizeLine := by
  rcases h with h | ⟨o, its, n, hk, hc, hs, hz, r⟩
  · obtain ⟨z, its, r, p⟩ := h.ok I.hok
    exact ⟨its, r, p, z⟩
  · refine ⟨its.toList, r, ⟨o, I.kIn a o hk, hc, n, by simpa using hs⟩, ?_⟩
    have e := r.length
    simp only [Array.length_toList] at e
    omega
theorem Inv.list_inj (I : Inv X pins σ H s) (h : SqL X.K H a xs) (h' : SqL X.K H a ys) : xs = ys := by
  obtain ⟨its, r, ⟨o, n, e, _, _, d⟩, _⟩ := I.list h
  obtain ⟨its', r', ⟨o', n', e', _, _, d'⟩, _⟩ := I.list h'
  rw [e] at e'; cases e'
  rw [d] at d'
  injection d' with d1 _
  have : its = its' := by simpa using congrArg Array.toList d1
  subst this
  exact r.inj r'
theorem Inv.tuple_inj (I : Inv X pins σ H s) (h : SqT X.K H a xs) (h' : SqT X.K H a ys) : xs = ys := by
  obtain ⟨its, r, ⟨o, e, _, n, d⟩, _⟩ := I.tuple h
  obtain ⟨its', r', ⟨o', e', _, n', d'⟩, _⟩ := I.tuple h'
  rw [e] at e'; cases e'
  rw [d] at d'
  injection d' with d1 _
  have : its = its' := by simpa using congrArg Array.toList d1
  subst this
  exact r.inj r'
end

/-! ### another wish about exceptions -/
abbrev Cx.wish (X : Cx) (E : Value → Shared → Prop) : Cx := { X with xe := E }
/-- no exception leaves -/
abbrev Cx.nox (X : Cx) : Cx := X.wish fun _ _ => False
theorem Cx.Ok.wish {X : Cx} (ok : X.Ok) (E : Value → Shared → Prop) : (X.wish E).Ok :=
  ⟨ok.mod, ok.kind, ok.glob, ok.blt, ok.above, ok.inj, ok.has, ok.cab, ok.hd, ok.frames, ok.stk, ok.exf, ok.bs, ok.bsz, ok.noex, ok.exfs, ok.funs, ok.frf⟩
theorem Cx.Ok.unwish {X : Cx} {E : Value → Shared → Prop} (ok : (X.wish E).Ok) : X.Ok :=
  ⟨ok.mod, ok.kind, ok.glob, ok.blt, ok.above, ok.inj, ok.has, ok.cab, ok.hd, ok.frames, ok.stk, ok.exf, ok.bs, ok.bsz, ok.noex, ok.exfs, ok.funs, ok.frf⟩
section
variable {X : Cx} {pins : List (Addr × Obj)} {σ : St} {H : Hp} {s : Shared} {E : Value → Shared → Prop}
theorem Inv.wish (I : Inv X pins σ H s) (E : Value → Shared → Prop) : Inv (X.wish E) pins σ H s := ⟨I.ok.wish E, I.os, I.bare, I.base, I.loc, I.cell, I.free, I.freeC, I.pin, I.hok, I.len⟩
theorem Inv.unwish (I : Inv (X.wish E) pins σ H s) : Inv X pins σ H s := ⟨I.ok.unwish, I.os, I.bare, I.base, I.loc, I.cell, I.free, I.freeC, I.pin, I.hok, I.len⟩
theorem SP.unwish {D : Ends} {f : Flow} {s' : Shared} (h : SP (X.wish E) pins D f s') : SP X pins D f s' := by
  cases f with
  | next => obtain ⟨σ', H', I, q⟩ := h; exact ⟨σ', H', I.unwish, q⟩
  | brk => obtain ⟨σ', H', I, q⟩ := h; exact ⟨σ', H', I.unwish, q⟩
  | cont => obtain ⟨σ', H', I, q⟩ := h; exact ⟨σ', H', I.unwish, q⟩
  | ret u => obtain ⟨v, σ', H', I, r, q⟩ := h; exact ⟨v, σ', H', I.unwish, r, q⟩
theorem PSs.nox {st : List Stmt} {t : TS} (h : PSs X.nox st t) : PSs X st t := fun pins s σ H D I hw =>
  wpAny_mono (h pins s σ H D (I.wish _) hw) (fun _ _ q => q.unwish) fun _ _ z => False.elim z
end

/-! ### blocks and small statements -/
section
variable {X : Cx} {st : Stmt} {rest : List Stmt} {t u : TS} {e : Expr} {te : TE} {pos : Pos}
def tNext : TS := fun D σ H => D.nx σ H
def tSeq (t u : TS) : TS := fun D σ H => t { D with nx := u D } σ H
theorem pss_nil : PSs X [] tNext := fun _ _ σ H _ I h => wpAny_execs_nil ⟨σ, H, I, h⟩
theorem pss_cons (h1 : PS X st t) (h2 : PSs X rest u) : PSs X (st :: rest) (tSeq t u) := by
  intro pins s σ H D I h
  refine wpAny_execs_cons (thn (h1 pins s σ H { D with nx := u D } I h) fun f s1 q => ?_)
  cases f with
  | next =>
    obtain ⟨σ', H', I', q⟩ := q
    exact h2 pins s1 σ' H' D I' q
  | ret v => exact q
  | brk => exact q
  | cont => exact q
theorem pss_one (h1 : PS X st t) : PSs X [st] t := by
  intro pins s σ H D I h
  refine wpAny_execs_cons (thn (h1 pins s σ H D I h) fun f s1 q => ?_)
  cases f with
  | next => exact wpAny_execs_nil q
  | ret v => exact q
  | brk => exact q
  | cont => exact q
/-- in a def's body nothing is shown -/
theorem Inv.quiet {pins : List (Addr × Obj)} {σ : St} {H : Hp} {s : Shared} (I : Inv X pins σ H s) : interactive X.env = false := by simp [interactive, I.ok.kind]
/-- an expression whose value is dropped -/
def tDrop (te : TE) : TS := fun D σ H => te σ H fun _ H1 => D.nx σ H1
theorem ps_expr (he : PE X e te) (hs : swapsWith e none pos.line X.env = pure false := by rfl) : PS X (.Expr e pos) (tDrop te) := by
  intro pins s σ H D I h
  exact wpAny_Expr_any (thn (he pins s σ H _ I h) fun v s1 ⟨x, H1, I1, r1, q1⟩ => ⟨σ, H1, I1, q1⟩) I.quiet hs
def tRet (te : TE) : TS := fun D σ H => te σ H D.rt
theorem ps_ret (he : PE X e te) : PS X (.Return (some e) pos) (tRet te) := by
  intro pins s σ H D I h
  exact wpAny_Return_some (thn (he pins s σ H _ I h) fun v s1 ⟨x, H1, I1, r1, q1⟩ => ⟨x, σ, H1, I1, r1, q1⟩)
def tRetN : TS := fun D _ H => D.rt .non H
theorem ps_retN : PS X (.Return none pos) tRetN := fun _ _ σ H _ I h => wpAny_Return_none ⟨.non, σ, H, I, rfl, h⟩
def tIfS (c : TT) (t u : TS) : TS := fun D σ H => c σ H fun b H1 => if b = true then t D σ H1 else u D σ H1
theorem ps_if {c : Expr} {a b : List Stmt} {tc : TT} (hc : PT X c tc) (ha : PSs X a t) (hb : PSs X b u) : PS X (.If c a b pos) (tIfS tc t u) := by
  intro pins s σ H D I h
  refine wpAny_If (thn (hc pins s σ H _ I h) fun d s1 ⟨H1, I1, q1⟩ => ?_)
  cases d with
  | true => exact ha pins s1 σ H1 D I1 q1
  | false => exact hb pins s1 σ H1 D I1 q1
end

/-! ### targets -/
abbrev TG := V → St → Hp → (St → Hp → Prop) → Prop
abbrev TGs := List V → St → Hp → (St → Hp → Prop) → Prop
def PG (X : Cx) (target : Expr) (t : TG) : Prop :=
  ∀ (pins : List (Addr × Obj)) (s : Shared) (σ : St) (H : Hp) (v : V) (u : Value) (Q : St → Hp → Prop), Inv X pins σ H s → RelV v u → t v σ H Q →
    wpAny (model X.prog X.w) X.A (assign target X.env u) (fun _ s' => ∃ σ' H', Inv X pins σ' H' s' ∧ Q σ' H') X.xe s
/-- several targets, one after another -/
def PGs (X : Cx) (ts : List Expr) (t : TGs) : Prop :=
  ∀ (pins : List (Addr × Obj)) (s : Shared) (σ : St) (H : Hp) (vs : List V) (us : List Value) (Q : St → Hp → Prop), Inv X pins σ H s → Vals vs us → t vs σ H Q →
    wpAny (model X.prog X.w) X.A (assignInOrder ((assignEach ts X.env).map (·.2)) us) (fun _ s' => ∃ σ' H', Inv X pins σ' H' s' ∧ Q σ' H') X.xe s
/-- o[i] = v, by values -/
abbrev TSet := V → V → V → Hp → (Hp → Prop) → Prop
def PSet (X : Cx) (t : TSet) : Prop :=
  ∀ (pins : List (Addr × Obj)) (s : Shared) (σ : St) (H : Hp) (o i v : V) (ov iv u : Value) (Q : Hp → Prop), Inv X pins σ H s → RelV o ov → RelV i iv → RelV v u → t o i v H Q →
    wpAny (model X.prog X.w) X.A (setItem ov iv u) (fun _ s' => ∃ H', Inv X pins σ H' s' ∧ Q H') X.xe s
section
variable {X : Cx} {pos : Pos}
def gName (i : Nat) : TG := fun v σ H Q => Q (σ.set i (some v)) H
theorem pg_name {i : Nat} {x : Str} (hN : X.N.Nodup) (hi : X.N[i]? = some x) (hx : Loc X.env.scope x) (hf : X.fn x = true ∨ X.env.scope.names.lookup x = some .local := by first | exact .inl rfl | exact .inr rfl | assumption) : PG X (.Name x pos) (gName i) := by
  intro pins s σ H v u Q I r h
  exact wpAny_assign_Name (store_ok I hN hi hx r (fun s' I' => ⟨_, H, I', h⟩) hf)
def gNil : TGs := fun vs σ H Q => vs = [] ∧ Q σ H
def gCons (t : TG) (u : TGs) : TGs := fun vs σ H Q => ∃ v r, vs = v :: r ∧ t v σ H fun σ' H' => u r σ' H' Q
theorem pgs_nil : PGs X [] gNil := by
  intro pins s σ H vs us Q I r h
  obtain ⟨e, h⟩ := h
  subst e
  cases r
  exact assignInOrder_nil ⟨σ, H, I, h⟩
theorem pgs_cons {e : Expr} {es : List Expr} {t : TG} {u : TGs} (h1 : PG X e t) (h2 : PGs X es u)
    (hs : (assignEach (e :: es) X.env).map (·.2) = assign e X.env :: (assignEach es X.env).map (·.2) := by rfl) : PGs X (e :: es) (gCons t u) := by
  intro pins s σ H vs us Q I r h
  obtain ⟨v, vr, e1, h⟩ := h
  subst e1
  cases r with
  | cons r rr =>
    rw [hs]
    refine assignInOrder_cons (thn (h1 pins s σ H _ _ _ I r h) fun _ s1 ⟨σ1, H1, I1, q1⟩ => ?_)
    exact h2 pins s1 σ1 H1 _ _ Q I1 rr q1
/-- (a, b, ..) = a tuple of that length -/
def gTup (K : PySem.W.Frag) (n : Nat) (t : TGs) : TG := fun v σ H Q => ∃ a xs, v = .ref a ∧ SqT K H a xs ∧ xs.length = n ∧ t xs σ H Q
theorem pg_tup {es : List Expr} {k : Nat} {t : TGs} {n : Nat} (hc : X.calm = true) (h : PGs X es t)
    (hn : (assignEach es X.env).length = n := by rfl) (hst : (assignEach es X.env).findIdx? (·.1) = none := by rfl) : PG X (.Tuple es k pos) (gTup X.K n t) := by
  intro pins s σ H v u Q I r hw
  obtain ⟨a, xs, e1, hq, hl, hw⟩ := hw
  subst e1
  cases r
  obtain ⟨its, rv, ht, hz⟩ := I.tuple hq
  refine assign_Tuple_tuple (I.ok.hd hc) ht (by simp [hn, ← hl, rv.length]) hst fun h' hx => ?_
  have I1 : Inv X pins σ H { s with heap := h' } := I.kept (t' := s.toks) fun b o e => hx b o (Nat.ne_of_lt (Heap.lt_size e)) e
  exact h pins _ σ H xs _ Q I1 (by simpa using rv) hw
/-- o[i] = .. -/
def gSub (to ti : TE) (t : TSet) : TG := fun v σ H Q => to σ H fun o H1 => ti σ H1 fun i H2 => t o i v H2 fun H3 => Q σ H3
theorem pg_sub {o i : Expr} {to ti : TE} {t : TSet} (ho : PE X o to) (hi : PE X i ti) (hs : PSet X t)
    (ha : ∀ v, assign (.Subscript o i pos) X.env v = (do
      let ov ← holding [v] (eval o X.env)
      let iv ← holding [v, ov] (eval i X.env)
      standAt pos
      holding [v, ov, iv] (setItem ov iv v)
      release [v, ov, iv] []) := by intro _; rfl) : PG X (.Subscript o i pos) (gSub to ti t) := by
  intro pins s σ H v u Q I r h
  rw [ha]
  refine wpAny_bind (wpAny_holding (thn (ho pins s σ H _ I h) fun ov s1 ⟨x, H1, I1, r1, q1⟩ => ?_))
  refine wpAny_bind (wpAny_holding (thn (hi pins s1 σ H1 _ I1 q1) fun iv s2 ⟨y, H2, I2, r2, q2⟩ => ?_))
  refine wpAny_bind (wpAny_standAt (wpAny_bind (wpAny_holding (thn (hs pins s2 σ H2 x y v ov iv u _ I2 r1 r2 r q2) fun _ s3 ⟨H3, I3, q3⟩ => ?_))))
  exact wpAny_release ⟨σ, H3, I3, q3⟩
/-- target = value -/
def tAsg (te : TE) (g : TG) : TS := fun D σ H => te σ H fun x H1 => g x σ H1 D.nx
theorem ps_asg {tg e : Expr} {te : TE} {g : TG} (he : PE X e te) (hg : PG X tg g) (hs : swapsWithSole [tg] e pos.line X.env = pure false := by rfl) (hw : swappedStores [tg] e X.env = pure none := by rfl)
    (h1 : (assignEach [tg] X.env).map (·.2) = [assign tg X.env] := by rfl) : PS X (.Assign [tg] e pos) (tAsg te g) := by
  intro pins s σ H D I h
  refine wpAny_Assign_stores (thn (he pins s σ H _ I h) fun v s1 ⟨x, H1, I1, r1, q1⟩ => ?_) hs hw
  rw [h1]
  exact thn (hg pins s1 σ H1 x v _ I1 r1 q1) fun _ s2 q => q
/-- name = value -/
theorem ps_set {i : Nat} {x : Str} {e : Expr} {te : TE} {pos' : Pos} (hN : X.N.Nodup) (hi : X.N[i]? = some x) (hx : Loc X.env.scope x) (he : PE X e te) (hs : swapsWith e (some (.Name x pos')) pos.line X.env = pure false := by rfl) (hf : X.fn x = true ∨ X.env.scope.names.lookup x = some .local := by first | exact .inl rfl | exact .inr rfl | assumption) :
    PS X (.Assign [.Name x pos'] e pos) (tAsg te (gName i)) := by
  intro pins s σ H D I h
  refine wpAny_Assign_Name (thn (he pins s σ H _ I h) fun v s1 ⟨y, H1, I1, r1, q1⟩ => ?_) hs
  exact store_ok I1 hN hi hx r1 (fun s2 I2 => ⟨_, H1, I2, q1⟩) hf
end

/-! ### while -/
section
variable {X : Cx} {pos : Pos}
end

/-! ### what a loop or a comprehension walks -/
/-- at turn i: it yields x (the heap may grow), or it stops -/
structure It where
  go : Nat → Hp → Prop
  yld : Nat → Hp → V → Hp → Prop
  stop : Nat → Hp → Prop
/-- the iterator's own objects may turn: they are not the frame's, not pinned, younger than the entry (or a comprehension's own) -/
def FpOk (X : Cx) (pins : List (Addr × Obj)) (H : Hp) (b : Addr) : Prop :=
  H b = none ∧ b ≠ X.env.locals ∧ b ∉ X.fs ∧ (b ∈ X.ex ∨ X.s₀.heap.objs.size ≤ b) ∧ (∀ x c, X.env.cells.lookup x = some c → c ≠ b) ∧ ∀ p ∈ X.pn ++ pins, p.1 ≠ b
theorem Inv.fpOk {X : Cx} {pins : List (Addr × Obj)} {σ : St} {H H' : Hp} {s : Shared} {b : Addr} (I : Inv X pins σ H s) (hb : s.heap.objs.size ≤ b) (hn : H' b = none) : FpOk X pins H' b := by
  refine ⟨hn, Nat.ne_of_gt (Nat.lt_of_lt_of_le I.lt hb), I.nofs hb, .inr (Nat.le_trans I.sz hb), fun x c e z => ?_, fun p hp z => ?_⟩
  · obtain ⟨v, q⟩ := I.cell x c e
    exact absurd (Nat.lt_of_lt_of_le q.lt (by rw [z]; exact hb)) (Nat.lt_irrefl _)
  · exact absurd (Nat.lt_of_lt_of_le (Heap.lt_size (I.pin p hp).1) (by rw [z]; exact hb)) (Nat.lt_irrefl _)
/-- what is handled stands with no context -/
def HandQ (X : Cx) (s : Shared) : Prop := ∃ (ea : Addr) (o : Obj) (vs : Array Value), X.A.handled = some (.ref ea) ∧ s.heap.get? ea = some o ∧ o.data = .fields vs ∧ vs[2]? = some .none
/-- where an iterator may end: nothing is handled; hb: or what is handled has no context -/
def EndQ (hb : Bool) (X : Cx) (s : Shared) : Prop := X.A.handled = none ∨ (hb = true ∧ HandQ X s)
theorem EndQ.none {X : Cx} {s : Shared} (h : EndQ false X s) : X.A.handled = Option.none := by
  rcases h with h | ⟨z, _⟩
  · exact h
  · cases z
structure Turn (P : Program) (w : World) (K : PySem.W.Frag) (tg : Expr) (J : It) (fp : List Addr) (it : Addr) (tn : Nat → Heap → Prop) (hb : Bool := false) : Prop where
  mem : it ∈ fp
  obj : ∀ i h, tn i h → ∀ b ∈ fp, ∃ o, h.get? b = some o ∧ ∀ v, o.data ≠ .cell v
  keep : ∀ i h h', tn i h → (∀ b ∈ fp, ∀ o, h.get? b = some o → h'.get? b = some o) → tn i h'
  item : ∀ (X : Cx), X.prog = P → X.w = w → X.K = K → ∀ (s : Shared), EndQ hb X s → ∀ (i : Nat) (pins : List (Addr × Obj)) (σ : St) (H : Hp) (E : Value → Shared → Prop), Inv X pins σ H s → (∀ b ∈ fp, FpOk X pins H b) → tn i s.heap → J.go i H →
    wpAny (model P w) X.A (pyNext (.ref it)) (fun r s1 => ∃ u, r = some u ∧
      wpAny (model P w) X.A (letOwnedTupleGo tg (.ref it) u) (fun _ s2 => ∃ x H', Inv X pins σ H' s2 ∧ RelV x u ∧ J.yld i H x H' ∧ tn (i + 1) s2.heap ∧ ∀ b ∈ fp, H' b = none) E s1) E s
  done : ∀ (X : Cx), X.prog = P → X.w = w → X.K = K → ∀ (s : Shared), EndQ hb X s → ∀ (i : Nat) (pins : List (Addr × Obj)) (σ : St) (H : Hp) (E : Value → Shared → Prop), Inv X pins σ H s → (∀ b ∈ fp, FpOk X pins H b) → tn i s.heap → J.stop i H →
    wpAny (model P w) X.A (pyNext (.ref it)) (fun r s1 => r = none ∧ Inv X pins σ H s1) E s
  self : ∀ (A : Around) (i : Nat) (s : Shared) (Q : Value → Shared → Prop) (E : Value → Shared → Prop), tn i s.heap → Q (.ref it) s → wpAny (model P w) A (pyIter (.ref it)) Q E s
abbrev TI := St → Hp → (It → Hp → Prop) → Prop
/-- an iterator has come -/
def PIE (X : Cx) (pins : List (Addr × Obj)) (σ : St) (tg : Expr) (R : It → Hp → Prop) (hb : Bool) (itv : Value) (s2 : Shared) : Prop :=
  ∃ (it : Addr) (fp : List Addr) (tn : Nat → Heap → Prop) (J : It) (H' : Hp), itv = .ref it ∧ Inv X pins σ H' s2 ∧ Turn X.prog X.w X.K tg J fp it tn hb ∧ tn 0 s2.heap ∧ (∀ b ∈ fp, FpOk X pins H' b) ∧ R J H'
def PI (X : Cx) (tg iter : Expr) (wi : TI) (hb : Bool := false) : Prop :=
  ∀ (pins : List (Addr × Obj)) (s : Shared) (σ : St) (H : Hp) (R : It → Hp → Prop), Inv X pins σ H s → wi σ H R →
    wpAny (model X.prog X.w) X.A (eval iter X.env) (fun v s1 => wpAny (model X.prog X.w) X.A (pyIter v) (PIE X pins σ tg R hb) X.xe s1) X.xe s

/-- the step ahead of the store is nothing for an iterator that keeps no tuple -/
theorem go_of {M : Model} {A : Around} {E : Value → Shared → Prop} {s : Shared} {tg : Expr} {it : Addr} {u : Value} {o : Obj} {n : String} {vs : Array Value} {Q : Unit → Shared → Prop} (ho : s.heap.get? it = some o) (hc : o.cls = .type n) (hd : o.data = .fields vs)
    (hn : ["enumerate", "zip", "dict_itemiterator", "dict_reverseitemiterator", "odict_iterator", "itertools.zip_longest", "itertools.pairwise"].contains n = false) (hQ : Q () s) : wpAny M A (letOwnedTupleGo tg (.ref it) u) Q E s := by
  unfold letOwnedTupleGo
  cases tg <;> first
    | exact wpAny_pure hQ
    | (cases u <;> first
        | exact wpAny_pure hQ
        | (refine wpAny_bind (wpAny_load ho ?_)
           rw [hc, hd]
           show wpAny M A (if (["enumerate", "zip", "dict_itemiterator", "dict_reverseitemiterator", "odict_iterator", "itertools.zip_longest", "itertools.pairwise"].contains n && vs[0]? == some (rawInt _)) = true then _ else _) Q E s
           rw [if_neg (by intro h; rw [hn, Bool.false_and] at h; cases h)]
           exact wpAny_pure hQ))

/-- the list at a, as it stands at each turn (a loop may append to it) -/
def Itl (K : PySem.W.Frag) (a : Addr) : It :=
  ⟨fun i H => ∃ xs x, SqL K H a xs ∧ xs[i]? = some x, fun i H x H' => H' = H ∧ ∀ xs, SqL K H a xs → xs[i]? = some x, fun i H => ∃ xs, SqL K H a xs ∧ xs.length ≤ i⟩
def Itt (K : PySem.W.Frag) (a : Addr) : It :=
  ⟨fun i H => ∃ xs x, SqT K H a xs ∧ xs[i]? = some x, fun i H x H' => H' = H ∧ ∀ xs, SqT K H a xs → xs[i]? = some x, fun i H => ∃ xs, SqT K H a xs ∧ xs.length ≤ i⟩
/-- lo, lo + 1, .. (n of them) -/
def Itr (lo : Int) (n : Nat) : It := ⟨fun i _ => i < n, fun i H x H' => H' = H ∧ x = .int (lo + i), fun i _ => n ≤ i⟩
theorem turn_list {P : Program} {w : World} {K : PySem.W.Frag} {tg : Expr} (a it : Addr) : Turn P w K tg (Itl K a) [it] it (fun i h => h.IsListIter it a i) where
  mem := by simp
  obj := fun i h st b hb => by
    have e : b = it := by simpa using hb
    subst e
    obtain ⟨o, e, c, d⟩ := st
    exact ⟨o, e, fun v z => by rw [d] at z; cases z⟩
  keep := fun i h h' st k => st.at fun o e => k it (by simp) o e
  item := by
    intro X hP hw hK s hc i pins σ H E I hf st hg
    subst hP hw hK
    obtain ⟨xs, x, hq, hx⟩ := hg
    obtain ⟨its, rv, p, hz⟩ := I.list hq
    obtain ⟨u, hu, ru⟩ := rv.get hx
    obtain ⟨f0, f1, f2, f3, f4, f5⟩ := hf it (by simp)
    refine wpAny_pyNext_list_item st p.isList (x := u) (by simpa using hu) fun h' st' sb => ?_
    have I1 : Inv X pins σ H { s with heap := h' } := I.turned (t' := s.toks) (fun b o hb e => (sb.2 b hb).trans e) f0 f1 f3 f4 f5
    obtain ⟨o, e, c, d⟩ := id st'
    exact ⟨u, rfl, go_of (s := { s with heap := h' }) e c d (by decide) ⟨x, H, I1, ru, ⟨rfl, fun ys hy => by rw [I.list_inj hy hq]; exact hx⟩, st', fun b hb => (hf b hb).1⟩⟩
  done := by
    intro X hP hw hK s hc i pins σ H E I hf st hg
    subst hP hw hK
    obtain ⟨xs, hq, hx⟩ := hg
    obtain ⟨its, rv, p, hz⟩ := I.list hq
    obtain ⟨f0, f1, f2, f3, f4, f5⟩ := hf it (by simp)
    have hl := rv.length
    exact wpAny_pyNext_list_end hc.none st p.isList (by simp; omega) fun h' eb => ⟨rfl, I.turned (t' := s.toks) (fun b o hb e => eb b o hb e) f0 f1 f3 f4 f5⟩
  self := fun _ _ _ _ _ st h => wpAny_pyIter_listiter st h
theorem turn_tuple {P : Program} {w : World} {K : PySem.W.Frag} {tg : Expr} (a it : Addr) : Turn P w K tg (Itt K a) [it] it (fun i h => h.IsTupleIter it a i) where
  mem := by simp
  obj := fun i h st b hb => by
    have e : b = it := by simpa using hb
    subst e
    obtain ⟨o, e, c, d⟩ := st
    exact ⟨o, e, fun v z => by rw [d] at z; cases z⟩
  keep := fun i h h' st k => st.at fun o e => k it (by simp) o e
  item := by
    intro X hP hw hK s hc i pins σ H E I hf st hg
    subst hP hw hK
    obtain ⟨xs, x, hq, hx⟩ := hg
    obtain ⟨its, rv, p, hz⟩ := I.tuple hq
    obtain ⟨u, hu, ru⟩ := rv.get hx
    obtain ⟨f0, f1, f2, f3, f4, f5⟩ := hf it (by simp)
    refine wpAny_pyNext_tuple_item st (show s.heap.IsTuple a its.toArray from p) (x := u) (by simpa using hu) fun h' st' sb => ?_
    have I1 : Inv X pins σ H { s with heap := h' } := I.turned (t' := s.toks) (fun b o hb e => (sb.2 b hb).trans e) f0 f1 f3 f4 f5
    obtain ⟨o, e, c, d⟩ := id st'
    exact ⟨u, rfl, go_of (s := { s with heap := h' }) e c d (by decide) ⟨x, H, I1, ru, ⟨rfl, fun ys hy => by rw [I.tuple_inj hy hq]; exact hx⟩, st', fun b hb => (hf b hb).1⟩⟩
  done := by
    intro X hP hw hK s hc i pins σ H E I hf st hg
    subst hP hw hK
    obtain ⟨xs, hq, hx⟩ := hg
    obtain ⟨its, rv, p, hz⟩ := I.tuple hq
    obtain ⟨f0, f1, f2, f3, f4, f5⟩ := hf it (by simp)
    have hl := rv.length
    exact wpAny_pyNext_tuple_end hc.none st (show s.heap.IsTuple a its.toArray from p) (by simp; omega) fun h' eb => ⟨rfl, I.turned (t' := s.toks) (fun b o hb e => eb b o hb e) f0 f1 f3 f4 f5⟩
  self := fun _ _ _ _ _ st h => wpAny_pyIter_tupleiter st h
section
variable {prog : Program} {w : World} {A : Around} {E : Value → Shared → Prop} {s : Shared} {e ea it : Addr} {o oe : Obj} {us vs : Array Value}
theorem ent_unchain : entryFor table "proto.unchain" = some Builtin.«proto.unchain» := entryFor_of_tree (by kernel_rfl)
/-- a new exception is raised while another one is handled, which has no context -/
theorem raise_hand {α : Type} {Q : α → Shared → Prop} (hh : A.handled = some (.ref ea)) (hea : s.heap.get? ea = some oe) (hd : oe.data = .fields vs) (h2 : vs[2]? = some .none) (he : s.heap.get? e = some o) (hde : o.data = .fields us) (hsz : 2 < us.size) (hne : ea ≠ e)
    (hE : E (.ref e) { s with heap := s.heap.update e (Obj.mapFields (·.setIfInBounds 2 (.ref ea))) }) : wpAny (model prog w) A (raiseNew (.ref e) : Sem α) Q E s := by
  have n : (Value.ref ea != Value.ref e) = true := by simp [hne]
  unfold raiseNew
  refine wpAny_bind (wpAny_handled ?_)
  rw [hh]
  show wpAny _ _ (if (Value.ref ea != Value.ref e) = true then _ else _) _ _ _
  rw [if_pos n]
  refine wpAny_bind (wpAny_holding (wpAny_runValue (codeAny_builtin ent_unchain ?_)))
  show wpAny _ _ (field (.ref ea) 2 >>= _) _ _ _
  refine wpAny_bind (wpAny_field hea hd h2 ?_)
  show wpAny _ _ (if (Value.none == Value.none) = true then _ else _) _ _ _
  rw [if_pos (show (Value.none == Value.none) = true from rfl)]
  refine wpAny_pure ?_
  exact wpAny_bind (wpAny_setField he hde hsz (wpAny_throw hE))
/-- a range's end, while an exception is handled -/
theorem range_end_hand {x left step : Int} {Q : Option Value → Shared → Prop} (hh : A.handled = some (.ref ea)) (hea : s.heap.get? ea = some oe) (hd : oe.data = .fields vs) (h2 : vs[2]? = some .none) (hit : IsRangeIter s.heap it x left step) (hleft : left ≤ 0)
    (hQ : ∀ h', Heap.ExtBut it s.heap h' → Q none { s with heap := h' }) : wpAny (model prog w) A (pyNext (.ref it)) Q E s := by
  have hT : s.TypeIs (.ref it) "range_iterator" := ⟨_, hit, rfl⟩
  have lt := Heap.lt_size hea
  unfold pyNext; refine wpAny_bind (wpAny_attempt (wpAny_callSpecial?_slot (name := Str.ofString "__next__") hT F.slot_range_iterator_next (wpAny_call_entry F.slot_range_iterator_next hT F.entry_range_iterator_next ?_ (F.args_range_iterator_next_1 _))))
  show wpAny _ _ (field (.ref it) 0 >>= _) _ _ s; refine wpAny_bind (wpAny_field hit rfl (x := rawInt x) rfl ?_); show wpAny _ _ (field (.ref it) 1 >>= _) _ _ s; refine wpAny_bind (wpAny_field hit rfl (x := rawInt left) rfl ?_)
  show wpAny _ _ (field (.ref it) 2 >>= _) _ _ s; refine wpAny_bind (wpAny_field hit rfl (x := rawInt step) rfl ?_); show wpAny _ _ (if left ≤ 0 then _ else _) _ _ s; rw [if_pos hleft]
  refine wpAny_bind (wpAny_rule (wpAny_bind ?_)); show wpAny _ _ (newExc (.type "StopIteration") [] >>= _) _ _ _; refine wpAny_bind ?_; simp only [newExc, newTuple]
  refine wpAny_bind (wpAny_newObj_type ?_ (by size_fits)); refine wpAny_bind (m := firstArgMember _ _) (wpAny_of_eq (a := Value.none) (by first | rfl | (simp only [firstArgMember]; rfl)) ?_); refine wpAny_newObj_type ?_ (by size_fits)
  refine raise_hand (oe := oe) (vs := vs) (by first | exact hh | exact (show A.in1.handled = _ from hh)) (Heap.get?_push_of_some _ (Heap.get?_push_of_some _ hea)) hd h2 (Heap.get?_push_size _ rfl) rfl (by simp; omega) (Nat.ne_of_lt (by rw [Heap.size_push]; exact Nat.lt_succ_of_lt lt)) ?_
  refine wpAny_bind (wpAny_isInstance (T := "StopIteration") (b := true) ⟨_, Heap.get?_update_self _ (Heap.get?_push_size _ rfl) rfl, rfl⟩ isSubtype_stop ?_)
  refine wpAny_pure (hQ _ fun b ob hb q => ?_)
  rw [Heap.get?_update_other _ _ (Nat.ne_of_gt (by rw [Heap.size_push]; exact Nat.lt_succ_of_lt (Heap.lt_size q)))]
  exact Heap.get?_push_of_some _ (Heap.get?_push_of_some _ q)
end
theorem turn_range {P : Program} {w : World} {K : PySem.W.Frag} {tg : Expr} (it : Addr) (lo : Int) (n : Nat) {hb : Bool} : Turn P w K tg (Itr lo n) [it] it (fun i h => IsRangeIter h it (lo + (i : Nat) * 1) ((n : Int) - (i : Nat)) 1) hb where
  mem := by simp
  obj := fun i h st b hb => by
    have e : b = it := by simpa using hb
    subst e
    exact ⟨_, st, fun v z => by
      have z' : Data.fields _ = Data.cell v := z
      cases z'⟩
  keep := fun i h h' st k => k it (by simp) _ st
  item := by
    intro X hP hw hK s hc i pins σ H E I hf st hg
    subst hP hw hK
    obtain ⟨f0, f1, f2, f3, f4, f5⟩ := hf it (by simp)
    have hi : i < n := hg
    refine wpAny_pyNext_range_item st (by omega) fun h' st' sb => ?_
    have I1 : Inv X pins σ H { s with heap := h', toks := s.toks + 1 } := I.turned (fun b o hb e => (sb.2 b hb).trans e) f0 f1 f3 f4 f5
    have e1 : lo + ((i : Nat) : Int) * 1 + 1 = lo + ((i + 1 : Nat) : Int) * 1 := by omega
    have e2 : (n : Int) - ((i : Nat) : Int) - 1 = (n : Int) - ((i + 1 : Nat) : Int) := by omega
    rw [e1, e2] at st'
    refine ⟨_, rfl, go_of (s := { s with heap := h', toks := s.toks + 1 }) (n := "range_iterator") st' rfl rfl (by decide) ⟨.int (lo + i), H, I1, ⟨s.toks, ?_⟩, ⟨rfl, rfl⟩, st', fun b hb => (hf b hb).1⟩⟩
    rw [Int.mul_one]
  done := by
    intro X hP hw hK s hc i pins σ H E I hf st hg
    subst hP hw hK
    obtain ⟨f0, f1, f2, f3, f4, f5⟩ := hf it (by simp)
    have hi : (n : Int) - ((i : Nat) : Int) ≤ 0 := by have : n ≤ i := hg; omega
    rcases hc with hc | ⟨_, ea, o, vs, h1, h2, h3, h4⟩
    · exact wpAny_pyNext_range_end hc st hi fun h' eb => ⟨rfl, I.turned (t' := s.toks) (fun b o hb e => eb b o hb e) f0 f1 f3 f4 f5⟩
    · exact range_end_hand h1 h2 h3 h4 st hi fun h' eb => ⟨rfl, I.turned (t' := s.toks) (fun b o hb e => eb b o hb e) f0 f1 f3 f4 f5⟩
  self := fun _ _ _ _ _ st h => wpAny_pyIter_rangeiter st h
end L2

namespace L2
open PySem PySem.Spec PyProof.Rows
section
variable {X : Cx} {tg : Expr}
def iList (K : PySem.W.Frag) (tl : TE) : TI := fun σ H R => tl σ H fun x H1 => ∃ a, x = .ref a ∧ (∃ xs, SqL K H1 a xs) ∧ R (Itl K a) H1
def iTup (K : PySem.W.Frag) (tl : TE) : TI := fun σ H R => tl σ H fun x H1 => ∃ a, x = .ref a ∧ (∃ xs, SqT K H1 a xs) ∧ R (Itt K a) H1
theorem pi_list {l : Expr} {tl : TE} (hl : PE X l tl) : PI X tg l (iList X.K tl) := by
  intro pins s σ H R I h
  refine thn (hl pins s σ H _ I h) fun v s1 ⟨x, H1, I1, r1, q1⟩ => ?_
  obtain ⟨a, e, ⟨xs, hq⟩, q⟩ := q1
  subst e
  cases r1
  obtain ⟨its, rv, p, hz⟩ := I1.list hq
  refine wpAny_pyIter_list p.isList ?_
  refine ⟨s1.heap.objs.size, [s1.heap.objs.size], _, _, H1, rfl, I1.kept (t' := s1.toks) fun b o e => Heap.get?_push_of_some _ e, turn_list a _, ⟨_, Heap.get?_push_size _ rfl, rfl, rfl⟩, fun b hb => ?_, q⟩
  have e : b = s1.heap.objs.size := by simpa using hb
  subst e
  exact I1.fpOk (Nat.le_refl _) (I1.hok.fresh (Nat.le_refl _))
theorem pi_tup {l : Expr} {tl : TE} (hl : PE X l tl) : PI X tg l (iTup X.K tl) := by
  intro pins s σ H R I h
  refine thn (hl pins s σ H _ I h) fun v s1 ⟨x, H1, I1, r1, q1⟩ => ?_
  obtain ⟨a, e, ⟨xs, hq⟩, q⟩ := q1
  subst e
  cases r1
  obtain ⟨its, rv, p, hz⟩ := I1.tuple hq
  refine wpAny_pyIter_tuple (show s1.heap.IsTuple a its.toArray from p) ?_
  refine ⟨s1.heap.objs.size, [s1.heap.objs.size], _, _, H1, rfl, I1.kept (t' := s1.toks) fun b o e => Heap.get?_push_of_some _ e, turn_tuple a _, ⟨_, Heap.get?_push_size _ rfl, rfl, rfl⟩, fun b hb => ?_, q⟩
  have e : b = s1.heap.objs.size := by simpa using hb
  subst e
  exact I1.fpOk (Nat.le_refl _) (I1.hok.fresh (Nat.le_refl _))
/-- a range object just made, walked -/
theorem range_it {hb : Bool} {pins : List (Addr × Obj)} {σ : St} {H : Hp} {s : Shared} {R : It → Hp → Prop} {E : Value → Shared → Prop} {lo hi : Int} {t u v : Tok} {tk : Nat} (I : Inv X pins σ H s) (h1 : -(2 ^ 62) ≤ lo) (h2 : lo < 2 ^ 62) (h3 : -(2 ^ 62) ≤ hi) (h4 : hi < 2 ^ 62)
    (q : R (Itr lo (hi - lo).toNat) H) : wpAny (model X.prog X.w) X.A (pyIter (.ref s.heap.objs.size)) (PIE X pins σ tg R hb) E { s with heap := s.heap.push { cls := .type "range", data := .fields #[.int lo t, .int hi u, .int 1 v] }, toks := tk } := by
  refine wpAny_pyIter_range (IsRange.new ..) (small_one h1 h2 h3 h4) ?_
  have I1 : Inv X pins σ H { s with heap := s.heap.push { cls := .type "range", data := .fields #[.int lo t, .int hi u, .int 1 v] }, toks := tk } := I.kept fun b o e => Heap.get?_push_of_some _ e
  refine ⟨(s.heap.push { cls := .type "range", data := .fields #[.int lo t, .int hi u, .int 1 v] }).objs.size, [(s.heap.push { cls := .type "range", data := .fields #[.int lo t, .int hi u, .int 1 v] }).objs.size], _, _, H, rfl,
    I1.kept (t' := tk) fun b o e => Heap.get?_push_of_some _ e, turn_range _ lo (hi - lo).toNat, ?_, fun b hb => ?_, q⟩
  · have e1 : lo + ((0 : Nat) : Int) * 1 = lo := by simp
    have e2 : (((hi - lo).toNat : Nat) : Int) - ((0 : Nat) : Int) = Builtin.Range.rangeSize lo hi 1 := by rw [rangeSize_one]; split <;> omega
    show IsRangeIter _ _ (lo + ((0 : Nat) : Int) * 1) ((((hi - lo).toNat : Nat) : Int) - ((0 : Nat) : Int)) 1
    rw [e1, e2]
    exact Heap.get?_push_size _ rfl
  · have e : b = (s.heap.push { cls := .type "range", data := .fields #[.int lo t, .int hi u, .int 1 v] }).objs.size := by simpa using hb
    subst e
    exact I1.fpOk (Nat.le_refl _) (I1.hok.fresh (Nat.le_refl _))
def iRng1 (ta : TA) : TI := fun σ H R => ta σ H fun vs H1 => ∃ j : Int, vs = [.int j] ∧ -(2 ^ 62) ≤ j ∧ j < 2 ^ 62 ∧ R (Itr 0 j.toNat) H1
theorem pi_range1 {hb : Bool} {a : Expr} {ta : TA} {p pos : Pos} (hg : Gl X "range") (hm : X.mg "range" = none) (ha : PA X [a] ta) (hs : starEach [a] X.env = [(false, eval a X.env)] := by rfl) : PI X tg (.Call (.Name "range" p) [a] [] pos) (iRng1 ta) hb := by
  intro pins s σ H R I h
  refine Call_ (ld_blt I hg hm boot_range (PyProof.Rows.callWith_type1 (thn (ha pos pins s σ H _ I h) fun us s1 ⟨vs, H1, I1, r1, q1⟩ => ?_) hs rfl))
  obtain ⟨j, e, q1, q2, q⟩ := q1
  subst e
  cases r1 with
  | cons r rr =>
    cases rr
    obtain ⟨t, rfl⟩ := r
    exact call_range_1 (range_it I1 (by omega) (by omega) q1 q2 (by simpa using q))
/-! ### for -/
/-- W: the invariant by the turn and a measure; N: what the body is to reach -/
def tFor (wi : TI) (g : TG) (tb : TS) : TS := fun D σ H => wi σ H fun J H1 => ∃ W : Nat → Nat → St → Hp → Prop, (∃ m, W 0 m σ H1) ∧ ∀ i m σ H, W i m σ H →
  (J.stop i H ∧ D.nx σ H) ∨ (J.go i H ∧ ∃ N : St → Hp → Prop, (∀ σ' H', N σ' H' → ∃ m', m' < m ∧ W (i + 1) m' σ' H') ∧ ∀ x H', J.yld i H x H' → g x σ H' fun σ2 H2 => tb { D with nx := N, ct := N, bk := D.nx } σ2 H2)
/-- the records at fp as they stand -/
def pinsAt (fp : List Addr) (h : Heap) : List (Addr × Obj) := fp.filterMap fun b => (h.get? b).map fun o => (b, o)
theorem mem_pinsAt {fp : List Addr} {h : Heap} {b : Addr} {o : Obj} (hb : b ∈ fp) (e : h.get? b = some o) : (b, o) ∈ pinsAt fp h := List.mem_filterMap.mpr ⟨b, hb, by rw [e]; rfl⟩
theorem of_pinsAt {fp : List Addr} {h : Heap} {p : Addr × Obj} (hp : p ∈ pinsAt fp h) : p.1 ∈ fp ∧ h.get? p.1 = some p.2 := by
  obtain ⟨b, hb, e⟩ := List.mem_filterMap.mp hp
  cases q : h.get? b with
  | none => rw [q] at e; cases e
  | some o =>
    rw [q] at e
    have e' : (b, o) = p := Option.some.inj e
    subst e'
    exact ⟨hb, q⟩
theorem Inv.pinned {pins : List (Addr × Obj)} {σ : St} {H : Hp} {s : Shared} {fp : List Addr} (I : Inv X pins σ H s) (hf : ∀ b ∈ fp, FpOk X pins H b) (ho : ∀ b ∈ fp, ∃ o, s.heap.get? b = some o ∧ ∀ v, o.data ≠ .cell v) : Inv X (pins ++ pinsAt fp s.heap) σ H s :=
  I.pins_of fun p hp => (List.mem_append.mp hp).elim (fun z => I.pin p (List.mem_append_right _ z)) fun z => by
    obtain ⟨hb, e⟩ := of_pinsAt z
    obtain ⟨f0, f1, f2, _⟩ := hf p.1 hb
    obtain ⟨o, e', d⟩ := ho p.1 hb
    rw [e] at e'; cases e'
    exact ⟨e, f0, f1, f2, d⟩
theorem Inv.unpinned {pins pl : List (Addr × Obj)} {σ : St} {H : Hp} {s : Shared} (I : Inv X (pins ++ pl) σ H s) : Inv X pins σ H s := I.pins_of fun p hp => I.pin p (List.mem_append_right _ (List.mem_append_left _ hp))
theorem ps_for {iter : Expr} {body : List Stmt} {wi : TI} {g : TG} {tb : TS} {pos : Pos} (hp : PassesOwn (model X.prog X.w) X.A X.env X.xe) (hc : X.calm = true) (hi : PI X tg iter wi) (hg : PG X tg g) (hb : PSs X body tb)
    (hs : ∀ x, foldedSetIterable iter X.env x = pure x := by intro _; rfl) : PS X (.For tg iter body [] pos) (tFor wi g tb) := by
  intro pins s σ H D I h
  refine wpAny_For (thn (hi pins s σ H _ I h) fun v s1 h1 => thn h1 fun itv s2 h2 => ?_) hs
  obtain ⟨it, fp, tn, J, H2, e, I2, T, st2, f2, W, ⟨m0, w0⟩, turn⟩ := h2
  subst e
  -- what stays true of the iterator's objects through the loop
  have stat : ∀ {H' : Hp}, (∀ b ∈ fp, H' b = none) → ∀ b ∈ fp, FpOk X pins H' b := fun hn b hb => ⟨hn b hb, (f2 b hb).2⟩
  refine codeAny_forLoop_any (fun n s' => ∃ i σ' H', Inv X pins σ' H' s' ∧ tn i s'.heap ∧ (∀ b ∈ fp, H' b = none) ∧ W i n σ' H') ?_ m0 ⟨0, σ, H2, I2, st2, fun b hb => (f2 b hb).1, w0⟩
  rintro n s3 ⟨i, σ3, H3, I3, st3, fr3, w3⟩
  rcases turn i n σ3 H3 w3 with ⟨stop, qn⟩ | ⟨go, N, hN, step⟩
  · refine wpAny_passesOwn hp (thn (T.done X rfl rfl rfl s3 (.inl (I3.ok.hd hc)) i pins σ3 H3 X.xe I3 (stat fr3) st3 stop) fun r s4 ⟨hr, I4⟩ => ?_)
    subst hr
    exact wpAny_execs_nil ⟨σ3, H3, I4, qn⟩
  · refine wpAny_passesOwn hp (thn (T.item X rfl rfl rfl s3 (.inl (I3.ok.hd hc)) i pins σ3 H3 X.xe I3 (stat fr3) st3 go) fun r s4 ⟨u, hr, h4⟩ => ?_)
    subst hr
    refine wpAny_passesOwn hp (thn h4 fun _ s5 ⟨x, H5, I5, r5, y5, st5, fr5⟩ => ?_)
    have I5' := I5.pinned (stat fr5) (T.obj _ _ st5)
    refine wpAny_passesOwn hp (thn (hg _ s5 σ3 H5 x u _ I5' r5 (step x H5 y5)) fun _ s6 ⟨σ6, H6, I6, q6⟩ => ?_)
    refine wpAny_passesOwn hp (thn (hb _ s6 σ6 H6 _ I6 q6) fun f s7 q7 => ?_)
    have again : ∀ {σ7 : St} {H7 : Hp}, Inv X (pins ++ pinsAt fp s5.heap) σ7 H7 s7 → N σ7 H7 → ∃ m, m < n ∧ ∃ i σ' H', Inv X pins σ' H' s7 ∧ tn i s7.heap ∧ (∀ b ∈ fp, H' b = none) ∧ W i m σ' H' := fun {σ7 H7} I7 n7 => by
      obtain ⟨m', hm, w7⟩ := hN σ7 H7 n7
      refine ⟨m', hm, i + 1, σ7, H7, I7.unpinned, T.keep _ _ _ st5 fun b hb o e => (I7.pin (b, o) (List.mem_append_right _ (List.mem_append_right _ (mem_pinsAt hb e)))).1, fun b hb => ?_, w7⟩
      obtain ⟨o, e, d⟩ := T.obj _ _ st5 b hb
      exact (I7.pin (b, o) (List.mem_append_right _ (List.mem_append_right _ (mem_pinsAt hb e)))).2.1
    cases f with
    | next => obtain ⟨σ7, H7, I7, n7⟩ := q7; exact again I7 n7
    | cont => obtain ⟨σ7, H7, I7, n7⟩ := q7; exact again I7 n7
    | brk => obtain ⟨σ7, H7, I7, q7⟩ := q7; exact ⟨σ7, H7, I7.unpinned, q7⟩
    | ret v => obtain ⟨x7, σ7, H7, I7, r7, q7⟩ := q7; exact ⟨x7, σ7, H7, I7.unpinned, r7, q7⟩
end

/-! ### the forms one uses -/
/-- over a list that the body leaves as it is -/
theorem for_list {K : PySem.W.Frag} {a : Addr} {xs : List V} {g : TG} {tb : TS} {D : Ends} {σ : St} {H : Hp} (Pv : Nat → St → Hp → Prop) (h0 : Pv 0 σ H) (hl : ∀ i σ H, i ≤ xs.length → Pv i σ H → SqL K H a xs)
    (hs : ∀ i x σ H, xs[i]? = some x → Pv i σ H → g x σ H fun σ2 H2 => tb { D with nx := Pv (i + 1), ct := Pv (i + 1), bk := D.nx } σ2 H2) (hd : ∀ σ H, Pv xs.length σ H → D.nx σ H) :
    ∃ W : Nat → Nat → St → Hp → Prop, (∃ m, W 0 m σ H) ∧ ∀ i m σ H, W i m σ H →
      ((Itl K a).stop i H ∧ D.nx σ H) ∨ ((Itl K a).go i H ∧ ∃ N : St → Hp → Prop, (∀ σ' H', N σ' H' → ∃ m', m' < m ∧ W (i + 1) m' σ' H') ∧ ∀ x H', (Itl K a).yld i H x H' → g x σ H' fun σ2 H2 => tb { D with nx := N, ct := N, bk := D.nx } σ2 H2) := by
  refine ⟨fun i m σ H => m = xs.length - i ∧ i ≤ xs.length ∧ Pv i σ H, ⟨xs.length, by simp, Nat.zero_le _, h0⟩, ?_⟩
  rintro i m σ H ⟨rfl, hi, p⟩
  have q := hl i σ H hi p
  by_cases hlt : i < xs.length
  · refine .inr ⟨⟨xs, xs[i], q, by simp [hlt]⟩, Pv (i + 1), fun σ' H' p' => ⟨xs.length - (i + 1), by omega, rfl, hlt, p'⟩, fun x H' y => ?_⟩
    obtain ⟨e, y⟩ := y
    subst e
    exact hs i x σ _ (y xs q) p
  · have e : i = xs.length := by omega
    subst e
    exact .inl ⟨⟨xs, q, Nat.le_refl _⟩, hd σ H p⟩
theorem for_tup {K : PySem.W.Frag} {a : Addr} {xs : List V} {g : TG} {tb : TS} {D : Ends} {σ : St} {H : Hp} (Pv : Nat → St → Hp → Prop) (h0 : Pv 0 σ H) (hl : ∀ i σ H, i ≤ xs.length → Pv i σ H → SqT K H a xs)
    (hs : ∀ i x σ H, xs[i]? = some x → Pv i σ H → g x σ H fun σ2 H2 => tb { D with nx := Pv (i + 1), ct := Pv (i + 1), bk := D.nx } σ2 H2) (hd : ∀ σ H, Pv xs.length σ H → D.nx σ H) :
    ∃ W : Nat → Nat → St → Hp → Prop, (∃ m, W 0 m σ H) ∧ ∀ i m σ H, W i m σ H →
      ((Itt K a).stop i H ∧ D.nx σ H) ∨ ((Itt K a).go i H ∧ ∃ N : St → Hp → Prop, (∀ σ' H', N σ' H' → ∃ m', m' < m ∧ W (i + 1) m' σ' H') ∧ ∀ x H', (Itt K a).yld i H x H' → g x σ H' fun σ2 H2 => tb { D with nx := N, ct := N, bk := D.nx } σ2 H2) := by
  refine ⟨fun i m σ H => m = xs.length - i ∧ i ≤ xs.length ∧ Pv i σ H, ⟨xs.length, by simp, Nat.zero_le _, h0⟩, ?_⟩
  rintro i m σ H ⟨rfl, hi, p⟩
  have q := hl i σ H hi p
  by_cases hlt : i < xs.length
  · refine .inr ⟨⟨xs, xs[i], q, by simp [hlt]⟩, Pv (i + 1), fun σ' H' p' => ⟨xs.length - (i + 1), by omega, rfl, hlt, p'⟩, fun x H' y => ?_⟩
    obtain ⟨e, y⟩ := y
    subst e
    exact hs i x σ _ (y xs q) p
  · have e : i = xs.length := by omega
    subst e
    exact .inl ⟨⟨xs, q, Nat.le_refl _⟩, hd σ H p⟩
theorem for_range {lo : Int} {n : Nat} {g : TG} {tb : TS} {D : Ends} {σ : St} {H : Hp} (Pv : Nat → St → Hp → Prop) (h0 : Pv 0 σ H)
    (hs : ∀ i σ H, i < n → Pv i σ H → g (.int (lo + i)) σ H fun σ2 H2 => tb { D with nx := Pv (i + 1), ct := Pv (i + 1), bk := D.nx } σ2 H2) (hd : ∀ σ H, Pv n σ H → D.nx σ H) :
    ∃ W : Nat → Nat → St → Hp → Prop, (∃ m, W 0 m σ H) ∧ ∀ i m σ H, W i m σ H →
      ((Itr lo n).stop i H ∧ D.nx σ H) ∨ ((Itr lo n).go i H ∧ ∃ N : St → Hp → Prop, (∀ σ' H', N σ' H' → ∃ m', m' < m ∧ W (i + 1) m' σ' H') ∧ ∀ x H', (Itr lo n).yld i H x H' → g x σ H' fun σ2 H2 => tb { D with nx := N, ct := N, bk := D.nx } σ2 H2) := by
  refine ⟨fun i m σ H => m = n - i ∧ i ≤ n ∧ Pv i σ H, ⟨n, by simp, Nat.zero_le _, h0⟩, ?_⟩
  rintro i m σ H ⟨rfl, hi, p⟩
  by_cases hlt : i < n
  · refine .inr ⟨hlt, Pv (i + 1), fun σ' H' p' => ⟨n - (i + 1), by omega, rfl, hlt, p'⟩, fun x H' y => ?_⟩
    obtain ⟨e, y⟩ := y
    subst e y
    exact hs i σ _ hlt p
  · have e : i = n := by omega
    subst e
    exact .inl ⟨Nat.le_refl _, hd σ H p⟩
end L2

namespace L2
open PySem PySem.Spec PyProof.Rows

abbrev R2 := V → V → Hp → VK → Prop
/-- a two-place operation on values: f is binaryOp op, inplaceOp op or compareOp op -/
def OpR (X : Cx) (f : Value → Value → Sem Value) (r : R2) : Prop :=
  ∀ (pins : List (Addr × Obj)) (s : Shared) (σ : St) (H : Hp) (x y : V) (v u : Value) (Q : VK), Inv X pins σ H s → RelV x v → RelV y u → r x y H Q →
    wpAny (model X.prog X.w) X.A (f v u) (EP X pins σ Q) X.xe s
/-- a one-place operation -/
def UnR (X : Cx) (f : Value → Sem Value) (r : V → Hp → VK → Prop) : Prop :=
  ∀ (pins : List (Addr × Obj)) (s : Shared) (σ : St) (H : Hp) (x : V) (v : Value) (Q : VK), Inv X pins σ H s → RelV x v → r x H Q →
    wpAny (model X.prog X.w) X.A (f v) (EP X pins σ Q) X.xe s
/-- a call of a value that is known (a builtin, a type) with values -/
def CallR (X : Cx) (f : Value) (r : List V → Hp → VK → Prop) : Prop :=
  ∀ (pins : List (Addr × Obj)) (s : Shared) (σ : St) (H : Hp) (xs : List V) (us : List Value) (Q : VK), Inv X pins σ H s → Vals xs us → r xs H Q →
    wpAny (model X.prog X.w) X.A (call f us) (EP X pins σ Q) X.xe s
/-- a value's truth -/
def TruR (X : Cx) (r : V → Hp → (Bool → Hp → Prop) → Prop) : Prop :=
  ∀ (pins : List (Addr × Obj)) (s : Shared) (σ : St) (H : Hp) (x : V) (v : Value) (Q : Bool → Hp → Prop), Inv X pins σ H s → RelV x v → r x H Q →
    wpAny (model X.prog X.w) X.A (truthy v) (TP X pins σ Q) X.xe s

def tOp (r : R2) (ta tb : TE) : TE := fun σ H Q => ta σ H fun x H1 => tb σ H1 fun y H2 => r x y H2 Q
def tUn (r : V → Hp → VK → Prop) (ta : TE) : TE := fun σ H Q => ta σ H fun x H1 => r x H1 Q
/-- ints in, under C, and a value out -/
def rI (C : Int → Int → Prop) (g : Int → Int → V) : R2 := fun x y H Q => ∃ i j, x = .int i ∧ y = .int j ∧ C i j ∧ Q (g i j) H
def rI0 (g : Int → Int → V) : R2 := fun x y H Q => ∃ i j, x = .int i ∧ y = .int j ∧ Q (g i j) H
def rU (g : Int → V) : V → Hp → VK → Prop := fun x H Q => ∃ i, x = .int i ∧ Q (g i) H

section
variable {X : Cx} {a b c : Expr} {ta tb tc : TE} {pos : Pos}

theorem binT (ha : PE X a ta) (hb : PE X b tb) {pins : List (Addr × Obj)} {s : Shared} {σ : St} {H : Hp} {R : V → V → Hp → Prop} (I : Inv X pins σ H s)
    (h : ta σ H fun x H1 => tb σ H1 fun y H2 => R x y H2) {Q : Value → Shared → Prop} {f : Value → Value → Sem Value}
    (hf : ∀ v u s2 x y H2, Inv X pins σ H2 s2 → RelV x v → RelV y u → R x y H2 → wpAny (model X.prog X.w) X.A (f v u) Q X.xe s2) :
    wpAny (model X.prog X.w) X.A (eval a X.env) (fun v s₁ => wpAny (model X.prog X.w) X.A (eval b X.env) (fun u s₂ => wpAny (model X.prog X.w) X.A (f v u) Q X.xe s₂) X.xe s₁) X.xe s := by
  refine thn (ha pins s σ H _ I h) fun v s1 ⟨x, H1, I1, r1, q1⟩ => ?_
  refine thn (hb pins s1 σ H1 _ I1 q1) fun u s2 ⟨y, H2, I2, r2, q2⟩ => ?_
  exact hf v u s2 x y H2 I2 r1 r2 q2

theorem pe_op {op : Operator} {r : R2} (ho : OpR X (binaryOp op) r) (ha : PE X a ta) (hb : PE X b tb) : PE X (.BinOp a op b pos) (tOp r ta tb) := by
  intro pins s σ H Q I h
  exact wpAny_BinOp (binT ha hb I h fun v u s2 x y H2 I2 rx ry q => ho pins s2 σ H2 x y v u Q I2 rx ry q)
theorem pe_un {op : UnaryOp} {r : V → Hp → VK → Prop} (ho : UnR X (unaryOp op) r) (ha : PE X a ta) : PE X (.UnaryOp op a pos) (tUn r ta) := by
  intro pins s σ H Q I h
  exact UnaryOp_ (thn (ha pins s σ H _ I h) fun v s1 ⟨x, H1, I1, r1, q1⟩ => ho pins s1 σ H1 x v Q I1 r1 q1)
/-! ### ints -/
theorem opI {f : Value → Value → Sem Value} {C : Int → Int → Prop} {g : Int → Int → Int}
    (rule : ∀ (i j : Int) (t u : Tok) (s : Shared) (Q : Value → Shared → Prop) (E : Value → Shared → Prop), C i j → Q (.int (g i j) s.toks) { s with toks := s.toks + 1 } → wpAny (model X.prog X.w) X.A (f (.int i t) (.int j u)) Q E s) :
    OpR X f (rI C fun i j => .int (g i j)) := by
  intro pins s σ H x y v u Q I rx ry h
  obtain ⟨i, j, rfl, rfl, hc, q⟩ := h
  obtain ⟨t, rfl⟩ := rx
  obtain ⟨t', rfl⟩ := ry
  exact rule i j t t' s _ _ hc ⟨.int (g i j), H, I.tok _, ⟨_, rfl⟩, q⟩
theorem opI0 {f : Value → Value → Sem Value} {g : Int → Int → Int}
    (rule : ∀ (i j : Int) (t u : Tok) (s : Shared) (Q : Value → Shared → Prop) (E : Value → Shared → Prop), Q (.int (g i j) s.toks) { s with toks := s.toks + 1 } → wpAny (model X.prog X.w) X.A (f (.int i t) (.int j u)) Q E s) :
    OpR X f (rI0 fun i j => .int (g i j)) := by
  intro pins s σ H x y v u Q I rx ry h
  obtain ⟨i, j, rfl, rfl, q⟩ := h
  obtain ⟨t, rfl⟩ := rx
  obtain ⟨t', rfl⟩ := ry
  exact rule i j t t' s _ _ ⟨.int (g i j), H, I.tok _, ⟨_, rfl⟩, q⟩
theorem opB0 {f : Value → Value → Sem Value} {g : Int → Int → Bool}
    (rule : ∀ (i j : Int) (t u : Tok) (s : Shared) (Q : Value → Shared → Prop) (E : Value → Shared → Prop), Q (.bool (g i j)) s → wpAny (model X.prog X.w) X.A (f (.int i t) (.int j u)) Q E s) :
    OpR X f (rI0 fun i j => .bl (g i j)) := by
  intro pins s σ H x y v u Q I rx ry h
  obtain ⟨i, j, rfl, rfl, q⟩ := h
  obtain ⟨t, rfl⟩ := rx
  obtain ⟨t', rfl⟩ := ry
  exact rule i j t t' s _ _ ⟨.bl (g i j), H, I, rfl, q⟩

def CDiv (i j : Int) : Prop := 0 < j ∧ j < 1073741824
def CMul (i j : Int) : Prop := (-(2 ^ 64) < i ∧ i < 2 ^ 64) ∨ (-(2 ^ 64) < j ∧ j < 2 ^ 64)
theorem CMul.ok {i j : Int} (h : CMul i j) : IntMulOk i j := by
  rcases h with ⟨h1, h2⟩ | ⟨h1, h2⟩
  · exact .of_left (intBits_le_64 h1 h2)
  · exact .of_right (intBits_le_64 h1 h2)
theorem op_add : OpR X (binaryOp .Add) (rI0 fun i j => .int (i + j)) := opI0 fun _ _ _ _ _ _ _ q => add_int q
theorem op_sub : OpR X (binaryOp .Sub) (rI0 fun i j => .int (i - j)) := opI0 fun _ _ _ _ _ _ _ q => sub_int q
theorem op_mul : OpR X (binaryOp .Mult) (rI CMul fun i j => .int (i * j)) := opI fun _ _ _ _ _ _ _ hc q => mul_int q hc.ok
/-- // by a positive divisor -/
theorem op_fdiv : OpR X (binaryOp .FloorDiv) (rI CDiv fun i j => .int (i / j)) := opI fun i j _ _ _ _ _ hc q => by
  have h1 : (0 : Int) < j := hc.1
  have h2 : j < 1073741824 := hc.2
  exact floordiv_int (by omega) (by rw [Int.fdiv_eq_ediv_of_nonneg i (by omega)]; exact q) (.inl (PyProof.noPylong_small (by omega)))
/-- % by a positive divisor of any size -/
theorem op_mod : OpR X (binaryOp .Mod) (rI (fun _ j => 0 < j) fun i j => .int (i % j)) := opI fun i j _ _ _ _ _ hc q => by
  have h1 : (0 : Int) < j := hc
  exact mod_int' (by omega) (by rw [Int.fmod_eq_emod_of_nonneg i (by omega)]; exact q)
theorem unI {f : Value → Sem Value} {g : Int → Int}
    (rule : ∀ (i : Int) (t : Tok) (s : Shared) (Q : Value → Shared → Prop) (E : Value → Shared → Prop), Q (.int (g i) s.toks) { s with toks := s.toks + 1 } → wpAny (model X.prog X.w) X.A (f (.int i t)) Q E s) :
    UnR X f (rU fun i => .int (g i)) := by
  intro pins s σ H x v Q I rx h
  obtain ⟨i, rfl, q⟩ := h
  obtain ⟨t, rfl⟩ := rx
  exact rule i t s _ _ ⟨.int (g i), H, I.tok _, ⟨_, rfl⟩, q⟩
theorem un_neg : UnR X (unaryOp .USub) (rU fun i => .int (-i)) := unI fun _ _ _ _ _ q => neg_int q
/-! ### bools among ints: n += (a < b) -/
end

/-! ### comparisons -/
/-- the scalars that == tells apart as data does -/
def scal : V → V → Bool
  | .non, .non => true | .non, .int _ => true | .int _, .non => true | .non, .bl _ => true | .bl _, .non => true | .non, .str _ => true | .str _, .non => true
  | .int _, .int _ => true | .bl _, .bl _ => true | .str _, .str _ => true | .byt _, .byt _ => true
  | .int _, .str _ => true | .str _, .int _ => true | .bl _, .str _ => true | .str _, .bl _ => true
  | _, _ => false
def rEq : R2 := fun x y H Q => scal x y = true ∧ Q (.bl (decide (x = y))) H
def rNe : R2 := fun x y H Q => scal x y = true ∧ Q (.bl (!decide (x = y))) H

theorem dec_int {i j : Int} : decide (V.int i = V.int j) = (i == j) := by
  rw [Bool.eq_iff_iff]
  simp
theorem dec_bl {i j : Bool} : decide (V.bl i = V.bl j) = (i == j) := by
  rw [Bool.eq_iff_iff]
  simp
theorem dec_str {i j : Str} : decide (V.str i = V.str j) = (i == j) := by
  rw [Bool.eq_iff_iff]
  simp
theorem dec_byt {i j : Array UInt8} : decide (V.byt i = V.byt j) = (i.toList == j.toList) := by
  rw [Bool.eq_iff_iff]
  cases i
  cases j
  simp

section
variable {X : Cx} {a b c : Expr} {ta tb tc : TE} {pos : Pos}
theorem fin_bl {pins : List (Addr × Obj)} {σ : St} {H : Hp} {s : Shared} {Q : VK} {k k' : Bool} (I : Inv X pins σ H s) (q : Q (.bl k) H) (e : k = k') : EP X pins σ Q (.bool k') s := by
  subst e
  exact ⟨.bl k, H, I, rfl, q⟩
theorem op_eq : OpR X (compareOp .Eq) rEq := by
  intro pins s σ H x y v u Q I rx ry h
  obtain ⟨hs, q⟩ := h
  cases x with
  | non =>
    cases rx
    cases y with
    | non => cases ry; exact PySem.EqNone.eq_none_none (fin_bl I q (by simp))
    | bl j => cases ry; exact PySem.EqNone.eq_none_bool (fin_bl I q (by simp))
    | int j => obtain ⟨t', rfl⟩ := ry; exact PySem.EqNone.eq_none_int (fin_bl I q (by simp))
    | str j => obtain ⟨t', rfl⟩ := ry; exact PySem.EqNone.eq_none_str (fin_bl I q (by simp))
    | _ => exact absurd (show false = true from hs) Bool.false_ne_true
  | bl i =>
    cases rx
    cases y with
    | non => cases ry; exact PySem.EqNone.eq_bool_none (fin_bl I q (by simp))
    | bl j => cases ry; exact eq_bool (fin_bl I q dec_bl)
    | str j => obtain ⟨t', rfl⟩ := ry; exact PySem.EqMixed.eq_bool_str (fin_bl I q (by simp))
    | _ => exact absurd (show false = true from hs) Bool.false_ne_true
  | int i =>
    obtain ⟨t, rfl⟩ := rx
    cases y with
    | non => cases ry; exact PySem.EqNone.eq_int_none (fin_bl I q (by simp))
    | int j => obtain ⟨t', rfl⟩ := ry; exact eq_int (fin_bl I q dec_int)
    | str j => obtain ⟨t', rfl⟩ := ry; exact PySem.EqMixed.eq_int_str (fin_bl I q (by simp))
    | _ => exact absurd (show false = true from hs) Bool.false_ne_true
  | str i =>
    obtain ⟨t, rfl⟩ := rx
    cases y with
    | non => cases ry; exact PySem.EqNone.eq_str_none (fin_bl I q (by simp))
    | bl j => cases ry; exact PySem.EqMixed.eq_str_bool (fin_bl I q (by simp))
    | int j => obtain ⟨t', rfl⟩ := ry; exact PySem.EqMixed.eq_str_int (fin_bl I q (by simp))
    | str j => obtain ⟨t', rfl⟩ := ry; exact eq_str (fin_bl I q dec_str)
    | _ => exact absurd (show false = true from hs) Bool.false_ne_true
  | byt i =>
    obtain ⟨t, rfl⟩ := rx
    cases y with
    | byt j => obtain ⟨t', rfl⟩ := ry; exact PySem.W.eq_bytes (fin_bl I q dec_byt)
    | _ => exact absurd (show false = true from hs) Bool.false_ne_true
  | _ => cases y <;> exact absurd (show false = true from hs) Bool.false_ne_true
theorem op_ne : OpR X (compareOp .NotEq) rNe := by
  intro pins s σ H x y v u Q I rx ry h
  obtain ⟨hs, q⟩ := h
  cases x with
  | non =>
    cases rx
    cases y with
    | non => cases ry; exact PySem.EqNone.ne_none_none (fin_bl I q (by simp))
    | bl j => cases ry; exact PySem.EqNone.ne_none_bool (fin_bl I q (by simp))
    | int j => obtain ⟨t', rfl⟩ := ry; exact PySem.EqNone.ne_none_int (fin_bl I q (by simp))
    | str j => obtain ⟨t', rfl⟩ := ry; exact PySem.EqNone.ne_none_str (fin_bl I q (by simp))
    | _ => exact absurd (show false = true from hs) Bool.false_ne_true
  | bl i =>
    cases rx
    cases y with
    | non => cases ry; exact PySem.EqNone.ne_bool_none (fin_bl I q (by simp))
    | bl j => cases ry; exact ne_bool (fin_bl I q (congrArg not dec_bl))
    | str j => obtain ⟨t', rfl⟩ := ry; exact PySem.EqMixed.ne_bool_str (fin_bl I q (by simp))
    | _ => exact absurd (show false = true from hs) Bool.false_ne_true
  | int i =>
    obtain ⟨t, rfl⟩ := rx
    cases y with
    | non => cases ry; exact PySem.EqNone.ne_int_none (fin_bl I q (by simp))
    | int j => obtain ⟨t', rfl⟩ := ry; exact ne_int (fin_bl I q (congrArg not dec_int))
    | str j => obtain ⟨t', rfl⟩ := ry; exact PySem.EqMixed.ne_int_str (fin_bl I q (by simp))
    | _ => exact absurd (show false = true from hs) Bool.false_ne_true
  | str i =>
    obtain ⟨t, rfl⟩ := rx
    cases y with
    | non => cases ry; exact PySem.EqNone.ne_str_none (fin_bl I q (by simp))
    | bl j => cases ry; exact PySem.EqMixed.ne_str_bool (fin_bl I q (by simp))
    | int j => obtain ⟨t', rfl⟩ := ry; exact PySem.EqMixed.ne_str_int (fin_bl I q (by simp))
    | str j => obtain ⟨t', rfl⟩ := ry; exact ne_str (fin_bl I q (congrArg not dec_str))
    | _ => exact absurd (show false = true from hs) Bool.false_ne_true
  | byt i =>
    obtain ⟨t, rfl⟩ := rx
    cases y with
    | byt j => obtain ⟨t', rfl⟩ := ry; exact PySem.W.ne_bytes (fin_bl I q (congrArg not dec_byt))
    | _ => exact absurd (show false = true from hs) Bool.false_ne_true
  | _ => cases y <;> exact absurd (show false = true from hs) Bool.false_ne_true

theorem op_lt : OpR X (compareOp .Lt) (rI0 fun i j => .bl (decide (i < j))) := opB0 fun _ _ _ _ _ _ _ q => lt_int q
theorem op_le : OpR X (compareOp .LtE) (rI0 fun i j => .bl (decide (i ≤ j))) := opB0 fun _ _ _ _ _ _ _ q => le_int q
theorem op_gt : OpR X (compareOp .Gt) (rI0 fun i j => .bl (decide (j < i))) := opB0 fun _ _ _ _ _ _ _ q => gt_int q
/-- is None, is not None: the right side a value none -/
theorem op_isN : OpR X (compareOp .Is) (fun x y H Q => y = .non ∧ Q (.bl (decide (x = .non))) H) := by
  intro pins s σ H x y v u Q I rx ry h
  obtain ⟨rfl, q⟩ := h
  cases ry
  refine is_none_gen (fin_bl I q ?_)
  cases x <;> first
    | (cases rx; rfl)
    | (obtain ⟨t, rfl⟩ := rx; rfl)
theorem op_notN : OpR X (compareOp .IsNot) (fun x y H Q => y = .non ∧ Q (.bl (!decide (x = .non))) H) := by
  intro pins s σ H x y v u Q I rx ry h
  obtain ⟨rfl, q⟩ := h
  cases ry
  refine isnot_none_gen (fin_bl I q ?_)
  cases x <;> first
    | (cases rx; rfl)
    | (obtain ⟨t, rfl⟩ := rx; rfl)

theorem nomark (b : Expr) {op : CmpOp} (h : op ≠ .In := by decide) (h2 : op ≠ .NotIn := by decide) : behindInMarks op b = false := by
  have e1 : (op == CmpOp.In) = false := by cases op <;> first | rfl | exact absurd rfl h
  have e2 : (op == CmpOp.NotIn) = false := by cases op <;> first | rfl | exact absurd rfl h2
  cases b <;> simp [behindInMarks, e1, e2]
/-- a comparison as a value; hm: nomark b, or (for in, not in) by with_unfolding_all rfl -/
theorem pe_cmpR {op : CmpOp} {r : R2} (ho : OpR X (compareOp op) r) (ha : PE X a ta) (hb : PE X b tb) (hm : behindInMarks op b = false) : PE X (.Compare a [op] [b] pos) (tOp r ta tb) := by
  intro pins s σ H Q I h
  exact wpAny_Compare1 (binT ha hb I h fun v u s2 x y H2 I2 rx ry q => ho pins s2 σ H2 x y v u Q I2 rx ry q) hm
/-- a reading of a value as a test -/
def tTest (t : TE) : TT := fun σ H Q => t σ H fun x H' => ∃ k, x = .bl k ∧ Q k H'
theorem pt_cmpR {op : CmpOp} {r : R2} (ho : OpR X (compareOp op) r) (ha : PE X a ta) (hb : PE X b tb) (hm : behindInMarks op b = false) : PT X (.Compare a [op] [b] pos) (tTest (tOp r ta tb)) := by
  intro pins s σ H Q I h
  refine wpAny_isTrue_Compare1 (thn (ha pins s σ H _ I h) fun v s1 ⟨x, H1, I1, r1, q1⟩ => thn (hb pins s1 σ H1 _ I1 q1) fun u s2 ⟨y, H2, I2, r2, q2⟩ =>
    thn (ho pins s2 σ H2 x y v u _ I2 r1 r2 q2) fun c s3 ⟨z, H3, I3, r3, k, e, q3⟩ => ?_) hm
  subst e
  cases r3
  exact wpAny_truthy_bool ⟨H3, I3, q3⟩
/-- a op1 b op2 c -/
def tChain (r r' : R2) (ta tb tc : TE) : TE := fun σ H Q => ta σ H fun x H1 => tb σ H1 fun y H2 => r x y H2 fun z H3 => ∃ k, z = .bl k ∧
  (if k = true then tc σ H3 fun w' H4 => r' y w' H4 Q else Q (.bl false) H3)
theorem pe_chain {op op' : CmpOp} {r r' : R2} (ho : OpR X (compareOp op) r) (ho' : OpR X (compareOp op') r') (ha : PE X a ta) (hb : PE X b tb) (hc : PE X c tc)
    (hm : lastMarks [op, op'] [b, c] = false := by with_unfolding_all rfl) : PE X (.Compare a [op, op'] [b, c] pos) (tChain r r' ta tb tc) := by
  intro pins s σ H Q I h
  refine Compare_chain (thn (ha pins s σ H _ I h) fun v s1 ⟨x, H1, I1, r1, q1⟩ => chain_link (thn (hb pins s1 σ H1 _ I1 q1) fun u s2 ⟨y, H2, I2, r2, q2⟩ =>
    thn (ho pins s2 σ H2 x y v u _ I2 r1 r2 q2) fun d s3 ⟨z, H3, I3, r3, k, e, q3⟩ => ?_)) hm
  subst e
  cases r3
  refine wpAny_truthy_bool ?_
  cases k with
  | false => exact ite_ff ⟨.bl false, H3, I3, rfl, q3⟩
  | true => exact ite_tt (chain_last (thn (hc pins s3 σ H3 _ I3 q3) fun w' s4 ⟨z', H4, I4, r4, q4⟩ => ho' pins s4 σ H4 y z' u w' Q I4 r2 r4 q4))
/-! ### truth -/
/-- a value's truth by the abstract heap -/
def TruV (K : PySem.W.Frag) (x : V) (H : Hp) (k : Bool) : Prop :=
  match x with
  | .non => k = false
  | .bl b => k = b
  | .int i => k = (i != 0)
  | .str y => y.length ≤ sizeLine ∧ k = ((y.length : Int) != 0)
  | .byt y => y.size ≤ sizeLine ∧ k = ((y.size : Int) != 0)
  | .ref p => (∃ xs, SqL K H p xs ∧ k = !xs.isEmpty) ∨ (∃ xs, SqT K H p xs ∧ k = !xs.isEmpty) ∨ ∃ kvs, H p = some (.dK kvs) ∧ k = !kvs.isEmpty
  | _ => False
theorem isEmpty_kv {κ : Type} {kvs : List (κ × V)} {vs : List (κ × Value)} (r : KV kvs vs) : (!vs.isEmpty) = !kvs.isEmpty := by
  cases r <;> rfl
theorem isEmpty_of {xs : List V} {its : List Value} (r : Vals xs its) : (!its.toArray.isEmpty) = !xs.isEmpty := by
  cases r <;> simp
theorem line63 : (sizeLine : Nat) < 2 ^ 63 := by rw [sizeLine_eq]; decide
theorem tru_ok : TruR X (fun x H Q => ∃ k, TruV X.K x H k ∧ Q k H) := by
  intro pins s σ H x v Q I rx h
  obtain ⟨k, e, q⟩ := h
  have hl := line63
  have hs : sizeLine = 16777216 := sizeLine_eq
  cases x with
  | non =>
    cases rx
    have e' : k = false := e
    subst e'
    exact truthy_none ⟨H, I, q⟩
  | bl b =>
    cases rx
    have e' : k = b := e
    subst e'
    exact wpAny_truthy_bool ⟨H, I, q⟩
  | int i =>
    obtain ⟨t, rfl⟩ := rx
    have e' : k = (i != 0) := e
    subst e'
    exact PySem.P.truthy_int ⟨H, I, q⟩
  | str y =>
    obtain ⟨t, rfl⟩ := rx
    obtain ⟨hy, e'⟩ : y.length ≤ sizeLine ∧ k = ((y.length : Int) != 0) := e
    subst e'
    exact PySem.P.truthy_str (by omega) ⟨H, I.tok _, q⟩
  | byt y =>
    obtain ⟨t, rfl⟩ := rx
    obtain ⟨hy, e'⟩ : y.size ≤ sizeLine ∧ k = ((y.size : Int) != 0) := e
    subst e'
    exact PySem.W.truthy_bytes (by omega) ⟨H, I.tok _, q⟩
  | ref p =>
    cases rx
    have e' : (∃ xs, SqL X.K H p xs ∧ k = !xs.isEmpty) ∨ (∃ xs, SqT X.K H p xs ∧ k = !xs.isEmpty) ∨ ∃ kvs, H p = some (.dK kvs) ∧ k = !kvs.isEmpty := e
    rcases e' with ⟨xs, hx, e'⟩ | ⟨xs, hx, e'⟩ | ⟨kvs, hx, e'⟩
    · subst e'
      obtain ⟨its, r, pl, hz⟩ := I.list hx
      have hlen := r.length
      exact wpAny_truthy_list pl.isList (by simp only [List.size_toArray]; omega) ⟨H, I.tok _, by rw [isEmpty_of r]; exact q⟩
    · subst e'
      obtain ⟨its, r, pl, hz⟩ := I.tuple hx
      have hlen := r.length
      exact truthy_tuple pl (by simp only [List.size_toArray]; omega) ⟨H, I.tok _, by rw [isEmpty_of r]; exact q⟩
    · subst e'
      obtain ⟨hz, hS, vs, r, m⟩ : kvs.length ≤ sizeLine ∧ (p == sysModules) = false ∧ ∃ vs, KV kvs vs ∧ s.heap.DictOf (mixKind X.prog X.w) p vs := I.hok p _ hx
      have hlen : kvs.length = vs.length := Paired.length r
      exact wpAny_truthy_dict hS m (by omega) ⟨H, I.tok _, by rw [isEmpty_kv r]; exact q⟩
  | _ => exact (show False from e).elim
/-- any expression whose test is its value's truth (a name, a call, a subscript, a field ..: he by fun _ => rfl) -/
theorem pt_truth (ha : PE X a ta) (he : ∀ whole, isTrue a X.env whole = (do let v ← whole; standAt a.pos; holding [v] (truthy v))) :
    PT X a (fun σ H Q => ta σ H fun x H' => ∃ k, TruV X.K x H' k ∧ Q k H') := by
  intro pins s σ H Q I h
  exact isTrue_plain (thn (ha pins s σ H _ I h) fun v s1 ⟨x, H1, I1, r1, q1⟩ => tru_ok pins s1 σ H1 x v Q I1 r1 q1) (he _)

/-! ### strs and bytes -/
/-! ### scalar builtins, by CallR -/
theorem vals1 {x : V} {us : List Value} (r : Vals [x] us) : ∃ u, us = [u] ∧ RelV x u := by
  cases r with
  | cons r1 r2 => cases r2; exact ⟨_, rfl, r1⟩
theorem vals2 {x y : V} {us : List Value} (r : Vals [x, y] us) : ∃ u w', us = [u, w'] ∧ RelV x u ∧ RelV y w' := by
  cases r with
  | cons r1 r2 =>
    cases r2 with
    | cons r3 r4 => cases r4; exact ⟨_, _, rfl, r1, r3⟩
theorem call_max2 (hc : X.calm = true) : CallR X (.builtin "max") (fun xs H Q => ∃ i j, xs = [.int i, .int j] ∧ Q (.int (if j > i then j else i)) H) := by
  intro pins s σ H xs us Q I r h
  obtain ⟨i, j, rfl, q⟩ := h
  obtain ⟨u, w', rfl, ⟨t, rfl⟩, ⟨t', rfl⟩⟩ := vals2 r
  refine max_two_ints (I.ok.hd hc) fun h' tk k => ⟨_, H, I.kept k, ?_, q⟩
  by_cases hj : j > i
  · rw [if_pos hj, if_pos hj]; exact ⟨_, rfl⟩
  · rw [if_neg hj, if_neg hj]; exact ⟨_, rfl⟩
theorem call_min2 (hc : X.calm = true) : CallR X (.builtin "min") (fun xs H Q => ∃ i j, xs = [.int i, .int j] ∧ Q (.int (if j < i then j else i)) H) := by
  intro pins s σ H xs us Q I r h
  obtain ⟨i, j, rfl, q⟩ := h
  obtain ⟨u, w', rfl, ⟨t, rfl⟩, ⟨t', rfl⟩⟩ := vals2 r
  refine min_two_ints (I.ok.hd hc) fun h' tk k => ⟨_, H, I.kept k, ?_, q⟩
  by_cases hj : j < i
  · rw [if_pos hj, if_pos hj]; exact ⟨_, rfl⟩
  · rw [if_neg hj, if_neg hj]; exact ⟨_, rfl⟩
end
end L2

namespace L2
open PySem PySem.Spec PyProof.Rows

/-! ### an instance, its attributes a map -/
structure ObjM (h : Heap) (x dx C : Addr) (mA : Str → Option Value) : Prop where
  obj : h.get? x = some (PySem.W.instObj C dx)
  ns : h.Ns1 dx mA
  ne : dx ≠ x

theorem lookIn_ns {h : Heap} {dx : Addr} {mA : Str → Option Value} (n : h.Ns1 dx mA) : ∃ od, h.get? dx = some od ∧ ∀ name, PySem.W.lookIn name od = some (mA name) := by
  obtain ⟨o, es, ep, ho, hd, hk, _, hm⟩ := n
  refine ⟨o, ho, fun name => ?_⟩
  have e := hm name
  unfold nsFind findBy at e
  rw [← Array.find?_toList] at e
  unfold PySem.W.lookIn
  rw [hd]
  dsimp only
  split
  · rename_i y q
    rw [q] at e
    exact congrArg some e
  · rename_i q
    rw [q] at e
    have a : es.toList.any (·.refKey) = false := by
      rw [List.any_eq_false]
      intro y hy
      obtain ⟨z, t, hkey⟩ := hk y (Array.mem_toList_iff.mp hy)
      simp [DictEntry.refKey, hkey]
    have a' : ¬ es.toList.any (·.refKey) = true := by rw [a]; exact Bool.false_ne_true
    rw [if_neg a']
    exact congrArg some e

theorem ObjM.look {h : Heap} {x dx C : Addr} {mA : Str → Option Value} (I : ObjM h x dx C mA) : ∃ od, PySem.W.InstAt h x (PySem.W.instObj C dx) C (some od) ∧ ∀ name, PySem.W.lookIn name od = some (mA name) :=
  let ⟨od, ho, hl⟩ := lookIn_ns I.ns
  ⟨od, ⟨I.obj, rfl, rfl, ho⟩, hl⟩

section
variable {prog : Program} {w : World} {A : Around} {E : Value → Shared → Prop} {s : Shared} {K : PySem.W.Frag} {x dx C f : Addr} {mA : Str → Option Value} {name : Str} {v : Value}

end

/-! ### the attributes as a list of pairs -/
theorem RelO.some_of {v : V} {o : Option Value} (r : RelO (some v) o) : ∃ u, o = some u ∧ RelV v u := by
  cases o with
  | none => exact (show False from r).elim
  | some u => exact ⟨u, rfl, r⟩
section
variable {P : Program} {w : World} {H H' : Hp} {h h' : Heap} {a C dx : Addr} {fs fs' : List (Str × V)}
theorem ins_get (hok : HOk P w H h) (e : H a = some (.ins C dx fs)) : ∃ mA, ObjM h a dx C mA ∧ (∀ f, RelO (fs.lookup f) (mA f)) ∧ PySem.Within mA (fs.map (·.1)) ∧ fs.length ≤ 1000 ∧ H dx = some (.own a) := by
  obtain ⟨d, z, ne, ob, mA, n, r, q⟩ := (show ObjOk P w H h a (.ins C dx fs) from hok a _ e)
  exact ⟨mA, ⟨ob, n, ne⟩, r, q, z, d⟩
end

/-! ### what of the text a class must have -/
structure Cls (K : PySem.W.Frag) (C : Addr) : Prop where
  pg : PySem.W.plainGet K C Str.empty = true
  hd : PySem.W.hasDictIn K C = true
  po : PySem.W.plainOver K C = true
  sa : PySem.W.findIn K (.ref C) "__setattr__" = some (some (.builtin "object.__setattr__"))
theorem Cls.get {K : PySem.W.Frag} {C : Addr} (c : Cls K C) (f : Str) : PySem.W.plainGet K C f = true := c.pg
section
variable {X : Cx} {pins : List (Addr × Obj)} {σ : St} {H : Hp} {s : Shared} {a C dx : Addr} {fs : List (Str × V)} {f : Str} {v : V} {A : Around} {E : Value → Shared → Prop}

end

/-! ### readings and rules -/
section
variable {X : Cx} {o e value : Expr} {f : Str} {pos pos' tpos : Pos} {ta tv : TE}
end

/-! ### isinstance -/
section
variable {X : Cx} {pins : List (Addr × Obj)} {σ : St} {H : Hp} {s : Shared} {A : Around} {E : Value → Shared → Prop} {Q : Value → Shared → Prop} {c : Value} {b : Bool}
/-- the type of a value, as the fragment's deciders take it; for an instance its class -/
inductive TyOf (K : PySem.W.Frag) (H : Hp) : V → Value → Prop where
  | non : TyOf K H .non (.type "NoneType")
  | bl (x : Bool) : TyOf K H (.bl x) (.type "bool")
  | int (i : Int) : TyOf K H (.int i) (.type "int")
  | str (x : Str) : TyOf K H (.str x) (.type "str")
  | flt (x : UInt64) : TyOf K H (.flt x) (.type "float")
  | lst {a : Addr} {xs : List V} (e : H a = some (.lst xs)) : TyOf K H (.ref a) (.type "list")
  | frz {a : Addr} {o : Obj} {xs : List V} (e : H a = some (.frz o (.lst xs))) : TyOf K H (.ref a) (.type "list")
  | tup {a : Addr} {xs : List V} (e : H a = some (.tup xs)) : TyOf K H (.ref a) (.type "tuple")
  | dK {a : Addr} {kvs : List (Key × V)} (e : H a = some (.dK kvs)) : TyOf K H (.ref a) (.type "dict")
  | dT {a : Addr} {kvs : List (List Key × V)} (e : H a = some (.dT kvs)) : TyOf K H (.ref a) (.type "dict")
  | ins {a C dx : Addr} {fs : List (Str × V)} (e : H a = some (.ins C dx fs)) (cl : Cls K C) (ha : PySem.W.findIn K (.ref C) "__class__" = some (some (.builtin "object.__class__")))
      (hn : PySem.W.specialIn K (.builtin "object.__class__") "__get__" = some (some (.builtin "getset_descriptor.__get__"))) (htk : PySem.W.takesIn K (.builtin "object.__class__") = some true)
      (hm : PySem.W.mroIn K C (.type "object") = some true) : TyOf K H (.ref a) (.ref C)
/-- isinstance(x, c) for one class c, a built-in or an own one: kitOne's answer -/
theorem isinst_ok {x : V} {u t : Value} (I : Inv X pins σ H s) (rx : RelV x u) (ty : TyOf X.K H x t) (e : PySem.W.kitOne X.K t c = some b) (h : ∀ tk, Q (.bool b) { s with toks := tk }) :
    wpAny (model X.prog X.w) A (call (.builtin "isinstance") [u, c]) Q E s := by
  cases ty with
  | non => cases (show u = Value.none from rx); exact PySem.W.kia_one PySem.W.kitx_none I.kIn True.intro e (fun z => nomatch z) h
  | bl y => cases (show u = Value.bool y from rx); exact PySem.W.kia_one PySem.W.kitx_bool I.kIn True.intro e (fun z => nomatch z) h
  | int i => obtain ⟨t, q⟩ := (show ∃ t, u = Value.int i t from rx); cases q; exact PySem.W.kia_one PySem.W.kitx_int I.kIn True.intro e (fun z => nomatch z) h
  | str y => obtain ⟨t, q⟩ := (show ∃ t, u = Value.str y t from rx); cases q; exact PySem.W.kia_one PySem.W.kitx_str I.kIn True.intro e (fun z => nomatch z) h
  | flt y => obtain ⟨t, q⟩ := (show ∃ t, u = Value.float y t from rx); cases q; exact PySem.W.kia_one PySem.W.kitx_float I.kIn True.intro e (fun z => nomatch z) h
  | @lst a xs ea =>
    cases (show u = Value.ref a from rx)
    obtain ⟨_, _, n, _, h1⟩ := (show ObjOk X.prog X.w H s.heap a (.lst xs) from I.hok a _ ea)
    exact PySem.W.kia_one PySem.W.kitx_list I.kIn ⟨_, h1, rfl⟩ e (fun z => nomatch z) h
  | @frz a ob xs ea =>
    cases (show u = Value.ref a from rx)
    obtain ⟨_, _, _, n, _, h1⟩ := (show ObjOk X.prog X.w H s.heap a (.frz ob (.lst xs)) from I.hok a _ ea)
    exact PySem.W.kia_one PySem.W.kitx_list I.kIn ⟨_, h1, rfl⟩ e (fun z => nomatch z) h
  | @tup a xs ea =>
    cases (show u = Value.ref a from rx)
    obtain ⟨_, _, _, p⟩ := (show ObjOk X.prog X.w H s.heap a (.tup xs) from I.hok a _ ea)
    obtain ⟨o, h1, h2, _⟩ := p
    exact PySem.W.kia_one PySem.W.kitx_tuple I.kIn ⟨o, h1, h2⟩ e (fun z => nomatch z) h
  | @dK a kvs ea =>
    cases (show u = Value.ref a from rx)
    obtain ⟨_, _, vs, _, p⟩ := (show ObjOk X.prog X.w H s.heap a (.dK kvs) from I.hok a _ ea)
    obtain ⟨o, es, ep, h1, h2, _⟩ := p
    exact PySem.W.kia_one PySem.W.kitx_dict I.kIn ⟨o, h1, h2.1⟩ e (fun z => nomatch z) h
  | @dT a kvs ea =>
    cases (show u = Value.ref a from rx)
    obtain ⟨_, _, xs, _, o, es, ep, h1, h2, _⟩ := (show ObjOk X.prog X.w H s.heap a (.dT kvs) from I.hok a _ ea)
    exact PySem.W.kia_one PySem.W.kitx_dict I.kIn ⟨o, h1, h2.1⟩ e (fun z => nomatch z) h
  | @ins a C dx fs ea cl ha hn htk hm =>
    cases (show u = Value.ref a from rx)
    obtain ⟨mA, O, _⟩ := ins_get I.hok ea
    obtain ⟨od, J, _⟩ := O.look
    exact PySem.W.kia_one (PySem.W.kitx_own (cl.get _) cl.hd ha hn htk hm) I.kIn J e (fun z => nomatch z) h
end
end L2

namespace L2
open PySem PySem.Spec PyProof.Rows

/-! ### room -/
structure Room (k : Nat) (A : Around) (c : Bool := true) : Prop where
  hc : c = true → A.handled = none
  dp : A.depth + 3 * k + 5 < recursionLimit
  un : A.units + 16 * k + 200 < cLine
theorem Room.hd {k : Nat} {A : Around} (r : Room k A) : A.handled = none := r.hc rfl
theorem Room.mono {j k : Nat} {A : Around} {c : Bool} (r : Room k A c) (h : j ≤ k) : Room j A c := ⟨r.hc, by have := r.dp; omega, by have := r.un; omega⟩
theorem Room.deeper {k : Nat} {A : Around} {c : Bool} (r : Room (k + 1) A c) (env : Env) : Room k (A.deeper env) c :=
  ⟨r.hc, by have := r.dp; show A.depth + 1 + 3 * k + 5 < _; omega, by have := r.un; show A.units + 3 + 16 * k + 200 < _; omega⟩
theorem Room.depth {k : Nat} {A : Around} {c : Bool} (r : Room k A c) : A.depth < recursionLimit := by have := r.dp; omega
theorem Room.units {k : Nat} {A : Around} {c : Bool} (r : Room k A c) : A.units + 64 < cLine := by have := r.un; omega
/-! ### argument lists and displays -/
def tNil : TA := fun _ H Q => Q [] H
def tCons (ta : TE) (tr : TA) : TA := fun σ H Q => ta σ H fun x H1 => tr σ H1 fun xs H2 => Q (x :: xs) H2
section
variable {X : Cx} {e : Expr} {es : List Expr} {te : TE} {t : TA} {pos : Pos}
theorem pa_nil : PA X [] tNil := fun _ _ _ _ H Q I h => Calls.spliced_nil ⟨[], H, I, .nil, h⟩
theorem pa_cons (ha : PE X e te) (hr : PA X es t) (hs : starEach (e :: es) X.env = (false, eval e X.env) :: starEach es X.env := by rfl) : PA X (e :: es) (tCons te t) := by
  intro pos pins s σ H Q I h
  rw [hs]
  show wpAny _ _ (spliced ((false, eval e X.env) :: backTo pos (starEach es X.env))) _ _ s
  refine Calls.spliced_cons (thn (ha pins s σ H _ I h) fun u s1 ⟨x, H1, I1, r1, q1⟩ => ?_)
  exact thn (hr pos pins s1 σ H1 _ I1 q1) fun us s2 ⟨xs, H2, I2, r2, q2⟩ => ⟨x :: xs, H2, I2, .cons r1 r2, q2⟩

/-- a tuple, a list of written items -/
def tTup (t : TA) : TE := fun σ H Q => t σ H fun xs H1 => xs.length ≤ sizeLine ∧ ∀ p, H1 p = none → Q (.ref p) (upd H1 p (.tup xs))
def tLst (t : TA) : TE := fun σ H Q => t σ H fun xs H1 => xs.length ≤ sizeLine ∧ ∀ p, H1 p = none → Q (.ref p) (upd H1 p (.lst xs))
theorem pe_tup {x1} (h : PA X es t) : PE X (.Tuple es x1 pos) (tTup t) := by
  intro pins s σ H Q I hq
  refine wpAny_Tuple_spliced (thn (h pos pins s σ H _ I hq) fun us s1 ⟨xs, H1, I1, r, z, q⟩ => ⟨by rw [← r.length]; exact z, ?_⟩)
  have hf : H1 s1.heap.objs.size = none := I1.hok.fresh (Nat.le_refl _)
  refine ⟨.ref s1.heap.objs.size, upd H1 s1.heap.objs.size (.tup xs), I1.laid (t' := s1.toks) (fun b u e => Heap.get?_push_of_some _ e) (Nat.le_refl _) ?_, rfl, q _ hf⟩
  exact ⟨z, us, r, ⟨_, Heap.get?_push_size _ rfl, rfl, _, rfl⟩⟩
theorem pe_lst (h : PA X es t) : PE X (.List es pos) (tLst t) := by
  intro pins s σ H Q I hq
  refine wpAny_List_spliced (thn (h pos pins s σ H _ I hq) fun us s1 ⟨xs, H1, I1, r, z, q⟩ => ⟨by rw [← r.length]; exact z, ?_⟩)
  have hf : H1 s1.heap.objs.size = none := I1.hok.fresh (Nat.le_refl _)
  refine ⟨.ref s1.heap.objs.size, upd H1 s1.heap.objs.size (.lst xs), I1.laid (t' := s1.toks) (fun b u e => Heap.get?_push_of_some _ e) (Nat.le_refl _) ?_, rfl, q _ hf⟩
  exact ⟨z, us, 0, r, Heap.get?_push_size _ rfl⟩
end

/-! ### what a def promises -/
/-- a def's promise: the bound arguments in the parameters' order, the heap, the wanted end, the wanted exception -/
abbrev Sp := List V → Hp → VK → XK → Prop
/-- how an exception lies behind a call (file 08 gives it): the callers' frames, abstract heap and state ahead of the call, the wish, the exception, the state -/
abbrev CXT := List Env → Hp → Shared → XK → Value → Shared → Prop

/-- the state at a call -/
structure Env0 (P : Program) (w : World) (K : PySem.W.Frag) (mg : Str → Option Value) (base : Heap) (A : Around) (outer : List Env) (s : Shared) (H : Hp) : Prop where
  frames : A.frames = some outer
  mod : Mod K mg base
  bs : ∀ b o, base.get? b = some o → s.heap.get? b = some o ∧ H b = none
  bsz : base.objs.size ≤ s.heap.objs.size
  funs : s.heap.FunFrames base outer
  frf : ∀ b ∈ frs outer, H b = none
  hok : HOk P w H s.heap
  bare : AllBare s.gens
/-- a call's end -/
def CE (outer : List Env) (P : Program) (w : World) (H : Hp) (s : Shared) (Q : VK) (u : Value) (s' : Shared) : Prop :=
  ∃ v H', s'.os = s.os ∧ AllBare s'.gens ∧ Un (frs outer) [] H H' s.heap s'.heap ∧ HOk P w H' s'.heap ∧ RelV v u ∧ Q v H'
def CR (CX : CXT) (outer : List Env) (P : Program) (w : World) (H : Hp) (s : Shared) (Q : VK) (E : XK) (r : Result) (s' : Shared) : Prop :=
  match r with
  | .ok (.ret u) => CE outer P w H s Q u s'
  | .ok _ => False
  | .error e => CX outer H s E e s'
structure FnOk (P : Program) (w : World) (K : PySem.W.Frag) (mg : Str → Option Value) (base : Heap) (CX : CXT) (k : Nat) (f : Addr) (fd : FuncData) (ps : List Str) (sp : Sp) (c : Bool := true) : Prop where
  len : ∀ vs H Q E, sp vs H Q E → vs.length = ps.length
  run : ∀ (A : Around) (outer : List Env) (s : Shared) (H : Hp) (args : Args) (us : List Value) (vs : List V) (Q : VK) (E : XK), Room k A c → Env0 P w K mg base A outer s H → BindsTo s fd args (ps.zip us) → Vals vs us → sp vs H Q E →
    codeAny (model P w) A (.call (.ref f) args) (CR CX outer P w H s Q E) s
section
variable {X : Cx} {pins : List (Addr × Obj)} {σ : St} {H : Hp} {s s' : Shared}
/-- from a body: what a callee wants -/
theorem Inv.env0 (I : Inv X pins σ H s) : Env0 X.prog X.w X.K X.mg X.base X.A X.stack s H :=
  ⟨I.ok.frames, I.ok.mod, I.bs, Nat.le_trans I.ok.bsz I.sz, I.stack, I.stkFree, I.hok, I.bare⟩
/-- behind a call -/
theorem Inv.after {Q : VK} {u : Value} (I : Inv X pins σ H s) (h : CE X.stack X.prog X.w H s Q u s') : EP X pins σ Q u s' := by
  obtain ⟨v, H', os, bare, un, hok, r, q⟩ := h
  obtain ⟨hh, g, d, t, os'⟩ := s'
  obtain rfl : os' = s.os := os
  exact ⟨v, H', I.call (h' := hh) (g' := g) (d' := d) (t' := t) (ch := []) un hok bare (fun b z => absurd z (by simp)), r, q⟩
end

/-! ### calls -/
/-- f(..): the written arguments, then the defaults dvs; E: what is wanted of an exception -/
def tCall (sp : Sp) (dvs : List V) (E : XK) (t : TA) : TE := fun σ H Q => t σ H fun vs H1 => sp (vs ++ dvs) H1 Q E
/-- how the parameters are bound: us the positional arguments, kw the keywords' values by name, ds the defaults that fill up -/
def Binds (K : PySem.W.Frag) (fd : FuncData) (ps : List Str) (ds : List Value) : Prop :=
  ∀ (s : Shared) (us : List Value), K.In s.heap → (us ++ ds).length = ps.length → BindsTo s fd ⟨us, []⟩ (ps.zip (us ++ ds))
/-- every parameter is given -/
theorem Binds.all {K : PySem.W.Frag} {fd : FuncData} {ps : List Str} (h : ∀ us : List Value, us.length = ps.length → bindArgs fd ⟨us, []⟩ = pure (ps.zip us)) : Binds K fd ps [] := fun s us _ hl => by
  rw [List.append_nil] at hl ⊢
  exact .of_eq (h us hl)

/-- an exception of a callee reaches what this body wants of exceptions -/
def Passes (CX : CXT) (X : Cx) (E : XK) : Prop := ∀ (pins : List (Addr × Obj)) (σ : St) (H : Hp) (s : Shared) (e : Value) (s' : Shared), Inv X pins σ H s → CX X.stack H s E e s' → X.xe e s'

section
variable {X : Cx} {CX : CXT} {k : Nat} {f C : Addr} {fd : FuncData} {ps : List Str} {sp : Sp} {dvs : List V} {ds : List Value} {E : XK} {x m : Str} {p pos apos : Pos} {e o : Expr} {es : List Expr} {ta : TE} {t : TA}

/-- the callee runs -/
theorem run_fn {pins : List (Addr × Obj)} {σ : St} {H : Hp} {s : Shared} {Q : VK} {us : List Value} {vs : List V} {cc : Bool} (F : FnOk X.prog X.w X.K X.mg X.base CX k f fd ps sp cc) (hr : Room k X.A cc) (hb : Binds X.K fd ps ds) (hd : Vals dvs ds) (hx : Passes CX X E)
    (I : Inv X pins σ H s) (r : Vals vs us) (h : sp (vs ++ dvs) H Q E) : wpAny (model X.prog X.w) X.A (call (.ref f) us) (EP X pins σ Q) X.xe s := by
  have r2 : Vals (vs ++ dvs) (us ++ ds) := r.append hd
  have hl : (us ++ ds).length = ps.length := by rw [← r2.length]; exact F.len _ _ _ _ h
  refine wpAny_call (codeAny_mono (F.run X.A X.stack s H ⟨us, []⟩ (us ++ ds) (vs ++ dvs) Q E hr I.env0 (hb s us I.kIn hl) r2 h) fun r s' hq => ?_)
  cases r with
  | error e => exact hx pins σ H s e s' I hq
  | ok fl =>
    cases fl with
    | ret u => exact I.after hq
    | next => exact False.elim hq
    | brk => exact False.elim hq
    | cont => exact False.elim hq

theorem pe_call {cc : Bool} (F : FnOk X.prog X.w X.K X.mg X.base CX k f fd ps sp cc) (hr : Room k X.A cc) (hg : Gl X x) (hm : X.mg x = some (.ref f)) (hk : PySem.W.keepIn X.K (.ref f) = true) (hb : Binds X.K fd ps ds) (hd : Vals dvs ds) (hx : Passes CX X E)
    (ha : PA X (e :: es) t) (hdb : (x == ("__debug__" : Str)) = false := by decide) (he : starEach (e :: es) X.env = (false, eval e X.env) :: starEach es X.env := by rfl) (hpl : (backTo pos (starEach es X.env)).any (·.1) = false := by rfl) :
    PE X (.Call (.Name x p) (e :: es) [] pos) (tCall sp dvs E t) := by
  intro pins s σ H Q I h
  refine wpAny_Call_Name_kw (ld_glob I hg hm ?_ hdb)
  refine PySem.W.callWith_K (h₀ := X.base) I.ok.mod.kin hk (thn (ha pos pins s σ H _ I h) fun us s1 ⟨vs, H1, I1, r, q⟩ => ⟨I1.kIn, ?_⟩) he hpl
  exact run_fn F hr hb hd hx I1 r q
end

/-! ### keywords -/
section
variable {X : Cx} {CX : CXT} {k : Nat} {f C : Addr} {fd : FuncData} {ps ks : List Str} {sp : Sp} {E : XK} {x m : Str} {p pos apos kpos : Pos} {e o : Expr} {es : List Expr} {kws : List Keyword} {te ta : TE} {t tk : TA} {nm : Option Str}
variable {g : List Value → List Value → List Value} {gV : List V → List V → List V}
end

/-! ### a def's body keeps its promise -/
/-- names: the parameters first -/
structure FnScope (N P : List Str) (sc : Scope) : Prop where
  kind : sc.kind = .function
  co : sc.isCoroutine = false
  gen : sc.isGenerator = false
  nd : N.Nodup
  pre : N.take P.length = P
  par : ∀ x ∈ P, sc.names.lookup x = some .local ∨ sc.names.lookup x = some .cell
  nofree : ∀ y ∈ sc.names, y.2 ≠ .free

theorem bindL_out {kindOf : Str → Option NameKind} {x : Str} : ∀ {binds : List (Str × Value)} {m : Str → Option Value}, (∀ v, (x, v) ∉ binds) → bindL kindOf binds m x = m x
  | [], _, _ => rfl
  | (n, v) :: r, m, h => by
    unfold bindL
    rw [bindL_out fun w hw => h w (List.mem_cons_of_mem _ hw)]
    split
    · have : x ≠ n := by rintro rfl; exact h v List.mem_cons_self
      simp [this]
    · rfl
theorem bindC_out {kindOf : Str → Option NameKind} {x : Str} : ∀ {binds : List (Str × Value)} {m : Str → Option Value}, (∀ v, (x, v) ∉ binds) → bindC kindOf binds m x = m x
  | [], _, _ => rfl
  | (n, v) :: r, m, h => by
    unfold bindC
    rw [bindC_out fun w hw => h w (List.mem_cons_of_mem _ hw)]
    split
    · rfl
    · have : x ≠ n := by rintro rfl; exact h v List.mem_cons_self
      simp [this]
theorem bindL_get {kindOf : Str → Option NameKind} {x : Str} {v : Value} : ∀ {P : List Str} {vs : List Value} {i : Nat} {m : Str → Option Value}, P.Nodup → P[i]? = some x → vs[i]? = some v → kindOf x = some .local →
    bindL kindOf (P.zip vs) m x = some v
  | [], _, _, _, _, h, _, _ => by simp at h
  | _ :: _, [], _, _, _, _, h, _ => by simp at h
  | p :: P, w :: vs, 0, m, nd, h1, h2, hk => by
    simp at h1 h2; subst h1; subst h2
    show bindL kindOf ((p, w) :: P.zip vs) m p = _
    unfold bindL
    rw [bindL_out fun v hv => (List.nodup_cons.mp nd).1 (List.of_mem_zip hv).1, if_pos hk]
    simp
  | p :: P, w :: vs, i + 1, m, nd, h1, h2, hk => by
    show bindL kindOf ((p, w) :: P.zip vs) m x = _
    unfold bindL
    exact bindL_get (i := i) (List.nodup_cons.mp nd).2 (by simpa using h1) (by simpa using h2) hk
theorem bindC_get {kindOf : Str → Option NameKind} {x : Str} {v : Value} : ∀ {P : List Str} {vs : List Value} {i : Nat} {m : Str → Option Value}, P.Nodup → P[i]? = some x → vs[i]? = some v → kindOf x ≠ some .local →
    bindC kindOf (P.zip vs) m x = some v
  | [], _, _, _, _, h, _, _ => by simp at h
  | _ :: _, [], _, _, _, _, h, _ => by simp at h
  | p :: P, w :: vs, 0, m, nd, h1, h2, hk => by
    simp at h1 h2; subst h1; subst h2
    show bindC kindOf ((p, w) :: P.zip vs) m p = _
    unfold bindC
    rw [bindC_out fun v hv => (List.nodup_cons.mp nd).1 (List.of_mem_zip hv).1, if_neg hk]
    simp
  | p :: P, w :: vs, i + 1, m, nd, h1, h2, hk => by
    show bindC kindOf ((p, w) :: P.zip vs) m x = _
    unfold bindC
    exact bindC_get (i := i) (List.nodup_cons.mp nd).2 (by simpa using h1) (by simpa using h2) hk

/-- the names' values at the entry -/
def start (N : List Str) (vs : List V) : St := vs.map some ++ List.replicate (N.length - vs.length) none

/-- the context of a def's body, at its entry; an exception leaves the frame, then lies as CX says -/
def cxOf (CX : CXT) (P : Program) (w : World) (K : PySem.W.Frag) (mg : Str → Option Value) (base : Heap) (N : List Str) (qual : Str) (scope : Scope) (f : Addr) (cd : Value) (A : Around) (outer : List Env) (s : Shared) (H : Hp) (E : XK) (c : Bool := true) : Cx where
  prog := P
  w := w
  K := K
  mg := mg
  base := base
  A := A.deeper (envOfC qual scope s.heap.objs.size f cd)
  N := N
  s₀ := s
  H₀ := H
  env := envOfC qual scope s.heap.objs.size f cd
  outer := outer
  stack := envOfC qual scope s.heap.objs.size f cd :: outer
  ex := []
  calm := c
  fn := fun _ => true
  pn := []
  xe := fun e s' => wpAny (model P w) (A.deeper (envOfC qual scope s.heap.objs.size f cd)) (leaving (envOfC qual scope s.heap.objs.size f cd) e) (fun _ s'' => CX outer H s E e s'') (fun e' s'' => CX outer H s E e' s'') s'

theorem cell_has {sc : Scope} {n : Nat} {x : Str} (h : sc.names.lookup x = some .cell) : ∃ c, (cellsFrom n sc.names []).lookup x = some c := by
  have q := PySem.W.cellsFrom_some sc.names n [] (.inl h)
  exact Option.isSome_iff_exists.mp q

theorem inv_start {CX : CXT} {P : Program} {w : World} {K : PySem.W.Frag} {mg : Str → Option Value} {base : Heap} {N ps : List Str} {qual : Str} {scope : Scope} {f : Addr} {cd : Value} {A : Around} {outer : List Env} {s s1 : Shared} {H : Hp} {E : XK} {us : List Value} {vs : List V} {c : Bool}
    (S : FnScope N ps scope) (hd : c = true → A.handled = none) (e0 : Env0 P w K mg base A outer s H) (hl : vs.length = ps.length) (r : Vals vs us)
    (x : InCallC s s.heap.objs.size (bindL (envOfC qual scope s.heap.objs.size f cd).kindOf (ps.zip us) fun _ => none) (cellsFrom (s.heap.objs.size + 1) scope.names []) (bindC (envOfC qual scope s.heap.objs.size f cd).kindOf (ps.zip us) fun _ => none) s1) :
    Inv (cxOf CX P w K mg base N qual scope f cd A outer s H E c) [] (start N vs) H s1 := by
  have hpl : ps.length ≤ N.length := by have := congrArg List.length S.pre; rw [List.length_take] at this; omega
  obtain ⟨h1, tk, rfl, hk⟩ := x.done
  have noA : ∀ b : Addr, b ∉ (cxOf CX P w K mg base N qual scope f cd A outer s H E c).ex := fun b z => absurd (show b ∈ ([] : List Addr) from z) (by simp)
  refine ⟨⟨e0.mod, S.kind, rfl, rfl, Nat.le_refl _, fun y z c' h1 h2 => ?_, fun y hy => ?_, fun y c _ h => ?_, hd, Around.frames_deeper e0.frames, .inr ⟨rfl, rfl⟩, fun b z => absurd z (noA b), e0.bs, e0.bsz, fun b _ _ => noA b, fun b z => absurd z (noA b), e0.funs, e0.frf⟩,
    rfl, e0.bare, Un.kept hk, ⟨_, x.toInCall.ns, fun i y v h1 h2 h3 => ?_⟩, fun y c h => ⟨_, x.cell y c h⟩, e0.hok.fresh (Nat.le_refl _), fun y c h => ?_, fun p hp => absurd (show p ∈ ([] : List (Addr × Obj)) from hp) (by simp), e0.hok.kept hk, ?_⟩
  · exact name_of_addr x.apart (PySem.mem_of_lookup h1) (PySem.mem_of_lookup h2)
  · have hy : scope.names.lookup y = some .cell ∨ scope.names.lookup y = some .free := hy
    rcases hy with hy | hy
    · exact cell_has hy
    · exact absurd rfl (S.nofree _ (PySem.mem_of_lookup hy))
  · exact Nat.le_of_lt (x.above y c (PySem.mem_of_lookup h))
  · have hi : i < vs.length := by
      unfold start at h2
      by_cases hi : i < vs.length
      · exact hi
      · rw [List.getElem?_append_right (by simpa using hi)] at h2
        rw [List.getElem?_replicate] at h2
        split at h2 <;> cases h2
    have ha : vs[i]? = some v := by
      unfold start at h2
      rw [List.getElem?_append_left (by simpa using hi), List.getElem?_map] at h2
      cases e : vs[i]? with
      | none => rw [e] at h2; cases h2
      | some a => rw [e] at h2; cases h2; rfl
    obtain ⟨u, hu, rv⟩ := r.get ha
    have hp : ps[i]? = some y := by
      rw [← S.pre, List.getElem?_take_of_lt (by omega)]; exact h1
    have ndP : ps.Nodup := by rw [← S.pre]; exact S.nd.sublist (List.take_sublist _ _)
    refine ⟨u, rv, ?_⟩
    rcases S.par y (List.mem_of_getElem? hp) with k | k
    · exact .inl ⟨k, bindL_get ndP hp hu k⟩
    · obtain ⟨c, e⟩ := cell_has (n := s.heap.objs.size + 1) k
      refine .inr ⟨.inl k, c, e, ?_⟩
      have q := x.cell y c e
      rw [bindC_get ndP hp hu (by show scope.names.lookup y ≠ _; rw [k]; decide)] at q
      exact q
  · exact e0.hok.fresh (Nat.le_of_lt (x.above y c (PySem.mem_of_lookup h)))
  · unfold start
    show _ = N.length
    rw [List.length_append, List.length_map, List.length_replicate]
    omega

/-- THE RULE: a def (or a method) of the text, by its body. The body's reading t is chosen for each entry; it is run at the parameters' values -/
theorem fn_of {CX : CXT} {P : Program} {w : World} {K : PySem.W.Frag} {mg : Str → Option Value} {base : Heap} {k : Nat} {f : Addr} {name qual : Str} {params : Arguments} {body : List Stmt} {scope : Scope} {dV kV doc pm cdv ct oc : Value} {an od : Option Addr}
    {osl : Array (Option Value)} {N ps : List Str} {sp : Sp} {c : Bool} (lk : K.lookup f = some ⟨oc, od, .func (PySem.W.fnOf name qual params body scope dV kV doc pm an cdv ct), osl⟩) (hcd : PySem.W.codeIn K cdv qual = true) (S : FnScope N ps scope)
    (len : ∀ vs H Q E, sp vs H Q E → vs.length = ps.length)
    (hbody : ∀ (A : Around) (outer : List Env) (s : Shared) (H : Hp) (vs : List V) (Q : VK) (E : XK), Room k (A.deeper (envOfC qual scope s.heap.objs.size f cdv)) c → sp vs H Q E →
      ∃ t, PSs (cxOf CX P w K mg base N qual scope f cdv A outer s H E c) body t ∧ t { nx := fun _ H' => Q .non H', rt := Q } (start N vs) H) :
    FnOk P w K mg base CX (k + 1) f (PySem.W.fnOf name qual params body scope dV kV doc pm an cdv ct) ps sp c := by
  refine ⟨len, fun A outer s H args us vs Q E hr e0 hb r hsp => ?_⟩
  have hl := len _ _ _ _ hsp
  have KX : K.In s.heap := e0.mod.kin.keeps fun b o e => (e0.bs b o e).1
  have lim : s.heap.NoLimit := e0.mod.nolimit.keeps fun b o e => (e0.bs b o e).1
  have hkind : ∀ y ∈ ps.zip us, scope.names.lookup y.1 = some .local ∨ (scope.names.lookup y.1 = some .cell ∧ ((cellsFrom (s.heap.objs.size + 1) scope.names []).lookup y.1).isSome = true) := fun ⟨n, v⟩ hy => by
    rcases S.par n (List.of_mem_zip hy).1 with q | q
    · exact .inl q
    · exact .inr ⟨q, PySem.W.cellsFrom_some _ _ _ (.inl q)⟩
  refine codeAny_call_function hr.depth (KX _ _ lk) rfl S.co S.gen rfl (PySem.W.codeRec_of KX hcd) (hb _ _ _ _ ?_)
  refine wpAny_newFunctionEnv_cells S.kind hkind fun env he s1 x => ?_
  subst he
  refine ⟨lim.keeps x.toInCall.keep, codeAny_func ?_⟩
  obtain ⟨t, ht, hq⟩ := hbody A outer s H vs Q E (hr.deeper _) hsp
  have I : Inv (cxOf CX P w K mg base N qual scope f cdv A outer s H E c) [] (start N vs) H s1 := inv_start S hr.hc e0 hl r x
  refine wpAny_mono (ht [] s1 (start N vs) H _ I hq) (fun fl s' hs => ?_) fun e s' hs => hs
  have fin : ∀ {σ' : St} {H' : Hp} {v : V} {u : Value}, Inv (cxOf CX P w K mg base N qual scope f cdv A outer s H E c) [] σ' H' s' → RelV v u → Q v H' → CE outer P w H s Q u s' :=
    fun {σ' H' v u} J rv q => ⟨v, H', J.os, J.bare, J.base, J.hok, rv, q⟩
  cases fl with
  | ret u =>
    obtain ⟨v, σ', H', J, rv, q⟩ := hs
    exact fin J rv q
  | next =>
    obtain ⟨σ', H', J, q⟩ := hs
    exact fin (v := V.non) (u := Value.none) J rfl q
  | brk =>
    obtain ⟨_, _, _, q⟩ := hs
    exact False.elim q
  | cont =>
    obtain ⟨_, _, _, q⟩ := hs
    exact False.elim q
end L2

namespace L2
open PySem PySem.Spec PyProof.Rows
section
variable {X : Cx} {x : Str} {p pos : Pos} {e : Expr} {es : List Expr} {t : TA} {id T : String} {r : List V → Hp → VK → Prop}

def tCB (r : List V → Hp → VK → Prop) (t : TA) : TE := fun σ H Q => t σ H fun vs H1 => r vs H1 Q
/-- f(e, ..), f a built-in function -/
theorem pe_callB (hc : CallR X (.builtin id) r) (hg : Gl X x) (hm : X.mg x = none) (hv : bootBuiltins x = some (.builtin id)) (ha : PA X (e :: es) t) (hn : x ≠ "__name__" := by decide) (hdb : (x == ("__debug__" : Str)) = false := by decide)
    (he : starEach (e :: es) X.env = (false, eval e X.env) :: starEach es X.env := by rfl) (hpl : (backTo pos (starEach es X.env)).any (·.1) = false := by rfl) : PE X (.Call (.Name x p) (e :: es) [] pos) (tCB r t) := by
  intro pins s σ H Q I h
  refine wpAny_Call_Name_kw (ld_blt I hg hm hv ?_ hn hdb)
  exact PyProof.Rows.callWith_builtin1 (thn (ha pos pins s σ H _ I h) fun us s1 ⟨vs, H1, I1, r1, q1⟩ => hc pins s1 σ H1 vs us Q I1 r1 q1) he hpl
/-- T(e, ..), T a built-in type -/
theorem pe_callTy (hc : CallR X (.type T) r) (hg : Gl X x) (hm : X.mg x = none) (hv : bootBuiltins x = some (.type T)) (ha : PA X (e :: es) t) (hn : x ≠ "__name__" := by decide) (hdb : (x == ("__debug__" : Str)) = false := by decide)
    (he : starEach (e :: es) X.env = (false, eval e X.env) :: starEach es X.env := by rfl) (hpl : (backTo pos (starEach es X.env)).any (·.1) = false := by rfl) : PE X (.Call (.Name x p) (e :: es) [] pos) (tCB r t) := by
  intro pins s σ H Q I h
  refine wpAny_Call_Name_kw (ld_blt I hg hm hv ?_ hn hdb)
  exact PyProof.Rows.callWith_type1 (thn (ha pos pins s σ H _ I h) fun us s1 ⟨vs, H1, I1, r1, q1⟩ => hc pins s1 σ H1 vs us Q I1 r1 q1) he hpl
end
end L2

namespace HT
open PySem PyProof.Rows

section
open PySem.SeqAt
open PySem.AutoSeq1 (wpAny_loadPart')
open PySem.MeetsSeq PySem.MeetsSeq2 PySem.MeetsSeq3

end

section
variable {prog : Program} {w : World} {A : Around} {E : Value → Shared → Prop} {s : Shared}

/-! ### t[a:b], not the whole -/
/-- a slice's bound as a place among n (d where it is left out) -/
def sIx (n d : Nat) : Option Int → Nat
  | none => d
  | some v => if v < 0 then (v + (n : Int)).toNat else min v.toNat n
theorem sIx_none (n d : Nat) : sIx n d none = d := rfl
theorem sIx_nat (n d k : Nat) : sIx n d (some (k : Int)) = min k n := by
  show (if (k : Int) < 0 then ((k : Int) + (n : Int)).toNat else min (k : Int).toNat n) = min k n
  rw [if_neg (by omega), Int.toNat_natCast]
theorem sIx_le (n d : Nat) (hd : d ≤ n) (o : Option Int) : sIx n d o ≤ n := by
  cases o with
  | none => exact hd
  | some v =>
    show (if v < 0 then (v + (n : Int)).toNat else min v.toNat n) ≤ n
    by_cases hv : v < 0
    · rw [if_pos hv]; omega
    · rw [if_neg hv]; exact Nat.min_le_right _ _
theorem clip_eq (v : Int) (n d : Nat) : (if v < 0 then max (v + (n : Int)) 0 else min v (n : Int)) = ((sIx n d (some v) : Nat) : Int) := by
  show (if v < 0 then max (v + (n : Int)) 0 else min v (n : Int)) = (((if v < 0 then (v + (n : Int)).toNat else min v.toNat n) : Nat) : Int)
  by_cases hv : v < 0
  · simp only [if_pos hv]; omega
  · simp only [if_neg hv]; omega
theorem adjust_gen (lo hi : Option Int) (n : Nat) : Builtin.Slice.sliceAdjust lo hi 1 (n : Int) = (((sIx n 0 lo : Nat) : Int), ((sIx n n hi : Nat) : Int)) := by
  have h1 : ¬ ((1 : Int) < 0) := by omega
  unfold Builtin.Slice.sliceAdjust
  simp only [h1, if_false]
  refine Prod.ext ?_ ?_
  · cases lo with
    | none => rfl
    | some v => exact clip_eq v n 0
  · cases hi with
    | none => rfl
    | some v => exact clip_eq v n n
theorem places_gen (i j : Nat) : Builtin.Slice.slicePlaces (i : Int) (j : Int) 1 = j - i := by
  unfold Builtin.Slice.slicePlaces
  have h1 : (1 : Int) > 0 := by omega
  simp only [h1, if_true, Int.ediv_one]
  split <;> omega
theorem slicePart_ {v : Value} {o : Option Int} {Q : Option Int → Shared → Prop} (p : IsPart v o) (h : Q o s) : wpAny (model prog w) A (Builtin.Slice.slicePartIndex v) Q E s := by
  cases p with
  | none => exact slicePart_none h
  | int i t => exact slicePart_int h
theorem sliceApplied_gen {sl : Addr} {vl vu : Value} {lo hi : Option Int} {n : Nat} {Q : Int × Int × Nat → Shared → Prop} (hs : s.heap.IsSliceOf sl vl vu .none) (pl : IsPart vl lo) (pu : IsPart vu hi)
    (h : Q (((sIx n 0 lo : Nat) : Int), 1, sIx n n hi - sIx n 0 lo) s) : wpAny (model prog w) A (Builtin.Slice.sliceApplied (.ref sl) (pure (n : Int))) Q E s := by
  obtain ⟨os, hos, hcs, hds⟩ := id hs
  unfold Builtin.Slice.sliceApplied Builtin.Slice.sliceFields
  refine wpAny_bind (wpAny_bind (wpAny_field hos hds (x := vl) rfl (wpAny_bind (wpAny_field hos hds (x := vu) rfl (wpAny_bind (wpAny_field hos hds (x := .none) rfl (wpAny_pure ?_)))))))
  refine wpAny_bind (slicePart_none ?_)
  show wpAny _ _ (if ((1 : Int) == 0) = true then _ else _) _ _ s
  rw [if_neg (by decide)]
  refine wpAny_bind (slicePart_ pl (wpAny_bind (slicePart_ pu (wpAny_bind (wpAny_pure ?_)))))
  show wpAny _ _ (match Builtin.Slice.sliceAdjust lo hi 1 (n : Int) with | (lo, hi) => pure (lo, (1 : Int), Builtin.Slice.slicePlaces lo hi 1)) _ _ s
  rw [adjust_gen lo hi n]
  show wpAny _ _ (pure (((sIx n 0 lo : Nat) : Int), (1 : Int), Builtin.Slice.slicePlaces ((sIx n 0 lo : Nat) : Int) ((sIx n n hi : Nat) : Int) 1)) _ _ s
  rw [places_gen]
  exact wpAny_pure h
theorem pick_gen (xs : Array Value) (i k : Nat) : ((List.range k).filterMap fun (m : Nat) => xs[((i : Int) + (m : Int) * 1).toNat]?).toArray = ((xs.toList.drop i).take k).toArray := by
  have e : (fun (m : Nat) => xs[((i : Int) + (m : Int) * 1).toNat]?) = fun m => xs[i + m]? := by
    funext m
    have : ((i : Int) + (m : Int) * 1).toNat = i + m := by omega
    rw [this]
  rw [e]
  have := pick_run xs i k
  rw [List.filterMap_map] at this
  have e2 : ((fun x => xs[x]?) ∘ fun x => i + x) = fun m => xs[i + m]? := rfl
  rw [e2] at this
  rw [this]

theorem getItem_tuple_cut {t sl : Addr} {items : Array Value} {vl vu : Value} {lo hi : Option Int} {Q : Value → Shared → Prop} (ht : IsTup s.heap t items) (hs : s.heap.IsSliceOf sl vl vu .none) (pl : IsPart vl lo) (pu : IsPart vu hi)
    (hw : ¬ (sIx items.size 0 lo = 0 ∧ sIx items.size items.size hi = items.size))
    (h : Q (.ref s.heap.objs.size) { s with heap := s.heap.push { cls := .type "tuple", data := .seq ((items.toList.drop (sIx items.size 0 lo)).take (sIx items.size items.size hi - sIx items.size 0 lo)).toArray } })
    (hsz : items.size ≤ sizeLine) : wpAny (model prog w) A (getItem (.ref t) (.ref sl)) Q E s := by
  have htake : sizeOk (.seq ((items.toList.drop (sIx items.size 0 lo)).take (sIx items.size items.size hi - sIx items.size 0 lo)).toArray) := by
    show ((items.toList.drop (sIx items.size 0 lo)).take (sIx items.size items.size hi - sIx items.size 0 lo)).toArray.size ≤ sizeLine
    rw [List.size_toArray, List.length_take, List.length_drop, Array.length_toList]
    omega
  have hj : sIx items.size items.size hi ≤ items.size := sIx_le _ _ (Nat.le_refl _) hi
  obtain ⟨os, hos, hcs, hds⟩ := id hs
  have hTs : s.TypeIs (.ref sl) "slice" := ⟨os, hos, hcs⟩
  unfold getItem
  try with_reducible refine wpAny_holding ?_
  first | refine wpAny_bind (wpAny_pure ?_) | skip
  refine wpAny_bind (wpAny_sequenceKey ht.typeIs (by decide) ?_)
  refine wpAny_bind (wpAny_callSpecial?_slot (name := Str.ofString "__getitem__") ht.typeIs PyProof.Rows.slot_tuple_getitem
    (wpAny_call_entry PyProof.Rows.slot_tuple_getitem ht.typeIs entry_tuple_getitem ?_ (args_tuple_getitem _ _)))
  show wpAny _ _ (Builtin.Tuple.tupleItemsOf (.ref t) >>= _) _ _ s
  refine wpAny_bind (tupleItemsOf_ ht ?_)
  refine wpAny_bind (wpAny_typeOf hTs ?_)
  rw [if_pos (by decide)]
  refine wpAny_bind (sliceApplied_gen hs pl pu ?_)
  have hno : ¬ ((((sIx items.size 0 lo : Nat) : Int) == 0 && (1 : Int) == 1 && (sIx items.size items.size hi - sIx items.size 0 lo) == items.size) = true) := by
    intro q
    rw [Bool.and_eq_true, Bool.and_eq_true] at q
    have q1 : ((sIx items.size 0 lo : Nat) : Int) = 0 := eq_of_beq q.1.1
    have q2 : sIx items.size items.size hi - sIx items.size 0 lo = items.size := eq_of_beq q.2
    exact hw ⟨by omega, by omega⟩
  show wpAny _ _ (if (((sIx items.size 0 lo : Nat) : Int) == 0 && (1 : Int) == 1 && (sIx items.size items.size hi - sIx items.size 0 lo) == items.size) = true then _ else _) _ _ s
  rw [if_neg hno, pick_gen]
  first
    | exact wpAny_bind (m := Builtin.Tuple.tupleExact _) (wpAny_newObj_type (wpAny_pure ⟨_, rfl, wpAny_pure h⟩) htake)
    | exact wpAny_bind (m := Builtin.Tuple.tupleExact _) (wpAny_newObj_type (wpAny_bind (wpAny_pure (wpAny_pure ⟨_, rfl, wpAny_pure h⟩))) htake)
    | exact wpAny_bind (wpAny_bind (m := Builtin.Tuple.tupleExact _) (wpAny_newObj_type (wpAny_pure (wpAny_pure ⟨_, rfl, wpAny_pure h⟩)) htake))
    | exact wpAny_bind (wpAny_bind (m := Builtin.Tuple.tupleExact _) (wpAny_newObj_type (wpAny_pure ⟨_, rfl, wpAny_pure h⟩) htake))
end
end HT

namespace L2
open PySem PySem.Spec PyProof.Rows

/-! ### the parts of a slice -/
abbrev TO := St → Hp → (Option Int → Hp → Prop) → Prop
/-- a slice's part (left out, or an int) -/
def PO (X : Cx) (e : Option Expr) (t : TO) : Prop :=
  ∀ (pins : List (Addr × Obj)) (s : Shared) (σ : St) (H : Hp) (Q : Option Int → Hp → Prop), Inv X pins σ H s → t σ H Q →
    wpAny (model X.prog X.w) X.A (evalPart e X.env) (fun u s' => ∃ o H', Inv X pins σ H' s' ∧ IsPart u o ∧ Q o H') X.xe s
def tNoPart : TO := fun _ H Q => Q none H
def tPart (t : TE) : TO := fun σ H Q => t σ H fun x H1 => ∃ i, x = .int i ∧ Q (some i) H1

section
variable {X : Cx} {e : Expr} {te : TE} {lo hi : Option Expr} {tl th : TO} {pos p2 : Pos}

theorem po_none : PO X none tNoPart := by
  intro pins s σ H Q I h
  rw [evalPart_none]
  exact wpAny_pure ⟨none, H, I, .none, h⟩
theorem po_some (h : PE X e te) : PO X (some e) (tPart te) := by
  intro pins s σ H Q I hw
  rw [evalPart_some]
  refine thn (h pins s σ H _ I hw) fun u s1 ⟨x, H1, I1, r1, q1⟩ => ?_
  obtain ⟨i, rfl, q⟩ := q1
  obtain ⟨t, rfl⟩ := r1
  exact ⟨some i, H1, I1, .int i t, q⟩

/-- what a slice of a value is, by values: the slice object stands at sl -/
def SlR (X : Cx) (r : V → Option Int → Option Int → Hp → VK → Prop) : Prop :=
  ∀ (pins : List (Addr × Obj)) (s : Shared) (σ : St) (H : Hp) (x : V) (v vl vu : Value) (lo hi : Option Int) (sl : Addr) (Q : VK), Inv X pins σ H s → RelV x v → s.heap.IsSliceOf sl vl vu .none → IsPart vl lo → IsPart vu hi → r x lo hi H Q →
    ∃ T id, typeLookup (.type T) "__getitem__" = pure (some (.builtin id)) ∧ s.TypeIs v T ∧ wpAny (model X.prog X.w) X.A (getItem v (.ref sl)) (EP X pins σ Q) X.xe s
def tSl (r : V → Option Int → Option Int → Hp → VK → Prop) (te : TE) (tl th : TO) : TE := fun σ H Q => te σ H fun x H1 => tl σ H1 fun l H2 => th σ H2 fun u H3 => r x l u H3 Q
/-- a[lo:hi], any a -/
theorem pe_slice {r : V → Option Int → Option Int → Hp → VK → Prop} (hr : SlR X r) (he : PE X e te) (hl : PO X lo tl) (hu : PO X hi th) : PE X (.Subscript e (.Slice lo hi none p2) pos) (tSl r te tl th) := by
  intro pins s σ H Q I h
  refine Subscript_ (thn (he pins s σ H _ I h) fun v s1 ⟨x, H1, I1, r1, q1⟩ => ?_)
  refine wpAny_Slice (thn (hl pins s1 σ H1 _ I1 q1) fun vl s2 ⟨l, H2, I2, pl, q2⟩ => thn (hu pins s2 σ H2 _ I2 q2) fun vu s3 ⟨u, H3, I3, pu, q3⟩ => ?_)
  rw [evalPart_none]
  refine wpAny_pure ?_
  have I4 : Inv X pins σ H3 { s3 with heap := s3.heap.push { cls := .type "slice", data := .fields #[vl, vu, .none] } } := I3.kept (t' := s3.toks) fun b ob q => Heap.get?_push_of_some _ q
  obtain ⟨T, id, hT, ht, hg⟩ := hr pins { s3 with heap := s3.heap.push { cls := .type "slice", data := .fields #[vl, vu, .none] } } σ H3 x v vl vu l u s3.heap.objs.size Q I4 r1 (Heap.IsSliceOf.new ..) pl pu q3
  show wpAny (model X.prog X.w) X.A (subscriptTail e (.Slice lo hi none p2) v (.ref s3.heap.objs.size)) (EP X pins σ Q) X.xe { s3 with heap := s3.heap.push { cls := .type "slice", data := .fields #[vl, vu, .none] } }
  exact tail_any (ops := [.ref s3.heap.objs.size, v]) ht hT hg (by with_unfolding_all rfl)

/-- the items of xs[lo:hi] -/
def cutV (xs : List V) (lo hi : Option Int) : List V := (xs.drop (HT.sIx xs.length 0 lo)).take (HT.sIx xs.length xs.length hi - HT.sIx xs.length 0 lo)
theorem cutV_length (xs : List V) (lo hi : Option Int) : (cutV xs lo hi).length ≤ xs.length := by
  unfold cutV
  rw [List.length_take, List.length_drop]
  omega
/-- t[lo:hi], not the whole of it (the whole would be t itself) -/
def rSlT (K : PySem.W.Frag) : V → Option Int → Option Int → Hp → VK → Prop := fun x lo hi H Q => ∃ a xs, x = .ref a ∧ SqT K H a xs ∧
  ¬ (HT.sIx xs.length 0 lo = 0 ∧ HT.sIx xs.length xs.length hi = xs.length) ∧ ∀ p, H p = none → Q (.ref p) (upd H p (.tup (cutV xs lo hi)))
theorem sl_tup : SlR X (rSlT X.K) := by
  intro pins s σ H x v vl vu lo hi sl Q I rx hs pl pu h
  obtain ⟨a, xs, rfl, hx, hw, q⟩ := h
  cases rx
  obtain ⟨its, r, ht, hz⟩ := I.tuple hx
  have hlen : its.toArray.size = xs.length := by rw [List.size_toArray]; exact r.length.symm
  refine ⟨"tuple", _, PyProof.Rows.slot_tuple_getitem.lookup, ht.typeIs, ?_⟩
  refine HT.getItem_tuple_cut ht hs pl pu (by rw [hlen]; exact hw) ?_ (by rw [hlen]; exact hz)
  rw [hlen]
  refine ⟨.ref s.heap.objs.size, _, I.laid (t' := s.toks) (o := .tup (cutV xs lo hi)) (fun b ob q => Heap.get?_push_of_some _ q) (Nat.le_refl _) ?_, rfl, q _ (I.hok.fresh (Nat.le_refl _))⟩
  exact ⟨Nat.le_trans (cutV_length xs lo hi) hz, _, (r.drop (HT.sIx xs.length 0 lo)).take (HT.sIx xs.length xs.length hi - HT.sIx xs.length 0 lo), IsTup.new _ _⟩

/-! ### t < u, t + u -/
end
end L2

namespace L2
open PySem PySem.Spec PyProof.Rows

/-! ### places -/
/-- the place that an index of any sign means -/
def ixN (n : Nat) (i : Int) : Option Nat := if 0 ≤ i then (if i < n then some i.toNat else none) else if -(n : Int) ≤ i then some (i + n).toNat else none
def atI {α : Type} (xs : List α) (i : Int) : Option α := (ixN xs.length i).bind fun j => xs[j]?
theorem ixN_seq {n : Nat} {i : Int} {j : Nat} (h : ixN n i = some j) : seqIndex? i n = some j ∧ j < n ∧ -(n : Int) ≤ i ∧ i < n := by
  unfold ixN at h
  by_cases h0 : 0 ≤ i
  · rw [if_pos h0] at h
    by_cases h1 : i < n
    · rw [if_pos h1] at h
      have e : i.toNat = j := Option.some.inj h
      exact ⟨by rw [seqIndex_of h0 h1, e], by omega, by omega, h1⟩
    · rw [if_neg h1] at h; cases h
  · rw [if_neg h0] at h
    by_cases h1 : -(n : Int) ≤ i
    · rw [if_pos h1] at h
      have e : (i + n).toNat = j := Option.some.inj h
      exact ⟨by rw [seqIndex_neg (by omega) h1, e], by omega, h1, by omega⟩
    · rw [if_neg h1] at h; cases h
theorem atI_get {α : Type} {xs : List α} {i : Int} {v : α} (h : atI xs i = some v) : ∃ j, seqIndex? i xs.length = some j ∧ xs[j]? = some v ∧ j < xs.length ∧ -(xs.length : Int) ≤ i ∧ i < xs.length := by
  unfold atI at h
  cases e : ixN xs.length i with
  | none => rw [e] at h; cases h
  | some j =>
    rw [e] at h
    obtain ⟨h1, h2, h3, h4⟩ := ixN_seq e
    exact ⟨j, h1, h, h2, h3, h4⟩
theorem atI_nat {α : Type} {xs : List α} {j : Nat} {v : α} (h : xs[j]? = some v) : atI xs (j : Int) = some v := by
  have hj : j < xs.length := (List.getElem?_eq_some_iff.mp h).1
  have e : ixN xs.length (j : Int) = some j := by
    unfold ixN
    rw [if_pos (by omega), if_pos (by omega)]; simp
  unfold atI; rw [e]; exact h
theorem atI_last {α : Type} (xs : List α) (v : α) : atI (xs ++ [v]) (-1) = some v := by
  have hl : (xs ++ [v]).length = xs.length + 1 := by simp
  have e : ixN (xs ++ [v]).length (-1) = some xs.length := by
    unfold ixN
    rw [hl, if_neg (by decide), if_pos (by omega)]
    congr 1
    omega
  unfold atI
  rw [e]
  show (xs ++ [v])[xs.length]? = some v
  simp

/-! ### what may be subscripted -/
/-- what stands as an index of a plain subscript -/
def PlainIx (b : Expr) : Prop := ∀ o i, subscripted b false o i = operate [o, i] (getItem o i)
/-- a subscript by values -/
def IxR (X : Cx) (r : R2) : Prop :=
  ∀ (value slice : Expr) (pins : List (Addr × Obj)) (s : Shared) (σ : St) (H : Hp) (x y : V) (v u : Value) (Q : VK), Inv X pins σ H s → RelV x v → RelV y u → r x y H Q →
    subscripted slice false v u = operate [v, u] (getItem v u) → wpAny (model X.prog X.w) X.A (subscriptTail value slice v u) (EP X pins σ Q) X.xe s
/-- a call of a builtin's method by values: the receiver, the arguments -/
def MtR (X : Cx) (id : String) (r : V → List V → Hp → VK → Prop) : Prop :=
  ∀ (pins : List (Addr × Obj)) (s : Shared) (σ : St) (H : Hp) (x : V) (xs : List V) (v : Value) (us : List Value) (Q : VK), Inv X pins σ H s → RelV x v → Vals xs us → r x xs H Q →
    wpAny (model X.prog X.w) X.A (call (.builtin id) (v :: us)) (EP X pins σ Q) X.xe s
section
variable {X : Cx} {a b : Expr} {ta tb : TE} {pos : Pos}
theorem IxR.or {r r' : R2} (h : IxR X r) (h' : IxR X r') : IxR X (fun x y H Q => r x y H Q ∨ r' x y H Q) := by
  intro value slice pins s σ H x y v u Q I rx ry q hs
  rcases q with q | q
  · exact h value slice pins s σ H x y v u Q I rx ry q hs
  · exact h' value slice pins s σ H x y v u Q I rx ry q hs
/-- a[b] -/
theorem pe_ix {r : R2} (hr : IxR X r) (ha : PE X a ta) (hb : PE X b tb) (hs : PlainIx b) : PE X (.Subscript a b pos) (tOp r ta tb) := by
  intro pins s σ H Q I h
  exact Subscript_ (binT ha hb I h fun v u s2 x y H2 I2 rx ry q => hr a b pins s2 σ H2 x y v u Q I2 rx ry q (hs _ _))

def rIxL (K : PySem.W.Frag) : R2 := fun x y H Q => ∃ p xs i v, x = .ref p ∧ y = .int i ∧ SqL K H p xs ∧ atI xs i = some v ∧ Q v H
def rIxT (K : PySem.W.Frag) : R2 := fun x y H Q => ∃ p xs i v, x = .ref p ∧ y = .int i ∧ SqT K H p xs ∧ atI xs i = some v ∧ Q v H
def rIxS : R2 := fun x y H Q => ∃ z i c, x = .str z ∧ y = .int i ∧ z.length ≤ sizeLine ∧ atI z.cps.toList i = some c ∧ Q (.str ⟨#[c]⟩) H
theorem ix_list : IxR X (rIxL X.K) := by
  intro value slice pins s σ H x y v u Q I rx ry h hs
  obtain ⟨p, xs, i, z, rfl, rfl, hq, he, q⟩ := h
  cases rx
  obtain ⟨t, rfl⟩ := ry
  obtain ⟨its, r, pl, hz⟩ := I.list hq
  obtain ⟨j, h1, h2, h3, h4, h5⟩ := atI_get he
  obtain ⟨w, ew, rw'⟩ := r.get h2
  have hl := r.length
  have hn := line63
  have fin : EP X pins σ Q w s := ⟨z, H, I, rw', q⟩
  by_cases h0 : 0 ≤ i
  · have hj : i.toNat = j := by
      rw [seqIndex_of h0 h5] at h1
      exact Option.some.inj h1
    exact item_listR pl.isList h0 (by omega) (by rw [hj]; simpa using ew) fin hs
  · have hj : (i + (its.toArray.size : Int)).toNat = j := by
      rw [seqIndex_neg (by omega) h4] at h1
      rw [List.size_toArray, ← hl]
      exact Option.some.inj h1
    exact subscriptTail_builtinR (x := w) pl.isList.typeIs slot_list_getitem.lookup
      (wpAny_getItem_list_neg (Q := fun r s' => r = w ∧ EP X pins σ Q r s') pl.isList (by omega) (by rw [List.size_toArray] <;> omega) (by omega) (by rw [hj]; simpa using ew) ⟨rfl, fin⟩) hs
theorem ix_tup : IxR X (rIxT X.K) := by
  intro value slice pins s σ H x y v u Q I rx ry h hs
  obtain ⟨p, xs, i, z, rfl, rfl, hq, he, q⟩ := h
  cases rx
  obtain ⟨t, rfl⟩ := ry
  obtain ⟨its, r, pl, hz⟩ := I.tuple hq
  obtain ⟨j, h1, h2, h3, h4, h5⟩ := atI_get he
  obtain ⟨w, ew, rw'⟩ := r.get h2
  have hl := r.length
  have hn := line63
  have fin : EP X pins σ Q w s := ⟨z, H, I, rw', q⟩
  exact subscriptTail_builtinR (x := w) pl.typeIs slot_tuple_getitem.lookup
    (getItem_tuple (j := j) (Q := fun r s' => r = w ∧ EP X pins σ Q r s') pl (by omega) (by omega) (by rw [List.size_toArray, ← hl]; exact h1) (by simpa using ew) ⟨rfl, fin⟩) hs
theorem ix_str : IxR X rIxS := by
  intro value slice pins s σ H x y v u Q I rx ry h hs
  obtain ⟨z, i, c, rfl, rfl, hz, he, q⟩ := h
  obtain ⟨t, rfl⟩ := rx
  obtain ⟨t', rfl⟩ := ry
  obtain ⟨j, h1, h2, h3, h4, h5⟩ := atI_get he
  have hl : z.cps.toList.length = z.length := by simp [Str.length]
  rw [hl] at h1 h4 h5
  have hn := line63
  exact tail_any (typeIs_str s z t) slot_str_getitem.lookup (getItem_str (c := c) (by
    have e1 : decide (i < -(2 ^ 63 : Int)) = false := decide_eq_false (by omega)
    have e2 : decide (i ≥ 2 ^ 63) = false := decide_eq_false (by omega)
    rw [e1, e2, Bool.or_false]) (by rw [h1]; simpa using h2) ⟨.str ⟨#[c]⟩, H, I.tok _, ⟨_, rfl⟩, q⟩) hs
/-- list, tuple or str -/
def rIx (K : PySem.W.Frag) : R2 := fun x y H Q => rIxL K x y H Q ∨ rIxT K x y H Q ∨ rIxS x y H Q
theorem ix_seq : IxR X (rIx X.K) := ix_list.or (ix_tup.or ix_str)

/-! ### xs[i] = v, any sign -/
/-- the list's object behind a store -/
theorem mapSeq_set (its : List Value) (n j : Nat) (u : Value) : Obj.mapSeq (·.setIfInBounds j u) { cls := .type "list", data := .seq its.toArray n } = { cls := .type "list", data := .seq (its.set j u).toArray n } := by
  simp [Obj.mapSeq]
theorem Inv.lst {pins : List (Addr × Obj)} {σ : St} {H : Hp} {s : Shared} {p : Addr} {xs : List V} (I : Inv X pins σ H s) (h : H p = some (.lst xs)) :
    ∃ (its : List Value) (n : Nat), Vals xs its ∧ s.heap.get? p = some { cls := .type "list", data := .seq its.toArray n } ∧ xs.length ≤ sizeLine := by
  obtain ⟨z, its, n, r, e⟩ := I.hok p _ h
  exact ⟨its, n, r, e, z⟩
/-- the list at p is written by an update of its object -/
theorem Inv.lstUpd {pins : List (Addr × Obj)} {σ : St} {H : Hp} {s : Shared} {p : Addr} {xs ys : List V} {its its' : List Value} {n n' : Nat} {f : Obj → Obj} (I : Inv X pins σ H s) (h : H p = some (.lst xs))
    (ho : s.heap.get? p = some { cls := .type "list", data := .seq its.toArray n }) (hf : f { cls := .type "list", data := .seq its.toArray n } = { cls := .type "list", data := .seq its'.toArray n' }) (r : Vals ys its') (hz : ys.length ≤ sizeLine) (t : Nat) :
    Inv X pins σ (upd H p (.lst ys)) { s with heap := s.heap.update p f, toks := t } := by
  have e : (s.heap.update p f).get? p = some { cls := .type "list", data := .seq its'.toArray n' } := by
    rw [Heap.get?_update_self f ho (by rw [hf] <;> rfl), hf]
  refine I.write (x := p) (e := p) (by rw [h]; trivial) (.inl rfl) (fun b u hb q => (Heap.get?_update_other _ _ (Ne.symm hb)).trans q) ⟨_, e⟩ ?_
  exact ⟨hz, its', n', r, e⟩
def rSetL : V → V → V → Hp → (Hp → Prop) → Prop := fun o i v H Q => ∃ p xs k j, o = .ref p ∧ i = .int k ∧ H p = some (.lst xs) ∧ ixN xs.length k = some j ∧ Q (upd H p (.lst (xs.set j v)))
theorem set_list : PSet X rSetL := by
  intro pins s σ H o i v ov iv u Q I ro ri rv h
  obtain ⟨p, xs, k, j, rfl, rfl, hp, hj, q⟩ := h
  cases ro
  obtain ⟨t, rfl⟩ := ri
  obtain ⟨its, n, r, ho, hz⟩ := I.lst hp
  obtain ⟨h1, h2, h3, h4⟩ := ixN_seq hj
  have hl := r.length
  have hn := line63
  have I' : Inv X pins σ (upd H p (.lst (xs.set j v))) { s with heap := s.heap.update p (Obj.mapSeq (·.setIfInBounds j u)) } :=
    I.lstUpd hp ho (mapSeq_set its n j u) (r.set rv j) (by rw [List.length_set]; exact hz) s.toks
  by_cases h0 : 0 ≤ k
  · have hk : k.toNat = j := by
      rw [seqIndex_of h0 h4] at h1
      exact Option.some.inj h1
    exact PySem.W.ki_setAt ho h0 (by omega) (by rw [List.size_toArray, ← hl]; exact h4) (by rw [hk]; exact ⟨_, I', q⟩)
  · have hk : (k + (its.toArray.size : Int)).toNat = j := by
      rw [seqIndex_neg (by omega) h3] at h1
      rw [List.size_toArray, ← hl]
      exact Option.some.inj h1
    exact PySem.W.ki_setBack ho (by omega) (by rw [List.size_toArray, ← hl]; exact h3) (by omega) (by rw [hk]; exact ⟨_, I', q⟩)

/-! ### slices -/
theorem slice_bounds (lo hi : Option Int) (n : Nat) : (sliceBounds lo hi none n).1 = ((HT.sIx n 0 lo : Nat) : Int) ∧ (sliceBounds lo hi none n).2.1 = ((HT.sIx n n hi : Nat) : Int) ∧ (sliceBounds lo hi none n).2.2 = 1 := by
  refine ⟨?_, ?_, rfl⟩
  · cases lo with
    | none => simp [sliceBounds, HT.sIx]
    | some i =>
      simp only [sliceBounds, HT.sIx, Option.getD_none, show (1 : Int) > 0 by decide, if_true]
      by_cases h : i < 0
      · simp only [h, if_true] <;> omega
      · simp only [h, if_false] <;> omega
  · cases hi with
    | none => simp [sliceBounds, HT.sIx]
    | some i =>
      simp only [sliceBounds, HT.sIx, Option.getD_none, show (1 : Int) > 0 by decide, if_true]
      by_cases h : i < 0
      · simp only [h, if_true] <;> omega
      · simp only [h, if_false] <;> omega
theorem slicePick_cut (its : List Value) (lo hi : Option Int) : slicePick its.toArray lo hi none = ((its.drop (HT.sIx its.length 0 lo)).take (HT.sIx its.length its.length hi - HT.sIx its.length 0 lo)).toArray := by
  obtain ⟨h1, h2, h3⟩ := slice_bounds lo hi its.toArray.size
  unfold slicePick
  rw [h1, h2, h3]
  simp only [sliceRange_one, pick_run, List.size_toArray] <;> rfl
/-- xs[lo:hi] of a list: a new list -/
def rSlL (K : PySem.W.Frag) : V → Option Int → Option Int → Hp → VK → Prop := fun x lo hi H Q => ∃ a xs, x = .ref a ∧ SqL K H a xs ∧ ∀ p, H p = none → Q (.ref p) (upd H p (.lst (cutV xs lo hi)))
theorem sl_list : SlR X (rSlL X.K) := by
  intro pins s σ H x v vl vu lo hi sl Q I rx hs pl pu h
  obtain ⟨a, xs, rfl, hx, q⟩ := h
  cases rx
  obtain ⟨its, r, ht, hz⟩ := I.list hx
  have hlen := r.length
  refine ⟨"list", _, slot_list_getitem.lookup, ht.isList.typeIs, ?_⟩
  refine wpAny_getItem_list_slice ht.isList hs pl pu .none (by simp) ?_ (by rw [List.size_toArray] <;> omega)
  rw [slicePick_cut, ← hlen]
  refine ⟨.ref s.heap.objs.size, _, I.laid (t' := s.toks) (o := .lst (cutV xs lo hi)) (fun b ob q => Heap.get?_push_of_some _ q) (Nat.le_refl _) ?_, rfl, q _ (I.hok.fresh (Nat.le_refl _))⟩
  exact ⟨Nat.le_trans (cutV_length xs lo hi) hz, _, 0, (r.drop (HT.sIx xs.length 0 lo)).take (HT.sIx xs.length xs.length hi - HT.sIx xs.length 0 lo), Heap.get?_push_size _ rfl⟩

/-! ### in, not in: flat items -/
def flatV : V → Bool
  | .non => true
  | .bl _ => true
  | .int _ => true
  | .str _ => true
  | _ => false
/-- == of flat values -/
def eqV : V → V → Bool
  | .non, .non => true
  | .bl a, .bl b => a == b
  | .bl a, .int b => (if a then 1 else 0) == b
  | .int a, .bl b => a == (if b then 1 else 0)
  | .int a, .int b => a == b
  | .str a, .str b => a == b
  | _, _ => false
theorem eqAt_V {A : Around} {s : Shared} {y x : V} {u v : Value} (ry : RelV y u) (rx : RelV x v) (fy : flatV y = true) (fx : flatV x = true) : SeqAt.EqAt A s u v (eqV y x) := by
  cases y with
  | non =>
    cases ry
    cases x with
    | non => cases rx; exact SeqAt.EqAt.same _
    | bl b => cases rx; exact SeqAt.EqAt.none_bool b
    | int b => obtain ⟨t, rfl⟩ := rx; exact SeqAt.EqAt.none_int b t
    | str b => obtain ⟨t, rfl⟩ := rx; exact SeqAt.EqAt.none_str b t
    | _ => exact absurd (show false = true from fx) Bool.false_ne_true
  | bl a =>
    cases ry
    cases x with
    | non => cases rx; exact SeqAt.EqAt.bool_none a
    | bl b => cases rx; exact SeqAt.EqAt.bool_bool a b
    | int b => obtain ⟨t, rfl⟩ := rx; exact SeqAt.EqAt.bool_int a b t
    | str b => obtain ⟨t, rfl⟩ := rx; exact SeqAt.EqAt.bool_str a b t
    | _ => exact absurd (show false = true from fx) Bool.false_ne_true
  | int a =>
    obtain ⟨t', rfl⟩ := ry
    cases x with
    | non => cases rx; exact SeqAt.EqAt.int_none a t'
    | bl b => cases rx; exact SeqAt.EqAt.int_bool a t' b
    | int b => obtain ⟨t, rfl⟩ := rx; exact SeqAt.EqAt.int_int a t' b t
    | str b => obtain ⟨t, rfl⟩ := rx; exact SeqAt.EqAt.int_str a t' b t
    | _ => exact absurd (show false = true from fx) Bool.false_ne_true
  | str a =>
    obtain ⟨t', rfl⟩ := ry
    cases x with
    | non => cases rx; exact SeqAt.EqAt.str_none a t'
    | bl b => cases rx; exact SeqAt.EqAt.str_bool a t' b
    | int b => obtain ⟨t, rfl⟩ := rx; exact SeqAt.EqAt.str_int a t' b t
    | str b => obtain ⟨t, rfl⟩ := rx; exact SeqAt.EqAt.str_str a t' b t
    | _ => exact absurd (show false = true from fx) Bool.false_ne_true
  | _ => exact absurd (show false = true from fy) Bool.false_ne_true
/-! ### len, list(x), tuple(x) of any list or tuple that is read -/
theorem call_len_seq : CallR X (.builtin "len") (fun xs H Q => ∃ p ys, xs = [.ref p] ∧ (SqL X.K H p ys ∨ SqT X.K H p ys) ∧ Q (.int ys.length) H) := by
  intro pins s σ H xs us Q I r h
  obtain ⟨p, ys, rfl, hq, q⟩ := h
  obtain ⟨u, rfl, rx⟩ := vals1 r
  cases rx
  have hn := line63
  rcases hq with hq | hq
  · obtain ⟨its, r', pl, hz⟩ := I.list hq
    have hlen := r'.length
    exact Calls.call_len_list pl.isList (by simp only [List.size_toArray] <;> omega) ⟨.int ys.length, H, I.tok _, ⟨s.toks + 1, by rw [List.size_toArray, hlen]⟩, q⟩
  · obtain ⟨its, r', pl, hz⟩ := I.tuple hq
    have hlen := r'.length
    exact len_tuple pl (by simp only [List.size_toArray] <;> omega) ⟨.int ys.length, H, I.tok _, ⟨s.toks + 1, by rw [List.size_toArray, hlen]⟩, q⟩
theorem call_list_of : CallR X (.type "list") (fun xs H Q => ∃ p ys, xs = [.ref p] ∧ (SqL X.K H p ys ∨ SqT X.K H p ys) ∧ ∀ l, H l = none → Q (.ref l) (upd H l (.lst ys))) := by
  intro pins s σ H xs us Q I r h
  obtain ⟨p, ys, rfl, hq, q⟩ := h
  obtain ⟨u, rfl, rx⟩ := vals1 r
  cases rx
  have fin : ∀ (its : List Value), Vals ys its → ys.length ≤ sizeLine → ∀ (h' : Heap) (c' : Nat), (∀ b o', s.heap.get? b = some o' → h'.get? b = some o') →
      h'.get? s.heap.objs.size = some { cls := .type "list", dict := none, data := .seq its.toArray c', slots := #[] } → EP X pins σ Q (.ref s.heap.objs.size) { s with heap := h' } := fun its r' hz h' c' kp e =>
    ⟨.ref s.heap.objs.size, _, I.laid (t' := s.toks) kp (Nat.le_refl _) (show ObjOk X.prog X.w _ h' _ (.lst ys) from ⟨hz, its, c', r', e⟩), rfl, q _ (I.hok.fresh (Nat.le_refl _))⟩
  rcases hq with hq | hq
  · obtain ⟨its, r', pl, hz⟩ := I.list hq
    have hlen := r'.length
    obtain ⟨o, ho, hc, n, hd⟩ := pl.isList
    exact call_list_seq p (.inl rfl) ho hc hd (fun h' c' kp e => fin its r' hz h' c' kp e) (by simp only [List.size_toArray] <;> omega)
  · obtain ⟨its, r', pl, hz⟩ := I.tuple hq
    have hlen := r'.length
    obtain ⟨o, ho, hc, n, hd⟩ := pl
    exact call_list_seq p (.inr rfl) ho hc hd (fun h' c' kp e => fin its r' hz h' c' kp e) (by simp only [List.size_toArray] <;> omega)
theorem call_tuple_of : CallR X (.type "tuple") (fun xs H Q => ∃ p ys, xs = [.ref p] ∧ ((SqL X.K H p ys ∧ ∀ l, H l = none → Q (.ref l) (upd H l (.tup ys))) ∨ (SqT X.K H p ys ∧ Q (.ref p) H))) := by
  intro pins s σ H xs us Q I r h
  obtain ⟨p, ys, rfl, h⟩ := h
  obtain ⟨u, rfl, rx⟩ := vals1 r
  cases rx
  rcases h with ⟨hq, q⟩ | ⟨hq, q⟩
  · obtain ⟨its, r', pl, hz⟩ := I.list hq
    have hlen := r'.length
    refine call_tuple_list pl.isList (fun h' kp => ?_) (by simp only [List.size_toArray] <;> omega)
    have I1 : Inv X pins σ H { s with heap := h' } := I.kept (t' := s.toks) kp
    have I2 : Inv X pins σ (upd H h'.objs.size (.tup ys)) { s with heap := h'.push { cls := .type "tuple", data := .seq its.toArray } } :=
      I1.laid (t' := s.toks) (fun b o e => Heap.get?_push_of_some _ e) (Nat.le_refl _) (show ObjOk X.prog X.w _ _ _ (.tup ys) from ⟨hz, its, r', IsTup.new _ _⟩)
    exact ⟨.ref h'.objs.size, _, I2, rfl, q _ (I1.hok.fresh (Nat.le_refl _))⟩
  · obtain ⟨its, r', pl, hz⟩ := I.tuple hq
    exact call_tuple_same pl ⟨.ref p, H, I, rfl, q⟩

/-! ### the call of a builtin's method: o.m(..) -/
/-- the value is of that builtin type -/
def tyV (K : PySem.W.Frag) (T : String) (x : V) (H : Hp) : Prop := match x with
  | .str _ => T = "str"
  | .int _ => T = "int"
  | .ref p => (T = "list" ∧ ∃ xs, SqL K H p xs) ∨ (T = "tuple" ∧ ∃ o, K.lookup p = some o ∧ o.cls = .type "tuple" ∧ o.dict = none) ∨
      (T = "dict" ∧ ((∃ kvs, H p = some (.dK kvs)) ∨ ∃ kvs, H p = some (.dT kvs))) ∨ (T = "set" ∧ ∃ S n, H p = some (.set S n))
  | _ => False
theorem tyV_is {pins : List (Addr × Obj)} {σ : St} {H : Hp} {s : Shared} {T : String} {x : V} {v : Value} (I : Inv X pins σ H s) (r : RelV x v) (ty : tyV X.K T x H) :
    s.TypeIs v T ∧ ∀ a, v = .ref a → ∃ ob, s.heap.get? a = some ob ∧ ob.dict = none := by
  cases x with
  | str z =>
    obtain ⟨t, rfl⟩ := r
    cases (show T = "str" from ty)
    exact ⟨typeIs_str s z t, fun _ e => nomatch e⟩
  | int i =>
    obtain ⟨t, rfl⟩ := r
    cases (show T = "int" from ty)
    exact ⟨typeIs_int s i t, fun _ e => nomatch e⟩
  | ref p =>
    cases r
    rcases ty with ⟨rfl, xs, hq⟩ | ⟨rfl, o, hk, hc, hd⟩ | ⟨rfl, hk⟩ | ⟨rfl, S, n, hk⟩
    · obtain ⟨its, _, pl, _⟩ := I.list hq
      refine ⟨pl.isList.typeIs, fun a e => ?_⟩
      cases e
      obtain ⟨o, n, e, c, hd, _⟩ := pl
      exact ⟨o, e, hd⟩
    · refine ⟨⟨o, I.kIn p o hk, hc⟩, fun a e => ?_⟩
      cases e
      exact ⟨o, I.kIn _ o hk, hd⟩
    · have z : ∃ o, s.heap.get? p = some o ∧ o.ExactDict := by
        rcases hk with ⟨kvs, hk⟩ | ⟨kvs, hk⟩
        · obtain ⟨_, _, _, _, o, _, _, e, ex, _⟩ := I.hok p _ hk
          exact ⟨o, e, ex⟩
        · obtain ⟨_, _, _, _, o, _, _, e, ex, _⟩ := I.hok p _ hk
          exact ⟨o, e, ex⟩
      obtain ⟨o, e, ex⟩ := z
      refine ⟨⟨o, e, ex.1⟩, fun a e2 => ?_⟩
      cases e2
      exact ⟨o, e, ex.2.1⟩
    · obtain ⟨o, _, _, _, e, ex, _⟩ := I.hok p _ hk
      refine ⟨⟨o, e, ex.1⟩, fun a e2 => ?_⟩
      cases e2
      exact ⟨o, e, ex.2.1⟩
  | _ => exact False.elim ty
def tBM (K : PySem.W.Frag) (T : String) (r : V → List V → Hp → VK → Prop) (to : TE) (t : TA) : TE := fun σ H Q => to σ H fun x H1 => tyV K T x H1 ∧ t σ H1 fun xs H2 => r x xs H2 Q
variable {o e : Expr} {es : List Expr} {to : TE} {t : TA} {name : Str} {apos cpos : Pos} {T id : String} {r : V → List V → Hp → VK → Prop}
theorem pe_bm (pa : PlainAttrs T) (slot : Slot T name id) (hty : typeOf (.builtin id) = pure (.type "method_descriptor")) (hm : MtR X id r) (ho : PE X o to) (ha : PA X (e :: es) t)
    (hbase : attributeBase o name X.env (eval o X.env) = eval o X.env := by rfl)
    (hfew : ((backTo cpos (starEach (e :: es) X.env)).all (fun x => !x.1) && (backToKw cpos (keywordEach [] X.env)).all (fun x => x.1.isSome)
      && decide ((e :: es).length + ([] : List Keyword).length + (if ([] : List Keyword).isEmpty then 0 else 1) < 30)) = true := by rfl)
    (hline : (apos.endLine == cpos.line) = true := by rfl) (hs : starEach (e :: es) X.env = (false, eval e X.env) :: starEach es X.env := by rfl) (hplain : (backTo cpos (starEach es X.env)).any (·.1) = false := by rfl) :
    PE X (.Call (.Attribute o name apos) (e :: es) [] cpos) (tBM X.K T r to t) := by
  intro pins s σ H Q I h
  refine wpAny_Call_method_late hbase hfew hline rfl (thn (ho pins s σ H _ I h) fun v s1 ⟨x, H1, I1, r1, ty, q1⟩ => ?_)
  obtain ⟨h1, h2⟩ := tyV_is I1 r1 ty
  refine ⟨T, id, pa, slot, hty, h1, h2, ?_⟩
  have hA := ha cpos pins s1 σ H1 _ I1 q1
  rw [hs] at hA ⊢
  refine Calls.callWith_builtin (by show (false || (backTo cpos (starEach es X.env)).any (·.1)) = false; rw [hplain] <;> rfl) (Calls.evalArgs_plain ?_)
  exact thn hA fun us s2 ⟨vs, H2, I2, r2, q2⟩ => hm pins s2 σ H2 x vs v us Q I2 r1 r2 q2
/- xs.append(e), list.index on a module's tuple .. are MtR facts of 06m -/
end
end L2

namespace L2
open PySem PySem.Spec PyProof.Rows

def MtM (X : Cx) (id : String) (r : V → List V → Hp → VK → Prop) : Prop :=
  ∀ (pins : List (Addr × Obj)) (s : Shared) (σ : St) (H : Hp) (x : V) (xs : List V) (v : Value) (us : List Value) (Q : VK), Inv X pins σ H s → RelV x v → Vals xs us → r x xs H Q →
    wpAny (model X.prog X.w) X.A (call (.builtin id) (v :: us)) (EP X pins σ Q) X.xe s

/-! ### lists of values -/
theorem Vals.one : ∀ {x : V} {us : List Value}, Vals [x] us → ∃ u, us = [u] ∧ RelV x u
  | _, _, .cons r .nil => ⟨_, rfl, r⟩
theorem Vals.two : ∀ {x y : V} {us : List Value}, Vals [x, y] us → ∃ u v, us = [u, v] ∧ RelV x u ∧ RelV y v
  | _, _, _, .cons r (.cons q .nil) => ⟨_, _, rfl, r, q⟩
theorem Vals.rep {xs : List V} {us : List Value} (h : Vals xs us) : ∀ k : Nat, Vals (List.replicate k xs).flatten (List.replicate k us).flatten
  | 0 => .nil
  | k + 1 => by
    rw [List.replicate_succ, List.replicate_succ, List.flatten_cons, List.flatten_cons]
    exact Vals.append h (Vals.rep h k)
theorem foldl_rep (its : List Value) : ∀ (k : Nat) (acc : List Value),
    List.foldl (fun x1 x2 => x1 ++ x2) acc.toArray (List.replicate k its.toArray) = (acc ++ (List.replicate k its).flatten).toArray
  | 0, acc => by simp
  | k + 1, acc => by
    have e : acc.toArray ++ its.toArray = (acc ++ its).toArray := by simp
    have e2 : (acc ++ its) ++ (List.replicate k its).flatten = acc ++ (List.replicate (k + 1) its).flatten := by
      rw [List.replicate_succ, List.flatten_cons, List.append_assoc]
    rw [← e2, ← foldl_rep its k (acc ++ its), ← e, List.replicate_succ, List.foldl_cons]

section
variable {X : Cx} {pins : List (Addr × Obj)} {σ : St} {H : Hp} {s : Shared} {l b : Addr} {xs ys zs : List V}

/-! ### the two steps: a tracked list is rewritten, a new list is laid -/
theorem Inv.lset {its its' : List Value} {n : Nat} {f : Array Value → Array Value} {t' : Nat} (I : Inv X pins σ H s) (hH : H l = some (.lst xs))
    (e : s.heap.get? l = some { cls := .type "list", data := .seq its.toArray n }) (hf : f its.toArray = its'.toArray) (hv : Vals ys its') (hz : ys.length ≤ sizeLine) :
    Inv X pins σ (upd H l (.lst ys)) { s with heap := s.heap.update l (Obj.mapSeq f), toks := t' } := by
  have q := PySem.IsL.update e f
  rw [hf] at q
  refine I.write (x := l) (e := l) (by rw [hH]; exact trivial) (.inl rfl) (fun b' u hb hu => (Heap.get?_update_other s.heap (Obj.mapSeq f) (Ne.symm hb)).trans hu) ⟨_, q⟩ ?_
  exact ⟨hz, its', _, hv, q⟩
theorem Inv.lnew {its : List Value} {t' : Nat} (I : Inv X pins σ H s) (hv : Vals ys its) (hz : ys.length ≤ sizeLine) :
    Inv X pins σ (upd H s.heap.objs.size (.lst ys)) { s with heap := s.heap.push { cls := .type "list", data := .seq its.toArray }, toks := t' } :=
  I.laid (fun _ _ q => Heap.get?_push_of_some _ q) (Nat.le_refl _) ⟨hz, its, 0, hv, Heap.get?_push_size _ rfl⟩
theorem Inv.fresh (I : Inv X pins σ H s) : H s.heap.objs.size = none := I.hok.fresh (Nat.le_refl _)
theorem Inv.lstM (I : Inv X pins σ H s) (hH : H l = some (.lst xs)) : xs.length ≤ sizeLine ∧ ∃ (its : List Value) (n : Nat), Vals xs its ∧ xs.length = its.length ∧ s.heap.get? l = some { cls := .type "list", data := .seq its.toArray n } := by
  obtain ⟨z, its, n, r, e⟩ := I.hok l _ hH
  exact ⟨z, its, n, r, r.length, e⟩

theorem notLongL {n : Nat} (h : n ≤ sizeLine) : Builtin.List.listTooLong n = false := by
  unfold Builtin.List.listTooLong
  exact decide_eq_false (by omega)
end

section
variable {X : Cx}

/-! ### methods -/
def rAppend : V → List V → Hp → VK → Prop := fun x vs H Q => ∃ l xs y, x = .ref l ∧ vs = [y] ∧ H l = some (.lst xs) ∧ xs.length < sizeLine ∧ Q .non (upd H l (.lst (xs ++ [y])))
theorem mt_append : MtM X "list.append" rAppend := by
  intro pins s σ H x vs v us Q I rx rv h
  obtain ⟨l, xs, y, rfl, rfl, hH, hz, q⟩ := h
  cases rx
  obtain ⟨u, rfl, ru⟩ := rv.one
  obtain ⟨z, its, n, r, hl, e⟩ := I.lstM hH
  refine call_meets F.slot_list_append ⟨_, e, rfl⟩ F.entry_list_append (F.args_list_append_2 _ _) (PySem.list_append l its.toArray n u (by rw [List.size_toArray]; omega)) ⟨e, ?_⟩
  refine ⟨.non, _, I.lset (its' := its ++ [u]) hH e (by simp) (r.append (.cons ru .nil)) ?_, rfl, q⟩
  rw [List.length_append, List.length_singleton]
  omega

def rExtend : V → List V → Hp → VK → Prop := fun x vs H Q => ∃ l b xs zs, x = .ref l ∧ vs = [.ref b] ∧ H l = some (.lst xs) ∧ H b = some (.lst zs) ∧ xs.length + zs.length ≤ sizeLine ∧ Q .non (upd H l (.lst (xs ++ zs)))
theorem mt_extend : MtM X "list.extend" rExtend := by
  intro pins s σ H x vs v us Q I rx rv h
  obtain ⟨l, b, xs, zs, rfl, rfl, hH, hB, hz, q⟩ := h
  cases rx
  obtain ⟨u, rfl, ru⟩ := rv.one
  cases ru
  obtain ⟨z, its, n, r, hl, e⟩ := I.lstM hH
  obtain ⟨z2, its2, n2, r2, hl2, e2⟩ := I.lstM hB
  have hsz : its.toArray.size + its2.toArray.size ≤ sizeLine := by rw [List.size_toArray, List.size_toArray]; omega
  have hlong : ¬ (!its.toArray.isEmpty && Builtin.List.listTooLong (its.toArray.size + its2.toArray.size)) = true := by
    rw [notLongL hsz, Bool.and_false]
    exact Bool.false_ne_true
  refine call_meets F.slot_list_extend ⟨_, e, rfl⟩ F.entry_list_extend (F.args_list_extend_2 _ _)
    (AutoSeq1.list_extend_list_list_0 l its.toArray n b its2.toArray n2 hlong (by rw [List.size_toArray]; omega) (by omega)) ⟨e, e2, ?_⟩
  refine ⟨.non, _, I.lset (its' := its ++ its2) hH e (by simp) (r.append r2) ?_, rfl, q⟩
  rw [List.length_append]
  omega

/-! ### list + list, list += list, list * int -/
def rCat : R2 := fun x y H Q => ∃ l b xs zs, x = .ref l ∧ y = .ref b ∧ H l = some (.lst xs) ∧ H b = some (.lst zs) ∧ xs.length + zs.length ≤ sizeLine ∧ ∀ p, H p = none → Q (.ref p) (upd H p (.lst (xs ++ zs)))
theorem op_cat : OpR X (binaryOp .Add) rCat := by
  intro pins s σ H x y v u Q I rx ry h
  obtain ⟨l, b, xs, zs, rfl, rfl, hH, hB, hz, q⟩ := h
  cases rx
  cases ry
  obtain ⟨z, its, n, r, hl, e⟩ := I.lstM hH
  obtain ⟨z2, its2, n2, r2, hl2, e2⟩ := I.lstM hB
  refine PySem.P.add_list e e2 ?_ (by rw [List.size_toArray, List.size_toArray]; omega)
  have ea : its.toArray ++ its2.toArray = (its ++ its2).toArray := by simp
  rw [ea]
  exact ⟨.ref _, _, I.lnew (t' := s.toks) (r.append r2) (by rw [List.length_append]; omega), rfl, q _ I.fresh⟩
/-- a list times an int (a negative one is nothing) -/
def rRep : R2 := fun x y H Q => ∃ l k xs, x = .ref l ∧ y = .int k ∧ H l = some (.lst xs) ∧ -(2 ^ 63) ≤ k ∧ k < 2 ^ 63 ∧ xs.length * k.toNat ≤ sizeLine ∧
  ∀ p, H p = none → Q (.ref p) (upd H p (.lst (List.replicate k.toNat xs).flatten))
theorem len_rep {α : Type} (xs : List α) (k : Nat) : (List.replicate k xs).flatten.length = k * xs.length := by
  induction k with
  | zero => simp
  | succ k ih => rw [List.replicate_succ, List.flatten_cons, List.length_append, ih, Nat.succ_mul, Nat.add_comm]
theorem op_rep : OpR X (binaryOp .Mult) rRep := by
  intro pins s σ H x y v u Q I rx ry h
  obtain ⟨l, k, xs, rfl, rfl, hH, h1, h2, hz, q⟩ := h
  cases rx
  obtain ⟨t, rfl⟩ := ry
  obtain ⟨z, its, n, r, hl, e⟩ := I.lstM hH
  have hlen : its.toArray.size * k.toNat ≤ sizeLine := by rw [List.size_toArray, ← hl]; exact hz
  have hcap : ¬ its.toArray.size * k.toNat > (2 ^ 63 - 1) / 8 := by
    have : (sizeLine : Nat) ≤ (2 ^ 63 - 1) / 8 := by decide
    omega
  have hfit : ¬ (!Builtin.List.listFitsIndex k) = true := by
    rw [fitsIndex_both h1 h2]
    exact Bool.false_ne_true
  have hlong : ¬ Builtin.List.listTooLong (its.toArray.size * k.toNat) = true := by
    rw [notLongL hlen]
    exact Bool.false_ne_true
  have hnew : List.foldl (fun x1 x2 => x1 ++ x2) #[] (List.replicate (if its.toArray.isEmpty = true then 0 else k.toNat) its.toArray) = (List.replicate k.toNat its).flatten.toArray := by
    have f0 : ∀ m : Nat, List.foldl (fun x1 x2 => x1 ++ x2) #[] (List.replicate m its.toArray) = (List.replicate m its).flatten.toArray := fun m => by
      have := foldl_rep its m []
      rw [List.nil_append] at this
      exact this
    rw [f0]
    cases its with
    | nil => simp
    | cons a r' => rw [if_neg (by simp)]
  refine wpAny_binaryOp_repeat_ref (T := "list") (U := "int") (by decide) ⟨_, e, rfl⟩ (fun s' => typeIs_int s' k t) noFill_list_mul F.fills_int_mul F.slot_int_rmul repeat_list F.slot_int_index.lookup
    (call_meets F.slot_int_rmul (typeIs_int s k t) F.entry_int_rmul (F.args_int_rmul_2 _ _) (int___rmul___int_list k t l its.toArray n)
      ⟨e, rfl, ⟨_, e, rfl⟩, call_meets F.slot_list_mul ⟨_, e, rfl⟩ F.entry_list_mul (F.args_list_mul_2 _ _) (AutoListH.list___mul___list_int_3 l its.toArray n k t hfit hcap hlong) ⟨e, ?_⟩⟩)
  rw [hnew]
  exact ⟨.ref _, _, I.lnew (t' := s.toks) (r.rep k.toNat) (by rw [len_rep, Nat.mul_comm]; exact hz), rfl, q _ I.fresh⟩

/-! ### del xs[i] -/
end

/-! ### xs[a:b] = ys -/
section
variable {prog : Program} {w : World} {A : Around} {E : Value → Shared → Prop} {s : Shared}
end

section
variable {X : Cx}
end
end L2

namespace Att
open PySem PySem.W PySem.Calls PyProof.Rows

/-! ### the script -/
theorem ints_of_wellAll {P : Params} {h : Heap} : ∀ (ns : List Int) (vs : List Value), WellAll P h vs (ns.map WData.int) → IntsAre vs ns := by
  intro ns
  induction ns with
  | nil =>
    intro vs w
    rw [List.map_nil] at w
    cases w
    exact .nil
  | cons n ns ih =>
    intro vs w
    rw [List.map_cons] at w
    cases w with
    | cons a b =>
      cases a
      exact .cons _ _ (ih _ b)

theorem script_of {l : OpenLaw} {n : Nat} (hn : l.most = some n) {P : Params} {h : Heap} {args : List WData} {vals : List Value}
    (hpre : l.row.toRowW.claim.pre args = true) (hwl : WellAll P h vals args) :
    ∃ a vs ns, vals = [Value.ref a] ∧ args = [WData.list (ns.map WData.int)] ∧ h.get? a = some { cls := .type "list", data := .seq vs.toArray } ∧ IntsAre vs ns ∧ ns.length ≤ n := by
  have hsh : WShape.hasAll [] args [.list .int] = true := (pre_splitW hpre).1
  have hc : l.pre.holds [] { args := args } = true := (pre_splitW hpre).2
  obtain ⟨d, r, rfl, h1, h2⟩ := hasAllW_cons hsh
  obtain rfl := hasAllW_nil h2
  obtain ⟨xs, rfl, h3⟩ := hasW_list h1
  obtain ⟨ns, rfl⟩ := items_int h3
  have hlen : ns.length ≤ n := by
    unfold OpenLaw.pre at hc
    have h4 : (WTm.not (.lt (.lit (.int (n : Int))) (.len (.arg 0)))).holds [] { args := [.list (ns.map .int)] } = true := by
      have h4 := (holds_andW hc).1
      rw [hn] at h4
      exact h4
    have h5 := condW_of h4 (w_not (w_lt w_lit (w_len_list (w_arg rfl))))
    rw [List.length_map] at h5
    refine Nat.le_of_not_lt fun q => ?_
    have q' : (n : Int) < ((ns.length : Nat) : Int) := by omega
    first
      | (rw [decide_eq_true q'] at h5; exact absurd h5 (by decide))
      | (simp at h5; omega)
  cases hwl with
  | cons w1 w2 =>
    cases w2
    cases w1 with
    | list ho hall => exact ⟨_, _, ns, rfl, rfl, ho, ints_of_wellAll ns _ hall, hlen⟩

theorem post_true (l : OpenLaw) (args : List WData) : l.row.toRowW.claim.post args (.bool true) args = true :=
  postW_of (r := l.row.toRowW) (X := (true == true))
    (show WShape.has [] (.bool true) .bool = true by first | rfl | decide | simp [WShape.has, WShape.arms, WShape.armsAll])
    (show (WTm.eq .res (.lit (.bool true))).value [] { args := args, res := some (.bool true), after := args } = some (.bool (true == true)) from w_eq_bool (w_res rfl) w_lit) rfl

/-! ### the attachment: holds_open's last premise (the goal 'hc' behind k_head) from a wpAny of the law's body -/
/-- the same from a codeAny of the CALL (for a layer whose function contracts speak of calls) -/
theorem attach_call {l : OpenLaw} {n : Nat} {q : Program} {loose : List Str} {XP : (Str → Option Value) → Heap → Prop} {YP : World → Heap → Prop} {d : DefRec}
    (hn : l.most = some n) (hdf : d.params.defaults = [])
    (call : ∀ (w : World) (s₀ s₁ : Shared) (mg mb : Str → Option Value) (fa : Addr) (o : Obj) (pm cd doc : Value) (a : Addr) (vs : List Value) (ns : List Int),
      Ground q loose [] XP w s₀ mg mb s₁.heap → YP w s₁.heap →
      s₁.heap.get? fa = some o → o.data = .func (docDef d.name d.params d.body d.scope pm cd doc) → s₁.heap.CodeRec cd d.name → mg d.name = some (.ref fa) →
      s₁.heap.get? a = some { cls := .type "list", data := .seq vs.toArray } → IntsAre vs ns → ns.length ≤ n → s₁.gens = #[] →
      codeAny (model l.prog w) callerA (.call (.ref fa) ⟨[.ref a], []⟩) (fun r s' => r = .ok (.ret (.bool true)) ∧ OldK s₁.heap s'.heap ∧ s'.os = s₁.os ∧ AllBare s'.gens) s₁) :
    WalkO q loose XP YP l.row.toRowW d [] (fun f vs => PySem.call f vs) := by
  intro w s₀ s₁ mg mb G Y fa o pm cd doc dV kV ho hd hcd hD hmg hg args vals as hpre hlay hrd hwl hlo
  obtain rfl : dV = .none := Dflts.none hD hdf
  obtain rfl : kV = .none := Dflts.noKw hD
  obtain ⟨a, vs, ns, rfl, rfl, hobj, hints, hlen⟩ := script_of hn hpre hwl
  refine enter_call (codeAny_mono (call w s₀ s₁ mg mb fa o pm cd doc a vs ns G Y ho (fd_plain hd) hcd hmg hobj hints hlen hg) fun r s' hq => ?_)
  obtain ⟨rfl, h2, h3, h4⟩ := hq
  exact ⟨.inl ⟨.bool true, .bool true, [], rfl, fun _ => rfl, .bool true, post_true l _, fun _ => ⟨List.Pairwise.nil, fun _ hm => (nomatch hm)⟩⟩, h2, h3, h4⟩

/-! ### rules over ANY heap (no ledger) from facts about the written part K: the library's own take a ledger (News) for what they write -/
section
variable {prog : Program} {w : World} {A : Around} {E : Value → Shared → Prop} {s : Shared} {K : Frag}

/-! the whole heap as the ledger: makes every rule that writes through a ledger a rule over any heap -/
end
end Att

namespace L2
open PySem PySem.Spec PyProof.Rows

theorem vals_ints : ∀ {vs : List Value} {ns : List Int}, IntsAre vs ns → Vals (ns.map V.int) vs
  | _, _, .nil => .nil
  | _, _, .cons n t h => .cons ⟨t, rfl⟩ (vals_ints h)

end L2

namespace L2
open PySem PySem.Spec PyProof.Rows

end L2

/- THE LAST THEOREM (shape; LID, My.* are yours):
   My.Adr: a structure of the addresses that your layer names (classes, functions); My.Txt K t: a structure (Prop) of the equations over K;
   My.txt_mk : {K} {implicit addresses ..} (e1 : nsIn K mainGlobals "law" = some (some (.ref f))) (e2 : K.lookup f = some ⟨oc, od, .func (fnOf "law" "law" params body scope dV kV doc pm an cdv ct), sl⟩) (e3 : codeIn K cdv "law" = true) .. : ∃ t, My.Txt K t

set_option maxRecDepth 100000 in
set_option maxHeartbeats 0 in
theorem PySem.Challenge.cw_LID_holds : PySem.Challenge.rw_LID.Holds := by
  w_on; o_law; k_head; (case hw => w_witness2)
  k_fill
  refine L2.walk_of (l := PySem.Challenge.rw_LID) (n := 63) (k := 40) (x := "script") (CX := fun w => ..) (sp := fun _ => My.sp_law) rfl (by decide) rfl ⟨rfl, by decide, by decide⟩ (fun w h Y => PySem.W.kIn_of Y) ?F ?S ?C
  case F =>
    intro w mg fa h KX G hmg
    have T : ∃ t, My.Txt (L2.KOf KX) t := by
      dsimp only [L2.KOf]                          -- K must stand as «<heap const> w.params» for k_is
      refine' My.txt_mk ?e1 ?e2 ?e3 ..
      (case e1 => PySem.W.k_is)                    -- in the order: a name -> its address -> its object -> its parts
      (case e2 => PySem.W.k_is)
      ..
    obtain ⟨t, T⟩ := T
    have e0 := hmg.symm.trans (PySem.W.mg_of KX G T.law)
    cases e0                                       -- fa is the law's own address
    exact ⟨_, fun s u => .of_eq rfl, fun base kb nb => My.law_fn T kb nb⟩     -- if «.of_eq rfl» comes too early: refine' ⟨_, ?b, fun base kb nb => My.law_fn T kb nb⟩; exact fun s u => .of_eq rfl
  case S => exact fun w H a ns hl hO hS => ..
  case C => exact ..
(the tactic k_is has no namespace: write k_is) -/

/-! SHORT WORDS over the layer: a def of the text, its body, what a loop and a test want. -/
namespace L2
open PySem PySem.Spec PyProof.Rows

/-! ### the text by places -/
def defArgs (s : Stmt) : Arguments := match s with
  | .FunctionDef _ a _ _ _ _ _ _ _ _ => a
  | _ => { posonlyargs := [], args := [], vararg := none, kwonlyargs := [], kw_defaults := [], kwarg := none, defaults := [] }
def defBody (s : Stmt) : List Stmt := match s with
  | .FunctionDef _ _ b _ _ _ _ _ _ _ => b
  | _ => []
def defScope (s : Stmt) : Scope := match s with
  | .FunctionDef _ _ _ _ _ _ sc _ _ _ => sc
  | _ => { kind := .function, names := [], isGenerator := false, isCoroutine := false }

/-! ### no exception leaves a def -/
abbrev CX0 : CXT := fun _ _ _ _ _ _ => False
abbrev E0 : XK := fun _ _ _ => False
theorem pass0 {X : Cx} : Passes CX0 X E0 := fun _ _ _ _ _ _ _ h => h.elim

/-! ### a def (or method) of the text as it stands behind the top -/
structure Fun (K : PySem.W.Frag) (x qual : Str) (st : Stmt) (f : Addr) (fd : FuncData) : Prop where
  ex : ∃ (oc : Value) (od : Option Addr) (kV doc pm : Value) (an : Option Addr) (cdv ct : Value) (osl : Array (Option Value)),
    fd = PySem.W.fnOf x qual (defArgs st) (defBody st) (defScope st) .none kV doc pm an cdv ct ∧ K.lookup f = some ⟨oc, od, .func fd, osl⟩ ∧ PySem.W.codeIn K cdv qual = true
  kp : PySem.W.keepIn K (.ref f) = true
section
variable {P : Program} {w : World} {K : PySem.W.Frag} {mg : Str → Option Value} {base : Heap}
/-- THE RULE for a def: its body as a term of rules, and the reading of that term -/
theorem Fun.ok {x qual : Str} {st : Stmt} {f : Addr} {fd : FuncData} {N ps : List Str} {k : Nat} {sp : Sp} {c : Bool} (F : Fun K x qual st f fd) (S : FnScope N ps (defScope st)) (len : ∀ vs H Q E, sp vs H Q E → vs.length = ps.length)
    (hbody : ∀ (cdv : Value) (A : Around) (outer : List Env) (s : Shared) (H : Hp) (vs : List V) (Q : VK) (E : XK), Room k (A.deeper (envOfC qual (defScope st) s.heap.objs.size f cdv)) c → sp vs H Q E →
      ∃ t, PSs (cxOf CX0 P w K mg base N qual (defScope st) f cdv A outer s H E c).nox (defBody st) t ∧ t { nx := fun _ H' => Q .non H', rt := Q } (start N vs) H) : FnOk P w K mg base CX0 (k + 1) f fd ps sp c := by
  obtain ⟨oc, od, kV, doc, pm, an, cdv, ct, osl, rfl, lk, hcd⟩ := F.ex
  refine fn_of lk hcd S len fun A outer s H vs Q E hr hsp => ?_
  obtain ⟨t, h, q⟩ := hbody cdv A outer s H vs Q E hr hsp
  exact ⟨t, h.nox, q⟩
/-- how its arguments bind (no defaults): h is «fun _ _ _ _ _ _ us hl => match us, hl with | [_, _], _ => rfl», one _ a parameter -/
theorem Fun.binds {x qual : Str} {st : Stmt} {f : Addr} {fd : FuncData} {ps : List Str} (F : Fun K x qual st f fd)
    (h : ∀ (kV doc pm : Value) (an : Option Addr) (cdv ct : Value) (us : List Value), us.length = ps.length → bindArgs (PySem.W.fnOf x qual (defArgs st) (defBody st) (defScope st) .none kV doc pm an cdv ct) ⟨us, []⟩ = pure (ps.zip us)) : Binds K fd ps [] := by
  obtain ⟨oc, od, kV, doc, pm, an, cdv, ct, osl, rfl, lk, hcd⟩ := F.ex
  exact .all (h kV doc pm an cdv ct)
theorem fun_mk {x qual : Str} {st : Stmt} {f : Addr} {oc : Value} {od an : Option Addr} {osl : Array (Option Value)} {kV doc pm cdv ct : Value} (l : K.lookup f = some ⟨oc, od, .func (PySem.W.fnOf x qual (defArgs st) (defBody st) (defScope st) .none kV doc pm an cdv ct), osl⟩)
    (c : PySem.W.codeIn K cdv qual = true) (k : PySem.W.keepIn K (.ref f) = true) : Fun K x qual st f (PySem.W.fnOf x qual (defArgs st) (defBody st) (defScope st) .none kV doc pm an cdv ct) := ⟨⟨oc, od, kV, doc, pm, an, cdv, ct, osl, rfl, l, c⟩, k⟩
end
theorem hu_of {A : Around} {k : Nat} {c : Bool} (hr : Room k A c) : A.units + 1 < cLine := Nat.lt_of_le_of_lt (Nat.add_le_add_left (by decide : 1 ≤ 64) _) hr.units
/-! ### expressions in short: the name that stands in the i-th slot -/
section
variable {X : Cx}
theorem pv (i : Nat) {x : Str} {pos : Pos} (hN : X.N[i]? = some x := by rfl) (hv : Vis X.env.scope x := by first | exact Or.inl rfl | exact Or.inr (Or.inl rfl) | exact Or.inr (Or.inr rfl)) (hd : (x == ("__debug__" : Str)) = false := by decide)
    (hcd : (x == ("__classdict__" : Str)) = false := by decide) : PE X (.Name x pos) (tVar i) := pe_var hN hv hd hcd
end

/-! ### tests -/
theorem iteF {A B : Prop} (h : B) : if false = true then A else B := by
  rw [if_neg Bool.false_ne_true]
  exact h
theorem iteT {A B : Prop} (h : A) : if true = true then A else B := by
  rw [if_pos rfl]
  exact h
theorem ite2 {c A B : Prop} [Decidable c] (h1 : c → A) (h2 : ¬ c → B) : if c then A else B := by
  by_cases h : c
  · rw [if_pos h]
    exact h1 h
  · rw [if_neg h]
    exact h2 h
/-! ### heaps -/
/-- all that was tracked is as it was -/
def Same (H H' : Hp) : Prop := ∀ b o, H b = some o → H' b = some o
theorem Same.refl (H : Hp) : Same H H := fun _ _ h => h
theorem Same.trans {H H1 H2 : Hp} (a : Same H H1) (b : Same H1 H2) : Same H H2 := fun c o h => b c o (a c o h)
theorem Same.free {H H' : Hp} (e : Same H H') {l : Addr} (h : H' l = Option.none) : H l = Option.none := by
  cases q : H l with
  | none => rfl
  | some o =>
    rw [e l o q] at h
    cases h
theorem Same.seq {K : PySem.W.Frag} {H H' : Hp} {a : Addr} {xs : List V} (e : Same H H') (h : SqL K H a xs) : SqL K H' a xs := by
  rcases h with (h | ⟨o, h⟩) | h
  · exact .inl (.inl (e _ _ h))
  · exact .inl (.inr ⟨o, e _ _ h⟩)
  · exact .inr h

end L2
namespace L2
open PySem PySem.Spec PyProof.Rows

/-! ### no exception -/
abbrev NoX : Value → Shared → Prop := fun _ _ => False
theorem noX {α : Type} {M : Model} {A : Around} {t : Sem α} {Q : α → Shared → Prop} {E : Value → Shared → Prop} {s : Shared} (h : wpAny M A t Q NoX s) : wpAny M A t Q E s := wpAny_mono h (fun _ _ q => q) fun _ _ z => z.elim

/-! ### a comprehension's turns -/
abbrev tstSem (ifs : List Expr) (env : Env) : Sem Bool := forIn ifs true fun c r => if r = true then do let ok ← isTrue c env (eval c env); pure (ForInStep.yield ok) else pure (ForInStep.yield r)
section
variable {prog : Program} {w : World} {A : Around} {R : Result → Shared → Prop} {s : Shared}
theorem comp_loop {elt tg iter : Expr} {ifs : List Expr} {sc : Scope} {pos : Pos} {it acc : Value} {env : Env} (I : Nat → Shared → Prop)
    (turn : ∀ n s, I n s → wpAny (model prog w) A (pyNext it) (fun r s1 => match r with
      | none => R (.ok .next) s1
      | some v => wpAny (model prog w) A (letOwnedTupleGo tg it v) (fun _ s2 => wpAny (model prog w) A (assign tg env v) (fun _ s3 => wpAny (model prog w) A (tstSem ifs env) (fun ok s4 =>
          if ok = true then wpAny (model prog w) A (eval elt env) (fun x s5 => wpAny (model prog w) A (call (.builtin "list.append") [acc, x]) (fun _ s6 => ∃ m, m < n ∧ I m s6) NoX s5) NoX s4
          else ∃ m, m < n ∧ I m s4) NoX s3) NoX s2) NoX s1) NoX s)
    (n : Nat) (h : I n s) : codeAny (model prog w) A (.compLoop (.ListComp elt [⟨tg, iter, ifs, 0⟩] sc pos) 0 it acc env) R s := by
  refine codeAny_loop rfl I (fun n s hI => ?_) n h
  show wpAny _ A ((compTurn (.ListComp elt [⟨tg, iter, ifs, 0⟩] sc pos) 0 it acc env).onRaise (fun x => do noteFrame x env; theTreesLotGoes x)) _ _ s
  refine wpAny_noted ?_
  rw [compTurn_list]
  refine wpAny_bind (wpAny_standAt (wpAny_bind (noX (thn (turn n s hI) fun r s1 h1 => ?_))))
  cases r with
  | none => exact wpAny_pure h1
  | some v =>
    refine wpAny_bind (noX (thn h1 fun _ s2 h2 => wpAny_bind (noX (thn h2 fun _ s3 h3 => wpAny_bind (noX (thn h3 fun ok s4 h4 => ?_))))))
    cases ok with
    | false => exact wpAny_pure ⟨rfl, h4⟩
    | true => exact wpAny_bind (wpAny_bind (noX (thn h4 fun x s5 h5 => wpAny_bind (noX (thn h5 fun _ s6 h6 => wpAny_pure (wpAny_pure ⟨rfl, h6⟩))))))
end

/-! ### the cells of the names that a block takes from around it -/
theorem closure_go {env : Env} : ∀ (l : List (Str × NameKind)) (acc : List (Str × Addr)), (∀ y ∈ l, y.2 = .free → ∃ c, env.cells.lookup y.1 = some c) → (∀ y c, acc.lookup y = some c → env.cells.lookup y = some c) →
    ∃ cl, (forIn l acc fun x r => if (x.2 == NameKind.free) = true then (do let c ← cellOf env x.1; pure (ForInStep.yield ((x.1, c) :: r))) else pure (ForInStep.yield r)) = (pure cl : Sem (List (Str × Addr))) ∧
      (∀ y c, cl.lookup y = some c → env.cells.lookup y = some c) ∧ (∀ y ∈ l, y.2 = .free → ∃ c, cl.lookup y.1 = some c) ∧ (∀ y c, acc.lookup y = some c → ∃ c', cl.lookup y = some c')
  | [], acc, _, h2 => ⟨acc, rfl, h2, (fun _ z => nomatch z), (fun _ c e => ⟨c, e⟩)⟩
  | (n, k) :: r, acc, h1, h2 => by
    rw [List.forIn_cons]
    by_cases hk : k = .free
    · subst hk
      obtain ⟨c, hc⟩ := h1 (n, .free) List.mem_cons_self rfl
      have e : cellOf env n = pure c := by
        have hc' : env.cells.lookup n = some c := hc
        unfold cellOf
        rw [hc']
      obtain ⟨cl, q1, q2, q3, q4⟩ := closure_go r ((n, c) :: acc) (fun y hy => h1 y (List.mem_cons_of_mem _ hy)) (fun y c' e' => by
        rw [List.lookup_cons] at e'
        by_cases hy : (y == n) = true
        · rw [hy] at e'
          have hn : y = n := eq_of_beq hy
          subst hn
          cases e'
          exact hc
        · rw [Bool.not_eq_true] at hy
          rw [hy] at e'
          exact h2 y c' e')
      refine ⟨cl, ?_, q2, fun y hy hf => ?_, fun y c' e' => ?_⟩
      · simp only [beq_self_eq_true, if_true, e, pure_bind]
        exact q1
      · rcases List.mem_cons.mp hy with rfl | hy
        · exact q4 n c (by simp)
        · exact q3 y hy hf
      · by_cases hy : (y == n) = true
        · have hn : y = n := eq_of_beq hy
          subst hn
          exact q4 y c (by simp)
        · rw [Bool.not_eq_true] at hy
          exact q4 y c' (by rw [List.lookup_cons, hy]; exact e')
    · have hb : (k == NameKind.free) = false := by simpa using hk
      obtain ⟨cl, q1, q2, q3, q4⟩ := closure_go r acc (fun y hy => h1 y (List.mem_cons_of_mem _ hy)) h2
      refine ⟨cl, ?_, q2, fun y hy hf => ?_, q4⟩
      · simp only [hb, Bool.false_eq_true, if_false, pure_bind]
        exact q1
      · rcases List.mem_cons.mp hy with rfl | hy
        · exact absurd hf hk
        · exact q3 y hy hf
theorem closure_ok {env : Env} {sc : Scope} (h : ∀ y ∈ sc.names, y.2 = .free → ∃ c, env.cells.lookup y.1 = some c) :
    ∃ cl, closureFor sc env = pure cl ∧ (∀ y c, cl.lookup y = some c → env.cells.lookup y = some c) ∧ ∀ y ∈ sc.names, y.2 = .free → ∃ c, cl.lookup y.1 = some c := by
  obtain ⟨cl, q1, q2, q3, _⟩ := closure_go sc.names [] h (fun _ _ z => nomatch z)
  refine ⟨cl, ?_, q2, q3⟩
  unfold closureFor
  rw [bind_pure]
  exact q1
theorem relabel_look {env : Env} {y : Str} {k : NameKind} {sc : Scope} (h : (relabel sc env).names.lookup y = some k) : ∃ k0, sc.names.lookup y = some k0 ∧ (k = k0 ∨ (k0 = .free ∧ k = .cell)) := by
  have go : ∀ l : List (Str × NameKind), (l.map fun (n, k) => if (k == .free && env.scope.kind == .function && env.kindOf n == some .cell) then (n, NameKind.cell) else (n, k)).lookup y = some k → ∃ k0, l.lookup y = some k0 ∧ (k = k0 ∨ (k0 = .free ∧ k = .cell)) := by
    intro l
    induction l with
    | nil => intro z; cases z
    | cons a r ih =>
      obtain ⟨n, k1⟩ := a
      intro z
      rw [List.map_cons] at z
      by_cases hc : (k1 == NameKind.free && env.scope.kind == .function && env.kindOf n == some .cell) = true
      · have hf : k1 = .free := by
          rw [Bool.and_eq_true, Bool.and_eq_true] at hc
          simpa using hc.1.1
        simp only [hc, if_true] at z
        rw [List.lookup_cons] at z ⊢
        by_cases hy : (y == n) = true
        · rw [hy] at z ⊢
          cases z
          exact ⟨k1, rfl, .inr ⟨hf, rfl⟩⟩
        · rw [Bool.not_eq_true] at hy
          rw [hy] at z ⊢
          exact ih z
      · simp only [hc, Bool.false_eq_true, if_false] at z
        rw [List.lookup_cons] at z ⊢
        by_cases hy : (y == n) = true
        · rw [hy] at z ⊢
          cases z
          exact ⟨_, rfl, .inl rfl⟩
        · rw [Bool.not_eq_true] at hy
          rw [hy] at z ⊢
          exact ih z
  exact go sc.names h
theorem relabel_free {env : Env} {y : Str} {sc : Scope} (h : sc.names.lookup y = some .free) : (relabel sc env).names.lookup y = some .cell ∨ (relabel sc env).names.lookup y = some .free := by
  have go : ∀ l : List (Str × NameKind), l.lookup y = some .free → (l.map fun (n, k) => if (k == .free && env.scope.kind == .function && env.kindOf n == some .cell) then (n, NameKind.cell) else (n, k)).lookup y = some .cell ∨
      (l.map fun (n, k) => if (k == .free && env.scope.kind == .function && env.kindOf n == some .cell) then (n, NameKind.cell) else (n, k)).lookup y = some .free := by
    intro l
    induction l with
    | nil => intro z; cases z
    | cons a r ih =>
      obtain ⟨n, k1⟩ := a
      intro z
      rw [List.lookup_cons] at z
      rw [List.map_cons]
      by_cases hy : (y == n) = true
      · rw [hy] at z
        cases z
        by_cases hc : (NameKind.free == NameKind.free && env.scope.kind == .function && env.kindOf n == some .cell) = true
        · simp only [hc, if_true]
          exact .inl (by rw [List.lookup_cons, hy])
        · simp only [hc, Bool.false_eq_true, if_false]
          exact .inr (by rw [List.lookup_cons, hy])
      · rw [Bool.not_eq_true] at hy
        rw [hy] at z
        by_cases hc : (k1 == NameKind.free && env.scope.kind == .function && env.kindOf n == some .cell) = true
        · simp only [hc, if_true]
          rw [List.lookup_cons, hy]
          exact ih z
        · simp only [hc, Bool.false_eq_true, if_false]
          rw [List.lookup_cons, hy]
          exact ih z
  exact go sc.names h

/-! ### the block's context -/
abbrev cxComp (X : Cx) (N : List Str) (sc : Scope) (cl : List (Str × Addr)) (C : Addr) (s : Shared) (H : Hp) (ex : List Addr) (pn : List (Addr × Obj)) : Cx :=
  { prog := X.prog, w := X.w, K := X.K, mg := X.mg, base := X.base, A := X.A, N := N, s₀ := s, H₀ := H, env := compEnvC sc cl C X.env, outer := X.stack, stack := X.stack, ex := ex, fn := fun _ => false, calm := X.calm, pn := pn, xe := fun _ _ => False }
/-- a block's tests -/
def PTs (X : Cx) (ifs : List Expr) (t : TT) : Prop :=
  ∀ (pins : List (Addr × Obj)) (s : Shared) (σ : St) (H : Hp) (Q : Bool → Hp → Prop), Inv X pins σ H s → t σ H Q → wpAny (model X.prog X.w) X.A (tstSem ifs X.env) (TP X pins σ Q) X.xe s
def tTrue : TT := fun _ H Q => Q true H
theorem ttT {σ : St} {H : Hp} {A B : Hp → Prop} (h : A H) : tTrue σ H (fun b H4 => if b = true then A H4 else B H4) := by
  show if true = true then A H else B H
  rw [if_pos rfl]
  exact h
theorem pts_nil {X : Cx} : PTs X [] tTrue := fun _ _ _ H _ I h => wpAny_tests_nil ⟨H, I, h⟩
theorem pts_one {X : Cx} {c : Expr} {t : TT} (hc : PT X c t) : PTs X [c] t := fun pins s σ H Q I h => wpAny_tests_one (hc pins s σ H Q I h)
/-- what the block sees of the names around it -/
def capV (σ : St) (caps : List Nat) : St := caps.map fun i => (σ[i]?).getD none
def CompW (J : It) (p : Addr) (tt : TT) (te : TE) (cs : St) (Q : VK) (H1 : Hp) : Prop := ∃ W : Nat → Nat → List V → Hp → Prop, (∃ m, W 0 m [] (upd H1 p (.lst []))) ∧ ∀ i m ys H2, W i m ys H2 →
  (J.stop i H2 ∧ Q (.ref p) H2) ∨ (J.go i H2 ∧ ∃ N : List V → Hp → Prop, (∀ ys' H', N ys' H' → ∃ m', m' < m ∧ W (i + 1) m' ys' H') ∧
    ∀ v H3, J.yld i H2 v H3 → tt (some v :: cs) H3 fun b H4 => if b = true then te (some v :: cs) H4 fun y H5 => H5 p = some (.lst ys) ∧ ys.length < sizeLine ∧ N (ys ++ [y]) (upd H5 p (.lst (ys ++ [y]))) else N ys H4)
/-- .. with what must hold of the heap at each turn and at the end -/
def CompWG (Gs : Hp → Prop) (J : It) (p : Addr) (tt : TT) (te : TE) (cs : St) (Q : VK) (H1 : Hp) : Prop := ∃ W : Nat → Nat → List V → Hp → Prop, (∃ m, W 0 m [] (upd H1 p (.lst []))) ∧ ∀ i m ys H2, W i m ys H2 →
  (J.stop i H2 ∧ Gs H2 ∧ Q (.ref p) H2) ∨ (J.go i H2 ∧ Gs H2 ∧ ∃ N : List V → Hp → Prop, (∀ ys' H', N ys' H' → ∃ m', m' < m ∧ W (i + 1) m' ys' H') ∧
    ∀ v H3, J.yld i H2 v H3 → tt (some v :: cs) H3 fun b H4 => if b = true then te (some v :: cs) H4 fun y H5 => H5 p = some (.lst ys) ∧ ys.length < sizeLine ∧ N (ys ++ [y]) (upd H5 p (.lst (ys ++ [y]))) else N ys H4)
def tCompC (CW : It → Addr → St → VK → Hp → Prop) (wi : TI) (caps : List Nat) : TE := fun σ H Q => wi σ H fun J H1 => ∀ p, H1 p = none → CW J p (capV σ caps) Q H1
def tComp (wi : TI) (tt : TT) (te : TE) (caps : List Nat) : TE := fun σ H Q => wi σ H fun J H1 => ∀ p, H1 p = none → CompW J p tt te (capV σ caps) Q H1

theorem comp_go {X : Cx} {use : Option (Value → Sem Unit)} {Post : Value → Shared → Prop} {pins : List (Addr × Obj)} {s : Shared} {σ : St} {H : Hp} {Q : VK} {Gs : Hp → Prop} {hb : Bool} {CW : It → Addr → St → VK → Hp → Prop} {elt iter : Expr} {ifs : List Expr} {x : Str} {px pos : Pos} {sc : Scope} {wi : TI} {tt : TT} {te : TE} (caps : List Nat) (capsN : List Str)
    (hi : PI X (.Name x px) iter wi hb)
    (ht : ∀ cl C s H ex pn, PTs (cxComp X (x :: capsN) sc cl C s H ex pn) ifs tt)
    (he : ∀ cl C s H ex pn, PE (cxComp X (x :: capsN) sc cl C s H ex pn) elt te)
    (hkind : sc.kind = .function) (hcell : ∀ y ∈ sc.names, y.2 ≠ .cell) (hnames : ∀ y ∈ sc.names, y.2 = .local → sc.names.lookup y.1 = some .local) (hx : sc.names.lookup x = some .local)
    (hfr : ∀ y ∈ sc.names, y.2 = .free → y.1 ∈ capsN)
    (hcap : ∀ (j : Nat) (y : Str), capsN[j]? = some y → ∃ i : Nat, caps[j]? = some i ∧ X.N[i]? = some y ∧ sc.names.lookup y = some .free ∧ (X.env.kindOf y = some .cell ∨ X.env.kindOf y = some .free)) (hlen : caps.length = capsN.length)
    (hnd : (x :: capsN).Nodup) (hc : X.calm = true ∨ (hb = true ∧ ∀ s H, HOk X.prog X.w H s.heap → Gs H → HandQ X s)) (kW : ∀ J p cs Q H1, CW J p cs Q H1 → CompWG Gs J p tt te cs Q H1)
    (hs : ∀ x, foldedSetIterable iter X.env x = pure x) (I : Inv X pins σ H s) (h : tCompC CW wi caps σ H Q)
    (fin : ∀ (C p : Addr) (H5 : Hp) (s5 : Shared), (∃ m, s5.heap.Ns C m) → Inv X pins σ H5 s5 → FpOk X pins H5 C → Q (.ref p) H5 → compPost (model X.prog X.w) X.A X.xe use Post (.ref p) C (.ok .next) s5) :
    wpAny (model X.prog X.w) X.A (comprehension (.ListComp elt [⟨.Name x px, iter, ifs, 0⟩] sc pos) sc X.env (firstIterPos [⟨.Name x px, iter, ifs, 0⟩] pos) (newList []) (firstAsync [⟨.Name x px, iter, ifs, 0⟩]) (firstIter [⟨.Name x px, iter, ifs, 0⟩] X.env) use) Post X.xe s := by
  have hEnd : ∀ s H, HOk X.prog X.w H s.heap → Gs H → EndQ hb X s := by
    rcases hc with hc | ⟨e, k⟩
    · exact fun _ _ _ _ => .inl (I.ok.hd hc)
    · exact fun s H o g => .inr ⟨e, k s H o g⟩
  obtain ⟨cl, hclos, hq2, hq3⟩ := closure_ok (env := X.env) (sc := sc) (fun y hy hf => by
    obtain ⟨j, hj⟩ := List.mem_iff_getElem?.mp (hfr y hy hf)
    obtain ⟨_, _, _, _, k⟩ := hcap j y.1 hj
    exact I.ok.has y.1 k)
  refine wpAny_comprehension_free (use := use) rfl hs hclos hkind hnames (thn (hi pins s σ H _ I h) fun v s1 h1 => thn h1 fun itv s2 h2 => ?_)
  obtain ⟨it, fp, tn, J, H2, e, I2, T, st2, f2, q⟩ := h2
  subst e
  refine wpAny_newObj_type (wpAny_newFunctionEnv hcell (by intro y hy; simp at hy) (fun h1 hns hsb => ?_) hkind)
  dsimp only at hns hsb ⊢
  obtain ⟨W, ⟨m0, w0⟩, turn⟩ := kW _ _ _ _ _ (q s2.heap.objs.size (I2.hok.fresh (Nat.le_refl _)))
  have I3 : Inv X pins σ (upd H2 s2.heap.objs.size (.lst [])) { s2 with heap := s2.heap.push { cls := .type "list", dict := none, data := .seq ([] : List Value).toArray }, toks := s2.toks } := I2.lnew (its := []) (ys := []) (t' := s2.toks) .nil (Nat.zero_le _)
  generalize hH3 : s2.heap.push { cls := .type "list", dict := none, data := .seq ([] : List Value).toArray } = g3 at hns hsb I3 ⊢
  have hsz3 : g3.objs.size = s2.heap.objs.size + 1 := by rw [← hH3, Heap.size_push]
  generalize hHp : upd H2 s2.heap.objs.size (.lst []) = Hp3 at w0 I3
  have hlt : ∀ b o, g3.get? b = some o → b ≠ g3.objs.size := fun b o e => Nat.ne_of_lt (Heap.lt_size e)
  have old : ∀ b o, g3.get? b = some o → h1.get? b = some o := fun b o e => hsb.extBut b o (hlt b o e) (Heap.get?_push_of_some _ e)
  have fpo : ∀ b ∈ fp, ∃ o, g3.get? b = some o := fun b hb => by
    obtain ⟨o, e, _⟩ := T.obj 0 s2.heap st2 b hb
    exact ⟨o, by rw [← hH3]; exact Heap.get?_push_of_some _ e⟩
  have fpC : ∀ b ∈ fp, b ≠ g3.objs.size := fun b hb => by obtain ⟨o, e⟩ := fpo b hb; exact hlt b o e
  have fpH : ∀ b ∈ fp, Hp3 b = none := fun b hb => by
    obtain ⟨o, e, _⟩ := T.obj 0 s2.heap st2 b hb
    rw [← hHp, upd_ne (Nat.ne_of_lt (Heap.lt_size e))]
    exact (f2 b hb).1
  have fsSub : ∀ b, b ≠ X.env.locals → b ∉ X.fs → b ∉ frs X.stack := fun b h1 h2 z => by
    rcases List.mem_cons.mp (I2.stkSub b z) with z | z
    · exact h1 z
    · exact h2 z
  -- the block's context
  have okc : (cxComp X (x :: capsN) sc cl g3.objs.size { s2 with heap := g3, toks := s2.toks } Hp3 fp (X.pn ++ pins)).Ok := by
    refine ⟨I3.ok.mod, hkind, I3.ok.glob, I3.ok.blt, Nat.le_refl _, fun y z c e1 e2 => I3.ok.inj y z c (hq2 y c e1) (hq2 z c e2), fun y hy => ?_, fun y c z => absurd z Bool.false_ne_true, I3.ok.hd, I3.ok.frames, .inl rfl, fun b hb => ⟨fpC b hb, fun y c e => (f2 b hb).2.2.2.2.1 y c (hq2 y c e)⟩,
      I3.bs, Nat.le_trans I3.ok.bsz I3.sz, fun b o e hb => ?_, fun b hb => fsSub b (f2 b hb).2.1 (f2 b hb).2.2.1, I3.stack, I3.stkFree⟩
    · have hy' : ∃ k, (relabel sc X.env).names.lookup y = some k ∧ (k = .cell ∨ k = .free) := by
        rcases hy with hy | hy
        · exact ⟨_, hy, .inl rfl⟩
        · exact ⟨_, hy, .inr rfl⟩
      obtain ⟨k, e, hk⟩ := hy'
      obtain ⟨k0, e0, hk0⟩ := relabel_look e
      have em := PySem.mem_of_lookup e0
      rcases hk0 with rfl | ⟨rfl, _⟩
      · rcases hk with rfl | rfl
        · exact absurd rfl (hcell _ em)
        · exact hq3 _ em rfl
      · exact hq3 _ em rfl
    · rcases (f2 b hb).2.2.2.1 with z | z
      · exact I3.ok.noex b o e z
      · have h1 : b < X.base.objs.size := Heap.lt_size e
        have h2 := I3.ok.bsz
        exact absurd (Nat.lt_of_lt_of_le h1 (Nat.le_trans h2 z)) (Nat.lt_irrefl _)
  have Ic : Inv (cxComp X (x :: capsN) sc cl g3.objs.size { s2 with heap := g3, toks := s2.toks } Hp3 fp (X.pn ++ pins)) [] (none :: capV σ caps) Hp3 { s2 with heap := h1, toks := s2.toks + ([] : List (Str × Value)).length } := by
    refine ⟨okc, rfl, I3.bare, Un.kept old, ⟨_, hns, fun i y v e1 e2 e3 => ?_⟩, fun y c e => ?_, I3.hok.fresh (Nat.le_refl _), fun y c e => I3.freeC y c (hq2 y c e), fun p hp => ?_, I3.hok.kept old, ?_⟩
    · cases i with
      | zero => cases e2
      | succ j =>
        have e1' : capsN[j]? = some y := e1
        obtain ⟨i, c1, c2, c3, c4⟩ := hcap j y e1'
        have e2' : (capV σ caps)[j]? = some (some v) := e2
        have hv : σ[i]? = some (some v) := by
          unfold capV at e2'
          rw [List.getElem?_map, c1] at e2'
          have e4 : (σ[i]?).getD none = some v := Option.some.inj e2'
          cases e5 : σ[i]? with
          | none => rw [e5] at e4; cases e4
          | some w => rw [e5] at e4; exact congrArg some e4
        obtain ⟨m, _, hl⟩ := I3.loc
        have vis : Vis X.env.scope y := by
          rcases c4 with z | z
          · exact .inr (.inl z)
          · exact .inr (.inr z)
        obtain ⟨u, r, l⟩ := hl i y v c2 hv vis
        refine ⟨u, r, .inr ⟨relabel_free c3, ?_⟩⟩
        rcases l with ⟨lk, _⟩ | ⟨_, c, ec, o, ho, hd⟩
        · rcases c4 with z | z <;> (rw [lk] at z; cases z)
        · obtain ⟨c', e'⟩ := hq3 _ (PySem.mem_of_lookup c3) rfl
          have e'' := hq2 _ _ e'
          have e3' : (some c' : Option Addr) = some c := e''.symm.trans ec
          cases e3'
          exact ⟨c, e', o, old _ _ ho, hd⟩
    · obtain ⟨v, o, ho, hd⟩ := I3.cell y c (hq2 y c e)
      exact ⟨v, o, old _ _ ho, hd⟩
    · have hp' : p ∈ X.pn ++ pins := by simpa using hp
      obtain ⟨e1, e2, e3, e4, e5⟩ := I3.pin p hp'
      exact ⟨old _ _ e1, e2, hlt _ _ e1, fsSub _ e3 e4, e5⟩
    · show (capV σ caps).length + 1 = capsN.length + 1
      unfold capV
      rw [List.length_map, hlen]
  have stat : ∀ {H' : Hp}, (∀ b ∈ fp, H' b = none) → ∀ b ∈ fp, FpOk (cxComp X (x :: capsN) sc cl g3.objs.size { s2 with heap := g3, toks := s2.toks } Hp3 fp (X.pn ++ pins)) [] H' b := fun hn b hb =>
    ⟨hn b hb, fpC b hb, fsSub b (f2 b hb).2.1 (f2 b hb).2.2.1, .inl hb, fun y c e => (f2 b hb).2.2.2.2.1 y c (hq2 y c e), fun p hp => (f2 b hb).2.2.2.2.2 p (by simpa using hp)⟩
  -- behind the block
  have back : ∀ {pins5 : List (Addr × Obj)} {σ5 : St} {H5 : Hp} {s5 : Shared} {h' : Heap}, Inv (cxComp X (x :: capsN) sc cl g3.objs.size { s2 with heap := g3, toks := s2.toks } Hp3 fp (X.pn ++ pins)) pins5 σ5 H5 s5 → Heap.SameBut g3.objs.size s5.heap h' → Inv X pins σ H5 { s5 with heap := h' } := by
    intro pins5 σ5 H5 s5 h' I5 sb
    have un : Un (frs X.stack) fp Hp3 H5 g3 s5.heap := I5.base
    have fr : H5 g3.objs.size = none := I5.free
    have un' : Un (frs X.stack) fp Hp3 H5 g3 h' := ⟨fun b o e n hb hx => (sb.2 b (hlt b o e)).trans (un.keep b o e n hb hx),
      fun b o e n hb hx => by obtain ⟨sl, z⟩ := un.slot b o e n hb hx; exact ⟨sl, (sb.2 b (hlt b o e)).trans z⟩, un.free,
      fun b o e hx => by obtain ⟨o', z⟩ := un.there b o e hx; exact ⟨o', (sb.2 b (hlt b o e)).trans z⟩, un.tups, un.frzs, un.tbls⟩
    have hok : HOk X.prog X.w H5 h' := fun b u e => (I5.hok b u e).stay (fun c v hc' z => (sb.2 c (by
      rintro rfl
      rcases hc' with hc' | hc'
      · rw [hc', e] at fr; cases fr
      · rw [fr] at hc'; cases hc')).trans z) (fun _ z => z) (fun _ _ z => z)
    obtain ⟨hh, g, d, t, os⟩ := s5
    have eo : os = s2.os := I5.os
    subst eo
    have z := I3.call (h' := h') (g' := g) (d' := d) (t' := t) (ch := fp) un' hok I5.bare fun b hb => ⟨(f2 b hb).2.2.2.1, (f2 b hb).2.1, (f2 b hb).2.2.2.2.1, (f2 b hb).2.2.2.2.2⟩
    exact z
  have st4 : tn 0 h1 := T.keep 0 s2.heap h1 st2 fun b hb o e => old b o (by rw [← hH3]; exact Heap.get?_push_of_some _ e)
  have loop : codeAny (model X.prog X.w) X.A (.compLoop (.ListComp elt [⟨.Name x px, iter, ifs, 0⟩] sc pos) 0 (.ref it) (.ref s2.heap.objs.size) (compEnvC sc cl g3.objs.size X.env))
      (compPost (model X.prog X.w) X.A X.xe use Post (.ref s2.heap.objs.size) g3.objs.size) { s2 with heap := h1, toks := s2.toks + ([] : List (Str × Value)).length } := by
    refine comp_loop (fun n s' => ∃ i ys v0 H', Inv (cxComp X (x :: capsN) sc cl g3.objs.size { s2 with heap := g3, toks := s2.toks } Hp3 fp (X.pn ++ pins)) [] (v0 :: capV σ caps) H' s' ∧ tn i s'.heap ∧ (∀ b ∈ fp, H' b = none) ∧ W i n ys H') ?_ m0 ⟨0, [], none, Hp3, Ic, st4, fpH, w0⟩
    rintro n s' ⟨i, ys, v0, H', I', st', fr', w'⟩
    rcases turn i n ys H' w' with ⟨stop, gs, qn⟩ | ⟨go, gs, N, hN, step⟩
    · refine thn (T.done (cxComp X (x :: capsN) sc cl g3.objs.size { s2 with heap := g3, toks := s2.toks } Hp3 fp (X.pn ++ pins)) rfl rfl rfl s' (hEnd s' H' I'.hok gs) i [] _ H' NoX I' (stat fr') st' stop) fun r s5 ⟨hr, I5⟩ => ?_
      subst hr
      obtain ⟨m, hn, _⟩ := id I5.loc
      exact fin g3.objs.size s2.heap.objs.size H' s5 ⟨m, hn⟩ (back (h' := s5.heap) I5 ⟨rfl, fun _ _ => rfl⟩) (I3.fpOk (Nat.le_refl _) I5.free) qn
    · refine thn (T.item (cxComp X (x :: capsN) sc cl g3.objs.size { s2 with heap := g3, toks := s2.toks } Hp3 fp (X.pn ++ pins)) rfl rfl rfl s' (hEnd s' H' I'.hok gs) i [] _ H' NoX I' (stat fr') st' go) fun r s5 ⟨u, hr, h5⟩ => ?_
      subst hr
      refine thn h5 fun _ s6 ⟨v, H6, I6, r6, y6, st6, fr6⟩ => ?_
      have I6' := I6.pinned (stat fr6) (T.obj _ _ st6)
      have again : ∀ {σ7 : St} {H7 : Hp} {s7 : Shared} {ys' : List V}, σ7 = some v :: capV σ caps → Inv (cxComp X (x :: capsN) sc cl g3.objs.size { s2 with heap := g3, toks := s2.toks } Hp3 fp (X.pn ++ pins)) ([] ++ pinsAt fp s6.heap) σ7 H7 s7 → N ys' H7 →
          ∃ m, m < n ∧ ∃ i ys v0 H', Inv (cxComp X (x :: capsN) sc cl g3.objs.size { s2 with heap := g3, toks := s2.toks } Hp3 fp (X.pn ++ pins)) [] (v0 :: capV σ caps) H' s7 ∧ tn i s7.heap ∧ (∀ b ∈ fp, H' b = none) ∧ W i m ys H' := by
        intro σ7 H7 s7 ys' eσ I7 n7
        subst eσ
        obtain ⟨m', hm, w7⟩ := hN ys' H7 n7
        refine ⟨m', hm, i + 1, ys', some v, H7, I7.unpinned, T.keep _ _ _ st6 fun b hb o e => (I7.pin (b, o) (List.mem_append_right _ (List.mem_append_right _ (mem_pinsAt hb e)))).1, fun b hb => ?_, w7⟩
        obtain ⟨o, e, d⟩ := T.obj _ _ st6 b hb
        exact (I7.pin (b, o) (List.mem_append_right _ (List.mem_append_right _ (mem_pinsAt hb e)))).2.1
      refine thn (pg_name (X := cxComp X (x :: capsN) sc cl g3.objs.size { s2 with heap := g3, toks := s2.toks } Hp3 fp (X.pn ++ pins)) (i := 0) hnd rfl (Or.inl (lookup_relabel_local hx)) (.inr (lookup_relabel_local hx)) _ s6 _ H6 v u
        (fun σ' H' => σ' = some v :: capV σ caps ∧ H' = H6) I6' r6 ⟨rfl, rfl⟩) fun _ s7 ⟨σ7, H7, I7, e7, e7'⟩ => ?_
      subst e7 e7'
      refine thn (ht _ _ _ _ _ _ _ s7 _ H7 _ I7 (step v H7 y6)) fun ok s8 ⟨H8, I8, q8⟩ => ?_
      cases ok with
      | false => exact again rfl I8 q8
      | true =>
        refine thn (he _ _ _ _ _ _ _ s8 _ H8 _ I8 q8) fun y s9 ⟨yv, H9, I9, r9, hp9, hz9, n9⟩ => ?_
        refine thn (mt_append (X := cxComp X (x :: capsN) sc cl g3.objs.size { s2 with heap := g3, toks := s2.toks } Hp3 fp (X.pn ++ pins)) _ s9 _ H9 (.ref s2.heap.objs.size) [yv] (.ref s2.heap.objs.size) [y] (fun _ H' => H' = upd H9 s2.heap.objs.size (.lst (ys ++ [yv]))) I9 rfl (.cons r9 .nil)
          ⟨s2.heap.objs.size, ys, yv, rfl, rfl, hp9, hz9, rfl⟩) fun _ s10 ⟨_, H10, I10, _, e10⟩ => ?_
        subst e10
        exact again rfl I10 n9
  exact codeAny_compStart_list loop (T.self X.A 0 _ _ _ st4 loop)

theorem pe_compG {X : Cx} {Gs : Hp → Prop} {hb : Bool} {CW : It → Addr → St → VK → Hp → Prop} {elt iter : Expr} {ifs : List Expr} {x : Str} {px pos : Pos} {sc : Scope} {wi : TI} {tt : TT} {te : TE} (caps : List Nat) (capsN : List Str)
    (hi : PI X (.Name x px) iter wi hb)
    (ht : ∀ cl C s H ex pn, PTs (cxComp X (x :: capsN) sc cl C s H ex pn) ifs tt)
    (he : ∀ cl C s H ex pn, PE (cxComp X (x :: capsN) sc cl C s H ex pn) elt te)
    (hkind : sc.kind = .function) (hcell : ∀ y ∈ sc.names, y.2 ≠ .cell) (hnames : ∀ y ∈ sc.names, y.2 = .local → sc.names.lookup y.1 = some .local) (hx : sc.names.lookup x = some .local)
    (hfr : ∀ y ∈ sc.names, y.2 = .free → y.1 ∈ capsN)
    (hcap : ∀ (j : Nat) (y : Str), capsN[j]? = some y → ∃ i : Nat, caps[j]? = some i ∧ X.N[i]? = some y ∧ sc.names.lookup y = some .free ∧ (X.env.kindOf y = some .cell ∨ X.env.kindOf y = some .free)) (hlen : caps.length = capsN.length)
    (hnd : (x :: capsN).Nodup) (hc : X.calm = true ∨ (hb = true ∧ ∀ s H, HOk X.prog X.w H s.heap → Gs H → HandQ X s)) (kW : ∀ J p cs Q H1, CW J p cs Q H1 → CompWG Gs J p tt te cs Q H1)
    (hs : ∀ x, foldedSetIterable iter X.env x = pure x := by intro _; rfl) :
    PE X (.ListComp elt [⟨.Name x px, iter, ifs, 0⟩] sc pos) (tCompC CW wi caps) := by
  intro pins s σ H Q I h
  rw [eval_ListComp]
  exact comp_go (use := none) caps capsN hi ht he hkind hcell hnames hx hfr hcap hlen hnd hc kW hs I h fun C p H5 s5 ⟨m, hn⟩ I5 f q => ⟨m, hn, fun h' sb => ⟨.ref p, H5, I5.turned (t' := s5.toks) (fun b o hb e => (sb.2 b hb).trans e) f.1 f.2.1 f.2.2.2.1 f.2.2.2.2.1 f.2.2.2.2.2, rfl, q⟩⟩
/-- y = [.. for ..], y a local name: stored ahead of the block's own names' end -/
theorem ps_setC {X : Cx} {Gs : Hp → Prop} {hb : Bool} {CW : It → Addr → St → VK → Hp → Prop} {elt iter : Expr} {ifs : List Expr} {x y : Str} {px pos pos' pos2 : Pos} {sc : Scope} {wi : TI} {tt : TT} {te : TE} {i : Nat} (hN : X.N.Nodup) (hiN : X.N[i]? = some y) (hy : X.env.scope.names.lookup y = some .local) (caps : List Nat) (capsN : List Str)
    (hi : PI X (.Name x px) iter wi hb)
    (ht : ∀ cl C s H ex pn, PTs (cxComp X (x :: capsN) sc cl C s H ex pn) ifs tt)
    (he : ∀ cl C s H ex pn, PE (cxComp X (x :: capsN) sc cl C s H ex pn) elt te)
    (hkind : sc.kind = .function) (hcell : ∀ y ∈ sc.names, y.2 ≠ .cell) (hnames : ∀ y ∈ sc.names, y.2 = .local → sc.names.lookup y.1 = some .local) (hx : sc.names.lookup x = some .local)
    (hfr : ∀ y ∈ sc.names, y.2 = .free → y.1 ∈ capsN)
    (hcap : ∀ (j : Nat) (y : Str), capsN[j]? = some y → ∃ i : Nat, caps[j]? = some i ∧ X.N[i]? = some y ∧ sc.names.lookup y = some .free ∧ (X.env.kindOf y = some .cell ∨ X.env.kindOf y = some .free)) (hlen : caps.length = capsN.length)
    (hnd : (x :: capsN).Nodup) (hc : X.calm = true ∨ (hb = true ∧ ∀ s H, HOk X.prog X.w H s.heap → Gs H → HandQ X s)) (kW : ∀ J p cs Q H1, CW J p cs Q H1 → CompWG Gs J p tt te cs Q H1)
    (hsw : swapsWith (.ListComp elt [⟨.Name x px, iter, ifs, 0⟩] sc pos) (some (.Name y pos')) pos2.line X.env = pure true := by rfl)
    (hs : ∀ x, foldedSetIterable iter X.env x = pure x := by intro _; rfl) :
    PS X (.Assign [.Name y pos'] (.ListComp elt [⟨.Name x px, iter, ifs, 0⟩] sc pos) pos2) (tAsg (tCompC CW wi caps) (gName i)) := by
  intro pins s σ H D I h
  rw [exec_Assign_Name_used _ _ _ _ hsw, arm_evalThenUse_ListComp]
  refine wpAny_bind (wpAny_standAt (wpAny_bind (wpAny_bind (comp_go (use := some (assign (.Name y pos') X.env)) caps capsN hi ht he hkind hcell hnames hx hfr hcap hlen hnd hc kW hs I h fun C p H5 s5 ⟨m, hn⟩ I5 f q => ?_))))
  refine wpAny_assign_Name (store_ok2 I5 hN hiN (.inl hy) (show RelV (.ref p) (.ref p) from rfl) (fun s6 I6 ⟨a, sb, ha⟩ => ?_) (.inr hy))
  have nC : C ≠ a := by
    rcases ha with ha | ha
    · rw [ha]; exact f.2.1
    · exact fun z => f.2.2.2.2.1 y a ha z.symm
  obtain ⟨o, es, ep, ho, r⟩ := hn
  refine ⟨m, ⟨o, es, ep, (sb.2 C nC).trans ho, r⟩, fun h' sb' => ?_⟩
  have I7 := I6.turned (t' := s6.toks) (h' := h') (fun b o hb e => (sb'.2 b hb).trans e) f.1 f.2.1 f.2.2.2.1 f.2.2.2.2.1 f.2.2.2.2.2
  exact wpAny_pure (wpAny_pure ⟨_, H5, I7, q⟩)
theorem CompW.g {J : It} {p : Addr} {tt : TT} {te : TE} {cs : St} {Q : VK} {H1 : Hp} (h : CompW J p tt te cs Q H1) : CompWG (fun _ => True) J p tt te cs Q H1 := by
  obtain ⟨W, h0, h1⟩ := h
  refine ⟨W, h0, fun i m ys H2 w => ?_⟩
  rcases h1 i m ys H2 w with ⟨a, b⟩ | ⟨a, b⟩
  · exact .inl ⟨a, trivial, b⟩
  · exact .inr ⟨a, trivial, b⟩
theorem pe_comp {X : Cx} {elt iter : Expr} {ifs : List Expr} {x : Str} {px pos : Pos} {sc : Scope} {wi : TI} {tt : TT} {te : TE} (caps : List Nat) (capsN : List Str)
    (hi : PI X (.Name x px) iter wi)
    (ht : ∀ cl C s H ex pn, PTs (cxComp X (x :: capsN) sc cl C s H ex pn) ifs tt)
    (he : ∀ cl C s H ex pn, PE (cxComp X (x :: capsN) sc cl C s H ex pn) elt te)
    (hkind : sc.kind = .function) (hcell : ∀ y ∈ sc.names, y.2 ≠ .cell) (hnames : ∀ y ∈ sc.names, y.2 = .local → sc.names.lookup y.1 = some .local) (hx : sc.names.lookup x = some .local)
    (hfr : ∀ y ∈ sc.names, y.2 = .free → y.1 ∈ capsN)
    (hcap : ∀ (j : Nat) (y : Str), capsN[j]? = some y → ∃ i : Nat, caps[j]? = some i ∧ X.N[i]? = some y ∧ sc.names.lookup y = some .free ∧ (X.env.kindOf y = some .cell ∨ X.env.kindOf y = some .free)) (hlen : caps.length = capsN.length)
    (hnd : (x :: capsN).Nodup) (hc : X.calm = true)
    (hs : ∀ x, foldedSetIterable iter X.env x = pure x := by intro _; rfl) :
    PE X (.ListComp elt [⟨.Name x px, iter, ifs, 0⟩] sc pos) (tComp wi tt te caps) :=
  pe_compG (Gs := fun _ => True) (hb := false) (CW := fun J p cs Q H1 => CompW J p tt te cs Q H1) caps capsN hi ht he hkind hcell hnames hx hfr hcap hlen hnd (.inl hc) (fun _ _ _ _ _ h => h.g) hs

/-- a block over n items, by its word: turn, what is made so far, heap -/
theorem comp_by {J : It} {p : Addr} {tt : TT} {te : TE} {cs : St} {Q : VK} {H1 : Hp} (n : Nat) (Pv : Nat → List V → Hp → Prop) (h0 : Pv 0 [] (upd H1 p (.lst [])))
    (hs : ∀ i ys H, i < n → Pv i ys H → J.go i H ∧ ∀ v H3, J.yld i H v H3 → tt (some v :: cs) H3 fun b H4 => if b = true then te (some v :: cs) H4 fun y H5 => H5 p = some (.lst ys) ∧ ys.length < sizeLine ∧ Pv (i + 1) (ys ++ [y]) (upd H5 p (.lst (ys ++ [y]))) else Pv (i + 1) ys H4)
    (hd : ∀ ys H, Pv n ys H → J.stop n H ∧ Q (.ref p) H) : CompW J p tt te cs Q H1 := by
  refine ⟨fun i m ys H => m = n - i ∧ i ≤ n ∧ Pv i ys H, ⟨n, by simp, Nat.zero_le _, h0⟩, ?_⟩
  rintro i m ys H ⟨rfl, hi, pv⟩
  by_cases hlt : i < n
  · obtain ⟨g, st⟩ := hs i ys H hlt pv
    exact .inr ⟨g, Pv (i + 1), fun ys' H' p' => ⟨n - (i + 1), by omega, rfl, hlt, p'⟩, st⟩
  · have e : i = n := by omega
    subst e
    exact .inl (hd ys H pv)

/-! ### over a text's signs -/
/-! ### isinstance -/
section
variable {X : Cx}
theorem call_isinst : CallR X (.builtin "isinstance") (fun vs H Q => ∃ x T t b, vs = [x, .ty T] ∧ TyOf X.K H x t ∧ PySem.W.kitOne X.K t (.type T) = some b ∧ Q (.bl b) H) := by
  intro pins s σ H xs us Q I r h
  obtain ⟨x, T, t, b, rfl, ty, e, q⟩ := h
  obtain ⟨u, v, rfl, rx, rv⟩ := r.two
  cases (show v = Value.type T from rv)
  exact isinst_ok I rx ty e fun tk => ⟨.bl b, H, I.tok tk, rfl, q⟩

/-! ### texts -/
/-! ### lists compared, flat items -/
def eqVs : List V → List V → Bool
  | [], [] => true
  | x :: xs, y :: ys => eqV x y && eqVs xs ys
  | _, _ => false
theorem eqVs_len : ∀ {xs ys : List V}, xs.length ≠ ys.length → eqVs xs ys = false
  | [], [], h => absurd rfl h
  | [], _ :: _, _ => rfl
  | _ :: _, [], _ => rfl
  | x :: xs, y :: ys, h => by
    have h' : xs.length ≠ ys.length := fun e => h (by rw [List.length_cons, List.length_cons, e])
    show (eqV x y && eqVs xs ys) = false
    rw [eqVs_len h', Bool.and_false]
def eqAtN (xs ys : List V) (j : Nat) : Bool := match xs[j]?, ys[j]? with
  | some a, some b => eqV a b
  | _, _ => false
theorem all_eqAtN : ∀ {xs ys : List V}, xs.length = ys.length → (List.range xs.length).all (eqAtN xs ys) = eqVs xs ys
  | [], [], _ => rfl
  | [], _ :: _, h => by simp at h
  | _ :: _, [], h => by simp at h
  | x :: xs, y :: ys, h => by
    have h' : xs.length = ys.length := by simpa using h
    rw [List.length_cons, List.range_succ_eq_map, List.all_cons, List.all_map]
    have e : ((eqAtN (x :: xs) (y :: ys)) ∘ Nat.succ) = eqAtN xs ys := by
      funext j
      simp [eqAtN]
    rw [e, all_eqAtN h']
    rfl
theorem items_eqAt {A : Around} {s : Shared} {xs ys : List V} {us vs : List Value} (r : Vals xs us) (q : Vals ys vs) (fx : xs.all flatV = true) (fy : ys.all flatV = true) (j : Nat) (h1 : j < us.toArray.size) (h2 : j < vs.toArray.size) :
    SeqAt.EqAt A s us.toArray[j] vs.toArray[j] (eqAtN xs ys j) := by
  have l1 := r.length
  have l2 := q.length
  have h1' : j < xs.length := by rw [l1]; simpa using h1
  have h2' : j < ys.length := by rw [l2]; simpa using h2
  obtain ⟨u, eu, ru⟩ := r.get (i := j) (x := xs[j]) (by simp [h1'])
  obtain ⟨v, ev, rv⟩ := q.get (i := j) (x := ys[j]) (by simp [h2'])
  have e1 : us.toArray[j] = u := by
    obtain ⟨_, e⟩ := List.getElem?_eq_some_iff.mp eu
    simpa using e
  have e2 : vs.toArray[j] = v := by
    obtain ⟨_, e⟩ := List.getElem?_eq_some_iff.mp ev
    simpa using e
  have e3 : eqAtN xs ys j = eqV xs[j] ys[j] := by simp [eqAtN, h1', h2']
  rw [e1, e2, e3]
  exact eqAt_V ru rv (List.all_eq_true.mp fx _ (List.getElem_mem h1')) (List.all_eq_true.mp fy _ (List.getElem_mem h2'))
def rEqL (K : PySem.W.Frag) (neg : Bool) : R2 := fun x y H Q => ∃ a b xs ys, x = .ref a ∧ y = .ref b ∧ SqL K H a xs ∧ SqL K H b ys ∧ xs.all flatV = true ∧ ys.all flatV = true ∧ Q (.bl (if neg then !eqVs xs ys else eqVs xs ys)) H
theorem op_eqL (hu : X.A.units < cLine) : OpR X (compareOp .Eq) (rEqL X.K false) := by
  intro pins s σ H x y v u Q I rx ry h
  obtain ⟨a, b, xs, ys, rfl, rfl, ha, hb, fx, fy, q⟩ := h
  cases rx
  cases ry
  obtain ⟨its, r1, p1, _⟩ := I.list ha
  obtain ⟨its2, r2, p2, _⟩ := I.list hb
  have l1 := r1.length
  have l2 := r2.length
  by_cases hl : xs.length = ys.length
  · refine SeqAt.eq_listAt (e := eqAtN xs ys) p1.isList p2.isList (by simp; omega) hu (fun j h1 h2 => items_eqAt r1 r2 fx fy j h1 h2) ⟨.bl _, H, I, rfl, ?_⟩
    rw [List.size_toArray, ← l1, all_eqAtN hl]
    exact q
  · refine SeqAt.eq_list_lengthsAt p1.isList p2.isList (by simp; omega) hu ⟨.bl false, H, I, rfl, ?_⟩
    have e := eqVs_len hl
    simp only [e] at q
    exact q
theorem op_neL (hu : X.A.units < cLine) : OpR X (compareOp .NotEq) (rEqL X.K true) := by
  intro pins s σ H x y v u Q I rx ry h
  obtain ⟨a, b, xs, ys, rfl, rfl, ha, hb, fx, fy, q⟩ := h
  cases rx
  cases ry
  obtain ⟨its, r1, p1, _⟩ := I.list ha
  obtain ⟨its2, r2, p2, _⟩ := I.list hb
  have l1 := r1.length
  have l2 := r2.length
  by_cases hl : xs.length = ys.length
  · refine SeqAt.RcNeAt.lists (e := eqAtN xs ys) p1.isList p2.isList (by simp; omega) hu (fun j h1 h2 => items_eqAt r1 r2 fx fy j h1 h2) _ _ _ _ ⟨.bl _, H, I, rfl, ?_⟩
    rw [List.size_toArray, ← l1, all_eqAtN hl]
    exact q
  · refine SeqAt.RcNeAt.lists_lengths p1.isList p2.isList (by simp; omega) hu _ _ _ _ ⟨.bl true, H, I, rfl, ?_⟩
    have e := eqVs_len hl
    simp only [e] at q
    exact q

/-! ### sum of a list of ints -/
/-! ### // by any written positive number -/
/-! ### tuples put together: whichever is empty -/
end
end L2
namespace L2
open PySem PySem.Spec PyProof.Rows
/-! ### comprehensions whose target is any: a tuple of names -/
def CompWT (Gs : Hp → Prop) (g : TG) (k : Nat) (J : It) (p : Addr) (tt : TT) (te : TE) (cs : St) (Q : VK) (H1 : Hp) : Prop := ∃ W : Nat → Nat → List V → Hp → Prop, (∃ m, W 0 m [] (upd H1 p (.lst []))) ∧ ∀ i m ys H2, W i m ys H2 →
  (J.stop i H2 ∧ Gs H2 ∧ Q (.ref p) H2) ∨ (J.go i H2 ∧ Gs H2 ∧ ∃ N : List V → Hp → Prop, (∀ ys' H', N ys' H' → ∃ m', m' < m ∧ W (i + 1) m' ys' H') ∧
    ∀ v H3, J.yld i H2 v H3 → ∀ vs0 : St, vs0.length = k → g v (vs0 ++ cs) H3 fun σ' H' => (∃ vs' : St, σ' = vs' ++ cs ∧ vs'.length = k) ∧ tt σ' H' fun b H4 => if b = true then te σ' H4 fun y H5 => H5 p = some (.lst ys) ∧ ys.length < sizeLine ∧ N (ys ++ [y]) (upd H5 p (.lst (ys ++ [y]))) else N ys H4)
theorem comp_goT {X : Cx} {use : Option (Value → Sem Unit)} {Post : Value → Shared → Prop} {pins : List (Addr × Obj)} {s : Shared} {σ : St} {H : Hp} {Q : VK} {Gs : Hp → Prop} {hb : Bool} {CW : It → Addr → St → VK → Hp → Prop} {elt iter : Expr} {ifs : List Expr} {tg : Expr} {xs : List Str} {g : TG} {pos : Pos} {sc : Scope} {wi : TI} {tt : TT} {te : TE} (caps : List Nat) (capsN : List Str)
    (hi : PI X tg iter wi hb)
    (hg : ∀ cl C s H ex pn, PG (cxComp X (xs ++ capsN) sc cl C s H ex pn) tg g)
    (ht : ∀ cl C s H ex pn, PTs (cxComp X (xs ++ capsN) sc cl C s H ex pn) ifs tt)
    (he : ∀ cl C s H ex pn, PE (cxComp X (xs ++ capsN) sc cl C s H ex pn) elt te)
    (hkind : sc.kind = .function) (hcell : ∀ y ∈ sc.names, y.2 ≠ .cell) (hnames : ∀ y ∈ sc.names, y.2 = .local → sc.names.lookup y.1 = some .local)
    (hfr : ∀ y ∈ sc.names, y.2 = .free → y.1 ∈ capsN)
    (hcap : ∀ (j : Nat) (y : Str), capsN[j]? = some y → ∃ i : Nat, caps[j]? = some i ∧ X.N[i]? = some y ∧ sc.names.lookup y = some .free ∧ (X.env.kindOf y = some .cell ∨ X.env.kindOf y = some .free)) (hlen : caps.length = capsN.length)
    (hc : X.calm = true ∨ (hb = true ∧ ∀ s H, HOk X.prog X.w H s.heap → Gs H → HandQ X s)) (kW : ∀ J p cs Q H1, CW J p cs Q H1 → CompWT Gs g xs.length J p tt te cs Q H1)
    (hs : ∀ x, foldedSetIterable iter X.env x = pure x) (I : Inv X pins σ H s) (h : tCompC CW wi caps σ H Q)
    (fin : ∀ (C p : Addr) (H5 : Hp) (s5 : Shared), (∃ m, s5.heap.Ns C m) → Inv X pins σ H5 s5 → FpOk X pins H5 C → Q (.ref p) H5 → compPost (model X.prog X.w) X.A X.xe use Post (.ref p) C (.ok .next) s5) :
    wpAny (model X.prog X.w) X.A (comprehension (.ListComp elt [⟨tg, iter, ifs, 0⟩] sc pos) sc X.env (firstIterPos [⟨tg, iter, ifs, 0⟩] pos) (newList []) (firstAsync [⟨tg, iter, ifs, 0⟩]) (firstIter [⟨tg, iter, ifs, 0⟩] X.env) use) Post X.xe s := by
  have hEnd : ∀ s H, HOk X.prog X.w H s.heap → Gs H → EndQ hb X s := by
    rcases hc with hc | ⟨e, k⟩
    · exact fun _ _ _ _ => .inl (I.ok.hd hc)
    · exact fun s H o g => .inr ⟨e, k s H o g⟩
  obtain ⟨cl, hclos, hq2, hq3⟩ := closure_ok (env := X.env) (sc := sc) (fun y hy hf => by
    obtain ⟨j, hj⟩ := List.mem_iff_getElem?.mp (hfr y hy hf)
    obtain ⟨_, _, _, _, k⟩ := hcap j y.1 hj
    exact I.ok.has y.1 k)
  refine wpAny_comprehension_free (use := use) rfl hs hclos hkind hnames (thn (hi pins s σ H _ I h) fun v s1 h1 => thn h1 fun itv s2 h2 => ?_)
  obtain ⟨it, fp, tn, J, H2, e, I2, T, st2, f2, q⟩ := h2
  subst e
  refine wpAny_newObj_type (wpAny_newFunctionEnv hcell (by intro y hy; simp at hy) (fun h1 hns hsb => ?_) hkind)
  dsimp only at hns hsb ⊢
  obtain ⟨W, ⟨m0, w0⟩, turn⟩ := kW _ _ _ _ _ (q s2.heap.objs.size (I2.hok.fresh (Nat.le_refl _)))
  have I3 : Inv X pins σ (upd H2 s2.heap.objs.size (.lst [])) { s2 with heap := s2.heap.push { cls := .type "list", dict := none, data := .seq ([] : List Value).toArray }, toks := s2.toks } := I2.lnew (its := []) (ys := []) (t' := s2.toks) .nil (Nat.zero_le _)
  generalize hH3 : s2.heap.push { cls := .type "list", dict := none, data := .seq ([] : List Value).toArray } = g3 at hns hsb I3 ⊢
  have hsz3 : g3.objs.size = s2.heap.objs.size + 1 := by rw [← hH3, Heap.size_push]
  generalize hHp : upd H2 s2.heap.objs.size (.lst []) = Hp3 at w0 I3
  have hlt : ∀ b o, g3.get? b = some o → b ≠ g3.objs.size := fun b o e => Nat.ne_of_lt (Heap.lt_size e)
  have old : ∀ b o, g3.get? b = some o → h1.get? b = some o := fun b o e => hsb.extBut b o (hlt b o e) (Heap.get?_push_of_some _ e)
  have fpo : ∀ b ∈ fp, ∃ o, g3.get? b = some o := fun b hb => by
    obtain ⟨o, e, _⟩ := T.obj 0 s2.heap st2 b hb
    exact ⟨o, by rw [← hH3]; exact Heap.get?_push_of_some _ e⟩
  have fpC : ∀ b ∈ fp, b ≠ g3.objs.size := fun b hb => by obtain ⟨o, e⟩ := fpo b hb; exact hlt b o e
  have fpH : ∀ b ∈ fp, Hp3 b = none := fun b hb => by
    obtain ⟨o, e, _⟩ := T.obj 0 s2.heap st2 b hb
    rw [← hHp, upd_ne (Nat.ne_of_lt (Heap.lt_size e))]
    exact (f2 b hb).1
  have fsSub : ∀ b, b ≠ X.env.locals → b ∉ X.fs → b ∉ frs X.stack := fun b h1 h2 z => by
    rcases List.mem_cons.mp (I2.stkSub b z) with z | z
    · exact h1 z
    · exact h2 z
  -- the block's context
  have okc : (cxComp X (xs ++ capsN) sc cl g3.objs.size { s2 with heap := g3, toks := s2.toks } Hp3 fp (X.pn ++ pins)).Ok := by
    refine ⟨I3.ok.mod, hkind, I3.ok.glob, I3.ok.blt, Nat.le_refl _, fun y z c e1 e2 => I3.ok.inj y z c (hq2 y c e1) (hq2 z c e2), fun y hy => ?_, fun y c z => absurd z Bool.false_ne_true, I3.ok.hd, I3.ok.frames, .inl rfl, fun b hb => ⟨fpC b hb, fun y c e => (f2 b hb).2.2.2.2.1 y c (hq2 y c e)⟩,
      I3.bs, Nat.le_trans I3.ok.bsz I3.sz, fun b o e hb => ?_, fun b hb => fsSub b (f2 b hb).2.1 (f2 b hb).2.2.1, I3.stack, I3.stkFree⟩
    · have hy' : ∃ k, (relabel sc X.env).names.lookup y = some k ∧ (k = .cell ∨ k = .free) := by
        rcases hy with hy | hy
        · exact ⟨_, hy, .inl rfl⟩
        · exact ⟨_, hy, .inr rfl⟩
      obtain ⟨k, e, hk⟩ := hy'
      obtain ⟨k0, e0, hk0⟩ := relabel_look e
      have em := PySem.mem_of_lookup e0
      rcases hk0 with rfl | ⟨rfl, _⟩
      · rcases hk with rfl | rfl
        · exact absurd rfl (hcell _ em)
        · exact hq3 _ em rfl
      · exact hq3 _ em rfl
    · rcases (f2 b hb).2.2.2.1 with z | z
      · exact I3.ok.noex b o e z
      · have h1 : b < X.base.objs.size := Heap.lt_size e
        have h2 := I3.ok.bsz
        exact absurd (Nat.lt_of_lt_of_le h1 (Nat.le_trans h2 z)) (Nat.lt_irrefl _)
  have Ic : Inv (cxComp X (xs ++ capsN) sc cl g3.objs.size { s2 with heap := g3, toks := s2.toks } Hp3 fp (X.pn ++ pins)) [] (List.replicate xs.length none ++ capV σ caps) Hp3 { s2 with heap := h1, toks := s2.toks + ([] : List (Str × Value)).length } := by
    refine ⟨okc, rfl, I3.bare, Un.kept old, ⟨_, hns, fun i y v e1 e2 e3 => ?_⟩, fun y c e => ?_, I3.hok.fresh (Nat.le_refl _), fun y c e => I3.freeC y c (hq2 y c e), fun p hp => ?_, I3.hok.kept old, ?_⟩
    · by_cases hlt0 : i < xs.length
      · have e2 : (List.replicate xs.length (none : Option V) ++ capV σ caps)[i]? = some (some v) := e2
        rw [List.getElem?_append_left (by rw [List.length_replicate]; exact hlt0), List.getElem?_replicate, if_pos hlt0] at e2
        cases e2
      · have e1 : (xs ++ capsN)[i]? = some y := e1
        have e2 : (List.replicate xs.length (none : Option V) ++ capV σ caps)[i]? = some (some v) := e2
        rw [List.getElem?_append_right (Nat.le_of_not_lt hlt0)] at e1
        rw [List.getElem?_append_right (by rw [List.length_replicate]; exact Nat.le_of_not_lt hlt0), List.length_replicate] at e2
        generalize i - xs.length = j at e1 e2
        have e1' : capsN[j]? = some y := e1
        obtain ⟨i, c1, c2, c3, c4⟩ := hcap j y e1'
        have e2' : (capV σ caps)[j]? = some (some v) := e2
        have hv : σ[i]? = some (some v) := by
          unfold capV at e2'
          rw [List.getElem?_map, c1] at e2'
          have e4 : (σ[i]?).getD none = some v := Option.some.inj e2'
          cases e5 : σ[i]? with
          | none => rw [e5] at e4; cases e4
          | some w => rw [e5] at e4; exact congrArg some e4
        obtain ⟨m, _, hl⟩ := I3.loc
        have vis : Vis X.env.scope y := by
          rcases c4 with z | z
          · exact .inr (.inl z)
          · exact .inr (.inr z)
        obtain ⟨u, r, l⟩ := hl i y v c2 hv vis
        refine ⟨u, r, .inr ⟨relabel_free c3, ?_⟩⟩
        rcases l with ⟨lk, _⟩ | ⟨_, c, ec, o, ho, hd⟩
        · rcases c4 with z | z <;> (rw [lk] at z; cases z)
        · obtain ⟨c', e'⟩ := hq3 _ (PySem.mem_of_lookup c3) rfl
          have e'' := hq2 _ _ e'
          have e3' : (some c' : Option Addr) = some c := e''.symm.trans ec
          cases e3'
          exact ⟨c, e', o, old _ _ ho, hd⟩
    · obtain ⟨v, o, ho, hd⟩ := I3.cell y c (hq2 y c e)
      exact ⟨v, o, old _ _ ho, hd⟩
    · have hp' : p ∈ X.pn ++ pins := by simpa using hp
      obtain ⟨e1, e2, e3, e4, e5⟩ := I3.pin p hp'
      exact ⟨old _ _ e1, e2, hlt _ _ e1, fsSub _ e3 e4, e5⟩
    · show (List.replicate xs.length (none : Option V) ++ capV σ caps).length = (xs ++ capsN).length
      unfold capV
      rw [List.length_append, List.length_append, List.length_replicate, List.length_map, hlen]
  have stat : ∀ {H' : Hp}, (∀ b ∈ fp, H' b = none) → ∀ b ∈ fp, FpOk (cxComp X (xs ++ capsN) sc cl g3.objs.size { s2 with heap := g3, toks := s2.toks } Hp3 fp (X.pn ++ pins)) [] H' b := fun hn b hb =>
    ⟨hn b hb, fpC b hb, fsSub b (f2 b hb).2.1 (f2 b hb).2.2.1, .inl hb, fun y c e => (f2 b hb).2.2.2.2.1 y c (hq2 y c e), fun p hp => (f2 b hb).2.2.2.2.2 p (by simpa using hp)⟩
  -- behind the block
  have back : ∀ {pins5 : List (Addr × Obj)} {σ5 : St} {H5 : Hp} {s5 : Shared} {h' : Heap}, Inv (cxComp X (xs ++ capsN) sc cl g3.objs.size { s2 with heap := g3, toks := s2.toks } Hp3 fp (X.pn ++ pins)) pins5 σ5 H5 s5 → Heap.SameBut g3.objs.size s5.heap h' → Inv X pins σ H5 { s5 with heap := h' } := by
    intro pins5 σ5 H5 s5 h' I5 sb
    have un : Un (frs X.stack) fp Hp3 H5 g3 s5.heap := I5.base
    have fr : H5 g3.objs.size = none := I5.free
    have un' : Un (frs X.stack) fp Hp3 H5 g3 h' := ⟨fun b o e n hb hx => (sb.2 b (hlt b o e)).trans (un.keep b o e n hb hx),
      fun b o e n hb hx => by obtain ⟨sl, z⟩ := un.slot b o e n hb hx; exact ⟨sl, (sb.2 b (hlt b o e)).trans z⟩, un.free,
      fun b o e hx => by obtain ⟨o', z⟩ := un.there b o e hx; exact ⟨o', (sb.2 b (hlt b o e)).trans z⟩, un.tups, un.frzs, un.tbls⟩
    have hok : HOk X.prog X.w H5 h' := fun b u e => (I5.hok b u e).stay (fun c v hc' z => (sb.2 c (by
      rintro rfl
      rcases hc' with hc' | hc'
      · rw [hc', e] at fr; cases fr
      · rw [fr] at hc'; cases hc')).trans z) (fun _ z => z) (fun _ _ z => z)
    obtain ⟨hh, g, d, t, os⟩ := s5
    have eo : os = s2.os := I5.os
    subst eo
    have z := I3.call (h' := h') (g' := g) (d' := d) (t' := t) (ch := fp) un' hok I5.bare fun b hb => ⟨(f2 b hb).2.2.2.1, (f2 b hb).2.1, (f2 b hb).2.2.2.2.1, (f2 b hb).2.2.2.2.2⟩
    exact z
  have st4 : tn 0 h1 := T.keep 0 s2.heap h1 st2 fun b hb o e => old b o (by rw [← hH3]; exact Heap.get?_push_of_some _ e)
  have loop : codeAny (model X.prog X.w) X.A (.compLoop (.ListComp elt [⟨tg, iter, ifs, 0⟩] sc pos) 0 (.ref it) (.ref s2.heap.objs.size) (compEnvC sc cl g3.objs.size X.env))
      (compPost (model X.prog X.w) X.A X.xe use Post (.ref s2.heap.objs.size) g3.objs.size) { s2 with heap := h1, toks := s2.toks + ([] : List (Str × Value)).length } := by
    refine comp_loop (fun n s' => ∃ i ys v0 H', v0.length = xs.length ∧ Inv (cxComp X (xs ++ capsN) sc cl g3.objs.size { s2 with heap := g3, toks := s2.toks } Hp3 fp (X.pn ++ pins)) [] (v0 ++ capV σ caps) H' s' ∧ tn i s'.heap ∧ (∀ b ∈ fp, H' b = none) ∧ W i n ys H') ?_ m0 ⟨0, [], List.replicate xs.length none, Hp3, List.length_replicate, Ic, st4, fpH, w0⟩
    rintro n s' ⟨i, ys, v0, H', hv0, I', st', fr', w'⟩
    rcases turn i n ys H' w' with ⟨stop, gs, qn⟩ | ⟨go, gs, N, hN, step⟩
    · refine thn (T.done (cxComp X (xs ++ capsN) sc cl g3.objs.size { s2 with heap := g3, toks := s2.toks } Hp3 fp (X.pn ++ pins)) rfl rfl rfl s' (hEnd s' H' I'.hok gs) i [] _ H' NoX I' (stat fr') st' stop) fun r s5 ⟨hr, I5⟩ => ?_
      subst hr
      obtain ⟨m, hn, _⟩ := id I5.loc
      exact fin g3.objs.size s2.heap.objs.size H' s5 ⟨m, hn⟩ (back (h' := s5.heap) I5 ⟨rfl, fun _ _ => rfl⟩) (I3.fpOk (Nat.le_refl _) I5.free) qn
    · refine thn (T.item (cxComp X (xs ++ capsN) sc cl g3.objs.size { s2 with heap := g3, toks := s2.toks } Hp3 fp (X.pn ++ pins)) rfl rfl rfl s' (hEnd s' H' I'.hok gs) i [] _ H' NoX I' (stat fr') st' go) fun r s5 ⟨u, hr, h5⟩ => ?_
      subst hr
      refine thn h5 fun _ s6 ⟨v, H6, I6, r6, y6, st6, fr6⟩ => ?_
      have I6' := I6.pinned (stat fr6) (T.obj _ _ st6)
      have again : ∀ {σ7 v7 : St} {H7 : Hp} {s7 : Shared} {ys' : List V}, σ7 = v7 ++ capV σ caps → v7.length = xs.length → Inv (cxComp X (xs ++ capsN) sc cl g3.objs.size { s2 with heap := g3, toks := s2.toks } Hp3 fp (X.pn ++ pins)) ([] ++ pinsAt fp s6.heap) σ7 H7 s7 → N ys' H7 →
          ∃ m, m < n ∧ ∃ i ys v0 H', v0.length = xs.length ∧ Inv (cxComp X (xs ++ capsN) sc cl g3.objs.size { s2 with heap := g3, toks := s2.toks } Hp3 fp (X.pn ++ pins)) [] (v0 ++ capV σ caps) H' s7 ∧ tn i s7.heap ∧ (∀ b ∈ fp, H' b = none) ∧ W i m ys H' := by
        intro σ7 v7 H7 s7 ys' eσ hv7 I7 n7
        subst eσ
        obtain ⟨m', hm, w7⟩ := hN ys' H7 n7
        refine ⟨m', hm, i + 1, ys', v7, H7, hv7, I7.unpinned, T.keep _ _ _ st6 fun b hb o e => (I7.pin (b, o) (List.mem_append_right _ (List.mem_append_right _ (mem_pinsAt hb e)))).1, fun b hb => ?_, w7⟩
        obtain ⟨o, e, d⟩ := T.obj _ _ st6 b hb
        exact (I7.pin (b, o) (List.mem_append_right _ (List.mem_append_right _ (mem_pinsAt hb e)))).2.1
      refine thn (hg _ _ _ _ _ _ _ s6 _ H6 v u _ I6' r6 (step v H6 y6 v0 hv0)) fun _ s7 ⟨σ7, H7, I7, ⟨v7, e7, hv7⟩, q7⟩ => ?_
      refine thn (ht _ _ _ _ _ _ _ s7 _ H7 _ I7 q7) fun ok s8 ⟨H8, I8, q8⟩ => ?_
      cases ok with
      | false => exact again e7 hv7 I8 q8
      | true =>
        refine thn (he _ _ _ _ _ _ _ s8 _ H8 _ I8 q8) fun y s9 ⟨yv, H9, I9, r9, hp9, hz9, n9⟩ => ?_
        refine thn (mt_append (X := cxComp X (xs ++ capsN) sc cl g3.objs.size { s2 with heap := g3, toks := s2.toks } Hp3 fp (X.pn ++ pins)) _ s9 _ H9 (.ref s2.heap.objs.size) [yv] (.ref s2.heap.objs.size) [y] (fun _ H' => H' = upd H9 s2.heap.objs.size (.lst (ys ++ [yv]))) I9 rfl (.cons r9 .nil)
          ⟨s2.heap.objs.size, ys, yv, rfl, rfl, hp9, hz9, rfl⟩) fun _ s10 ⟨_, H10, I10, _, e10⟩ => ?_
        subst e10
        exact again e7 hv7 I10 n9
  exact codeAny_compStart_list loop (T.self X.A 0 _ _ _ st4 loop)

theorem pe_compT {X : Cx} {Gs : Hp → Prop} {hb : Bool} {CW : It → Addr → St → VK → Hp → Prop} {elt iter : Expr} {ifs : List Expr} {tg : Expr} {xs : List Str} {g : TG} {pos : Pos} {sc : Scope} {wi : TI} {tt : TT} {te : TE} (caps : List Nat) (capsN : List Str)
    (hi : PI X tg iter wi hb)
    (hg : ∀ cl C s H ex pn, PG (cxComp X (xs ++ capsN) sc cl C s H ex pn) tg g)
    (ht : ∀ cl C s H ex pn, PTs (cxComp X (xs ++ capsN) sc cl C s H ex pn) ifs tt)
    (he : ∀ cl C s H ex pn, PE (cxComp X (xs ++ capsN) sc cl C s H ex pn) elt te)
    (hkind : sc.kind = .function) (hcell : ∀ y ∈ sc.names, y.2 ≠ .cell) (hnames : ∀ y ∈ sc.names, y.2 = .local → sc.names.lookup y.1 = some .local)
    (hfr : ∀ y ∈ sc.names, y.2 = .free → y.1 ∈ capsN)
    (hcap : ∀ (j : Nat) (y : Str), capsN[j]? = some y → ∃ i : Nat, caps[j]? = some i ∧ X.N[i]? = some y ∧ sc.names.lookup y = some .free ∧ (X.env.kindOf y = some .cell ∨ X.env.kindOf y = some .free)) (hlen : caps.length = capsN.length)
    (hc : X.calm = true ∨ (hb = true ∧ ∀ s H, HOk X.prog X.w H s.heap → Gs H → HandQ X s)) (kW : ∀ J p cs Q H1, CW J p cs Q H1 → CompWT Gs g xs.length J p tt te cs Q H1)
    (hs : ∀ x, foldedSetIterable iter X.env x = pure x := by intro _; rfl) :
    PE X (.ListComp elt [⟨tg, iter, ifs, 0⟩] sc pos) (tCompC CW wi caps) := by
  intro pins s σ H Q I h
  rw [eval_ListComp]
  exact comp_goT (use := none) caps capsN hi hg ht he hkind hcell hnames hfr hcap hlen hc kW hs I h fun C p H5 s5 ⟨m, hn⟩ I5 f q => ⟨m, hn, fun h' sb => ⟨.ref p, H5, I5.turned (t' := s5.toks) (fun b o hb e => (sb.2 b hb).trans e) f.1 f.2.1 f.2.2.2.1 f.2.2.2.2.1 f.2.2.2.2.2, rfl, q⟩⟩
end L2
namespace L2
open PySem PySem.Spec PyProof.Rows

/-! ### an exception of an own class: its object, its traceback -/
section
variable {M : Model} {A : Around} {E : Value → Shared → Prop} {s : Shared}
end
end L2
namespace L2
open PySem PySem.Spec PyProof.Rows PySem.W PySem.Builtin PySem.Builtin.ObjectAttr

/-! ### a field of an exception of an own class is stored, read -/
section
variable {prog : Program} {w : World} {A : Around} {E : Value → Shared → Prop} {s : Shared} {K : Frag} {x C : Addr} {ox : Obj} {od : Option Obj} {R : Result → Shared → Prop}
end
end L2
namespace L2
open PySem PySem.Spec PyProof.Rows PySem.W

/-! ### an exception of an own class with an own __init__ is made -/
section
variable {prog : Program} {w : World} {A : Around} {E : Value → Shared → Prop} {h : Heap} {g : Array GenState} {d : Drawn} {t : Nat} {os : OsState} {nm q : Str} {C N fI : Addr} {bs bm bmB rest : List Value} {hdct : Bool} {sn : List Str} {sub : List Value}
  {ab : Bool} {col : Option Bool} {dd : Option Addr} {k0 k1 k2 k3 k5 : Option Value} {B newId initId : String}
end
end L2
namespace L2
open PySem PySem.Spec PyProof.Rows PySem.W
section
variable {M : Model} {A : Around} {E : Value → Shared → Prop} {h : Heap} {g : Array GenState} {d : Drawn} {t : Nat} {os : OsState} {nm q : Str} {C N : Addr} {bs bm : List Value} {hdct : Bool} {sn : List Str} {sub : List Value}
  {ab : Bool} {col : Option Bool} {dd : Option Addr} {k0 k1 k2 k3 k5 : Option Value} {newId : String} {env : Env}
variable {nm2 q2 : Str} {D N2 : Addr} {bs2 bm2 : List Value} {hdct2 : Bool} {sn2 : List Str} {sub2 : List Value} {ab2 : Bool} {col2 : Option Bool} {dd2 : Option Addr} {j0 j1 j2 j3 j5 : Option Value} {newId2 : String}
end
end L2
namespace L2
open PySem PySem.Spec PyProof.Rows PySem.W

/-! ### exceptions in the abstract heap -/
section
variable {P : Program} {w : World} {H : Hp} {h : Heap} {e C dx : Addr} {dd : Option Addr} {tb : Value} {fs : List (Str × V)}
end
section
variable {X : Cx} {pins : List (Addr × Obj)} {σ : St} {H : Hp} {s : Shared} {h' : Heap} {ea C T : Addr} {dd : Option Addr} {tb : Value}
end

/-! ### how an exception lies behind a call; within a body -/
section
variable {X : Cx} {pins : List (Addr × Obj)} {σ : St} {H : Hp} {s s' : Shared} {E : XK} {e : Value}
end
end L2
namespace L2
open PySem PySem.Spec PyProof.Rows PySem.W

/-! ### an own class of exceptions, by the text -/
section
variable {X : Cx} {CX : CXT} {k : Nat} {f C : Addr} {bm : List Value} {fd : FuncData} {ps : List Str} {sp : Sp} {dvs : List V} {ds : List Value} {E : XK} {x m : Str} {p pos apos : Pos} {e o : Expr} {es : List Expr} {ta : TE} {t : TA}
end

/-! ### its fields -/
section
variable {X : Cx} {pins : List (Addr × Obj)} {σ : St} {H : Hp} {s : Shared} {a C dx : Addr} {fs : List (Str × V)} {f : Str} {A : Around} {E : Value → Shared → Prop}
end
section
variable {X : Cx} {o e value : Expr} {f : Str} {pos pos' tpos : Pos} {ta tv : TE}
end
/-! ### an own exception class without an __init__ of its own -/
section
variable {X : Cx} {C : Addr} {bm : List Value} {x : Str} {p pos : Pos}
end
end L2
namespace L2
open PySem PySem.Spec PyProof.Rows PySem.W

/-! ### code whose exceptions are caught in the same body -/
section
variable {X : Cx} {k : Nat} {f C : Addr} {fd : FuncData} {ps : List Str} {sp : Sp} {dvs : List V} {ds : List Value} {E : XK} {x m : Str} {p pos apos : Pos} {e o : Expr} {es : List Expr} {ta : TE} {t : TA}
end

/-! ### try: .. except D as n: .. -/
section
variable {X : Cx} {pins : List (Addr × Obj)} {σ : St} {H : Hp} {s : Shared} {ea : Addr}
end
section
variable {X : Cx} {body suite : List Stmt} {b₀ : Stmt} {tb : TB} {ts : Addr → TS} {wn n : Str} {D : Addr} {bmD : List Value} {i : Nat} {np hpos pos : Pos}
end
end L2
namespace L2
open PySem PySem.Spec PyProof.Rows
section
variable {X : Cx}
/-- all(xs) of a list of truths -/
theorem bools_items : ∀ {bs : List Bool} {us : List Value}, Vals (bs.map V.bl) us → us = bs.map Value.bool
  | [], us, r => by
    rw [List.map_nil] at r
    cases r
    rfl
  | b :: bs, us, r => by
    rw [List.map_cons] at r
    cases r with
    | cons r1 r2 =>
      cases (show _ = Value.bool b from r1)
      rw [bools_items r2, List.map_cons]
theorem call_all (hh : X.A.handled = none) : CallR X (.builtin "all") (fun vs H Q => ∃ (p : Addr) (bs : List Bool), vs = [.ref p] ∧ SqL X.K H p (bs.map V.bl) ∧ Q (.bl (bs.all id)) H) := by
  intro pins s σ H xs us Q I r h
  obtain ⟨p, bs, rfl, hq, q⟩ := h
  obtain ⟨u, rfl, ru⟩ := r.one
  cases ru
  obtain ⟨its, r1, p1, _⟩ := I.list hq
  cases bools_items r1
  have hl : s.heap.IsList p (bs.map Value.bool).toArray := p1.isList
  have hlt : p < s.heap.objs.size := by obtain ⟨_, e, _⟩ := hl; exact Heap.lt_size e
  refine call_all_walk (wpAny_pyIter_list hl ?_)
  refine ⟨_, _, _, _, _, _, fun i => bs.getD i true, rfl, Walks.list (A := X.A.in1) hh _ p (Nat.ne_of_lt hlt) (bs.map Value.bool).toArray, ⟨⟨_, Heap.get?_push_size _ rfl, rfl, rfl⟩, hl.push _⟩, ?_, fun h' tk hk => ?_⟩
  · intro i v s' Q' E' hi hq'
    have hi' : (bs.map Value.bool)[i]? = some v := by simpa using hi
    rw [List.getElem?_map] at hi'
    cases e : bs[i]? with
    | none => rw [e] at hi'; cases hi'
    | some b =>
      rw [e] at hi'
      cases hi'
      have eb : bs.getD i true = b := by simp [List.getD, e]
      have hq2 : Q' b s' := by rw [← eb]; exact hq'
      exact wpAny_truthy_bool hq2
  · have ea : (List.range (bs.map Value.bool).toArray.size).all (fun i => bs.getD i true) = bs.all id := by
      have : (List.range bs.length).map (fun i => bs.getD i true) = bs := by
        apply List.ext_getElem
        · simp
        · intro n h1 h2
          simp [List.getD, List.getElem?_eq_getElem h2]
      calc _ = ((List.range bs.length).map (fun i => bs.getD i true)).all id := by rw [List.all_map]; simp
        _ = bs.all id := by rw [this]
    rw [ea]
    exact ⟨.bl _, H, I.kept (h' := h') (t' := tk) (fun b o e => hk b o (by simp; exact Nat.ne_of_lt (Heap.lt_size e)) (Heap.get?_push_of_some _ e)), rfl, q⟩
end
end L2
/-! ### general words over the layer -/
namespace L2
open PySem PySem.Spec PyProof.Rows
section
variable {P : Program} {w : World} {K : PySem.W.Frag} {mg : Str → Option Value} {base : Heap}
theorem same_new {H : Hp} {p : Addr} (h : H p = none) (o : HO) : Same H (upd H p o) := fun b u q => by rw [upd_ne (ne_of_none q h)]; exact q
theorem same_over {H H' : Hp} {p : Addr} (s : Same H H') (h : H p = none) (o : HO) : Same H (upd H' p o) := fun b u q => by rw [upd_ne (ne_of_none q h)]; exact s b u q
theorem small {n : Nat} (h : n ≤ 100000) : n < sizeLine := Nat.lt_of_le_of_lt h (by decide)
theorem take_snoc {α β : Type} (f : α → β) {l : List α} {i : Nat} {c : α} (h : l[i]? = some c) : (l.take (i + 1)).map f = (l.take i).map f ++ [f c] := by
  rw [List.take_add_one, h, List.map_append]
  rfl
structure Has (K : PySem.W.Frag) (mg : Str → Option Value) (x : Str) (st : Stmt) (ps : List Str) (f : Addr) (fd : FuncData) : Prop where
  fn : Fun K x x st f fd
  bd : Binds K fd ps []
  nm : mg x = some (.ref f)
end
end L2
namespace L2
open PySem PyProof.Rows
/-! ### classes of exceptions by the text -/
end L2
namespace L2
open PySem PySem.Spec PyProof.Rows
/-! ### lists of pairs as tables -/
section
variable {κ : Type} [DecidableEq κ]
def valV (kvs : List (κ × V)) (k : κ) : Option V := (kvs.find? fun kv => decide (kv.1 = k)).map (·.2)
/-- in its place, or at the end -/
def putK (kvs : List (κ × V)) (k : κ) (v : V) : List (κ × V) :=
  if (kvs.any fun kv => decide (kv.1 = k)) = true then kvs.map (fun kv => if kv.1 = k then (kv.1, v) else kv) else kvs ++ [(k, v)]
theorem valV_nil {k : κ} : valV ([] : List (κ × V)) k = none := rfl
theorem valV_pos {p : κ × V} {r : List (κ × V)} {k : κ} (e : p.1 = k) : valV (p :: r) k = some p.2 := by simp [valV, List.find?_cons, e]
theorem valV_neg {p : κ × V} {r : List (κ × V)} {k : κ} (e : ¬ p.1 = k) : valV (p :: r) k = valV r k := by simp [valV, List.find?_cons, e]
theorem valV_any (k : κ) : ∀ kvs : List (κ × V), (kvs.any fun kv => decide (kv.1 = k)) = (valV kvs k).isSome
  | [] => rfl
  | p :: r => by
    rw [List.any_cons]
    by_cases e : p.1 = k
    · simp only [valV_pos e, decide_eq_true e, Bool.true_or, Option.isSome_some]
    · rw [valV_neg e, decide_eq_false e, Bool.false_or]; exact valV_any k r
theorem valV_map (k j : κ) (y : V) : ∀ kvs : List (κ × V), valV (kvs.map fun kv => if kv.1 = k then (kv.1, y) else kv) j = (valV kvs j).map fun x => if j = k then y else x
  | [] => rfl
  | p :: r => by
    have ih := valV_map k j y r
    rw [List.map_cons]
    by_cases h : p.1 = k
    · rw [if_pos h]
      by_cases e : p.1 = j
      · rw [valV_pos (p := (p.1, y)) e, valV_pos e, Option.map_some, if_pos (e.symm.trans h)]
      · rw [valV_neg (p := (p.1, y)) e, valV_neg e, ih]
    · rw [if_neg h]
      by_cases e : p.1 = j
      · rw [valV_pos (p := p) e, valV_pos e, Option.map_some, if_neg (fun z => h (e.trans z))]
      · rw [valV_neg (p := p) e, valV_neg e, ih]
theorem valV_snoc (k j : κ) (y : V) : ∀ kvs : List (κ × V), valV kvs k = none → valV (kvs ++ [(k, y)]) j = if j = k then some y else valV kvs j
  | [], _ => by
    by_cases e : k = j
    · rw [if_pos e.symm]; exact valV_pos (p := (k, y)) e
    · rw [if_neg (fun z => e z.symm)]; exact valV_neg (p := (k, y)) e
  | p :: r, hn => by
    rw [List.cons_append]
    have hk : ¬ p.1 = k := fun z => by rw [valV_pos z] at hn; cases hn
    rw [valV_neg hk] at hn
    have ih := valV_snoc k j y r hn
    by_cases e : p.1 = j
    · rw [valV_pos e, valV_pos e, if_neg (fun z => hk (e.trans z))]
    · rw [valV_neg e, valV_neg e, ih]
theorem valV_put (kvs : List (κ × V)) (k j : κ) (y : V) : valV (putK kvs k y) j = if j = k then some y else valV kvs j := by
  unfold putK
  by_cases a : (kvs.any fun kv => decide (kv.1 = k)) = true
  · rw [if_pos a, valV_map]
    rw [valV_any] at a
    by_cases e : j = k
    · obtain ⟨x, hx⟩ := Option.isSome_iff_exists.mp a
      rw [if_pos e, e, hx, Option.map_some, if_pos rfl]
    · rw [if_neg e]
      cases valV kvs j with
      | none => rfl
      | some x => rw [Option.map_some, if_neg e]
  · rw [if_neg a]
    refine valV_snoc k j y kvs ?_
    rw [valV_any] at a
    cases q : valV kvs k with
    | none => rfl
    | some x => rw [q] at a; exact (a rfl).elim
theorem length_putK (kvs : List (κ × V)) (k : κ) (v : V) : (putK kvs k v).length ≤ kvs.length + 1 := by
  unfold putK
  split
  · rw [List.length_map]; omega
  · rw [List.length_append, List.length_cons, List.length_nil]; omega
theorem putK_new {kvs : List (κ × V)} {k : κ} (v : V) (h : valV kvs k = none) : putK kvs k v = kvs ++ [(k, v)] := by
  unfold putK
  rw [valV_any, h]
  exact if_neg (by decide)

theorem RelO.isSome_eq {o : Option V} {u : Option Value} (r : RelO o u) : o.isSome = u.isSome := by
  cases o with
  | none => cases u with
    | none => rfl
    | some _ => exact (show False from r).elim
  | some _ => cases u with
    | none => exact (show False from r).elim
    | some _ => rfl
/-- raw tables of the same keys -/
theorem KV.val {kvs : List (κ × V)} {vs : List (κ × Value)} (r : KV kvs vs) (k : κ) : RelO (valV kvs k) (valueAt vs k) := by
  unfold KV at r
  induction r with
  | nil => exact True.intro
  | @cons p q ps qs h t ih =>
    obtain ⟨h1, h2⟩ := h
    by_cases e : p.1 = k
    · have e' : q.1 = k := h1.symm.trans e
      have b : valueAt (q :: qs) k = some q.2 := by simp [valueAt, List.find?_cons, e']
      rw [valV_pos e, b]; exact h2
    · have e' : ¬ q.1 = k := fun z => e (h1.trans z)
      have b : valueAt (q :: qs) k = valueAt qs k := by simp [valueAt, List.find?_cons, e']
      rw [valV_neg e, b]; exact ih
theorem KV.any {kvs : List (κ × V)} {vs : List (κ × Value)} (r : KV kvs vs) (k : κ) : (kvs.any fun kv => decide (kv.1 = k)) = vs.any fun kv => decide (kv.1 = k) := by
  unfold KV at r
  induction r with
  | nil => rfl
  | cons h t ih => rw [List.any_cons, List.any_cons, ih, h.1]
theorem KV.repl {kvs : List (κ × V)} {vs : List (κ × Value)} (r : KV kvs vs) (k : κ) {y : V} {u : Value} (ry : RelV y u) :
    KV (kvs.map fun kv => if kv.1 = k then (kv.1, y) else kv) (vs.map fun kv => if kv.1 = k then (kv.1, u) else kv) := by
  unfold KV at r ⊢
  induction r with
  | nil => exact .nil
  | @cons p q ps qs h t ih =>
    rw [List.map_cons, List.map_cons]
    refine .cons ?_ ih
    obtain ⟨h1, h2⟩ := h
    by_cases e : p.1 = k
    · rw [if_pos e, if_pos (h1.symm.trans e)]; exact ⟨h1, ry⟩
    · rw [if_neg e, if_neg (fun z => e (h1.trans z))]; exact ⟨h1, h2⟩
theorem KV.put {kvs : List (κ × V)} {vs : List (κ × Value)} (r : KV kvs vs) (k : κ) {y : V} {u : Value} (ry : RelV y u) : KV (putK kvs k y) (stored vs k u) := by
  unfold putK stored
  rw [r.any k]
  by_cases e : (vs.any fun kv => decide (kv.1 = k)) = true
  · rw [if_pos e, if_pos e]; exact r.repl k ry
  · rw [if_neg e, if_neg e]; exact Paired.snoc r ⟨rfl, ry⟩
theorem KV.length {kvs : List (κ × V)} {vs : List (κ × Value)} (r : KV kvs vs) : kvs.length = vs.length := Paired.length r
end


/-! ### a tracked dict, its keys ints and texts or tuples of these -/
theorem kV_is {P : Program} {w : World} {k : Key} {u : Value} (r : RelV (kV k) u) : (mixKind P w).is k u = true := by
  cases k with
  | inl i => obtain ⟨t, e⟩ := (show ∃ t, u = Value.int i t from r); subst e; exact mixKind_int P w i t
  | inr x => obtain ⟨t, e⟩ := (show ∃ t, u = Value.str x t from r); subst e; exact mixKind_str P w x t
theorem items_are {P : Program} {w : World} : ∀ {ks : List Key} {us : List Value}, Vals (ks.map kV) us → ItemsAre (mixKind P w) ks us
  | [], _, r => by rw [List.map_nil] at r; cases r; exact .nil
  | k :: ks, _, r => by
    rw [List.map_cons] at r
    cases r with
    | cons h t => exact .cons (kV_is h) (items_are t)

/-- raw entries of a dict with tuple keys -/
abbrev KT (H : Hp) : List (List Key × V) → List (List Key × Addr × Value) → Prop := Paired fun p q => p.1 = q.1 ∧ H q.2.1 = some (.tup (p.1.map kV)) ∧ RelV p.2 q.2.2
theorem KT.val {H : Hp} {kvs : List (List Key × V)} {xs : List (List Key × Addr × Value)} (r : KT H kvs xs) (k : List Key) : RelO (valV kvs k) ((atKey xs k).map (·.2)) := by
  induction r with
  | nil => exact True.intro
  | @cons p q ps qs h t ih =>
    obtain ⟨h1, _, h2⟩ := h
    by_cases e : p.1 = k
    · have e' : q.1 = k := h1.symm.trans e
      have b : atKey (q :: qs) k = some q.2 := by simp [atKey, List.find?_cons, e']
      rw [valV_pos e, b]; exact h2
    · have e' : ¬ q.1 = k := fun z => e (h1.trans z)
      have b : atKey (q :: qs) k = atKey qs k := by simp [atKey, List.find?_cons, e']
      rw [valV_neg e, b]; exact ih
theorem KT.repl {H : Hp} {kvs : List (List Key × V)} {xs : List (List Key × Addr × Value)} (r : KT H kvs xs) (k : List Key) {y : V} {u : Value} (ry : RelV y u) :
    KT H (kvs.map fun kv => if kv.1 = k then (kv.1, y) else kv) (xs.map (putAt k u)) := by
  induction r with
  | nil => exact .nil
  | @cons p q ps qs h t ih =>
    rw [List.map_cons, List.map_cons]
    refine .cons ?_ ih
    obtain ⟨h1, h2, h3⟩ := h
    unfold putAt
    by_cases e : p.1 = k
    · rw [if_pos e, if_pos (h1.symm.trans e)]; exact ⟨h1, h2, ry⟩
    · rw [if_neg e, if_neg (fun z => e (h1.trans z))]; exact ⟨h1, h2, h3⟩
theorem KT.put {H : Hp} {kvs : List (List Key × V)} {xs : List (List Key × Addr × Value)} (r : KT H kvs xs) (k : List Key) {b : Addr} {y : V} {u : Value} (hb : H b = some (.tup (k.map kV))) (ry : RelV y u) :
    KT H (putK kvs k y) (storedH xs k b u) := by
  have e : (kvs.any fun kv => decide (kv.1 = k)) = (atKey xs k).isSome := by
    rw [valV_any, (r.val k).isSome_eq, Option.isSome_map]
  unfold putK storedH
  rw [e]
  by_cases q : (atKey xs k).isSome = true
  · rw [if_pos q, if_pos q]; exact r.repl k ry
  · rw [if_neg q, if_neg q]; exact Paired.snoc r ⟨rfl, hb, ry⟩
theorem KT.keeps {H H' : Hp} {kvs : List (List Key × V)} {xs : List (List Key × Addr × Value)} (r : KT H kvs xs) (ht : ∀ b ys, H b = some (.tup ys) → H' b = some (.tup ys)) : KT H' kvs xs :=
  Paired.mapP r fun _ _ z => ⟨z.1, ht _ _ z.2.1, z.2.2⟩

section
variable {P : Program} {w : World} {H : Hp} {h : Heap} {a : Addr}
theorem rd_of {u : HO} (ok : HOk P w H h) (e : Rd H a u) : ObjOk P w H h a u := e.ok ok
theorem dk_rd {kvs : List (Key × V)} (ok : HOk P w H h) (e : Rd H a (.dK kvs)) : kvs.length ≤ sizeLine ∧ (a == sysModules) = false ∧ ∃ vs, KV kvs vs ∧ h.DictOf (mixKind P w) a vs :=
  show ObjOk P w H h a (.dK kvs) from rd_of ok e
theorem dk_of {kvs : List (Key × V)} (ok : HOk P w H h) (e : H a = some (.dK kvs)) : kvs.length ≤ sizeLine ∧ (a == sysModules) = false ∧ ∃ vs, KV kvs vs ∧ h.DictOf (mixKind P w) a vs := dk_rd ok (.inl e)
/-- a tracked tuple of ints and texts is a key -/
theorem key_of {ks : List Key} (ok : HOk P w H h) (e : H a = some (.tup (ks.map kV))) : (tupleKind (mixKind P w)).is h ks a := by
  obtain ⟨_, its, r, o, h1, h2, n, h3⟩ := (show ObjOk P w H h a (.tup (ks.map kV)) from ok a _ e)
  exact ⟨o, its.toArray, n, h1, h2, h3, by simpa using items_are r⟩
theorem dt_rd {kvs : List (List Key × V)} (ok : HOk P w H h) (e : Rd H a (.dT kvs)) : kvs.length ≤ sizeLine ∧ (a == sysModules) = false ∧
    ∃ xs, KT H kvs xs ∧ h.DictOfH (tupleKind (mixKind P w)) a xs := by
  obtain ⟨z, y, xs, r, o, es, ep, h1, h2, h3, h4, h5⟩ := (show ObjOk P w H h a (.dT kvs) from rd_of ok e)
  refine ⟨z, y, xs, r, o, es, ep, h1, h2, h3, h4, fun x hx => ?_, h5⟩
  have all : ∀ {l : List (List Key × V)} {m : List (List Key × Addr × Value)}, KT H l m → ∀ x ∈ m, (tupleKind (mixKind P w)).is h x.1 x.2.1 := by
    intro l m q
    induction q with
    | nil => intro x hx; exact nomatch hx
    | @cons p q ps qs hq t ih =>
      intro x hx
      rcases List.mem_cons.mp hx with e | hx
      · subst e
        exact key_of ok (by rw [← hq.1]; exact hq.2.1)
      · exact ih x hx
  exact all r x hx
theorem dt_of {kvs : List (List Key × V)} (ok : HOk P w H h) (e : H a = some (.dT kvs)) : kvs.length ≤ sizeLine ∧ (a == sysModules) = false ∧
    ∃ xs, KT H kvs xs ∧ h.DictOfH (tupleKind (mixKind P w)) a xs := dt_rd ok (.inl e)
end

/-- what the dict at a holds at the key y -/
def DGet (H : Hp) (a : Addr) (y : V) (r : Option V) : Prop :=
  (∃ kvs k, Rd H a (.dK kvs) ∧ y = kV k ∧ r = valV kvs k) ∨ ∃ kvs k b, Rd H a (.dT kvs) ∧ y = .ref b ∧ H b = some (.tup (k.map kV)) ∧ r = valV kvs k
/-- the heap behind a[y] = v -/
def DPut (H : Hp) (a : Addr) (y v : V) (H' : Hp) : Prop :=
  (∃ kvs k, H a = some (.dK kvs) ∧ y = kV k ∧ kvs.length < sizeLine ∧ H' = upd H a (.dK (putK kvs k v))) ∨
  ∃ kvs k b, H a = some (.dT kvs) ∧ y = .ref b ∧ H b = some (.tup (k.map kV)) ∧ kvs.length < sizeLine ∧ H' = upd H a (.dT (putK kvs k v))
theorem DPut.k {H : Hp} {a : Addr} {kvs : List (Key × V)} {k : Key} {v : V} (e : H a = some (.dK kvs)) (hl : kvs.length < sizeLine) : DPut H a (kV k) v (upd H a (.dK (putK kvs k v))) := .inl ⟨kvs, k, e, rfl, hl, rfl⟩
section
variable {X : Cx} {pins : List (Addr × Obj)} {σ : St} {H : Hp} {s : Shared} {a : Addr} {y v : V} {u r : Value} {o : Option V} {A : Around} {E : Value → Shared → Prop}

theorem Inv.big (I : Inv X pins σ H s) : sysModules < s.heap.objs.size := by
  have h : mainGlobals < s.heap.objs.size := (I.mod.glob.keeps I.bk).lt
  exact Nat.lt_trans (by decide) h

/-- d[y], there -/
theorem d_getItem {Q : Value → Shared → Prop} (hu : A.units + 1 < cLine) (I : Inv X pins σ H s) (g : DGet H a y (some v)) (ry : RelV y u) (h : ∀ w' s', Inv X pins σ H s' → RelV v w' → Q w' s') :
    wpAny (model X.prog X.w) A (getItem (.ref a) u) Q E s := by
  rcases g with ⟨kvs, k, e, ey, l⟩ | ⟨kvs, k, b, e, ey, eb, l⟩
  · subst ey
    obtain ⟨z, hd, vs, rel, dd⟩ := dk_rd I.hok e
    obtain ⟨w', hw, rw'⟩ := RelO.some_of (v := v) (o := valueAt vs k) (by rw [l]; exact rel.val k)
    exact wpAny_getItem_of (kV_is ry) dd.mapOf hw (h w' _ (I.tok _) rw')
  · subst ey
    cases (show u = Value.ref b from ry)
    obtain ⟨z, hd, xs, rel, dd⟩ := dt_rd I.hok e
    obtain ⟨w', hw, rw'⟩ := RelO.some_of (v := v) (o := (atKey xs k).map (·.2)) (by rw [l]; exact rel.val k)
    obtain ⟨p, hp, hp2⟩ := Option.map_eq_some_iff.mp hw
    refine wpAny_getItem_heap (tupleKind_room_in1 hu) (key_of I.hok eb) dd hp ?_
    rw [hp2]
    exact h w' _ (I.tok _) rw'
/-- a dict's object is replaced -/
theorem d_write {h' : Heap} {t' : Nat} {ob : HO} (I : Inv X pins σ H s) (mu : Mut (H a)) (hs : Heap.SameBut a s.heap h') (he : ∃ q, h'.get? a = some q) (new : ObjOk X.prog X.w (upd H a ob) h' a ob) :
    Inv X pins σ (upd H a ob) { s with heap := h', toks := t' } :=
  I.write (x := a) (e := a) mu (.inl rfl) (fun b q hb z => (hs.2 b hb).trans z) he new
theorem dk_new {P : Program} {w : World} {H' : Hp} {h' : Heap} {kvs : List (Key × V)} {vs : List (Key × Value)} (z : kvs.length ≤ sizeLine) (hd : (a == sysModules) = false) (rel : KV kvs vs) (dd : h'.DictOf (mixKind P w) a vs) :
    ObjOk P w H' h' a (.dK kvs) := ⟨z, hd, vs, rel, dd⟩
/-- d[y] = v -/
theorem d_setItem {H' : Hp} {Q : Unit → Shared → Prop} (hu : A.units + 1 < cLine) (I : Inv X pins σ H s) (g : DPut H a y v H') (ry : RelV y u) (rv : RelV v r) (h : ∀ s', Inv X pins σ H' s' → Q () s') :
    wpAny (model X.prog X.w) A (setItem (.ref a) u r) Q E s := by
  rcases g with ⟨kvs, k, e, ey, l, eH⟩ | ⟨kvs, k, b, e, ey, eb, l, eH⟩
  · subst ey eH
    obtain ⟨z, hd, vs, rel, dd⟩ := dk_of I.hok e
    have hz : vs.length ≤ sizeLine := by rw [← rel.length]; exact z
    have hl : (putK kvs k v).length ≤ sizeLine := by have := length_putK kvs k v; omega
    refine wpAny_setItem_pairs (hsz := hz) (kV_is ry) dd fun h' dd' hs => h _ ?_
    have he : ∃ q, h'.get? a = some q := let ⟨q, _, _, hq, _⟩ := dd'; ⟨q, hq⟩
    exact d_write I (by rw [e]; exact True.intro) hs he (dk_new hl hd (rel.put k rv) dd')
  · subst ey eH
    cases (show u = Value.ref b from ry)
    obtain ⟨z, hd, xs, rel, dd⟩ := dt_of I.hok e
    have hz : xs.length ≤ sizeLine := by rw [← Paired.length rel]; exact z
    have hl : (putK kvs k v).length ≤ sizeLine := by have := length_putK kvs k v; omega
    refine wpAny_setItem_heap (hsz := hz) (tupleKind_room_in1 hu) (key_of I.hok eb) dd fun h' dd' hs => h _ ?_
    obtain ⟨q, es, ep, hq, h2, h3, h4, _, h5⟩ := dd'
    refine d_write I (by rw [e]; exact True.intro) hs ⟨q, hq⟩ ⟨hl, hd, _, (rel.put k eb rv).keeps fun c ys ec => ?_, q, es, ep, hq, h2, h3, h4, h5⟩
    rw [upd_ne (ne_of ec e (fun z => nomatch z))]
    exact ec
end

section
variable {X : Cx} {pins : List (Addr × Obj)} {σ : St} {H : Hp} {s : Shared} {a : Addr} {kvs : List (Key × V)} {k : Key} {u : Value} {A : Around} {E : Value → Shared → Prop}
end


/-! ### readings and rules -/
/-- the element of a subscription, not a slice -/
def NoSl (i : Expr) : Prop := ∀ ov iv, subscripted i false ov iv = operate [ov, iv] (getItem ov iv)
theorem subD_of {prog : Program} {w : World} {A : Around} {E : Value → Shared → Prop} {s : Shared} {env : Env} {value slice : Expr} {pos : Pos} {T id : String} {Q : Value → Shared → Prop}
    (hl : typeLookup (.type T) "__getitem__" = pure (some (.builtin id))) (hs : NoSl slice)
    (h : wpAny (model prog w) A (eval value env) (fun o s₁ => wpAny (model prog w) A (eval slice env) (fun i s₂ => s₂.TypeIs o T ∧ wpAny (model prog w) A (getItem o i) Q E s₂) E s₁) E s) :
    wpAny (model prog w) A (eval (.Subscript value slice pos) env) Q E s := by
  refine Subscript_ (wpAny_mono h (fun o s₁ h₁ => wpAny_mono h₁ (fun i s₂ h₂ => ?_) fun _ _ x => x) fun _ _ x => x)
  obtain ⟨hT, h₂⟩ := h₂
  unfold subscriptTail
  refine wpAny_bind ?_
  rw [getitemInPython_of_ne hT.not_modules]
  refine wpAny_bind (wpAny_specialOf hT hl ?_)
  have fin : wpAny (model prog w) A (subscripted slice false o i) (fun r s₃ => wpAny (model prog w) A (letTemporaryGo value o r >>= fun _ => pure r) Q E s₃) E s₂ := by
    rw [hs o i]
    exact wpAny_operating (wpAny_mono h₂ (fun r s₃ h₃ => wpAny_bind (wpAny_letTemporaryGo (wpAny_pure h₃))) fun _ _ x => x)
  first
    | exact wpAny_pure (wpAny_bind fin)
    | exact wpAny_bind (wpAny_pure (wpAny_bind fin))
    | exact wpAny_bind fin

theorem dict_typeIs {X : Cx} {pins : List (Addr × Obj)} {σ : St} {H : Hp} {s : Shared} {a : Addr} {y : V} {o : Option V} (I : Inv X pins σ H s) (g : DGet H a y o) : s.TypeIs (.ref a) "dict" := by
  rcases g with ⟨kvs, k, e, _, _⟩ | ⟨kvs, k, b, e, _, _, _⟩
  · obtain ⟨_, _, vs, _, dd⟩ := dk_rd I.hok e
    exact dd.typeIs
  · obtain ⟨_, _, xs, _, dd⟩ := dt_rd I.hok e
    exact dd.typeIs
/-- d[y] -/
def tDGet (td ty : TE) : TE := fun σ H Q => td σ H fun x H1 => ty σ H1 fun y H2 => ∃ a v, x = .ref a ∧ DGet H2 a y (some v) ∧ Q v H2
/-- d[y] = v -/
def sDPut (td ty tv : TE) : TS := fun D σ H => tv σ H fun v H1 => td σ H1 fun x H2 => ty σ H2 fun y H3 => ∃ a H4, x = .ref a ∧ DPut H3 a y v H4 ∧ D.nx σ H4
section
variable {X : Cx} {o i e value : Expr} {pos pos' tpos : Pos} {td ty tv : TE}
theorem pe_dget (hu : X.A.units + 1 < cLine) (ho : PE X o td) (hi : PE X i ty) (hs : NoSl i) : PE X (.Subscript o i pos) (tDGet td ty) := by
  intro pins s σ H Q I h
  refine subD_of PySem.F.slot_dict_getitem.lookup hs (thn (ho pins s σ H _ I h) fun u s1 ⟨x, H1, I1, rx, q1⟩ => thn (hi pins s1 σ H1 _ I1 q1) fun iv s2 ⟨y, H2, I2, ry, a, v, ex, g, q2⟩ => ?_)
  subst ex
  obtain rfl : u = Value.ref a := rx
  exact ⟨dict_typeIs I2 g, d_getItem hu I2 g ry fun w' s3 I3 rw' => ⟨v, H2, I3, rw', q2⟩⟩
theorem ps_dput (hu : X.A.units + 1 < cLine) (ho : PE X o td) (hi : PE X i ty) (hv : PE X value tv) (hs : swapsWith value (some (.Subscript o i pos')) pos.line X.env = pure false) :
    PS X (.Assign [.Subscript o i pos'] value pos) (sDPut td ty tv) := by
  intro pins s σ H D I h
  refine wpAny_Assign_Subscript (thn (hv pins s σ H _ I h) fun r s1 ⟨v, H1, I1, rv, q1⟩ => thn (ho pins s1 σ H1 _ I1 q1) fun u s2 ⟨x, H2, I2, rx, q2⟩ => thn (hi pins s2 σ H2 _ I2 q2) fun iv s3 ⟨y, H3, I3, ry, a, H4, ex, g, q3⟩ => ?_) hs
  subst ex
  obtain rfl : u = Value.ref a := rx
  exact d_setItem hu I3 g ry rv fun s4 I4 => ⟨σ, H4, I4, q3⟩
end


/-! ### displays -/
theorem dk_empty {P : Program} {w : World} {H : Hp} (h : Heap) (hb : sysModules < h.objs.size) : ObjOk P w H (h.push { cls := .type "dict", data := .dict #[] }) h.objs.size (.dK []) :=
  ⟨Nat.zero_le _, beq_eq_false_iff_ne.mpr (Ne.symm (Nat.ne_of_lt hb)), [], .nil, Heap.DictOf.new h⟩
/-- {}, to be a dict of the kind that is wanted -/
def tDNewK : TE := fun _ H Q => ∀ p, H p = none → Q (.ref p) (upd H p (.dK []))
section
variable {X : Cx} {pos : Pos}
theorem pe_dnewK : PE X (.Dict [] [] pos) tDNewK := fun pins s σ H Q I h =>
  wpAny_Dict_empty ⟨.ref s.heap.objs.size, _, I.laid (a := s.heap.objs.size) (o := .dK []) (t' := s.toks) (fun _ _ q => Heap.get?_push_of_some _ q) (Nat.le_refl _) (dk_empty s.heap I.big), rfl, h _ (I.hok.fresh (Nat.le_refl _))⟩
end

/-- the pairs of a display, from the left -/
def tPairs : List (TE × TE) → St → Hp → (List (V × V) → Hp → Prop) → Prop
  | [], _, H, Q => Q [] H
  | (tk, tv) :: r, σ, H, Q => tk σ H fun x H1 => tv σ H1 fun y H2 => tPairs r σ H2 fun ps H3 => Q ((x, y) :: ps) H3
abbrev VV : List (V × V) → List (Value × Value) → Prop := Paired fun p q => RelV p.1 q.1 ∧ RelV p.2 q.2
def PPs (X : Cx) (pos : Pos) (keys : List (Option Expr)) (values : List Expr) (trs : List (TE × TE)) : Prop :=
  ∀ (pins : List (Addr × Obj)) (s : Shared) (σ : St) (H : Hp) (Q : List (V × V) → Hp → Prop), Inv X pins σ H s → tPairs trs σ H Q →
    wpAny (model X.prog X.w) X.A (evalPairs (pairTrees keys values X.env pos)) (fun vs s' => ∃ ps H', Inv X pins σ H' s' ∧ VV ps vs ∧ Q ps H') X.xe s
theorem pps_nil {X : Cx} {pos : Pos} : PPs X pos [] [] [] := fun pins s σ H Q I h => pairTrees_nil_walk ⟨[], H, I, .nil, h⟩
theorem pps_cons {X : Cx} {pos : Pos} {k v : Expr} {ks : List (Option Expr)} {vs : List Expr} {tk tv : TE} {trs : List (TE × TE)} (hk : PE X k tk) (hv : PE X v tv) (hr : PPs X pos ks vs trs) :
    PPs X pos (some k :: ks) (v :: vs) ((tk, tv) :: trs) := fun pins s σ H Q I h =>
  pairTrees_cons_walk (thn (hk pins s σ H _ I h) fun u s1 ⟨x, H1, I1, rx, q1⟩ => thn (hv pins s1 σ H1 _ I1 q1) fun w2 s2 ⟨y, H2, I2, ry, q2⟩ =>
    thn (hr pins s2 σ H2 _ I2 q2) fun ws s3 ⟨ps, H3, I3, rel, q3⟩ => ⟨(x, y) :: ps, H3, I3, .cons ⟨rx, ry⟩ rel, q3⟩)

def mergeK (kvs more : List (Key × V)) : List (Key × V) := more.foldl (fun acc kv => putK acc kv.1 kv.2) kvs
theorem KV.merge : ∀ {more : List (Key × V)} {rs : List (Key × Value)} {kvs : List (Key × V)} {vs : List (Key × Value)}, KV more rs → KV kvs vs → KV (mergeK kvs more) (merged vs rs) := by
  intro more rs kvs vs r
  unfold KV at r
  induction r generalizing kvs vs with
  | nil => intro q; exact q
  | @cons p q ps qs h t ih =>
    intro r0
    have e : KV (putK kvs p.1 p.2) (stored vs q.1 q.2) := by
      have := r0.put p.1 h.2
      rw [← h.1]; exact this
    exact ih e
theorem length_mergeK : ∀ (more kvs : List (Key × V)), (mergeK kvs more).length ≤ kvs.length + more.length
  | [], kvs => by show kvs.length ≤ kvs.length + 0; omega
  | p :: r, kvs => by
    have h1 := length_mergeK r (putK kvs p.1 p.2)
    have h2 := length_putK kvs p.1 p.2
    show (mergeK (putK kvs p.1 p.2) r).length ≤ _
    rw [List.length_cons]; omega
theorem carries_of {P : Program} {w : World} : ∀ {kvs : List (Key × V)} {ws : List (Value × Value)}, VV (kvs.map fun kv => (kV kv.1, kv.2)) ws → ∃ rs, Carries (mixKind P w) ws rs ∧ KV kvs rs
  | [], _, r => by rw [List.map_nil] at r; cases r; exact ⟨[], True.intro, .nil⟩
  | p :: kvs, _, r => by
    rw [List.map_cons] at r
    cases r with
    | @cons a b as bs h t =>
      obtain ⟨rs, c, q⟩ := carries_of (P := P) (w := w) t
      obtain ⟨b1, b2⟩ := b
      exact ⟨(p.1, b2) :: rs, ⟨kV_is h.1, rfl, c⟩, .cons ⟨rfl, h.2⟩ q⟩
/-- {k: v, ..} with keys ints and texts; the new dict stands empty while the pairs are made -/
def tDisp (trs : List (TE × TE)) : TE := fun σ H Q => ∀ p, H p = none → tPairs trs σ (upd H p (.dK [])) fun ps H2 => H2 p = some (.dK []) ∧ ∃ kvs : List (Key × V), ps = kvs.map (fun kv => (kV kv.1, kv.2)) ∧ kvs.length ≤ 15 ∧ Q (.ref p) (upd H2 p (.dK (mergeK [] kvs)))
theorem pe_disp {X : Cx} {pos : Pos} {keys : List (Option Expr)} {values : List Expr} {trs : List (TE × TE)} (h : PPs X pos keys values trs) (hall : keys.all (·.isSome) = true) (hl : keys.length = values.length) (h0 : keys ≠ [])
    (h15 : keys.length ≤ 15) : PE X (.Dict keys values pos) (tDisp trs) := by
  intro pins s σ H Q I q
  have hn := I.hok.fresh (Nat.le_refl s.heap.objs.size)
  have I1 := I.laid (a := s.heap.objs.size) (o := .dK []) (h' := s.heap.push { cls := .type "dict", data := .dict #[] }) (t' := s.toks) (fun _ _ q => Heap.get?_push_of_some _ q) (Nat.le_refl _) (dk_empty s.heap I.big)
  refine wpAny_Dict_walk (knd := mixKind X.prog X.w) hall hl h0 h15 (thn (h pins _ σ _ _ I1 (q _ hn)) fun ws s2 ⟨ps, H2, I2, rel, e, kvs, ep, lk, q2⟩ => ?_)
  subst ep
  obtain ⟨rs, c, rk⟩ := carries_of (P := X.prog) (w := X.w) rel
  obtain ⟨z, hd, vs0, r0, dd⟩ := dk_of I2.hok e
  cases r0
  refine ⟨rs, c, dd, fun h' dd' hs => ⟨.ref s.heap.objs.size, _, ?_, rfl, q2⟩⟩
  have hz : (mergeK [] kvs).length ≤ sizeLine := by
    have h1 := length_mergeK kvs []
    rw [List.length_nil] at h1
    rw [sizeLine_eq]; omega
  have he : ∃ q, h'.get? s.heap.objs.size = some q := let ⟨q, _, _, hq, _⟩ := dd'; ⟨q, hq⟩
  exact d_write I2 (by rw [e]; exact True.intro) hs he (dk_new hz hd (rk.merge .nil) dd')


/-! ### methods -/
section
variable {X : Cx} {pins : List (Addr × Obj)} {σ : St} {H : Hp} {s : Shared} {a : Addr} {y d : V} {u r : Value} {o : Option V} {A : Around} {E : Value → Shared → Prop}
end

section
variable {X : Cx} {o e f : Expr} {apos cpos : Pos} {td ty tx : TE}
end

/-! ### dict(d): a copy -/
section
variable {X : Cx} {pins : List (Addr × Obj)} {σ : St} {H : Hp} {s : Shared} {a : Addr} {kvs : List (Key × V)} {A : Around} {E : Value → Shared → Prop}
end


section
variable {X : Cx} {pins : List (Addr × Obj)} {σ : St} {H : Hp} {s : Shared} {a : Addr} {y : V} {u : Value} {A : Around} {E : Value → Shared → Prop}
end
section
variable {X : Cx}
end
/-! ### a dict's pairs: keys that differ -/
section
variable {κ : Type} [DecidableEq κ]
theorem valV_in {kvs : List (κ × V)} {k : κ} {v : V} (h : valV kvs k = some v) : k ∈ kvs.map (·.1) := by
  have q : (kvs.any fun kv => decide (kv.1 = k)) = true := by
    rw [valV_any, h]
    all_goals rfl
  obtain ⟨p, hp, e⟩ := List.any_eq_true.mp q
  exact List.mem_map.mpr ⟨p, hp, of_decide_eq_true e⟩
end
end L2
namespace L2
open PySem PySem.Spec PyProof.Rows
/-! ### lists and tuples within one another that are equal -/
mutual
/-- equal things, n deep -/
def Eqv (K : PySem.W.Frag) (H : Hp) : Nat → V → V → Prop
  | 0, x, y => (flatV x = true ∧ flatV y = true ∧ eqV x y = true) ∨ ∃ a, x = .ref a ∧ y = .ref a
  | n + 1, x, y => (flatV x = true ∧ flatV y = true ∧ eqV x y = true) ∨ (∃ a, x = .ref a ∧ y = .ref a) ∨ EqvS K H n x y
/-- two tuples or two lists, item by item -/
def EqvS (K : PySem.W.Frag) (H : Hp) : Nat → V → V → Prop
  | n, x, y => ∃ a b xs ys, x = .ref a ∧ y = .ref b ∧ ((SqT K H a xs ∧ SqT K H b ys) ∨ (SqL K H a xs ∧ SqL K H b ys)) ∧ xs.length = ys.length ∧ ∀ (i : Nat) u v, xs[i]? = some u → ys[i]? = some v → Eqv K H n u v
end
section
variable {X : Cx} {pins : List (Addr × Obj)} {σ : St} {H : Hp} {s : Shared}
theorem all_true (n : Nat) : (List.range n).all (fun _ => true) = true := List.all_eq_true.mpr fun _ _ => rfl
/-- what item by item gives -/
theorem items_D {A : Around} {n : Nat} {xs ys : List V} {us vs : List Value} (r : Vals xs us) (q : Vals ys vs) (h : ∀ (i : Nat) u v, xs[i]? = some u → ys[i]? = some v → Eqv X.K H n u v)
    (ih : ∀ {x y : V} {u v : Value}, Eqv X.K H n x y → RelV x u → RelV y v → SeqAt.EqAt A s u v true) (j : Nat) (h1 : j < us.toArray.size) (h2 : j < vs.toArray.size) : SeqAt.EqAt A s us.toArray[j] vs.toArray[j] true := by
  have l1 := r.length
  have l2 := q.length
  have h1' : j < xs.length := by rw [l1]; simpa using h1
  have h2' : j < ys.length := by rw [l2]; simpa using h2
  obtain ⟨u, eu, ru⟩ := r.get (i := j) (x := xs[j]) (by simp [h1'])
  obtain ⟨v, ev, rv⟩ := q.get (i := j) (x := ys[j]) (by simp [h2'])
  have e1 : us.toArray[j] = u := by
    obtain ⟨_, e⟩ := List.getElem?_eq_some_iff.mp eu
    simpa using e
  have e2 : vs.toArray[j] = v := by
    obtain ⟨_, e⟩ := List.getElem?_eq_some_iff.mp ev
    simpa using e
  rw [e1, e2]
  exact ih (h j _ _ (by simp [h1']) (by simp [h2'])) ru rv
theorem rc_D {A : Around} {n : Nat} {x y : V} {u v : Value} (I : Inv X pins σ H s) (h : EqvS X.K H n x y) (rx : RelV x u) (ry : RelV y v) (hu : A.units < cLine)
    (ih : ∀ {x y : V} {u v : Value}, Eqv X.K H n x y → RelV x u → RelV y v → SeqAt.EqAt A.in1 s u v true) : ∃ a b, u = .ref a ∧ v = .ref b ∧ SeqAt.RcAt A s (.ref a) (.ref b) true ∧ SeqAt.RcNeAt A s (.ref a) (.ref b) false := by
  unfold EqvS at h
  obtain ⟨a, b, xs, ys, rfl, rfl, hq, hl, hi⟩ := h
  cases rx
  cases ry
  refine ⟨a, b, rfl, rfl, ?_⟩
  rcases hq with ⟨ha, hb⟩ | ⟨ha, hb⟩
  · obtain ⟨its, r1, p1, _⟩ := I.tuple ha
    obtain ⟨its2, r2, p2, _⟩ := I.tuple hb
    have l1 := r1.length
    have l2 := r2.length
    have e : ((List.range (min its.toArray.size its2.toArray.size)).all (fun _ => true) && its.toArray.size == its2.toArray.size) = true := by
      rw [all_true]; simp; omega
    have A1 := SeqAt.RcAt.tuples (A := A) (e := fun _ => true) (show s.heap.IsTuple a its.toArray from p1) (show s.heap.IsTuple b its2.toArray from p2) hu (fun j h1 h2 => items_D r1 r2 hi ih j h1 h2)
    have A2 := SeqAt.RcNeAt.tuples (A := A) (e := fun _ => true) (show s.heap.IsTuple a its.toArray from p1) (show s.heap.IsTuple b its2.toArray from p2) hu (fun j h1 h2 => items_D r1 r2 hi ih j h1 h2)
    rw [e] at A1 A2
    exact ⟨A1, A2⟩
  · obtain ⟨its, r1, p1, _⟩ := I.list ha
    obtain ⟨its2, r2, p2, _⟩ := I.list hb
    have l1 := r1.length
    have l2 := r2.length
    have A1 := SeqAt.RcAt.lists (A := A) (e := fun _ => true) p1.isList p2.isList (by simp; omega) hu (fun j h1 h2 => items_D r1 r2 hi ih j h1 h2)
    have A2 := SeqAt.RcNeAt.lists (A := A) (e := fun _ => true) p1.isList p2.isList (by simp; omega) hu (fun j h1 h2 => items_D r1 r2 hi ih j h1 h2)
    rw [all_true] at A1 A2
    exact ⟨A1, A2⟩
theorem eqAt_D (I : Inv X pins σ H s) : ∀ (n : Nat) {A : Around} {x y : V} {u v : Value}, Eqv X.K H n x y → RelV x u → RelV y v → A.units + n < cLine → SeqAt.EqAt A s u v true := by
  intro n
  induction n with
  | zero =>
    intro A x y u v h rx ry hu
    unfold Eqv at h
    rcases h with ⟨f1, f2, e⟩ | ⟨a, rfl, rfl⟩
    · have z := eqAt_V (A := A) (s := s) rx ry f1 f2
      rw [e] at z
      exact z
    · cases rx
      cases ry
      exact SeqAt.EqAt.same _
  | succ n ih =>
    intro A x y u v h rx ry hu
    unfold Eqv at h
    rcases h with ⟨f1, f2, e⟩ | ⟨a, rfl, rfl⟩ | h
    · have z := eqAt_V (A := A) (s := s) rx ry f1 f2
      rw [e] at z
      exact z
    · cases rx
      cases ry
      exact SeqAt.EqAt.same _
    · obtain ⟨a, b, rfl, rfl, z, _⟩ := rc_D (A := A) I h rx ry (by omega) (fun h rx ry => ih (A := A.in1) h rx ry (by show A.units + 1 + n < _; omega))
      by_cases hne : a = b
      · subst hne
        exact SeqAt.EqAt.same _
      · exact SeqAt.EqAt.of_refs hne z
/-- == and != of such -/
theorem op_eqD (hu : X.A.units + 40 < cLine) : OpR X (compareOp .Eq) (fun x y H Q => ∃ n, EqvS X.K H n x y ∧ n ≤ 20 ∧ Q (.bl true) H) := by
  intro pins s σ H x y v u Q I rx ry h
  obtain ⟨n, h, hn, q⟩ := h
  obtain ⟨a, b, rfl, rfl, z, _⟩ := rc_D (A := X.A) I h rx ry (by omega) (fun h rx ry => eqAt_D I n h rx ry (by show X.A.units + 1 + n < _; omega))
  exact z _ _ _ _ ⟨.bl true, H, I, rfl, q⟩
theorem op_neD (hu : X.A.units + 40 < cLine) : OpR X (compareOp .NotEq) (fun x y H Q => ∃ n, EqvS X.K H n x y ∧ n ≤ 20 ∧ Q (.bl false) H) := by
  intro pins s σ H x y v u Q I rx ry h
  obtain ⟨n, h, hn, q⟩ := h
  obtain ⟨a, b, rfl, rfl, _, z⟩ := rc_D (A := X.A) I h rx ry (by omega) (fun h rx ry => eqAt_D I n h rx ry (by show X.A.units + 1 + n < _; omega))
  exact z _ _ _ _ ⟨.bl false, H, I, rfl, q⟩
end
end L2
namespace L2
open PySem PySem.Spec PyProof.Rows
/-! ### what is a list or a tuple -/
def sqO (tu : Bool) (xs : List V) : HO := match tu with
  | false => .lst xs
  | true => .tup xs
def Sq (K : PySem.W.Frag) (tu : Bool) (H : Hp) (a : Addr) (xs : List V) : Prop := match tu with
  | false => SqL K H a xs
  | true => SqT K H a xs
theorem Sq.of {K : PySem.W.Frag} {tu : Bool} {H : Hp} {a : Addr} {xs : List V} (h : H a = some (sqO tu xs)) : Sq K tu H a xs := by
  cases tu with
  | false => exact SqL.of h
  | true => exact SqT.of h
theorem Sq.or {K : PySem.W.Frag} {tu : Bool} {H : Hp} {a : Addr} {xs : List V} (h : H a = some (sqO tu xs)) : SqL K H a xs ∨ SqT K H a xs := by
  cases tu with
  | false => exact .inl (SqL.of h)
  | true => exact .inr (SqT.of h)
def ItS (K : PySem.W.Frag) (tu : Bool) (a : Addr) : It := match tu with
  | false => Itl K a
  | true => Itt K a
def iSeq (K : PySem.W.Frag) (tl : TE) : TI := fun σ H R => tl σ H fun x H1 => ∃ (a : Addr) (tu : Bool), x = .ref a ∧ (∃ xs, Sq K tu H1 a xs) ∧ R (ItS K tu a) H1
theorem pi_seq {X : Cx} {tg l : Expr} {tl : TE} (hl : PE X l tl) : PI X tg l (iSeq X.K tl) := by
  intro pins s σ H R I h
  refine thn (hl pins s σ H _ I h) fun v s1 ⟨x, H1, I1, r1, q1⟩ => ?_
  obtain ⟨a, tu, e, ⟨xs, hq⟩, q⟩ := q1
  subst e
  cases r1
  have fr : ∀ b ∈ [s1.heap.objs.size], FpOk X pins H1 b := fun b hb => by
    obtain rfl : b = s1.heap.objs.size := by simpa using hb
    exact I1.fpOk (Nat.le_refl _) (I1.hok.fresh (Nat.le_refl _))
  cases tu with
  | false =>
    obtain ⟨its, rv, p, hz⟩ := I1.list hq
    exact wpAny_pyIter_list p.isList ⟨s1.heap.objs.size, [s1.heap.objs.size], _, _, H1, rfl, I1.kept (t' := s1.toks) fun b o e => Heap.get?_push_of_some _ e, turn_list a _, ⟨_, Heap.get?_push_size _ rfl, rfl, rfl⟩, fr, q⟩
  | true =>
    obtain ⟨its, rv, p, hz⟩ := I1.tuple hq
    exact wpAny_pyIter_tuple (show s1.heap.IsTuple a its.toArray from p) ⟨s1.heap.objs.size, [s1.heap.objs.size], _, _, H1, rfl, I1.kept (t' := s1.toks) fun b o e => Heap.get?_push_of_some _ e, turn_tuple a _, ⟨_, Heap.get?_push_size _ rfl, rfl, rfl⟩, fr, q⟩
theorem for_seq {K : PySem.W.Frag} {a : Addr} {tu : Bool} {xs : List V} {g : TG} {tb : TS} {D : Ends} {σ : St} {H : Hp} (Pv : Nat → St → Hp → Prop) (h0 : Pv 0 σ H) (hl : ∀ i σ H, i ≤ xs.length → Pv i σ H → Sq K tu H a xs)
    (hs : ∀ i x σ H, xs[i]? = some x → Pv i σ H → g x σ H fun σ2 H2 => tb { D with nx := Pv (i + 1), ct := Pv (i + 1), bk := D.nx } σ2 H2) (hd : ∀ σ H, Pv xs.length σ H → D.nx σ H) :
    ∃ W : Nat → Nat → St → Hp → Prop, (∃ m, W 0 m σ H) ∧ ∀ i m σ H, W i m σ H →
      ((ItS K tu a).stop i H ∧ D.nx σ H) ∨ ((ItS K tu a).go i H ∧ ∃ N : St → Hp → Prop, (∀ σ' H', N σ' H' → ∃ m', m' < m ∧ W (i + 1) m' σ' H') ∧ ∀ x H', (ItS K tu a).yld i H x H' → g x σ H' fun σ2 H2 => tb { D with nx := N, ct := N, bk := D.nx } σ2 H2) := by
  cases tu with
  | false => exact for_list Pv h0 hl hs hd
  | true => exact for_tup Pv h0 hl hs hd
/-- a comprehension over a list or a tuple -/
theorem comp_seq {K : PySem.W.Frag} {tu : Bool} {a p : Addr} {tt : TT} {te : TE} {cs : St} {Q : VK} {H1 : Hp} {xs : List V} (Pv : Nat → List V → Hp → Prop) (h0 : Pv 0 [] (upd H1 p (.lst [])))
    (hl : ∀ i ys H, i ≤ xs.length → Pv i ys H → Sq K tu H a xs)
    (hs : ∀ i x ys H, xs[i]? = some x → Pv i ys H → tt (some x :: cs) H fun b H4 => if b = true then te (some x :: cs) H4 fun y H5 => H5 p = some (.lst ys) ∧ ys.length < sizeLine ∧ Pv (i + 1) (ys ++ [y]) (upd H5 p (.lst (ys ++ [y]))) else Pv (i + 1) ys H4)
    (hd : ∀ ys H, Pv xs.length ys H → Q (.ref p) H) : CompW (ItS K tu a) p tt te cs Q H1 := by
  refine comp_by xs.length Pv h0 ?_ ?_
  · intro i ys H hi pv
    have q := hl i ys H (Nat.le_of_lt hi) pv
    cases tu with
    | false =>
      refine ⟨⟨xs, xs[i], q, by simp [hi]⟩, fun v H3 y => ?_⟩
      obtain ⟨e, y⟩ := y
      subst e
      exact hs i v ys _ (y xs q) pv
    | true =>
      refine ⟨⟨xs, xs[i], q, by simp [hi]⟩, fun v H3 y => ?_⟩
      obtain ⟨e, y⟩ := y
      subst e
      exact hs i v ys _ (y xs q) pv
  · intro ys H pv
    have q := hl _ ys H (Nat.le_refl _) pv
    cases tu with
    | false => exact ⟨⟨xs, q, Nat.le_refl _⟩, hd ys H pv⟩
    | true => exact ⟨⟨xs, q, Nat.le_refl _⟩, hd ys H pv⟩
/-- its target a tuple -/
theorem compT_seq {K : PySem.W.Frag} {tu : Bool} {a p : Addr} {g : TG} {k : Nat} {tt : TT} {te : TE} {cs : St} {Q : VK} {H1 : Hp} {xs : List V} (Pv : Nat → List V → Hp → Prop) (h0 : Pv 0 [] (upd H1 p (.lst [])))
    (hl : ∀ i ys H, i ≤ xs.length → Pv i ys H → Sq K tu H a xs)
    (hs : ∀ i x ys H, xs[i]? = some x → Pv i ys H → ∀ vs0 : St, vs0.length = k → g x (vs0 ++ cs) H fun σ' H' => (∃ vs' : St, σ' = vs' ++ cs ∧ vs'.length = k) ∧ tt σ' H' fun b H4 => if b = true then te σ' H4 fun y H5 => H5 p = some (.lst ys) ∧ ys.length < sizeLine ∧ Pv (i + 1) (ys ++ [y]) (upd H5 p (.lst (ys ++ [y]))) else Pv (i + 1) ys H4)
    (hd : ∀ ys H, Pv xs.length ys H → Q (.ref p) H) : CompWT (fun _ => True) g k (ItS K tu a) p tt te cs Q H1 := by
  refine ⟨fun i m ys H => m = xs.length - i ∧ i ≤ xs.length ∧ Pv i ys H, ⟨xs.length, by simp, Nat.zero_le _, h0⟩, ?_⟩
  rintro i m ys H ⟨rfl, hi, pv⟩
  have q := hl i ys H hi pv
  by_cases hlt : i < xs.length
  · have st : ∀ x, xs[i]? = some x → _ := fun x hx => hs i x ys H hx pv
    cases tu with
    | false =>
      refine .inr ⟨⟨xs, xs[i], q, by simp [hlt]⟩, trivial, Pv (i + 1), fun ys' H' p' => ⟨xs.length - (i + 1), by omega, rfl, hlt, p'⟩, fun v H3 y => ?_⟩
      obtain ⟨e, y⟩ := y
      subst e
      exact st v (y xs q)
    | true =>
      refine .inr ⟨⟨xs, xs[i], q, by simp [hlt]⟩, trivial, Pv (i + 1), fun ys' H' p' => ⟨xs.length - (i + 1), by omega, rfl, hlt, p'⟩, fun v H3 y => ?_⟩
      obtain ⟨e, y⟩ := y
      subst e
      exact st v (y xs q)
  · have e : i = xs.length := by omega
    subst e
    cases tu with
    | false => exact .inl ⟨⟨xs, q, Nat.le_refl _⟩, trivial, hd ys H pv⟩
    | true => exact .inl ⟨⟨xs, q, Nat.le_refl _⟩, trivial, hd ys H pv⟩
/-- four names -/
def g4 (K : PySem.W.Frag) : TG := gTup K 4 (gCons (gName 0) (gCons (gName 1) (gCons (gName 2) (gCons (gName 3) gNil))))
theorem comp4 {K : PySem.W.Frag} {tu : Bool} {a p : Addr} {tt : TT} {te : TE} {cs : St} {Q : VK} {H1 : Hp} {xs : List V} (Pv : Nat → List V → Hp → Prop) (h0 : Pv 0 [] (upd H1 p (.lst [])))
    (hl : ∀ i ys H, i ≤ xs.length → Pv i ys H → Sq K tu H a xs)
    (hs : ∀ i x ys H, xs[i]? = some x → Pv i ys H → ∃ q c1 c2 c3 c4, x = .ref q ∧ SqT K H q [c1, c2, c3, c4] ∧ tt (some c1 :: some c2 :: some c3 :: some c4 :: cs) H fun b H4 => if b = true then te (some c1 :: some c2 :: some c3 :: some c4 :: cs) H4 fun y H5 => H5 p = some (.lst ys) ∧ ys.length < sizeLine ∧ Pv (i + 1) (ys ++ [y]) (upd H5 p (.lst (ys ++ [y]))) else Pv (i + 1) ys H4)
    (hd : ∀ ys H, Pv xs.length ys H → Q (.ref p) H) : CompWT (fun _ => True) (g4 K) 4 (ItS K tu a) p tt te cs Q H1 := by
  refine compT_seq Pv h0 hl (fun i x ys H hx pv vs0 hv => ?_) hd
  obtain ⟨q, c1, c2, c3, c4, rfl, hq, ht⟩ := hs i x ys H hx pv
  match vs0, hv with
  | [w1, w2, w3, w4], _ => exact ⟨q, _, rfl, hq, rfl, c1, _, rfl, c2, _, rfl, c3, _, rfl, c4, _, rfl, rfl, ⟨[some c1, some c2, some c3, some c4], rfl, rfl⟩, ht⟩
def tCompR (g : TG) (k : Nat) (wi : TI) (tt : TT) (te : TE) (caps : List Nat) : TE := fun σ H Q => wi σ H fun J H1 => ∀ p, H1 p = none → CompWT (fun _ => True) g k J p tt te (capV σ caps) Q H1
theorem pe_compR {X : Cx} {elt iter : Expr} {ifs : List Expr} {tg : Expr} {g : TG} {pos : Pos} {sc : Scope} {wi : TI} {tt : TT} {te : TE} (xs : List Str) (caps : List Nat) (capsN : List Str)
    (hi : PI X tg iter wi)
    (hg : ∀ cl C s H ex pn, PG (cxComp X (xs ++ capsN) sc cl C s H ex pn) tg g)
    (ht : ∀ cl C s H ex pn, PTs (cxComp X (xs ++ capsN) sc cl C s H ex pn) ifs tt)
    (he : ∀ cl C s H ex pn, PE (cxComp X (xs ++ capsN) sc cl C s H ex pn) elt te)
    (hkind : sc.kind = .function) (hcell : ∀ y ∈ sc.names, y.2 ≠ .cell) (hnames : ∀ y ∈ sc.names, y.2 = .local → sc.names.lookup y.1 = some .local)
    (hfr : ∀ y ∈ sc.names, y.2 = .free → y.1 ∈ capsN)
    (hcap : ∀ (j : Nat) (y : Str), capsN[j]? = some y → ∃ i : Nat, caps[j]? = some i ∧ X.N[i]? = some y ∧ sc.names.lookup y = some .free ∧ (X.env.kindOf y = some .cell ∨ X.env.kindOf y = some .free)) (hlen : caps.length = capsN.length)
    (hc : X.calm = true)
    (hs : ∀ x, foldedSetIterable iter X.env x = pure x := by intro _; rfl) :
    PE X (.ListComp elt [⟨tg, iter, ifs, 0⟩] sc pos) (tCompR g xs.length wi tt te caps) :=
  pe_compT (Gs := fun _ => True) (hb := false) (CW := fun J p cs Q H1 => CompWT (fun _ => True) g xs.length J p tt te cs Q H1) caps capsN hi hg ht he hkind hcell hnames hfr hcap hlen (.inl hc) (fun _ _ _ _ _ h => h) hs
theorem ps_setC1 {X : Cx} {elt iter : Expr} {ifs : List Expr} {x y : Str} {px pos pos' pos2 : Pos} {sc : Scope} {wi : TI} {tt : TT} {te : TE} {i : Nat} (hN : X.N.Nodup) (hiN : X.N[i]? = some y) (hy : X.env.scope.names.lookup y = some .local) (caps : List Nat) (capsN : List Str)
    (hi : PI X (.Name x px) iter wi)
    (ht : ∀ cl C s H ex pn, PTs (cxComp X (x :: capsN) sc cl C s H ex pn) ifs tt)
    (he : ∀ cl C s H ex pn, PE (cxComp X (x :: capsN) sc cl C s H ex pn) elt te)
    (hkind : sc.kind = .function) (hcell : ∀ y ∈ sc.names, y.2 ≠ .cell) (hnames : ∀ y ∈ sc.names, y.2 = .local → sc.names.lookup y.1 = some .local) (hx : sc.names.lookup x = some .local)
    (hfr : ∀ y ∈ sc.names, y.2 = .free → y.1 ∈ capsN)
    (hcap : ∀ (j : Nat) (y : Str), capsN[j]? = some y → ∃ i : Nat, caps[j]? = some i ∧ X.N[i]? = some y ∧ sc.names.lookup y = some .free ∧ (X.env.kindOf y = some .cell ∨ X.env.kindOf y = some .free)) (hlen : caps.length = capsN.length)
    (hnd : (x :: capsN).Nodup) (hc : X.calm = true)
    (hsw : swapsWith (.ListComp elt [⟨.Name x px, iter, ifs, 0⟩] sc pos) (some (.Name y pos')) pos2.line X.env = pure true := by rfl)
    (hs : ∀ x, foldedSetIterable iter X.env x = pure x := by intro _; rfl) :
    PS X (.Assign [.Name y pos'] (.ListComp elt [⟨.Name x px, iter, ifs, 0⟩] sc pos) pos2) (tAsg (tComp wi tt te caps) (gName i)) :=
  ps_setC (Gs := fun _ => True) (hb := false) (CW := fun J p cs Q H1 => CompW J p tt te cs Q H1) hN hiN hy caps capsN hi ht he hkind hcell hnames hx hfr hcap hlen hnd (.inl hc) (fun _ _ _ _ _ h => h.g) hsw hs
/-! ### l != [] -/
section
variable {X : Cx}
def rNeE (K : PySem.W.Frag) : R2 := fun x y H Q => ∃ a b xs, x = .ref a ∧ y = .ref b ∧ SqL K H a xs ∧ SqL K H b [] ∧ Q (.bl (decide (xs ≠ []))) H
theorem op_neE (hu : X.A.units < cLine) : OpR X (compareOp .NotEq) (rNeE X.K) := by
  intro pins s σ H x y v u Q I rx ry h
  obtain ⟨a, b, xs, rfl, rfl, ha, hb, q⟩ := h
  cases hx : xs with
  | nil =>
    subst hx
    exact op_neL hu pins s σ H _ _ v u Q I rx ry ⟨a, b, _, _, rfl, rfl, ha, hb, rfl, rfl, q⟩
  | cons z zs =>
    cases rx
    cases ry
    obtain ⟨its, r1, p1, _⟩ := I.list ha
    obtain ⟨its2, r2, p2, _⟩ := I.list hb
    have l1 := r1.length
    have l2 := r2.length
    have lx : xs.length = zs.length + 1 := by rw [hx]; rfl
    have l0 : ([] : List V).length = 0 := rfl
    refine SeqAt.RcNeAt.lists_lengths p1.isList p2.isList (by simp; omega) hu _ _ _ _ ⟨.bl true, H, I, rfl, ?_⟩
    have e : decide (xs ≠ []) = true := decide_eq_true (by rw [hx]; exact List.cons_ne_nil _ _)
    rw [e] at q
    exact q
end
/-! ### rules within a comprehension, K told -/
section
variable {X : Cx} {K : PySem.W.Frag}
theorem ix_tupK (h : X.K = K) : IxR X (rIxT K) := by
  subst h
  exact ix_tup
theorem ix_listK (h : X.K = K) : IxR X (rIxL K) := by
  subst h
  exact ix_list
theorem sl_listK (h : X.K = K) : SlR X (rSlL K) := by
  subst h
  exact sl_list
theorem call_len_seqK (h : X.K = K) : CallR X (.builtin "len") (fun xs H Q => ∃ p ys, xs = [.ref p] ∧ (SqL K H p ys ∨ SqT K H p ys) ∧ Q (.int ys.length) H) := by
  subst h
  exact call_len_seq
theorem call_tuple_ofK (h : X.K = K) : CallR X (.type "tuple") (fun xs H Q => ∃ p ys, xs = [.ref p] ∧ ((SqL K H p ys ∧ ∀ l, H l = none → Q (.ref l) (upd H l (.tup ys))) ∨ (SqT K H p ys ∧ Q (.ref p) H))) := by
  subst h
  exact call_tuple_of
end
/-! ### tuples of flat things in a list -/
def TupsAt (H : Hp) : List V → List (List V) → Prop
  | [], [] => True
  | v :: ys, t :: ts => (∃ q, v = .ref q ∧ H q = some (.tup t)) ∧ TupsAt H ys ts
  | _, _ => False
theorem TupsAt.len {H : Hp} : ∀ {ys : List V} {ts : List (List V)}, TupsAt H ys ts → ys.length = ts.length
  | [], [], _ => rfl
  | _ :: ys, _ :: ts, h => by rw [List.length_cons, List.length_cons, TupsAt.len h.2]
  | [], _ :: _, h => h.elim
  | _ :: _, [], h => h.elim
theorem TupsAt.keep {H H' : Hp} (k : ∀ q t, H q = some (.tup t) → H' q = some (.tup t)) : ∀ {ys : List V} {ts : List (List V)}, TupsAt H ys ts → TupsAt H' ys ts
  | [], [], _ => trivial
  | _ :: ys, _ :: ts, h => by
    obtain ⟨⟨q, e, hq⟩, r⟩ := h
    exact ⟨⟨q, e, k q _ hq⟩, TupsAt.keep k r⟩
  | [], _ :: _, h => h.elim
  | _ :: _, [], h => h.elim
theorem TupsAt.mono {H H' : Hp} {ys : List V} {ts : List (List V)} (h : TupsAt H ys ts) (s : Same H H') : TupsAt H' ys ts := h.keep fun q t e => s q _ e
theorem TupsAt.upd {H : Hp} {ys : List V} {ts : List (List V)} {p : Addr} {o : HO} (h : TupsAt H ys ts) (hp : ∀ t, H p ≠ some (.tup t)) : TupsAt (upd H p o) ys ts :=
  h.keep fun q t e => by
    rw [upd_ne (fun z => hp t (by rw [← z]; exact e))]
    exact e
theorem lst_ne {H : Hp} {p : Addr} {l : List V} (h : H p = some (.lst l)) : ∀ t, H p ≠ some (.tup t) := fun t z => by
  rw [h] at z
  cases z
theorem TupsAt.snoc {H : Hp} {q : Addr} {t : List V} (e : H q = some (.tup t)) : ∀ {ys : List V} {ts : List (List V)}, TupsAt H ys ts → TupsAt H (ys ++ [.ref q]) (ts ++ [t])
  | [], [], _ => ⟨⟨q, rfl, e⟩, trivial⟩
  | _ :: ys, _ :: ts, h => ⟨h.1, TupsAt.snoc e h.2⟩
  | [], _ :: _, h => h.elim
  | _ :: _, [], h => h.elim
theorem TupsAt.app {H : Hp} {zs : List V} {us : List (List V)} (r : TupsAt H zs us) : ∀ {ys : List V} {ts : List (List V)}, TupsAt H ys ts → TupsAt H (ys ++ zs) (ts ++ us)
  | [], [], _ => r
  | _ :: ys, _ :: ts, h => ⟨h.1, TupsAt.app r h.2⟩
  | [], _ :: _, h => h.elim
  | _ :: _, [], h => h.elim
theorem TupsAt.last {H : Hp} {t : List V} : ∀ {ys : List V} {ts : List (List V)}, TupsAt H ys (ts ++ [t]) → ∃ ys0 q, ys = ys0 ++ [.ref q] ∧ TupsAt H ys0 ts ∧ H q = some (.tup t)
  | [], [], h => h.elim
  | [v], [], h => by
    obtain ⟨⟨q, e, hq⟩, _⟩ := h
    exact ⟨[], q, by rw [e]; rfl, trivial, hq⟩
  | _ :: _ :: _, [], h => h.2.elim
  | [], _ :: _, h => h.elim
  | v :: ys, u :: ts, h => by
    obtain ⟨ys0, q, e, h0, hq⟩ := TupsAt.last h.2
    exact ⟨v :: ys0, q, by rw [e]; rfl, ⟨h.1, h0⟩, hq⟩
theorem TupsAt.get {H : Hp} : ∀ {ys : List V} {ts : List (List V)} {i : Nat} {v : V}, TupsAt H ys ts → ys[i]? = some v → ∃ t q, ts[i]? = some t ∧ v = .ref q ∧ H q = some (.tup t)
  | [], [], _, _, _, e => by simp at e
  | y :: ys, t :: ts, 0, v, h, e => by
    obtain ⟨q, e1, hq⟩ := h.1
    rw [List.getElem?_cons_zero] at e
    cases e
    exact ⟨t, q, rfl, e1, hq⟩
  | y :: ys, t :: ts, i + 1, v, h, e => by
    rw [List.getElem?_cons_succ] at e
    rw [List.getElem?_cons_succ]
    exact TupsAt.get h.2 e
  | [], _ :: _, _, _, h, _ => h.elim
  | _ :: _, [], _, _, h, _ => h.elim
theorem eqV_self {x : V} (h : flatV x = true) : eqV x x = true := by
  cases x <;> first | rfl | (simp [eqV]; done) | (simp [flatV] at h)
theorem TupsAt.eqvS {K : PySem.W.Frag} {H : Hp} {p p' : Addr} {ys zs : List V} {ts : List (List V)} (h1 : H p = some (.lst ys)) (h2 : H p' = some (.lst zs)) (t1 : TupsAt H ys ts) (t2 : TupsAt H zs ts) (hf : ∀ t ∈ ts, t.all flatV = true) : EqvS K H 1 (.ref p) (.ref p') := by
  unfold EqvS
  refine ⟨p, p', ys, zs, rfl, rfl, .inr ⟨SqL.of h1, SqL.of h2⟩, by rw [t1.len, t2.len], fun i u v hu hv => ?_⟩
  obtain ⟨t, q, ht, rfl, hq⟩ := t1.get hu
  obtain ⟨t', q', ht', rfl, hq'⟩ := t2.get hv
  rw [ht] at ht'
  cases ht'
  have f := List.all_eq_true.mp (hf t (List.mem_of_getElem? ht))
  unfold Eqv
  refine .inr (.inr ?_)
  unfold EqvS
  refine ⟨q, q', t, t, rfl, rfl, .inl ⟨SqT.of hq, SqT.of hq'⟩, rfl, fun j a b ha hb => ?_⟩
  rw [ha] at hb
  cases hb
  have fa := f a (List.mem_of_getElem? ha)
  unfold Eqv
  exact .inl ⟨fa, fa, eqV_self fa⟩
theorem atI_end {α : Type} {xs : List α} {v : α} : ixN (xs ++ [v]).length (-1) = some xs.length := by
  have hl : (xs ++ [v]).length = xs.length + 1 := by simp
  rw [hl]
  unfold ixN
  rw [if_neg (by decide), if_pos (by omega)]
  congr 1
  omega
theorem set_end {α : Type} (xs : List α) (v u : α) : (xs ++ [v]).set xs.length u = xs ++ [u] := by simp
end L2
namespace L2
open PySem PySem.Spec PyProof.Rows
/-! ### rows of stretches, as numbers -/
abbrev S4 := Int × Int × Int × Int
def tv (r : S4) : List V := [.int r.1, .int r.2.1, .int r.2.2.1, .int r.2.2.2]
def tp (r : Int × Int) : List V := [.int r.1, .int r.2]
def pmax (i j : Int) : Int := if j > i then j else i
def pmin (i j : Int) : Int := if j < i then j else i
def cut1 (lo hi : Int) (r : S4) : List S4 := if pmax r.1 lo < pmin (r.1 + r.2.1) hi then [(pmax r.1 lo, pmin (r.1 + r.2.1) hi - pmax r.1 lo, r.2.2.1, r.2.2.2 + pmax r.1 lo - r.1)] else []
def partsP (rs : List S4) (lo hi : Int) : List S4 := rs.flatMap (cut1 lo hi)
def shiftP (rs : List S4) (by' : Int) : List S4 := rs.map fun r => (r.1 + by', r.2.1, r.2.2.1, r.2.2.2)
/-- a row that lies from lo to hi -/
def Ord : Int → List S4 → Int → Prop
  | lo, [], hi => lo ≤ hi
  | lo, r :: t, hi => lo ≤ r.1 ∧ 0 < r.2.1 ∧ Ord (r.1 + r.2.1) t hi
theorem Ord.le : ∀ {rs : List S4} {lo hi : Int}, Ord lo rs hi → lo ≤ hi
  | [], _, _, h => h
  | r :: t, lo, hi, h => by
    have := Ord.le h.2.2
    have := h.1
    have := h.2.1
    omega
theorem Ord.up : ∀ {rs : List S4} {lo hi hi' : Int}, Ord lo rs hi → hi ≤ hi' → Ord lo rs hi'
  | [], _, _, _, h, l => Int.le_trans h l
  | r :: t, _, _, _, h, l => ⟨h.1, h.2.1, Ord.up h.2.2 l⟩
theorem Ord.snoc : ∀ {rs : List S4} {lo hi hi' : Int} {r : S4}, Ord lo rs hi → hi ≤ r.1 → 0 < r.2.1 → r.1 + r.2.1 ≤ hi' → Ord lo (rs ++ [r]) hi'
  | [], _, _, _, r, h, l, p, e => ⟨Int.le_trans h l, p, e⟩
  | q :: t, _, _, _, r, h, l, p, e => ⟨h.1, h.2.1, Ord.snoc h.2.2 l p e⟩
theorem Ord.mem : ∀ {rs : List S4} {lo hi : Int} {r : S4}, Ord lo rs hi → r ∈ rs → lo ≤ r.1 ∧ 0 < r.2.1 ∧ r.1 + r.2.1 ≤ hi
  | q :: t, lo, hi, r, h, m => by
    cases m with
    | head => exact ⟨h.1, h.2.1, h.2.2.le⟩
    | tail _ m =>
      have z := Ord.mem h.2.2 m
      have := h.1
      have := h.2.1
      exact ⟨by omega, z.2.1, z.2.2⟩
theorem parts_snoc (rs : List S4) (r : S4) (lo hi : Int) : partsP (rs ++ [r]) lo hi = partsP rs lo hi ++ cut1 lo hi r := by
  unfold partsP
  rw [List.flatMap_append]
  simp
theorem cut1_len (lo hi : Int) (r : S4) : (cut1 lo hi r).length ≤ 1 := by
  unfold cut1
  split <;> simp
theorem parts_len (lo hi : Int) : ∀ rs : List S4, (partsP rs lo hi).length ≤ rs.length
  | [] => Nat.le_refl _
  | r :: t => by
    have := parts_len lo hi t
    have := cut1_len lo hi r
    unfold partsP at *
    rw [List.flatMap_cons, List.length_append, List.length_cons]
    omega
theorem take_next {α : Type} {rs : List α} {i : Nat} {r : α} (h : rs[i]? = some r) : rs.take (i + 1) = rs.take i ++ [r] := by
  rw [List.take_add_one, h]
  rfl
theorem cut1_id {lo hi : Int} {r : S4} (h1 : lo ≤ r.1) (h2 : 0 < r.2.1) (h3 : r.1 + r.2.1 ≤ hi) : cut1 lo hi r = [r] := by
  obtain ⟨a, l, p, s⟩ := r
  simp only at h1 h2 h3
  have e1 : pmax a lo = a := by unfold pmax; rw [if_neg (by omega)]
  have e2 : pmin (a + l) hi = a + l := by unfold pmin; rw [if_neg (by omega)]
  unfold cut1
  simp only [e1, e2]
  rw [if_pos (by omega)]
  congr 2
  · congr 1
    · omega
    · congr 1
      omega
theorem parts_id {size : Int} : ∀ {rs : List S4} {lo hi : Int}, Ord lo rs hi → 0 ≤ lo → hi ≤ size → partsP rs 0 size = rs
  | [], _, _, _, _, _ => rfl
  | r :: t, lo, hi, h, h0, hs => by
    have a1 := h.1
    have a2 := h.2.1
    have a3 := h.2.2.le
    have ih := parts_id h.2.2 (by omega) hs
    unfold partsP at *
    rw [List.flatMap_cons, ih, cut1_id (by omega) a2 (by omega)]
    rfl
/-! ### whole numbers from b on -/
/-! ### gaps -/
def tk (rs : List S4) (k : Int) : Bool := rs.any fun r => decide (r.1 ≤ k) && decide (k < r.1 + r.2.1)
def gstep (t : Int → Bool) (g : List (Int × Int)) (n : Int) : List (Int × Int) := if t n = true then g else match g.getLast? with
  | some z => if z.2 = n then g.dropLast ++ [(z.1, n + 1)] else g ++ [(n, n + 1)]
  | none => g ++ [(n, n + 1)]
def gl (t : Int → Bool) : Nat → List (Int × Int)
  | 0 => []
  | n + 1 => gstep t (gl t n) n
def gst (st : List (Int × Int) × Int) (r : S4) : List (Int × Int) × Int := (if st.2 < r.1 then st.1 ++ [(st.2, r.1)] else st.1, r.1 + r.2.1)
def gfin (st : List (Int × Int) × Int) (size : Int) : List (Int × Int) := if st.2 < size then st.1 ++ [(st.2, size)] else st.1
def gapsP (rs : List S4) (size : Int) : List (Int × Int) := gfin ((partsP rs 0 size).foldl gst ([], 0)) size
def Lst (g : List (Int × Int)) (e : Int) : Prop := ∀ z, g.getLast? = some z → z.2 < e
theorem gstep_taken {t : Int → Bool} {g : List (Int × Int)} {n : Int} (h : t n = true) : gstep t g n = g := by
  unfold gstep
  rw [if_pos h]
theorem gstep_ne {t : Int → Bool} {g : List (Int × Int)} {n : Int} (h : t n = false) (l : ∀ z, g.getLast? = some z → z.2 ≠ n) : gstep t g n = g ++ [(n, n + 1)] := by
  unfold gstep
  rw [if_neg (by rw [h]; exact Bool.false_ne_true)]
  split
  · next z e => rw [if_neg (l z e)]
  · rfl
theorem gstep_new {t : Int → Bool} {g : List (Int × Int)} {n : Int} (h : t n = false) (l : Lst g n) : gstep t g n = g ++ [(n, n + 1)] := by
  unfold gstep
  rw [if_neg (by rw [h]; exact Bool.false_ne_true)]
  split
  · next z e => rw [if_neg (by have := l z e; omega)]
  · rfl
theorem gstep_on {t : Int → Bool} {g : List (Int × Int)} {a n : Int} (h : t n = false) : gstep t (g ++ [(a, n)]) n = g ++ [(a, n + 1)] := by
  unfold gstep
  rw [if_neg (by rw [h]; exact Bool.false_ne_true)]
  simp
theorem run_taken {t : Int → Bool} {e : Nat} : ∀ d : Nat, (∀ k : Nat, e ≤ k → k < e + d → t k = true) → gl t (e + d) = gl t e
  | 0, _ => rfl
  | d + 1, h => by
    have ih := run_taken d fun k h1 h2 => h k h1 (by omega)
    show gstep t (gl t (e + d)) ((e + d : Nat) : Int) = _
    rw [gstep_taken (h _ (by omega) (by omega)), ih]
theorem run_free {t : Int → Bool} {e : Nat} (l : Lst (gl t e) (e : Nat)) : ∀ d : Nat, (∀ k : Nat, e ≤ k → k < e + (d + 1) → t k = false) → gl t (e + (d + 1)) = gl t e ++ [(((e : Nat) : Int), ((e + (d + 1) : Nat) : Int))]
  | 0, h => by
    show gstep t (gl t e) ((e : Nat) : Int) = _
    rw [gstep_new (h _ (by omega) (by omega)) l]
    rfl
  | d + 1, h => by
    have ih := run_free l d fun k h1 h2 => h k h1 (by omega)
    show gstep t (gl t (e + (d + 1))) ((e + (d + 1) : Nat) : Int) = _
    rw [ih, gstep_on (h _ (by omega) (by omega))]
    rfl
theorem tk_lt : ∀ {rs : List S4} {lo hi k : Int}, Ord lo rs hi → k < lo → tk rs k = false
  | [], _, _, _, _, _ => rfl
  | r :: t, lo, hi, k, h, l => by
    have a1 := h.1
    have a2 := h.2.1
    have ih := tk_lt (k := k) h.2.2 (by omega)
    unfold tk at *
    rw [List.any_cons, ih, decide_eq_false (by omega)]
    rfl
theorem gaps_go {t : Int → Bool} {size : Nat} : ∀ {rs : List S4} {e : Nat} {hi : Int}, Ord (e : Nat) rs hi → hi ≤ (size : Nat) → (∀ k : Nat, e ≤ k → t k = tk rs k) → Lst (gl t e) (e : Nat) → gfin (rs.foldl gst (gl t e, ((e : Nat) : Int))) (size : Nat) = gl t size
  | [], e, hi, o, hs, ht, l => by
    have o' : ((e : Nat) : Int) ≤ hi := o
    show gfin (gl t e, ((e : Nat) : Int)) (size : Nat) = _
    unfold gfin
    by_cases c : e < size
    · obtain ⟨d, rfl⟩ : ∃ d, size = e + (d + 1) := ⟨size - e - 1, by omega⟩
      rw [if_pos (show ((e : Nat) : Int) < ((e + (d + 1) : Nat) : Int) by omega), run_free l d fun k h1 h2 => ht k h1]
    · obtain rfl : e = size := by omega
      rw [if_neg (show ¬ ((e : Nat) : Int) < ((e : Nat) : Int) by omega)]
  | r :: rs, e, hi, o, hs, ht, l => by
    obtain ⟨a, n, p, s⟩ := r
    have a1 : ((e : Nat) : Int) ≤ a := o.1
    have a2 : (0 : Int) < n := o.2.1
    have a3 : Ord (a + n) rs hi := o.2.2
    obtain ⟨a, rfl⟩ := Int.eq_ofNat_of_zero_le (show 0 ≤ a by omega)
    obtain ⟨n, rfl⟩ := Int.eq_ofNat_of_zero_le (show 0 ≤ n by omega)
    have a3' : Ord ((a + n : Nat) : Int) rs hi := by
      have : ((a + n : Nat) : Int) = (a : Int) + (n : Int) := by omega
      rw [this]
      exact a3
    have tc : ∀ k : Nat, tk (((a : Int), (n : Int), p, s) :: rs) k = ((decide ((a : Int) ≤ (k : Int)) && decide ((k : Int) < (a : Int) + (n : Int))) || tk rs k) := fun k => by
      unfold tk
      rw [List.any_cons]
    have g1 : gl t (a + n) = if ((e : Nat) : Int) < (a : Int) then gl t e ++ [(((e : Nat) : Int), (a : Int))] else gl t e := by
      rw [run_taken n fun k h1 h2 => by
        rw [ht k (by omega), tc, decide_eq_true (by omega), decide_eq_true (by omega)]
        rfl]
      by_cases c : e < a
      · obtain ⟨d, rfl⟩ : ∃ d, a = e + (d + 1) := ⟨a - e - 1, by omega⟩
        rw [if_pos (by omega), run_free l d fun k h1 h2 => by
          rw [ht k h1, tc, decide_eq_false (by omega), Bool.false_and, Bool.false_or]
          exact tk_lt a3 (by omega)]
      · obtain rfl : e = a := by omega
        rw [if_neg (by omega)]
    have l1 : Lst (gl t (a + n)) ((a + n : Nat) : Int) := by
      intro z hz
      rw [g1] at hz
      split at hz
      · rw [List.getLast?_concat] at hz
        cases hz
        show (a : Int) < _
        omega
      · have := l z hz
        omega
    have ih := gaps_go (t := t) (size := size) a3' hs (fun k h1 => by
      rw [ht k (by omega), tc, show decide ((k : Int) < (a : Int) + (n : Int)) = false from decide_eq_false (by omega), Bool.and_false, Bool.false_or]) l1
    rw [List.foldl_cons]
    have e2 : gst (gl t e, ((e : Nat) : Int)) ((a : Int), (n : Int), p, s) = (gl t (a + n), ((a + n : Nat) : Int)) := by
      unfold gst
      rw [g1]
      congr 1
    rw [e2]
    exact ih
theorem gaps_eq {rs : List S4} {hi : Int} {size : Nat} (o : Ord 0 rs hi) (hs : hi ≤ (size : Nat)) : gapsP rs (size : Nat) = gl (tk rs) size := by
  unfold gapsP
  rw [parts_id o (Int.le_refl 0) hs]
  exact gaps_go (t := tk rs) (e := 0) o hs (fun _ _ => rfl) (fun z hz => by cases hz)
theorem rise_eq : ∀ {xs ys : List Int}, xs.Pairwise (· < ·) → ys.Pairwise (· < ·) → (∀ k, k ∈ xs ↔ k ∈ ys) → xs = ys
  | [], [], _, _, _ => rfl
  | [], y :: ys, _, _, h => by have := (h y).mpr (List.mem_cons_self ..); cases this
  | x :: xs, [], _, _, h => by have := (h x).mp (List.mem_cons_self ..); cases this
  | x :: xs, y :: ys, h1, h2, h => by
    have p1 := List.pairwise_cons.mp h1
    have p2 := List.pairwise_cons.mp h2
    have e : x = y := by
      have m1 := (h x).mp (List.mem_cons_self ..)
      have m2 := (h y).mpr (List.mem_cons_self ..)
      rcases List.mem_cons.mp m1 with e | m1
      · exact e
      · rcases List.mem_cons.mp m2 with e | m2
        · exact e.symm
        · have := p1.1 y m2
          have := p2.1 x m1
          omega
    subst e
    have ih := rise_eq p1.2 p2.2 fun k => by
      constructor
      · intro m
        rcases List.mem_cons.mp ((h k).mp (List.mem_cons_of_mem _ m)) with e | m'
        · have := p1.1 k m
          omega
        · exact m'
      · intro m
        rcases List.mem_cons.mp ((h k).mpr (List.mem_cons_of_mem _ m)) with e | m'
        · have := p2.1 k m
          omega
        · exact m'
    rw [ih]
/-! ### rows in the heap -/
def RowAt (tu : Bool) (H : Hp) (a : Addr) (rs : List S4) : Prop := ∃ ys, H a = some (sqO tu ys) ∧ TupsAt H ys (rs.map tv)
theorem RowAt.mono {tu : Bool} {H H' : Hp} {a : Addr} {rs : List S4} (h : RowAt tu H a rs) (s : Same H H') : RowAt tu H' a rs := by
  obtain ⟨ys, e, t⟩ := h
  exact ⟨ys, s _ _ e, t.mono s⟩
def GapAt (H : Hp) (a : Addr) (gs : List (Int × Int)) : Prop := ∃ ys, H a = some (.lst ys) ∧ TupsAt H ys (gs.map tp)
theorem row_get {H : Hp} {ys : List V} {rs : List S4} {i : Nat} {v : V} (h : TupsAt H ys (rs.map tv)) (e : ys[i]? = some v) : ∃ r q, rs[i]? = some r ∧ v = .ref q ∧ H q = some (.tup (tv r)) := by
  obtain ⟨t, q, h1, h2, h3⟩ := h.get e
  rw [List.getElem?_map] at h1
  obtain ⟨r, h4, rfl⟩ := Option.map_eq_some_iff.mp h1
  exact ⟨r, q, h4, h2, h3⟩
theorem row_len {H : Hp} {ys : List V} {rs : List S4} (h : TupsAt H ys (rs.map tv)) : ys.length = rs.length := by rw [h.len, List.length_map]
theorem tp_flat (rs : List (Int × Int)) : ∀ t ∈ rs.map tp, t.all flatV = true := fun t ht => by
  obtain ⟨r, _, rfl⟩ := List.mem_map.mp ht
  rfl
end L2
namespace L2
open PySem PySem.Spec PyProof.Rows PySem.W

/-! ### try with several clauses, with or without a name; with an else -/
section
variable {X : Cx} {rest : List ExceptHandler} {suite : List Stmt} {b₀ : Stmt} {ts : Addr → TS} {tr : THs} {wn n : Str} {D : Addr} {bmD : List Value} {i : Nat} {np hpos pos : Pos}
end
end L2
namespace L2
open PySem PySem.Spec PyProof.Rows PySem.W

/-! ### loops in a def that may raise -/
section
variable {X : Cx} {E : XK}
end

/-! ### methods and makings that raise, within a try's body -/
section
variable {X : Cx} {k : Nat} {f C : Addr} {fd : FuncData} {ps : List Str} {sp : Sp} {dvs : List V} {ds : List Value} {x m : Str} {p pos apos : Pos} {e o : Expr} {es : List Expr} {ta : TE} {t : TA}
end
end L2
/-! ### things of any kind; is_whole, is_within -/
namespace L2
open PySem PySem.Spec PyProof.Rows
def Ty0 (H : Hp) (x : V) : Prop := (∃ n, x = .int n) ∨ (∃ z, x = .str z) ∨ (∃ b, x = .bl b) ∨ x = .non ∨ (∃ a xs, x = .ref a ∧ H a = some (.lst xs)) ∨ (∃ a xs, x = .ref a ∧ H a = some (.tup xs)) ∨ (∃ a kvs, x = .ref a ∧ H a = some (.dK kvs))
theorem Ty0.int {H : Hp} (n : Int) : Ty0 H (.int n) := .inl ⟨n, rfl⟩
theorem Ty0.mono {H H' : Hp} {x : V} (s : Same H H') (h : Ty0 H x) : Ty0 H' x := by
  rcases h with h | h | h | h | ⟨a, z, e, q⟩ | ⟨a, z, e, q⟩ | ⟨a, z, e, q⟩
  · exact .inl h
  · exact .inr (.inl h)
  · exact .inr (.inr (.inl h))
  · exact .inr (.inr (.inr (.inl h)))
  · exact .inr (.inr (.inr (.inr (.inl ⟨a, z, e, s _ _ q⟩))))
  · exact .inr (.inr (.inr (.inr (.inr (.inl ⟨a, z, e, s _ _ q⟩)))))
  · exact .inr (.inr (.inr (.inr (.inr (.inr ⟨a, z, e, s _ _ q⟩)))))
def isI0 : V → Bool
  | .int _ => true
  | .bl _ => true
  | _ => false
def isB0 : V → Bool
  | .bl _ => true
  | _ => false
section
variable (K : PySem.W.Frag)
theorem k0_ii : PySem.W.kitOne K (.type "int") (.type "int") = some true := by kernel_rfl
theorem k0_ib : PySem.W.kitOne K (.type "int") (.type "bool") = some false := by kernel_rfl
theorem k0_si : PySem.W.kitOne K (.type "str") (.type "int") = some false := by kernel_rfl
theorem k0_sb : PySem.W.kitOne K (.type "str") (.type "bool") = some false := by kernel_rfl
theorem k0_bi : PySem.W.kitOne K (.type "bool") (.type "int") = some true := by kernel_rfl
theorem k0_bb : PySem.W.kitOne K (.type "bool") (.type "bool") = some true := by kernel_rfl
theorem k0_ni : PySem.W.kitOne K (.type "NoneType") (.type "int") = some false := by kernel_rfl
theorem k0_nb : PySem.W.kitOne K (.type "NoneType") (.type "bool") = some false := by kernel_rfl
theorem k0_li : PySem.W.kitOne K (.type "list") (.type "int") = some false := by kernel_rfl
theorem k0_lb : PySem.W.kitOne K (.type "list") (.type "bool") = some false := by kernel_rfl
theorem k0_ti : PySem.W.kitOne K (.type "tuple") (.type "int") = some false := by kernel_rfl
theorem k0_tb : PySem.W.kitOne K (.type "tuple") (.type "bool") = some false := by kernel_rfl
theorem k0_di : PySem.W.kitOne K (.type "dict") (.type "int") = some false := by kernel_rfl
theorem k0_db : PySem.W.kitOne K (.type "dict") (.type "bool") = some false := by kernel_rfl
end
theorem Ty0.ty {K : PySem.W.Frag} {H : Hp} {x : V} (h : Ty0 H x) : ∃ t, TyOf K H x t ∧ PySem.W.kitOne K t (.type "int") = some (isI0 x) ∧ PySem.W.kitOne K t (.type "bool") = some (isB0 x) := by
  rcases h with ⟨n, rfl⟩ | ⟨z, rfl⟩ | ⟨b, rfl⟩ | rfl | ⟨a, z, rfl, q⟩ | ⟨a, z, rfl, q⟩ | ⟨a, z, rfl, q⟩
  · exact ⟨_, .int n, k0_ii K, k0_ib K⟩
  · exact ⟨_, .str z, k0_si K, k0_sb K⟩
  · exact ⟨_, .bl b, k0_bi K, k0_bb K⟩
  · exact ⟨_, .non, k0_ni K, k0_nb K⟩
  · exact ⟨_, .lst q, k0_li K, k0_lb K⟩
  · exact ⟨_, .tup q, k0_ti K, k0_tb K⟩
  · exact ⟨_, .dK q, k0_di K, k0_db K⟩
def who0 (x : V) : Bool := isI0 x && !isB0 x
def wth0 (x : V) (l h : Int) : Bool := match x with
  | .int n => decide (l ≤ n) && decide (n ≤ h)
  | _ => false
def spWho0 : Sp := fun vs H Q _ => ∃ x, vs = [x] ∧ Ty0 H x ∧ Q (.bl (who0 x)) H
def spWth0 : Sp := fun vs H Q _ => ∃ x l h, vs = [x, .int l, .int h] ∧ Ty0 H x ∧ Q (.bl (wth0 x l h)) H
theorem hu40 {A : Around} {k : Nat} {c : Bool} (hr : Room k A c) : A.units + 40 < cLine := Nat.lt_of_le_of_lt (Nat.add_le_add_left (by decide : 40 ≤ 64) _) hr.units
/-! ### methods; classes of exceptions -/
end L2
/-! ### a floor -/
namespace FL
open PySem L2 PyProof.Rows
structure FS where
  n : Int
  kp : List (Key × V)
  ks : List (Key × V)
  ws : List V
  d : Bool
  l : V
section
variable {C p pc sp wr : Addr} {H H' : Hp} {st st' : FS}
end
structure Cl where
  F : Addr
  W : Addr
  PG : Addr
  NF : Addr
  NP : Addr
  NI : Addr
  SO : Addr
/-! ### what each of its methods promises -/
end FL
namespace L2
open PySem PySem.Spec PyProof.Rows
section
variable {X : Cx}
end
end L2
namespace FL
open PySem L2 PyProof.Rows
/-! ### what the law keeps beside a floor -/
structure LS where
  bn : List (Key × V)
  bd : List (Key × V)
  dn : List V
  lf : Int
  dk : Bool
section
variable {H H' : Hp} {q b a d : Addr} {ls : LS}
end
section
variable {H : Hp} {q b a d : Addr} {ls : LS}
end
/-! ### both tell the same -/
section
variable {st : FS} {ls : LS} {m : Nat} {i : Int} {v : V}
/-! ### a floor and what is kept beside it -/
structure AD where
  p : Addr
  pc : Addr
  sp : Addr
  wr : Addr
  q : Addr
  b : Addr
  a : Addr
  d : Addr
section
variable {R R' : FS → LS → Prop} {c : Cl} {H H' : Hp} {A B : AD} {n : Int}
end
end
end FL
/-! ### sorted, min and max of lists, min of three -/
namespace L2
open PySem PySem.Spec PyProof.Rows
theorem ints_of : ∀ {ns : List Int} {us : List Value}, Vals (ns.map V.int) us → IntsAre us ns
  | [], _, .nil => .nil
  | _ :: _, _, .cons ⟨t, e⟩ r => by
    subst e
    exact .cons _ t (ints_of r)
theorem of_ints : ∀ {ns : List Int} {us : List Value}, IntsAre us ns → Vals (ns.map V.int) us
  | _, _, .nil => .nil
  | _, _, .cons n t r => .cons ⟨t, rfl⟩ (of_ints r)
section
variable {X : Cx}
end
end L2
/-! ### a dict's keys as a list, sorted -/
namespace L2
open PySem PySem.Spec PyProof.Rows PySem.W
section
variable {X : Cx}
end
end L2
/-! ### d.update(e), both dicts of ints and texts -/
namespace L2
open PySem PySem.Spec PyProof.Rows
section
variable {X : Cx} {pins : List (Addr × Obj)} {σ : St} {H : Hp} {s : Shared} {a b : Addr} {A : Around} {E : Value → Shared → Prop}
end
section
variable {X : Cx} {o e : Expr} {apos cpos : Pos} {td ty : TE}
end
end L2
/-! ### several records of ours turn; zip of two lists, its pairs taken apart at once -/
namespace L2
open PySem PySem.Spec PyProof.Rows
section
variable {X : Cx} {pins : List (Addr × Obj)} {σ : St} {H : Hp} {s : Shared} {h' : Heap}
/-- untracked records of ours have turned -/
theorem Inv.turns {t' : Nat} {W : List Addr} (I : Inv X pins σ H s) (hW : ∀ b ∈ W, FpOk X pins H b) (k : ∀ b o, b ∉ W → s.heap.get? b = some o → h'.get? b = some o) : Inv X pins σ H { s with heap := h', toks := t' } := by
  have nit : ∀ b u, H b = some u → b ∉ W := fun b u e z => by
    have q := (hW b z).1
    rw [q] at e
    cases e
  have lW : X.env.locals ∉ W := fun z => (hW _ z).2.1 rfl
  refine I.step (g' := s.gens) (d' := s.drawn) (ch := W) (fun b hb => ?_) (fun b o _ _ hc e _ => k b o hc e) (fun b o _ _ hc e _ => ⟨o.slots, k b o hc e⟩) (fun _ _ _ _ n => n) (fun b o hc e => ⟨o, k b o hc e⟩) (fun _ _ e => e) (fun _ _ _ e => e)
    (fun b ps e => ⟨#[], by rw [e]; simp⟩) (fun m hm => ?_) (fun b u e => ?_) I.bare
  · obtain ⟨_, a2, _, a4, a5, a6⟩ := hW b hb
    exact ⟨a4, a2, a5, a6⟩
  · obtain ⟨o, es, ep, ho, r⟩ := hm
    exact ⟨o, es, ep, k _ o lW ho, r⟩
  · refine (I.hok b u e).stay (fun c v hc q => k c v ?_ q) (fun _ q => q) fun _ _ q => q
    rcases hc with z | z
    · exact z ▸ nit b u e
    · exact nit c _ z
/-- the same, and a new object is tracked -/
theorem Inv.turnsLaid {t' : Nat} {W : List Addr} {T : Addr} {o : HO} (I : Inv X pins σ H s) (hW : ∀ b ∈ W, FpOk X pins H b) (k : ∀ b u, b ∉ W → s.heap.get? b = some u → h'.get? b = some u) (hT : s.heap.objs.size ≤ T)
    (new : ObjOk X.prog X.w (upd H T o) h' T o) : Inv X pins σ (upd H T o) { s with heap := h', toks := t' } := by
  have nT := I.hok.fresh hT
  have nit : ∀ b u, H b = some u → b ∉ W := fun b u e z => by
    have q := (hW b z).1
    rw [q] at e
    cases e
  have lW : X.env.locals ∉ W := fun z => (hW _ z).2.1 rfl
  refine I.step (g' := s.gens) (d' := s.drawn) (ch := W) (fun b hb => ?_) (fun b o _ _ hc e _ => k b o hc e) (fun b o _ _ hc e _ => ⟨o.slots, k b o hc e⟩)
    (fun b o _ e n => by rw [upd_ne (Nat.ne_of_lt (Nat.lt_of_lt_of_le (Heap.lt_size e) hT))]; exact n) (fun b o hc e => ⟨o, k b o hc e⟩)
    (fun b xs e => by rw [upd_ne (ne_of_none e nT)]; exact e) (fun b _ _ e => by rw [upd_ne (ne_of_none e nT)]; exact e)
    (fun b ps e => ⟨#[], by rw [upd_ne (ne_of_none e nT), e]; simp⟩) (fun m hm => ?_) (fun b u e => ?_) I.bare
  · obtain ⟨_, a2, _, a4, a5, a6⟩ := hW b hb
    exact ⟨a4, a2, a5, a6⟩
  · obtain ⟨o, es, ep, ho, r⟩ := hm
    exact ⟨o, es, ep, k _ o lW ho, r⟩
  · by_cases hb : b = T
    · subst hb
      rw [upd_same] at e
      cases e
      exact new
    · rw [upd_ne hb] at e
      refine (I.hok b u e).stay (fun c v hc q => k c v ?_ q) (fun c q => by rw [upd_ne (ne_of_none q nT)]; exact q) fun c xs q => by rw [upd_ne (ne_of_none q nT)]; exact q
      rcases hc with z | z
      · exact z ▸ nit b u e
      · exact nit c _ z
end
end L2
/-! ### zip of two tuples, its pairs taken apart at once -/
namespace L2
open PySem PySem.Spec PyProof.Rows
section
variable {prog : Program} {w : World} {A : Around} {E : Value → Shared → Prop} {s : Shared}
/-- one turn of a tuple's iterator, as zip draws it -/
theorem drawT {j c : Addr} {k : Nat} {us : Array Value} {u : Value} {Q : Value → Shared → Prop} (hj : s.heap.IsTupleIter j c k) (hc : s.heap.IsTuple c us) (hu : us[k]? = some u)
    (q : ∀ g, g.IsTupleIter j c (k + 1) → Heap.SameBut j s.heap g → Q u { s with heap := g }) : wpAny (model prog w) A (Builtin.SmallTypes.nextOf (.ref j)) Q E s := by
  obtain ⟨oj, ej, kj, dj⟩ := id hj
  obtain ⟨oc, ec, _, nc, dc⟩ := hc
  unfold Builtin.SmallTypes.nextOf
  have T := hj.typeIs
  refine wpAny_bind (wpAny_callSpecial?_slot (name := Str.ofString "__next__") T F.slot_tuple_iterator_next (wpAny_call_entry F.slot_tuple_iterator_next T F.entry_tuple_iterator_next ?_ (F.args_tuple_iterator_next_1 _)))
  show wpAny (model prog w) _ (field (.ref j) 0 >>= _) _ _ s
  refine wpAny_bind (wpAny_field ej dj (x := .ref c) rfl ?_)
  show wpAny (model prog w) _ (if (Value.ref c == Value.none) = true then _ else _) _ _ s
  rw [if_neg (show ¬ ((Value.ref c == Value.none) = true) by simp)]
  show wpAny (model prog w) _ (field (.ref j) 1 >>= _) _ _ s
  refine wpAny_bind (wpAny_field ej dj (x := .int k 0) rfl ?_)
  show wpAny (model prog w) _ (seqItems? (.ref c) >>= _) _ _ s
  refine wpAny_bind (wpAny_seqItems ec dc ?_)
  simp only [Int.toNat_natCast, hu]
  refine wpAny_bind (wpAny_setField ej dj (by simp) (wpAny_pure ⟨u, rfl, wpAny_pure (q _ ⟨_, Heap.get?_update_self _ ej (Obj.isFreed_of_fields (Obj.data_mapFields dj _)), (Obj.cls_mapFields ..).trans kj, ?_⟩ (Heap.SameBut.update ..))⟩))
  rw [Obj.data_mapFields dj]
  simp [rawInt]
theorem drawT_end {j c : Addr} {k : Nat} {us : Array Value} {Q : Value → Shared → Prop} (hh : A.handled = none) (hj : s.heap.IsTupleIter j c k) (hc : s.heap.IsTuple c us) (hu : us[k]? = none)
    (q : ∀ g e, Heap.ExtBut j s.heap g → (∃ o, g.get? e = some o ∧ o.cls = .type "StopIteration") → E (.ref e) { s with heap := g }) : wpAny (model prog w) A (Builtin.SmallTypes.nextOf (.ref j)) Q E s := by
  obtain ⟨oj, ej, kj, dj⟩ := id hj
  obtain ⟨oc, ec, _, nc, dc⟩ := hc
  unfold Builtin.SmallTypes.nextOf
  have T := hj.typeIs
  refine wpAny_bind (wpAny_callSpecial?_slot (name := Str.ofString "__next__") T F.slot_tuple_iterator_next (wpAny_call_entry F.slot_tuple_iterator_next T F.entry_tuple_iterator_next ?_ (F.args_tuple_iterator_next_1 _)))
  show wpAny (model prog w) _ (field (.ref j) 0 >>= _) _ _ s
  refine wpAny_bind (wpAny_field ej dj (x := .ref c) rfl ?_)
  show wpAny (model prog w) _ (if (Value.ref c == Value.none) = true then _ else _) _ _ s
  rw [if_neg (show ¬ ((Value.ref c == Value.none) = true) by simp)]
  show wpAny (model prog w) _ (field (.ref j) 1 >>= _) _ _ s
  refine wpAny_bind (wpAny_field ej dj (x := .int k 0) rfl ?_)
  show wpAny (model prog w) _ (seqItems? (.ref c) >>= _) _ _ s
  refine wpAny_bind (wpAny_seqItems ec dc ?_)
  simp only [Int.toNat_natCast, hu]
  refine wpAny_bind (wpAny_rule (wpAny_bind (wpAny_setField ej dj (by simp) ?_)))
  show wpAny (model prog w) _ (newExc (.type "StopIteration") [] >>= _) _ _ _
  refine wpAny_bind ?_
  simp only [newExc, newTuple]
  refine wpAny_bind (wpAny_newObj_type ?_ (by size_fits))
  refine wpAny_bind (m := firstArgMember _ _) (wpAny_of_eq (a := Value.none) (by simp only [firstArgMember]; rfl) ?_)
  refine wpAny_newObj_type ?_ (by size_fits)
  simp only [raiseNew]
  refine wpAny_bind (wpAny_handled ?_)
  rw [show A.in1.handled = none from hh]
  exact wpAny_bind (wpAny_pure (wpAny_throw (q _ _ (((Heap.SameBut.update ..).extBut.push _).push _) ⟨_, Heap.get?_push_size _ rfl, rfl⟩)))
/-- zip's step, both have one more -/
theorem zipT_item {z p o i1 i2 c1 c2 : Addr} {k : Nat} {us vs : Array Value} {u v a b : Value} {Q : Value → Shared → Prop} (D : ZipApart z p o i1 i2 c1 c2) (hz : IsZip s.heap z p o .none) (hp : IsPair s.heap p (.ref i1) (.ref i2)) (ho : IsPair s.heap o a b)
    (j1 : s.heap.IsTupleIter i1 c1 k) (j2 : s.heap.IsTupleIter i2 c2 k) (t1 : s.heap.IsTuple c1 us) (t2 : s.heap.IsTuple c2 vs) (hu : us[k]? = some u) (hv : vs[k]? = some v)
    (q : ∀ g, IsZip g z p o (rawInt s.heap.objs.size) → IsPair g o u v → g.IsTupleIter i1 c1 (k + 1) → g.IsTupleIter i2 c2 (k + 1) → IsPair g s.heap.objs.size u v →
      (∀ c x, c ≠ z → c ≠ o → c ≠ i1 → c ≠ i2 → s.heap.get? c = some x → g.get? c = some x) → Q (.ref s.heap.objs.size) { s with heap := g }) :
    wpAny (model prog w) A (Builtin.«zip.__next__» ⟨[.ref z], []⟩) (fun f s' => ∃ r, f = .done (.ret r) ∧ Q r s') E s := by
  show wpAny (model prog w) _ (field (.ref z) 2 >>= _) _ _ _
  refine wpAny_bind (wpAny_field hz rfl (x := .bool false) rfl ?_)
  show wpAny (model prog w) _ (field (.ref z) 3 >>= _) _ _ _
  refine wpAny_bind (wpAny_field hz rfl (x := .ref p) rfl (wpAny_bind (wpAny_seqItems hp rfl ?_)))
  show wpAny (model prog w) _ (Builtin.SmallTypes.ownedTupleIsFree (.ref z) >>= _) _ _ _
  refine wpAny_bind ?_
  unfold Builtin.SmallTypes.ownedTupleIsFree
  refine wpAny_bind (wpAny_field hz rfl (x := .none) rfl (wpAny_pure ?_))
  simp only [if_true]
  refine wpAny_bind (wpAny_rule (wpAny_bind (wpAny_field hz rfl (x := .ref o) rfl (wpAny_bind (wpAny_setField_rec hz (by simp) fun g1 z1 s1 => ?_)))))
  refine wpAny_bind ?_
  simp only [List.zipIdx_cons, List.zipIdx_nil, List.forIn_cons, List.forIn_nil]
  refine wpAny_bind (wpAny_bind (wpAny_onRaise ?_))
  show wpAny (model prog w) _ (Builtin.SmallTypes.nextOf (.ref i1) >>= _) _ _ _
  refine wpAny_bind (drawT (j1.extBut s1.extBut D.i1z) (t1.extBut s1.extBut D.l1z) hu fun g2 j12 s2 => wpAny_pure ?_)
  have o2 : IsPair g2 o a b := s2.extBut _ _ D.TOi1 (s1.extBut _ _ D.TOz ho)
  refine wpAny_bind (wpAny_seqItems o2 rfl (wpAny_bind (wpAny_updateSeq_pair o2 fun g3 o3 s3 => ?_)))
  replace o3 : IsPair g3 o u b := o3
  refine wpAny_bind (wpAny_letGo (wpAny_pure (wpAny_bind (wpAny_bind (wpAny_onRaise ?_)))))
  show wpAny (model prog w) _ (Builtin.SmallTypes.nextOf (.ref i2) >>= _) _ _ _
  refine wpAny_bind (drawT (((j2.extBut s1.extBut D.i2z).extBut s2.extBut D.i12.symm).extBut s3.extBut D.TOi2.symm) (((t2.extBut s1.extBut D.l2z).extBut s2.extBut D.l2i1).extBut s3.extBut D.l2TO) hv fun g4 j24 s4 => wpAny_pure ?_)
  have o4 : IsPair g4 o u b := s4.extBut _ _ D.TOi2 o3
  refine wpAny_bind (wpAny_seqItems o4 rfl (wpAny_bind (wpAny_updateSeq_pair o4 fun g5 o5 s5 => ?_)))
  replace o5 : IsPair g5 o u v := o5
  refine wpAny_bind (wpAny_letGo (wpAny_pure (wpAny_pure (wpAny_bind (wpAny_seqItems o5 rfl (wpAny_bind (wpAny_newTuple ?_)))))))
  have sz : g5.objs.size = s.heap.objs.size := by rw [s5.1, s4.1, s3.1, s2.1, s1.1]
  have z5 : IsZip g5 z p o .ellipsis := s5.extBut _ _ D.TOz.symm (s4.extBut _ _ D.i2z.symm (s3.extBut _ _ D.TOz.symm (s2.extBut _ _ D.i1z.symm z1)))
  have k5 : ∀ c x, c ≠ z → c ≠ o → c ≠ i1 → c ≠ i2 → s.heap.get? c = some x → g5.get? c = some x := fun c x n1 n2 n3 n4 e => s5.extBut _ _ n2 (s4.extBut _ _ n4 (s3.extBut _ _ n2 (s2.extBut _ _ n3 (s1.extBut _ _ n1 e))))
  have j15 : g5.IsTupleIter i1 c1 (k + 1) := ((j12.extBut s3.extBut D.TOi1.symm).extBut s4.extBut D.i12).extBut s5.extBut D.TOi1.symm
  have j25 : g5.IsTupleIter i2 c2 (k + 1) := j24.extBut s5.extBut D.TOi2.symm
  have lz : z < g5.objs.size := Heap.lt_size z5
  show wpAny (model prog w) _ (Builtin.SmallTypes.ownedTupleHandOut (.ref z) (.ref g5.objs.size) >>= _) _ _ _
  refine wpAny_bind ?_
  unfold Builtin.SmallTypes.ownedTupleHandOut
  have z6 : IsZip (g5.push { cls := .type "tuple", data := .seq #[u, v] }) z p o .ellipsis := Heap.get?_push_of_some _ z5
  refine wpAny_bind (wpAny_setField_rec z6 (by simp) fun g7 z7 s7 => ?_)
  replace z7 : IsZip g7 z p o (rawInt g5.objs.size) := z7
  refine wpAny_setField_rec z7 (by simp) fun g8 z8 s8 => ?_
  replace z8 : IsZip g8 z p o (rawInt g5.objs.size) := z8
  have up : ∀ c x, c ≠ z → g5.get? c = some x → g8.get? c = some x := fun c x n1 e => s8.extBut _ _ n1 (s7.extBut _ _ n1 (Heap.get?_push_of_some _ e))
  have n8 : IsPair g8 g5.objs.size u v := s8.extBut _ _ (Nat.ne_of_gt lz) (s7.extBut _ _ (Nat.ne_of_gt lz) (Heap.get?_push_size _ rfl))
  rw [sz] at z8 n8
  refine wpAny_pure ⟨_, rfl, ?_⟩
  show Q (.ref g5.objs.size) _
  rw [sz]
  obtain ⟨x1, e1, r1⟩ := j15
  obtain ⟨x2, e2, r2⟩ := j25
  exact q g8 z8 (up _ _ D.TOz o5) ⟨x1, up _ _ D.i1z e1, r1⟩ ⟨x2, up _ _ D.i2z e2, r2⟩ n8 fun c x n1 n2 n3 n4 e => up c x n1 (k5 c x n1 n2 n3 n4 e)
/-- zip's step, one of them has no more -/
theorem zipT_end {z p o i1 i2 c1 c2 : Addr} {k : Nat} {us vs : Array Value} {a b : Value} {Q : Fin → Shared → Prop} (hh : A.handled = none) (D : ZipApart z p o i1 i2 c1 c2) (hz : IsZip s.heap z p o .none) (hp : IsPair s.heap p (.ref i1) (.ref i2)) (ho : IsPair s.heap o a b)
    (j1 : s.heap.IsTupleIter i1 c1 k) (j2 : s.heap.IsTupleIter i2 c2 k) (t1 : s.heap.IsTuple c1 us) (t2 : s.heap.IsTuple c2 vs) (hn : us[k]? = none ∨ vs[k]? = none)
    (q : ∀ g e, (∀ c x, c ≠ z → c ≠ o → c ≠ i1 → c ≠ i2 → s.heap.get? c = some x → g.get? c = some x) → (∃ x, g.get? e = some x ∧ x.cls = .type "StopIteration") → E (.ref e) { s with heap := g }) :
    wpAny (model prog w) A (Builtin.«zip.__next__» ⟨[.ref z], []⟩) Q E s := by
  show wpAny (model prog w) _ (field (.ref z) 2 >>= _) _ _ _
  refine wpAny_bind (wpAny_field hz rfl (x := .bool false) rfl ?_)
  show wpAny (model prog w) _ (field (.ref z) 3 >>= _) _ _ _
  refine wpAny_bind (wpAny_field hz rfl (x := .ref p) rfl (wpAny_bind (wpAny_seqItems hp rfl ?_)))
  show wpAny (model prog w) _ (Builtin.SmallTypes.ownedTupleIsFree (.ref z) >>= _) _ _ _
  refine wpAny_bind ?_
  unfold Builtin.SmallTypes.ownedTupleIsFree
  refine wpAny_bind (wpAny_field hz rfl (x := .none) rfl (wpAny_pure ?_))
  simp only [if_true]
  refine wpAny_bind (wpAny_rule (wpAny_bind (wpAny_field hz rfl (x := .ref o) rfl (wpAny_bind (wpAny_setField_rec hz (by simp) fun g1 z1 s1 => ?_)))))
  replace z1 : IsZip g1 z p o .ellipsis := z1
  refine wpAny_bind ?_
  simp only [List.zipIdx_cons, List.zipIdx_nil, List.forIn_cons, List.forIn_nil]
  refine wpAny_bind (wpAny_bind (wpAny_onRaise ?_))
  show wpAny (model prog w) _ (Builtin.SmallTypes.nextOf (.ref i1) >>= _) _ _ _
  have apart : ∀ {g : Heap} {e : Addr} {x : Obj}, IsZip g z p o .ellipsis → g.get? e = some x → x.cls = .type "StopIteration" → e ≠ z := fun hz' he hc n => by
    subst n
    rw [hz'] at he
    cases he
    simp at hc
  cases hu : us[k]? with
  | none =>
    refine wpAny_bind (drawT_end hh (j1.extBut s1.extBut D.i1z) (t1.extBut s1.extBut D.l1z) hu fun g2 e s2 he => ?_)
    obtain ⟨x, ex, cx⟩ := he
    have z2 : IsZip g2 z p o .ellipsis := s2 _ _ D.i1z.symm z1
    exact wpAny_setField_rec z2 (by simp) fun g3 _ s3 => q g3 e (fun c y n1 _ n3 _ h => s3.extBut _ _ n1 (s2 _ _ n3 (s1.extBut _ _ n1 h))) ⟨x, s3.extBut _ _ (apart z2 ex cx) ex, cx⟩
  | some u =>
    have hv : vs[k]? = none := hn.resolve_left fun h => by rw [hu] at h; cases h
    refine wpAny_bind (drawT (j1.extBut s1.extBut D.i1z) (t1.extBut s1.extBut D.l1z) hu fun g2 j12 s2 => wpAny_pure ?_)
    have o2 : IsPair g2 o a b := s2.extBut _ _ D.TOi1 (s1.extBut _ _ D.TOz ho)
    refine wpAny_bind (wpAny_seqItems o2 rfl (wpAny_bind (wpAny_updateSeq_pair o2 fun g3 o3 s3 => ?_)))
    refine wpAny_bind (wpAny_letGo (wpAny_pure (wpAny_bind (wpAny_bind (wpAny_onRaise ?_)))))
    show wpAny (model prog w) _ (Builtin.SmallTypes.nextOf (.ref i2) >>= _) _ _ _
    refine wpAny_bind (drawT_end hh (((j2.extBut s1.extBut D.i2z).extBut s2.extBut D.i12.symm).extBut s3.extBut D.TOi2.symm) (((t2.extBut s1.extBut D.l2z).extBut s2.extBut D.l2i1).extBut s3.extBut D.l2TO) hv fun g4 e s4 he => ?_)
    obtain ⟨x, ex, cx⟩ := he
    have z4 : IsZip g4 z p o .ellipsis := s4 _ _ D.i2z.symm (s3.extBut _ _ D.TOz.symm (s2.extBut _ _ D.i1z.symm z1))
    exact wpAny_setField_rec z4 (by simp) fun g5 _ s5 => q g5 e (fun c y n1 n2 n3 n4 h => s5.extBut _ _ n1 (s4 _ _ n4 (s3.extBut _ _ n2 (s2.extBut _ _ n3 (s1.extBut _ _ n1 h))))) ⟨x, s5.extBut _ _ (apart z4 ex cx) ex, cx⟩
theorem nextT_item {z p o i1 i2 c1 c2 : Addr} {k : Nat} {us vs : Array Value} {u v a b : Value} {Q : Option Value → Shared → Prop} (D : ZipApart z p o i1 i2 c1 c2) (hz : IsZip s.heap z p o .none) (hp : IsPair s.heap p (.ref i1) (.ref i2)) (ho : IsPair s.heap o a b)
    (j1 : s.heap.IsTupleIter i1 c1 k) (j2 : s.heap.IsTupleIter i2 c2 k) (t1 : s.heap.IsTuple c1 us) (t2 : s.heap.IsTuple c2 vs) (hu : us[k]? = some u) (hv : vs[k]? = some v)
    (q : ∀ g, IsZip g z p o (rawInt s.heap.objs.size) → IsPair g o u v → g.IsTupleIter i1 c1 (k + 1) → g.IsTupleIter i2 c2 (k + 1) → IsPair g s.heap.objs.size u v →
      (∀ c x, c ≠ z → c ≠ o → c ≠ i1 → c ≠ i2 → s.heap.get? c = some x → g.get? c = some x) → Q (some (.ref s.heap.objs.size)) { s with heap := g }) : wpAny (model prog w) A (pyNext (.ref z)) Q E s := by
  have T : s.TypeIs (.ref z) "zip" := ⟨_, hz, rfl⟩
  unfold pyNext
  exact wpAny_bind (wpAny_attempt (wpAny_callSpecial?_slot (name := Str.ofString "__next__") T F.slot_zip_next (wpAny_call_entry F.slot_zip_next T F.entry_zip_next
      (zipT_item D hz hp ho j1 j2 t1 t2 hu hv fun g b1 b2 b3 b4 b5 b6 => wpAny_pure (q g b1 b2 b3 b4 b5 b6)) (F.args_zip_next_1 _))))
theorem nextT_end {z p o i1 i2 c1 c2 : Addr} {k : Nat} {us vs : Array Value} {a b : Value} {Q : Option Value → Shared → Prop} (hh : A.handled = none) (D : ZipApart z p o i1 i2 c1 c2) (hz : IsZip s.heap z p o .none) (hp : IsPair s.heap p (.ref i1) (.ref i2)) (ho : IsPair s.heap o a b)
    (j1 : s.heap.IsTupleIter i1 c1 k) (j2 : s.heap.IsTupleIter i2 c2 k) (t1 : s.heap.IsTuple c1 us) (t2 : s.heap.IsTuple c2 vs) (hn : us[k]? = none ∨ vs[k]? = none)
    (q : ∀ g, (∀ c x, c ≠ z → c ≠ o → c ≠ i1 → c ≠ i2 → s.heap.get? c = some x → g.get? c = some x) → Q none { s with heap := g }) : wpAny (model prog w) A (pyNext (.ref z)) Q E s := by
  have T : s.TypeIs (.ref z) "zip" := ⟨_, hz, rfl⟩
  unfold pyNext
  refine wpAny_bind (wpAny_attempt (wpAny_callSpecial?_slot (name := Str.ofString "__next__") T F.slot_zip_next (wpAny_call_entry F.slot_zip_next T F.entry_zip_next (zipT_end hh D hz hp ho j1 j2 t1 t2 hn fun g e kp he => ?_) (F.args_zip_next_1 _))))
  obtain ⟨x, ex, cx⟩ := he
  exact wpAny_bind (wpAny_isInstance (T := "StopIteration") (b := true) ⟨x, ex, cx⟩ isSubtype_stop (wpAny_pure (q _ kp)))
end
end L2

namespace L2
open PySem PySem.Spec PyProof.Rows
abbrev zt1 (h : Heap) (c : Addr) : Heap := h.push { cls := .type "tuple_iterator", data := .fields #[.ref c, .int 0 0] }
abbrev zt2 (h : Heap) (c d : Addr) : Heap := (zt1 h c).push { cls := .type "tuple_iterator", data := .fields #[.ref d, .int 0 0] }
abbrev zt3 (h : Heap) (c d : Addr) : Heap := (zt2 h c d).push { cls := .type "tuple", data := .seq #[.ref h.objs.size, .ref (zt1 h c).objs.size] }
abbrev zt4 (h : Heap) (c d : Addr) : Heap := (zt3 h c d).push { cls := .type "tuple", data := .seq #[.none, .none] }
abbrev zt5 (h : Heap) (c d : Addr) : Heap := (zt4 h c d).push { cls := .type "zip", data := .fields #[.none, .bool false, .bool false, .ref (zt2 h c d).objs.size, .ref (zt3 h c d).objs.size] }
theorem newT_zip (c d : Addr) (us vs : Array Value) : Meets (Builtin.«zip.__new__» ⟨[.type "zip", .ref c, .ref d], []⟩) (fun _ R s => s.heap.IsTuple c us ∧ s.heap.IsTuple d vs ∧ R (.ok (.ret (.ref (zt4 s.heap c d).objs.size))) { s with heap := zt5 s.heap c d }) :=
  .of_wp fun prog w A R s q => by
    obtain ⟨hp, g, dr, tk, os⟩ := s
    obtain ⟨e1, e2, q⟩ := q
    have hsub := sub_zip
    have t1 : Heap.IsTuple (Shared.heap ⟨hp, g, dr, tk, os⟩) c us := e1
    have t2 : Heap.IsTuple (Shared.heap ⟨hp.push { cls := .type "tuple_iterator", data := .fields #[.ref c, .int 0 0] }, g, dr, tk, os⟩) d vs := Heap.IsTuple.push e2 _
    wp_walk using wpAny_pyIter_tuple t1, wpAny_pyIter_tuple t2
    exact ⟨_, rfl, q⟩
section
variable {prog : Program} {w : World} {A : Around} {E : Value → Shared → Prop} {s : Shared}
theorem callT_zip {c d : Addr} {us vs : Array Value} {Q : Value → Shared → Prop} (e1 : s.heap.IsTuple c us) (e2 : s.heap.IsTuple d vs)
    (q : ∀ g, IsZip g (s.heap.objs.size + 4) (s.heap.objs.size + 2) (s.heap.objs.size + 3) .none → IsPair g (s.heap.objs.size + 2) (.ref s.heap.objs.size) (.ref (s.heap.objs.size + 1)) → IsPair g (s.heap.objs.size + 3) .none .none →
      g.IsTupleIter s.heap.objs.size c 0 → g.IsTupleIter (s.heap.objs.size + 1) d 0 → (∀ b o, s.heap.get? b = some o → g.get? b = some o) → Q (.ref (s.heap.objs.size + 4)) { s with heap := g }) : wpAny (model prog w) A (call (.type "zip") [.ref c, .ref d]) Q E s := by
  refine callType_new F.called_zip (by decide) (F.typeCall_zip_2 _ _) (F.newCall_zip_2 _ _) (fun ob => F.args_object_init_3 ob _ _) F.entry_zip_new (newT_zip c d us vs) ⟨e1, e2, ?_⟩
  have n1 : (zt1 s.heap c).objs.size = s.heap.objs.size + 1 := Heap.size_push ..
  have n2 : (zt2 s.heap c d).objs.size = s.heap.objs.size + 2 := by rw [Heap.size_push, n1]
  have n3 : (zt3 s.heap c d).objs.size = s.heap.objs.size + 3 := by rw [Heap.size_push, n2]
  have n4 : (zt4 s.heap c d).objs.size = s.heap.objs.size + 4 := by rw [Heap.size_push, n3]
  have a5 : (zt5 s.heap c d).get? (zt4 s.heap c d).objs.size = some _ := Heap.get?_push_size _ rfl
  have a4 : (zt5 s.heap c d).get? (zt3 s.heap c d).objs.size = some _ := Heap.get?_push_of_some _ (Heap.get?_push_size _ rfl)
  have a3 : (zt5 s.heap c d).get? (zt2 s.heap c d).objs.size = some _ := Heap.get?_push_of_some _ (Heap.get?_push_of_some _ (Heap.get?_push_size _ rfl))
  have a2 : (zt5 s.heap c d).get? (zt1 s.heap c).objs.size = some _ := Heap.get?_push_of_some _ (Heap.get?_push_of_some _ (Heap.get?_push_of_some _ (Heap.get?_push_size _ rfl)))
  have a1 : (zt5 s.heap c d).get? s.heap.objs.size = some _ := Heap.get?_push_of_some _ (Heap.get?_push_of_some _ (Heap.get?_push_of_some _ (Heap.get?_push_of_some _ (Heap.get?_push_size _ rfl))))
  show _ ∧ _
  rw [n2, n3, n4] at a5
  rw [n3] at a4
  rw [n1, n2] at a3
  rw [n1] at a2
  rw [n4]
  exact ⟨⟨_, a5, rfl⟩, q _ a5 a3 a4 ⟨_, a1, rfl, rfl⟩ ⟨_, a2, rfl, rfl⟩ fun b o e => Heap.get?_push_of_some _ (Heap.get?_push_of_some _ (Heap.get?_push_of_some _ (Heap.get?_push_of_some _ (Heap.get?_push_of_some _ e))))⟩
end
/-- the tuples at a and b side by side -/
def ItzT (K : PySem.W.Frag) (a b : Addr) : It :=
  ⟨fun i H => ∃ xs ys x y, SqT K H a xs ∧ SqT K H b ys ∧ xs[i]? = some x ∧ ys[i]? = some y,
   fun i H v H' => ∃ t x y, v = .ref t ∧ H t = none ∧ H' = upd H t (.tup [x, y]) ∧ (∀ xs, SqT K H a xs → xs[i]? = some x) ∧ ∀ ys, SqT K H b ys → ys[i]? = some y,
   fun i H => ∃ xs ys, SqT K H a xs ∧ SqT K H b ys ∧ (xs.length ≤ i ∨ ys.length ≤ i)⟩
structure ZipTAt (z TI TO i1 i2 a b : Addr) (i : Nat) (h : Heap) : Prop where
  zip : IsZip h z TI TO .none
  its : IsPair h TI (.ref i1) (.ref i2)
  own : ∃ u v, IsPair h TO u v
  it1 : h.IsTupleIter i1 a i
  it2 : h.IsTupleIter i2 b i
/-- here the tuples' own addresses are not told apart from zip's tuple by their class: TO ≠ a, b are asked for -/
theorem ZipTAt.apart {z TI TO i1 i2 a b : Addr} {i : Nat} {h : Heap} {p q : Array Value} (Z : ZipTAt z TI TO i1 i2 a b i h) (ha : h.IsTuple a p) (hb : h.IsTuple b q) (t : TI ≠ TO) (n : i1 ≠ i2) (na : a ≠ TO) (nb : b ≠ TO) : ZipApart z TI TO i1 i2 a b := by
  obtain ⟨hz, hI, ⟨u, v, hO⟩, ⟨o1, e1, c1, _⟩, ⟨o2, e2, c2, _⟩⟩ := Z
  obtain ⟨oa, ea, ca, _⟩ := ha
  obtain ⟨ob, eb, cb, _⟩ := hb
  have ne : ∀ {x y : Addr} {o o' : Obj}, h.get? x = some o → h.get? y = some o' → o.cls ≠ o'.cls → x ≠ y := fun e e' hc z => by
    subst z
    rw [e] at e'
    cases e'
    exact hc rfl
  refine ⟨ne hI hz ?_, ne hO hz ?_, ne e1 hz ?_, ne e2 hz ?_, t, ne hI e1 ?_, ne hI e2 ?_, ne hO e1 ?_, ne hO e2 ?_, n, ne ea hz ?_, na, ne ea e1 ?_, ne ea e2 ?_, ne eb hz ?_, nb, ne eb e1 ?_, ne eb e2 ?_⟩ <;> simp [c1, c2, ca, cb]
theorem turn_zipT {P : Program} {w : World} {K : PySem.W.Frag} {elts : List Expr} {x1} {tp : Pos} {z TI TO i1 i2 a b : Addr} (t : TI ≠ TO) (n : i1 ≠ i2) (na : a ≠ TO) (nb : b ≠ TO) :
    Turn P w K (.Tuple elts x1 tp) (ItzT K a b) [z, TI, TO, i1, i2] z (ZipTAt z TI TO i1 i2 a b) where
  mem := by simp
  obj := fun i h Z c hc => by
    obtain ⟨hz, hI, ⟨u, v, hO⟩, ⟨o1, e1, _, d1⟩, ⟨o2, e2, _, d2⟩⟩ := Z
    simp only [List.mem_cons, List.not_mem_nil, or_false] at hc
    rcases hc with rfl | rfl | rfl | rfl | rfl
    · exact ⟨_, hz, fun v q => by cases q⟩
    · exact ⟨_, hI, fun v q => by cases q⟩
    · exact ⟨_, hO, fun v q => by cases q⟩
    · exact ⟨_, e1, fun v q => by rw [d1] at q; cases q⟩
    · exact ⟨_, e2, fun v q => by rw [d2] at q; cases q⟩
  keep := fun i h h' Z k => by
    obtain ⟨hz, hI, ⟨u, v, hO⟩, ⟨o1, f1, r1⟩, ⟨o2, f2, r2⟩⟩ := Z
    exact ⟨k z (by simp) _ hz, k TI (by simp) _ hI, ⟨u, v, k TO (by simp) _ hO⟩, ⟨o1, k i1 (by simp) _ f1, r1⟩, ⟨o2, k i2 (by simp) _ f2, r2⟩⟩
  item := by
    intro X hP hw hK s hc i pins σ H E I hf Z hg
    subst hP hw hK
    obtain ⟨xs, ys, x, y, qa, qb, gx, gy⟩ := hg
    obtain ⟨its, rv, p, _⟩ := I.tuple qa
    obtain ⟨jts, rw', p', _⟩ := I.tuple qb
    obtain ⟨u, hu, ru⟩ := rv.get gx
    obtain ⟨v, hv, rv'⟩ := rw'.get gy
    have D := Z.apart (show s.heap.IsTuple a its.toArray from p) (show s.heap.IsTuple b jts.toArray from p') t n na nb
    obtain ⟨hz, hI, ⟨e1, e2, hO⟩, j1, j2⟩ := Z
    refine nextT_item D hz hI hO j1 j2 (show s.heap.IsTuple a its.toArray from p) (show s.heap.IsTuple b jts.toArray from p') (u := u) (v := v) (by simpa using hu) (by simpa using hv) fun h1 a1 a2 a3 a4 a5 kp => ?_
    refine ⟨_, rfl, wpAny_letOwnedTupleGo_zip a1 fun h2 b1 sb => ?_⟩
    have lz := Heap.lt_size hz
    have T2 : IsPair h2 s.heap.objs.size u v := sb.extBut _ _ (Nat.ne_of_gt lz) a5
    have nT := I.hok.fresh (Nat.le_refl s.heap.objs.size)
    have I1 : Inv X pins σ (upd H s.heap.objs.size (.tup [x, y])) { s with heap := h2 } := I.turnsLaid (W := [z, TI, TO, i1, i2]) (t' := s.toks) (T := s.heap.objs.size) (o := .tup [x, y]) hf
      (fun c o hc e => by
        simp only [List.mem_cons, List.not_mem_nil, or_false, not_or] at hc
        exact sb.extBut _ _ hc.1 (kp c o hc.1 hc.2.2.1 hc.2.2.2.1 hc.2.2.2.2 e)) (Nat.le_refl _) ⟨by show 2 ≤ sizeLine; decide, [u, v], .cons ru (.cons rv' .nil), ⟨_, T2, rfl, _, rfl⟩⟩
    refine ⟨.ref s.heap.objs.size, _, I1, rfl, ⟨_, x, y, rfl, nT, rfl, fun zs hq => by rw [I.tuple_inj hq qa]; exact gx, fun zs hq => by rw [I.tuple_inj hq qb]; exact gy⟩, ?_, fun c hc => ?_⟩
    · exact ⟨b1, sb.extBut _ _ D.TIz (kp _ _ D.TIz D.TITO D.TIi1 D.TIi2 hI), ⟨_, _, sb.extBut _ _ D.TOz a2⟩, a3.extBut sb.extBut D.i1z, a4.extBut sb.extBut D.i2z⟩
    · have lt : c < s.heap.objs.size := by
        simp only [List.mem_cons, List.not_mem_nil, or_false] at hc
        obtain ⟨o1, f1, _⟩ := j1
        obtain ⟨o2, f2, _⟩ := j2
        rcases hc with rfl | rfl | rfl | rfl | rfl
        · exact lz
        · exact Heap.lt_size hI
        · exact Heap.lt_size hO
        · exact Heap.lt_size f1
        · exact Heap.lt_size f2
      rw [upd_ne (Nat.ne_of_lt lt)]
      exact (hf c hc).1
  done := by
    intro X hP hw hK s hc i pins σ H E I hf Z hg
    subst hP hw hK
    obtain ⟨xs, ys, qa, qb, hx⟩ := hg
    obtain ⟨its, rv, p, _⟩ := I.tuple qa
    obtain ⟨jts, rw', p', _⟩ := I.tuple qb
    have D := Z.apart (show s.heap.IsTuple a its.toArray from p) (show s.heap.IsTuple b jts.toArray from p') t n na nb
    obtain ⟨hz, hI, ⟨e1, e2, hO⟩, j1, j2⟩ := Z
    have l1 := rv.length
    have l2 := rw'.length
    refine nextT_end hc.none D hz hI hO j1 j2 (show s.heap.IsTuple a its.toArray from p) (show s.heap.IsTuple b jts.toArray from p') (hx.imp (fun q => by simp; omega) fun q => by simp; omega) fun h' kp => ⟨rfl, I.turns (t' := s.toks) (W := [z, TI, TO, i1, i2]) hf fun c o hc e => ?_⟩
    simp only [List.mem_cons, List.not_mem_nil, or_false, not_or] at hc
    exact kp c o hc.1 hc.2.2.1 hc.2.2.2.1 hc.2.2.2.2 e
  self := fun _ _ _ _ _ st h => wpAny_pyIter_zip st.zip h
def iZipT (K : PySem.W.Frag) (ta : TA) : TI := fun σ H R => ta σ H fun vs H1 => ∃ a b xs ys, vs = [.ref a, .ref b] ∧ SqT K H1 a xs ∧ SqT K H1 b ys ∧ R (ItzT K a b) H1
theorem pi_zipT {X : Cx} {elts : List Expr} {x1} {tp : Pos} {a b : Expr} {ta : TA} {p pos : Pos} (hg : Gl X "zip") (hm : X.mg "zip" = none) (ha : PA X [a, b] ta) (hs : starEach [a, b] X.env = [(false, eval a X.env), (false, eval b X.env)] := by rfl) (hs2 : starEach [b] X.env = [(false, eval b X.env)] := by rfl) :
    PI X (.Tuple elts x1 tp) (.Call (.Name "zip" p) [a, b] [] pos) (iZipT X.K ta) := by
  intro pins s σ H R I h
  refine Call_ (ld_blt I hg hm boot_zip (PyProof.Rows.callWith_type1 (thn (ha pos pins s σ H _ I h) fun us s1 ⟨vs, H1, I1, r1, q1⟩ => ?_) (by rw [hs, hs2]) (by rw [hs2]; rfl)))
  obtain ⟨a, b, xs, ys, e, qa, qb, q⟩ := q1
  subst e
  cases r1 with
  | cons r rr =>
    cases rr with
    | cons r' rr =>
      cases rr
      cases r
      cases r'
      obtain ⟨its, rv, p, _⟩ := I1.tuple qa
      obtain ⟨jts, rw', p', _⟩ := I1.tuple qb
      have la : a < s1.heap.objs.size := by obtain ⟨o, e, _⟩ := p; exact Heap.lt_size e
      have lb : b < s1.heap.objs.size := by obtain ⟨o, e, _⟩ := p'; exact Heap.lt_size e
      refine callT_zip (show s1.heap.IsTuple a its.toArray from p) (show s1.heap.IsTuple b jts.toArray from p') fun h' z1 z2 z3 z4 z5 kp => wpAny_pyIter_zip z1 ?_
      refine ⟨_, [_, s1.heap.objs.size + 2, s1.heap.objs.size + 3, s1.heap.objs.size, s1.heap.objs.size + 1], _, _, H1, rfl, I1.kept (t' := s1.toks) kp, turn_zipT (by simp) (by simp) (Nat.ne_of_lt (Nat.lt_of_lt_of_le la (Nat.le_add_right _ _))) (Nat.ne_of_lt (Nat.lt_of_lt_of_le lb (Nat.le_add_right _ _))), ⟨z1, z2, ⟨_, _, z3⟩, z4, z5⟩, fun c hc => ?_, q⟩
      have le : s1.heap.objs.size ≤ c := by
        simp only [List.mem_cons, List.not_mem_nil, or_false] at hc
        rcases hc with rfl | rfl | rfl | rfl | rfl <;> omega
      exact I1.fpOk le (I1.hok.fresh le)
end L2
namespace L2
open PySem PySem.Spec PyProof.Rows
/-! ### rows by cells, and joined -/
def cells1 (r : S4) : List (Int × Int × Int) := (List.range r.2.1.toNat).map fun i => (r.1 + (i : Nat), r.2.2.1, r.2.2.2 + (i : Nat))
def cellsR (rs : List S4) : List (Int × Int × Int) := rs.flatMap cells1
def goOn (z r : S4) : Bool := decide (z.1 + z.2.1 = r.1) && decide (z.2.2.1 = r.2.2.1) && decide (z.2.2.2 + z.2.1 = r.2.2.2)
def rstep (g : List S4) (c : Int × Int × Int) : List S4 := match g.getLast? with
  | some z => if goOn z (c.1, 1, c.2.1, c.2.2) = true then g.dropLast ++ [(z.1, z.2.1 + 1, c.2.1, z.2.2.2)] else g ++ [(c.1, 1, c.2.1, c.2.2)]
  | none => g ++ [(c.1, 1, c.2.1, c.2.2)]
def tstep (g : List S4) (r : S4) : List S4 := match g.getLast? with
  | some z => if goOn z r = true then g.dropLast ++ [(z.1, z.2.1 + r.2.1, z.2.2.1, z.2.2.2)] else g ++ [r]
  | none => g ++ [r]
theorem goOn_iff {z r : S4} : goOn z r = true ↔ z.1 + z.2.1 = r.1 ∧ z.2.2.1 = r.2.2.1 ∧ z.2.2.2 + z.2.1 = r.2.2.2 := by
  unfold goOn
  simp only [Bool.and_eq_true, decide_eq_true_eq, and_assoc]
theorem tstep_nil (r : S4) : tstep [] r = [r] := rfl
theorem tstep_on {g : List S4} {z r : S4} (h : goOn z r = true) : tstep (g ++ [z]) r = g ++ [(z.1, z.2.1 + r.2.1, z.2.2.1, z.2.2.2)] := by
  unfold tstep
  rw [List.getLast?_concat]
  simp only [h, if_true]
  rw [List.dropLast_concat]
theorem tstep_off {g : List S4} {z r : S4} (h : goOn z r = false) : tstep (g ++ [z]) r = g ++ [z] ++ [r] := by
  unfold tstep
  rw [List.getLast?_concat]
  simp [h]
def tidyP (rs : List S4) : List S4 := rs.foldl tstep []
def noGo : List S4 → Bool
  | a :: b :: t => !goOn a b && noGo (b :: t)
  | _ => true
theorem tfold_len : ∀ (rs g : List S4), (rs.foldl tstep g).length ≤ g.length + rs.length
  | [], g => Nat.le_refl _
  | r :: t, g => by
    have ih := tfold_len t (tstep g r)
    have : (tstep g r).length ≤ g.length + 1 := by
      rcases List.eq_nil_or_concat g with rfl | ⟨g0, z, rfl⟩
      · rw [tstep_nil]; simp
      · rw [List.concat_eq_append]
        cases h : goOn z r with
        | true => rw [tstep_on h]; simp
        | false => rw [tstep_off h]; simp
    rw [List.foldl_cons, List.length_cons]
    omega
def okP (r : S4) : Bool := decide (0 ≤ r.1) && decide (1 ≤ r.2.1) && decide (0 ≤ r.2.2.2) && decide (r.1 + r.2.1 ≤ 40) && decide (r.2.2.2 + r.2.1 ≤ 8) && (decide (2 ≤ r.2.2.1) && decide (r.2.2.1 ≤ 599))
def apart : List S4 → Bool
  | a :: b :: t => !decide (b.1 < a.1 + a.2.1) && !goOn a b && apart (b :: t)
  | _ => true
def isRowP (rs : List S4) (size : Int) : Bool := rs.all okP && apart rs && rs.all fun r => decide (r.1 + r.2.1 ≤ size)
/-! ### lists of rows compared -/
section
variable {X : Cx} {pins : List (Addr × Obj)} {σ : St} {H : Hp} {s : Shared}
end
/-! ### a slice of a tuple, perhaps the whole -/
end L2
namespace L2
open PySem PySem.Spec PyProof.Rows
/-! ### things that are no tuples -/
def NotT (H : Hp) (x : V) : Prop := (∃ n, x = .int n) ∨ (∃ z, x = .str z) ∨ (∃ b, x = .bl b) ∨ x = .non ∨ (∃ a xs, x = .ref a ∧ H a = some (.lst xs)) ∨ (∃ a kvs, x = .ref a ∧ H a = some (.dK kvs))
theorem NotT.mono {H H' : Hp} {x : V} (h : NotT H x) (s : Same H H') : NotT H' x := by
  rcases h with h | h | h | h | ⟨a, z, e, q⟩ | ⟨a, z, e, q⟩
  · exact .inl h
  · exact .inr (.inl h)
  · exact .inr (.inr (.inl h))
  · exact .inr (.inr (.inr (.inl h)))
  · exact .inr (.inr (.inr (.inr (.inl ⟨a, z, e, s _ _ q⟩))))
  · exact .inr (.inr (.inr (.inr (.inr ⟨a, z, e, s _ _ q⟩))))
section
variable (K : PySem.W.Frag)
theorem k0_it : PySem.W.kitOne K (.type "int") (.type "tuple") = some false := by kernel_rfl
theorem k0_st : PySem.W.kitOne K (.type "str") (.type "tuple") = some false := by kernel_rfl
theorem k0_bt : PySem.W.kitOne K (.type "bool") (.type "tuple") = some false := by kernel_rfl
theorem k0_nt : PySem.W.kitOne K (.type "NoneType") (.type "tuple") = some false := by kernel_rfl
theorem k0_lt : PySem.W.kitOne K (.type "list") (.type "tuple") = some false := by kernel_rfl
theorem k0_dt : PySem.W.kitOne K (.type "dict") (.type "tuple") = some false := by kernel_rfl
end
theorem NotT.kit {K : PySem.W.Frag} {H : Hp} {x : V} (h : NotT H x) : ∃ t, TyOf K H x t ∧ PySem.W.kitOne K t (.type "tuple") = some false := by
  rcases h with ⟨n, rfl⟩ | ⟨z, rfl⟩ | ⟨b, rfl⟩ | rfl | ⟨a, z, rfl, q⟩ | ⟨a, z, rfl, q⟩
  · exact ⟨_, .int n, k0_it K⟩
  · exact ⟨_, .str z, k0_st K⟩
  · exact ⟨_, .bl b, k0_bt K⟩
  · exact ⟨_, .non, k0_nt K⟩
  · exact ⟨_, .lst q, k0_lt K⟩
  · exact ⟨_, .dK q, k0_dt K⟩
/-! ### a stretch, or what is none -/
def st4 : List V → Option S4
  | [.int a, .int l, .int p, .int s] => some (a, l, p, s)
  | _ => none
theorem st4_tv (r : S4) : st4 (tv r) = some r := rfl
theorem st4_some {xs : List V} {r : S4} (h : st4 xs = some r) : xs = tv r := by
  unfold st4 at h
  split at h
  · cases h
    rfl
  · cases h
theorem st4_len {xs : List V} (h : xs.length ≠ 4) : st4 xs = none := by
  cases e : st4 xs with
  | none => rfl
  | some r =>
    rw [st4_some e] at h
    exact absurd rfl h
theorem who0_int {x : V} (h : who0 x = true) : ∃ n, x = .int n := by
  cases x with
  | int n => exact ⟨n, rfl⟩
  | bl b => cases h
  | _ => cases h
theorem st4_who {xs : List V} (h : xs.length = 4) : (xs.all who0 = false → st4 xs = none) ∧ (xs.all who0 = true → ∃ r, xs = tv r) := by
  constructor
  · intro h2
    cases e : st4 xs with
    | none => rfl
    | some r =>
      rw [st4_some e] at h2
      cases h2
  · intro h2
    match xs, h with
    | [x0, x1, x2, x3], _ =>
      simp only [List.all_cons, List.all_nil, Bool.and_true, Bool.and_eq_true] at h2
      obtain ⟨n0, rfl⟩ := who0_int h2.1
      obtain ⟨n1, rfl⟩ := who0_int h2.2.1
      obtain ⟨n2, rfl⟩ := who0_int h2.2.2.1
      obtain ⟨n3, rfl⟩ := who0_int h2.2.2.2
      exact ⟨(n0, n1, n2, n3), rfl⟩
def PartO (H : Hp) (x : V) (o : Option S4) : Prop := (∃ q xs, x = .ref q ∧ H q = some (.tup xs) ∧ (∀ y ∈ xs, Ty0 H y) ∧ xs.length ≤ 100 ∧ o = st4 xs) ∨ (NotT H x ∧ o = none)
theorem PartO.mono {H H' : Hp} {x : V} {o : Option S4} (h : PartO H x o) (s : Same H H') : PartO H' x o := by
  rcases h with ⟨q, xs, e, hq, hy, hl, ho⟩ | ⟨h, ho⟩
  · exact .inl ⟨q, xs, e, s _ _ hq, fun y m => (hy y m).mono s, hl, ho⟩
  · exact .inr ⟨h.mono s, ho⟩
theorem PartO.of {H : Hp} {q : Addr} {r : S4} (h : H q = some (.tup (tv r))) : PartO H (.ref q) (some r) := .inl ⟨q, _, rfl, h, fun y m => by
  unfold tv at m
  simp only [List.mem_cons, List.not_mem_nil, or_false] at m
  rcases m with rfl | rfl | rfl | rfl <;> exact Ty0.int _, by show 4 ≤ 100; decide, rfl⟩
def PartsO (H : Hp) : List V → List (Option S4) → Prop
  | [], [] => True
  | v :: ys, o :: os => PartO H v o ∧ PartsO H ys os
  | _, _ => False
theorem PartsO.len {H : Hp} : ∀ {ys : List V} {os : List (Option S4)}, PartsO H ys os → ys.length = os.length
  | [], [], _ => rfl
  | _ :: ys, _ :: os, h => by rw [List.length_cons, List.length_cons, PartsO.len h.2]
  | [], _ :: _, h => h.elim
  | _ :: _, [], h => h.elim
theorem PartsO.get {H : Hp} : ∀ {ys : List V} {os : List (Option S4)} {i : Nat} {v : V}, PartsO H ys os → ys[i]? = some v → ∃ o, os[i]? = some o ∧ PartO H v o
  | [], [], _, _, _, e => by simp at e
  | y :: ys, o :: os, 0, v, h, e => by
    rw [List.getElem?_cons_zero] at e
    cases e
    exact ⟨o, rfl, h.1⟩
  | y :: ys, o :: os, i + 1, v, h, e => by
    rw [List.getElem?_cons_succ] at e
    rw [List.getElem?_cons_succ]
    exact PartsO.get h.2 e
  | [], _ :: _, _, _, h, _ => h.elim
  | _ :: _, [], _, _, h, _ => h.elim
theorem TupsAt.parts {H : Hp} : ∀ {ys : List V} {rs : List S4}, TupsAt H ys (rs.map tv) → PartsO H ys (rs.map some)
  | [], [], _ => trivial
  | y :: ys, r :: rs, h => by
    obtain ⟨⟨q, rfl, hq⟩, t⟩ := h
    exact ⟨PartO.of hq, TupsAt.parts t⟩
  | [], _ :: _, h => h.elim
  | _ :: _, [], h => h.elim
def allS : List (Option S4) → Option (List S4)
  | [] => some []
  | some r :: t => (allS t).map (r :: ·)
  | none :: _ => none
theorem allS_map : ∀ rs : List S4, allS (rs.map some) = some rs
  | [] => rfl
  | r :: t => by
    show (allS (t.map some)).map (r :: ·) = _
    rw [allS_map t]
    rfl
theorem allS_eq : ∀ {os : List (Option S4)} {rs : List S4}, allS os = some rs → os = rs.map some
  | [], rs, h => by cases h; rfl
  | some r :: t, rs, h => by
    have h' : (allS t).map (r :: ·) = some rs := h
    obtain ⟨t', h1, rfl⟩ := Option.map_eq_some_iff.mp h'
    rw [allS_eq h1]
    rfl
  | none :: t, rs, h => by cases h
theorem allS_all : ∀ {os : List (Option S4)}, (os.all fun o => o.any okP) = true → ∃ rs, allS os = some rs ∧ rs.all okP = true
  | [], _ => ⟨[], rfl, rfl⟩
  | some r :: t, h => by
    rw [List.all_cons, Bool.and_eq_true] at h
    obtain ⟨rs, h1, h2⟩ := allS_all h.2
    refine ⟨r :: rs, ?_, ?_⟩
    · show (allS t).map (r :: ·) = _
      rw [h1]
      rfl
    · rw [List.all_cons, h2, Bool.and_true]
      exact h.1
  | none :: t, h => by cases h
def rowO (os : List (Option S4)) (size : Int) : Bool := match allS os with
  | some rs => isRowP rs size
  | none => false
theorem rowO_no {os : List (Option S4)} {size : Int} (h : (os.all fun o => o.any okP) = false) : rowO os size = false := by
  unfold rowO
  split
  · next rs e =>
    rw [allS_eq e, List.all_map] at h
    have h' : rs.all okP = false := h
    unfold isRowP
    rw [h']
    rfl
  · rfl
theorem PartsO.tups {H : Hp} : ∀ {ys : List V} {rs : List S4}, PartsO H ys (rs.map some) → TupsAt H ys (rs.map tv)
  | [], [], _ => trivial
  | y :: ys, r :: rs, h => by
    obtain ⟨h1, h2⟩ := h
    refine ⟨?_, PartsO.tups h2⟩
    rcases h1 with ⟨q, xs, e, hq, _, _, ho⟩ | ⟨_, ho⟩
    · rw [st4_some ho.symm] at hq
      exact ⟨q, e, hq⟩
    · cases ho
  | [], _ :: _, h => h.elim
  | _ :: _, [], h => h.elim
theorem apart_iff : ∀ {rs : List S4}, apart rs = true ↔ ∀ (j : Nat) a b, rs[j]? = some a → rs[j + 1]? = some b → ¬ b.1 < a.1 + a.2.1 ∧ goOn a b = false
  | [] => ⟨fun _ j a b h => by simp at h, fun _ => rfl⟩
  | [r] => ⟨fun _ j a b _ h => by simp at h, fun _ => rfl⟩
  | a :: b :: t => by
    have ih := apart_iff (rs := b :: t)
    show (!decide (b.1 < a.1 + a.2.1) && !goOn a b && apart (b :: t)) = true ↔ _
    rw [Bool.and_eq_true, Bool.and_eq_true, ih]
    constructor
    · rintro ⟨⟨h1, h2⟩, h3⟩ j x y hx hy
      cases j with
      | zero =>
        simp only [List.getElem?_cons_zero, List.getElem?_cons_succ, Nat.zero_add] at hx hy
        cases hx
        cases hy
        refine ⟨fun c => ?_, ?_⟩
        · rw [decide_eq_true c] at h1
          cases h1
        · cases e : goOn a b with
          | false => rfl
          | true => rw [e] at h2; cases h2
      | succ j =>
        rw [List.getElem?_cons_succ] at hx hy
        exact h3 j x y hx hy
    · intro h
      refine ⟨⟨?_, ?_⟩, fun j x y hx hy => h (j + 1) x y (by rw [List.getElem?_cons_succ]; exact hx) (by rw [List.getElem?_cons_succ]; exact hy)⟩
      · rw [decide_eq_false (h 0 a b rfl rfl).1]
        rfl
      · rw [(h 0 a b rfl rfl).2]
        rfl
/-! ### loops over two tuples at once, comprehensions over a tuple -/
theorem for_zipT {K : PySem.W.Frag} {a b : Addr} {xs ys : List V} {g : TG} {tb : TS} {D : Ends} {σ : St} {H : Hp} (Pv : Nat → St → Hp → Prop) (h0 : Pv 0 σ H) (hl : ∀ i σ H, Pv i σ H → SqT K H a xs ∧ SqT K H b ys)
    (hs : ∀ i x y t σ H, xs[i]? = some x → ys[i]? = some y → Pv i σ H → H t = none → g (.ref t) σ (upd H t (.tup [x, y])) fun σ2 H2 => tb { D with nx := Pv (i + 1), ct := Pv (i + 1), bk := D.nx } σ2 H2) (hd : ∀ i σ H, min xs.length ys.length ≤ i → Pv i σ H → D.nx σ H) :
    ∃ W : Nat → Nat → St → Hp → Prop, (∃ m, W 0 m σ H) ∧ ∀ i m σ H, W i m σ H →
      ((ItzT K a b).stop i H ∧ D.nx σ H) ∨ ((ItzT K a b).go i H ∧ ∃ N : St → Hp → Prop, (∀ σ' H', N σ' H' → ∃ m', m' < m ∧ W (i + 1) m' σ' H') ∧ ∀ x H', (ItzT K a b).yld i H x H' → g x σ H' fun σ2 H2 => tb { D with nx := N, ct := N, bk := D.nx } σ2 H2) := by
  refine ⟨fun i m σ H => m = xs.length - i ∧ Pv i σ H, ⟨xs.length, by simp, h0⟩, ?_⟩
  rintro i m σ H ⟨rfl, p⟩
  obtain ⟨q1, q2⟩ := hl i σ H p
  by_cases hlt : i < xs.length ∧ i < ys.length
  · refine .inr ⟨⟨xs, ys, xs[i]'hlt.1, ys[i]'hlt.2, q1, q2, by simp [hlt.1], by simp [hlt.2]⟩, Pv (i + 1), fun σ' H' p' => ⟨xs.length - (i + 1), by omega, rfl, p'⟩, fun x H' y => ?_⟩
    obtain ⟨t, u, v, rfl, ht, rfl, hx, hy⟩ := y
    exact hs i u v t σ H (hx xs q1) (hy ys q2) p ht
  · refine .inl ⟨⟨xs, ys, q1, q2, by omega⟩, hd i σ H (by omega) p⟩
theorem comp_tup {K : PySem.W.Frag} {a p : Addr} {tt : TT} {te : TE} {cs : St} {Q : VK} {H1 : Hp} {xs : List V} (Pv : Nat → List V → Hp → Prop) (h0 : Pv 0 [] (upd H1 p (.lst [])))
    (hl : ∀ i ys H, i ≤ xs.length → Pv i ys H → SqT K H a xs)
    (hs : ∀ i x ys H, xs[i]? = some x → Pv i ys H → tt (some x :: cs) H fun b H4 => if b = true then te (some x :: cs) H4 fun y H5 => H5 p = some (.lst ys) ∧ ys.length < sizeLine ∧ Pv (i + 1) (ys ++ [y]) (upd H5 p (.lst (ys ++ [y]))) else Pv (i + 1) ys H4)
    (hd : ∀ ys H, Pv xs.length ys H → Q (.ref p) H) : CompW (Itt K a) p tt te cs Q H1 := comp_seq (tu := true) Pv h0 hl hs hd
theorem cutV_one (xs : List V) : cutV xs (some 1) none = xs.drop 1 := by
  unfold cutV
  have e : HT.sIx xs.length 0 (some 1) = min 1 xs.length := HT.sIx_nat _ _ 1
  rw [e, HT.sIx_none]
  cases xs with
  | nil => rfl
  | cons x t =>
    have : min 1 (x :: t).length = 1 := by simp
    rw [this]
    exact List.take_of_length_le (by simp)
end L2
namespace HT
open PySem PySem.Spec PyProof.Rows
section
variable {prog : Program} {w : World} {A : Around} {E : Value → Shared → Prop} {s : Shared}
/-- the whole of a tuple, as a slice: itself -/
theorem getItem_tuple_all {t sl : Addr} {items : Array Value} {vl vu : Value} {lo hi : Option Int} {Q : Value → Shared → Prop} (ht : IsTup s.heap t items) (hs : s.heap.IsSliceOf sl vl vu .none) (pl : IsPart vl lo) (pu : IsPart vu hi)
    (hw : sIx items.size 0 lo = 0 ∧ sIx items.size items.size hi = items.size) (h : Q (.ref t) s) : wpAny (model prog w) A (getItem (.ref t) (.ref sl)) Q E s := by
  obtain ⟨os, hos, hcs, hds⟩ := id hs
  have hTs : s.TypeIs (.ref sl) "slice" := ⟨os, hos, hcs⟩
  unfold getItem
  try with_reducible refine wpAny_holding ?_
  first | refine wpAny_bind (wpAny_pure ?_) | skip
  refine wpAny_bind (wpAny_sequenceKey ht.typeIs (by decide) ?_)
  refine wpAny_bind (wpAny_callSpecial?_slot (name := Str.ofString "__getitem__") ht.typeIs PyProof.Rows.slot_tuple_getitem
    (wpAny_call_entry PyProof.Rows.slot_tuple_getitem ht.typeIs entry_tuple_getitem ?_ (args_tuple_getitem _ _)))
  show wpAny _ _ (Builtin.Tuple.tupleItemsOf (.ref t) >>= _) _ _ s
  refine wpAny_bind (tupleItemsOf_ ht ?_)
  refine wpAny_bind (wpAny_typeOf hTs ?_)
  rw [if_pos (by decide)]
  refine wpAny_bind (sliceApplied_gen hs pl pu ?_)
  have hyes : (((sIx items.size 0 lo : Nat) : Int) == 0 && (1 : Int) == 1 && (sIx items.size items.size hi - sIx items.size 0 lo) == items.size) = true := by
    rw [hw.1, hw.2]
    simp
  show wpAny _ _ (if (((sIx items.size 0 lo : Nat) : Int) == 0 && (1 : Int) == 1 && (sIx items.size items.size hi - sIx items.size 0 lo) == items.size) = true then _ else _) _ _ s
  rw [if_pos hyes]
  refine wpAny_bind (m := Builtin.Tuple.tupleIsExact _) (wpAny_bind (wpAny_typeOf ht.typeIs (wpAny_pure ?_)))
  rw [if_pos (by decide)]
  refine wpAny_bind (wpAny_rule ?_)
  exact wpAny_bind (wpAny_pure (wpAny_pure ⟨_, rfl, wpAny_pure h⟩))
end
end HT
namespace L2
open PySem PySem.Spec PyProof.Rows
section
variable {X : Cx}
theorem cutV_all {xs : List V} {lo hi : Option Int} (hw : HT.sIx xs.length 0 lo = 0 ∧ HT.sIx xs.length xs.length hi = xs.length) : cutV xs lo hi = xs := by
  unfold cutV
  rw [hw.1, hw.2]
  simp
/-- a slice of a tuple, perhaps the whole -/
def rSlW : V → Option Int → Option Int → Hp → VK → Prop := fun x lo hi H Q => ∃ a xs, x = .ref a ∧ H a = some (.tup xs) ∧ ∀ b H', Same H H' → H' b = some (.tup (cutV xs lo hi)) → Q (.ref b) H'
theorem sl_tupW : SlR X rSlW := by
  intro pins s σ H x v vl vu lo hi sl Q I rx hs pl pu h
  obtain ⟨a, xs, rfl, hx, q⟩ := h
  by_cases hw : HT.sIx xs.length 0 lo = 0 ∧ HT.sIx xs.length xs.length hi = xs.length
  · cases rx
    obtain ⟨its, r, ht, hz⟩ := I.tuple (SqT.of (K := X.K) hx)
    have hlen : its.toArray.size = xs.length := by rw [List.size_toArray]; exact r.length.symm
    exact ⟨"tuple", _, PyProof.Rows.slot_tuple_getitem.lookup, ht.typeIs, HT.getItem_tuple_all ht hs pl pu (by rw [hlen]; exact hw) ⟨.ref a, H, I, rfl, q a H (Same.refl H) (by rw [cutV_all hw]; exact hx)⟩⟩
  · exact sl_tup pins s σ H (.ref a) v vl vu lo hi sl Q I rx hs pl pu ⟨a, xs, rfl, SqT.of hx, hw, fun p hp => q p _ (fun b u e => by rw [upd_ne (ne_of_none e hp)]; exact e) upd_same⟩
end
end L2
namespace L2
open PySem PySem.Spec PyProof.Rows
/-! ### a dict of cells -/
abbrev C3 := Int × Int × Int
/-! ### a row's cells rise -/
theorem cells1_mem {r : S4} {c : C3} (h : c ∈ cells1 r) : r.1 ≤ c.1 ∧ c.1 < r.1 + r.2.1 := by
  unfold cells1 at h
  obtain ⟨i, hi, rfl⟩ := List.mem_map.mp h
  have := List.mem_range.mp hi
  simp only
  omega
theorem cellsR_mem : ∀ {rs : List S4} {lo hi : Int} {c : C3}, Ord lo rs hi → c ∈ cellsR rs → lo ≤ c.1 ∧ c.1 < hi
  | [], _, _, _, _, h => by cases h
  | r :: t, lo, hi, c, o, h => by
    have o1 := o.1
    have o2 := o.2.1
    have o3 := o.2.2.le
    rcases List.mem_append.mp (show c ∈ cells1 r ++ cellsR t from h) with h | h
    · have := cells1_mem h
      omega
    · have := cellsR_mem o.2.2 h
      omega
theorem cellsR_snoc (rs : List S4) (r : S4) : cellsR (rs ++ [r]) = cellsR rs ++ cells1 r := by
  unfold cellsR
  rw [List.flatMap_append]
  simp
/-! ### the law's loop over a thing -/
end L2
namespace L2
open PySem PySem.Spec PyProof.Rows
/-! ### a tidied row is a tidy row -/
theorem ord_last : ∀ {g : List S4} {z : S4} {lo hi : Int}, Ord lo (g ++ [z]) hi → Ord lo g z.1 ∧ 0 < z.2.1 ∧ z.1 + z.2.1 ≤ hi
  | [], z, lo, hi, h => ⟨h.1, h.2.1, h.2.2⟩
  | q :: g, z, lo, hi, h => by
    have ih := ord_last h.2.2
    exact ⟨⟨h.1, h.2.1, ih.1⟩, ih.2⟩
theorem tidy_ord : ∀ {rs g : List S4} {lo mid hi : Int}, Ord lo g mid → Ord mid rs hi → Ord lo (rs.foldl tstep g) hi
  | [], g, lo, mid, hi, h, h2 => h.up h2
  | r :: t, g, lo, mid, hi, h, h2 => by
    obtain ⟨a1, a2, a3⟩ := h2
    rw [List.foldl_cons]
    refine tidy_ord (mid := r.1 + r.2.1) ?_ a3
    rcases List.eq_nil_or_concat g with rfl | ⟨g0, z, rfl⟩
    · rw [tstep_nil]
      have : lo ≤ mid := h
      exact ⟨by omega, a2, Int.le_refl _⟩
    · rw [List.concat_eq_append] at h ⊢
      obtain ⟨b1, b2, b3⟩ := ord_last h
      cases e : goOn z r with
      | true =>
        rw [tstep_on e]
        have e1 := (goOn_iff.mp e).1
        exact b1.snoc (Int.le_refl _) (by show 0 < z.2.1 + r.2.1; omega) (by show z.1 + (z.2.1 + r.2.1) ≤ r.1 + r.2.1; omega)
      | false =>
        rw [tstep_off e]
        exact h.snoc a1 a2 (Int.le_refl _)
theorem noGo_snoc : ∀ {g : List S4} {z r : S4}, noGo (g ++ [z] ++ [r]) = (noGo (g ++ [z]) && !goOn z r)
  | [], z, r => by
    show (!goOn z r && true) = (true && !goOn z r)
    simp
  | [a], z, r => by
    show (!goOn a z && (!goOn z r && true)) = ((!goOn a z && true) && !goOn z r)
    simp
  | a :: b :: g, z, r => by
    have ih := noGo_snoc (g := b :: g) (z := z) (r := r)
    show (!goOn a b && noGo ((b :: g) ++ [z] ++ [r])) = ((!goOn a b && noGo ((b :: g) ++ [z])) && !goOn z r)
    rw [ih, Bool.and_assoc]
theorem noGo_swap {g : List S4} {z z' : S4} (h : ∀ a, goOn a z = goOn a z') : noGo (g ++ [z]) = noGo (g ++ [z']) := by
  rcases List.eq_nil_or_concat g with rfl | ⟨g0, y, rfl⟩
  · rfl
  · rw [List.concat_eq_append, noGo_snoc, noGo_snoc, h y]
theorem tidy_noGo : ∀ {rs g : List S4}, noGo g = true → noGo (rs.foldl tstep g) = true
  | [], g, h => h
  | r :: t, g, h => by
    rw [List.foldl_cons]
    refine tidy_noGo ?_
    rcases List.eq_nil_or_concat g with rfl | ⟨g0, z, rfl⟩
    · rfl
    · rw [List.concat_eq_append] at h ⊢
      cases e : goOn z r with
      | true =>
        rw [tstep_on e, ← h]
        exact noGo_swap fun a => rfl
      | false =>
        rw [tstep_off e, noGo_snoc, h, e]
        rfl
theorem ord_apart : ∀ {rs : List S4} {lo hi : Int}, Ord lo rs hi → noGo rs = true → apart rs = true
  | [], _, _, _, _ => rfl
  | [a], _, _, _, _ => rfl
  | a :: b :: t, lo, hi, h, n => by
    have n' : (!goOn a b && noGo (b :: t)) = true := n
    rw [Bool.and_eq_true] at n'
    have ih := ord_apart h.2.2 n'.2
    show (!decide (b.1 < a.1 + a.2.1) && !goOn a b && apart (b :: t)) = true
    have b1 : a.1 + a.2.1 ≤ b.1 := h.2.2.1
    rw [ih, n'.1, decide_eq_false (by omega)]
    rfl
end L2
namespace L2
open PySem PySem.Spec PyProof.Rows
/-! ### a row laid over a row -/
theorem parts_ord {lo hi : Int} : ∀ {rs : List S4} {a b e : Int}, Ord a rs b → e ≤ hi → (e ≤ a ∨ e ≤ lo) → Ord e (partsP rs lo hi) hi
  | [], _, _, _, _, h, _ => h
  | (p, l, q, k) :: t, a, b, e, o, h, h2 => by
    have o1 : a ≤ p := o.1
    have o2 : 0 < l := o.2.1
    have o3 : Ord (p + l) t b := o.2.2
    have ep : partsP ((p, l, q, k) :: t) lo hi = cut1 lo hi (p, l, q, k) ++ partsP t lo hi := by
      unfold partsP
      rw [List.flatMap_cons]
    rw [ep]
    unfold cut1
    simp only
    split
    · next c =>
      have m1 : e ≤ pmax p lo := by
        unfold pmax
        split <;> omega
      have m2 : pmin (p + l) hi ≤ hi := by
        unfold pmin
        split <;> omega
      have m3 : pmin (p + l) hi ≤ p + l := by
        unfold pmin
        split <;> omega
      refine ⟨m1, by show 0 < pmin (p + l) hi - pmax p lo; omega, ?_⟩
      have e2 : pmax p lo + (pmin (p + l) hi - pmax p lo) = pmin (p + l) hi := by omega
      show Ord (pmax p lo + (pmin (p + l) hi - pmax p lo)) (partsP t lo hi) hi
      rw [e2]
      exact parts_ord o3 m2 (.inl m3)
    · exact parts_ord o3 h (h2.imp (fun h => by omega) id)
theorem ord_app : ∀ {xs ys : List S4} {a b c : Int}, Ord a xs b → Ord b ys c → Ord a (xs ++ ys) c
  | [], ys, a, b, c, h, h2 => by
    have h' : a ≤ b := h
    cases ys with
    | nil => exact Int.le_trans h' h2
    | cons r t => exact ⟨Int.le_trans h' h2.1, h2.2.1, h2.2.2⟩
  | x :: xs, ys, a, b, c, h, h2 => ⟨h.1, h.2.1, ord_app h.2.2 h2⟩
theorem ord_rise : ∀ {rs : List S4} {a b : Int}, Ord a rs b → rs.Pairwise fun x y => x.1 < y.1
  | [], _, _, _ => List.Pairwise.nil
  | r :: t, a, b, o => List.pairwise_cons.mpr ⟨fun y hy => by
      have := (o.2.2.mem hy).1
      have := o.2.1
      omega, ord_rise o.2.2⟩
theorem ord_len : ∀ {rs : List S4} {a b : Int}, Ord a rs b → (rs.length : Int) ≤ b - a
  | [], a, b, o => by
    have o' : a ≤ b := o
    show ((0 : Nat) : Int) ≤ _
    omega
  | r :: t, a, b, o => by
    have ih := ord_len o.2.2
    have := o.1
    have := o.2.1
    rw [List.length_cons]
    omega
theorem sort_uniq : ∀ {xs ys : List S4}, xs.Perm ys → xs.Pairwise (fun x y => x.1 ≤ y.1) → ys.Pairwise (fun x y => x.1 < y.1) → xs = ys
  | [], ys, h, _, _ => (List.nil_perm.mp h).symm
  | x :: xs, [], h, _, _ => absurd h.length_eq (by simp)
  | x :: xs, y :: ys, h, h1, h2 => by
    have p1 := List.pairwise_cons.mp h1
    have p2 := List.pairwise_cons.mp h2
    have e : x = y := by
      rcases List.mem_cons.mp (h.mem_iff.mp (List.mem_cons_self ..)) with e | m1
      · exact e
      · rcases List.mem_cons.mp (h.mem_iff.mpr (List.mem_cons_self (a := y) (l := ys))) with e | m2
        · exact e.symm
        · have := p1.1 y m2
          have := p2.1 x m1
          omega
    subst e
    rw [sort_uniq (List.Perm.cons_inv h) p1.2 p2.2]
def laidP (rs : List S4) (lo hi : Int) (new : List S4) : List S4 := partsP rs 0 lo ++ new ++ partsP rs hi 40
theorem laid_ord {rs new : List S4} {lo hi : Int} (o : Ord 0 rs 40) (h0 : 0 ≤ lo) (hn : Ord lo new hi) (h40 : hi ≤ 40) : Ord 0 (laidP rs lo hi new) 40 :=
  ord_app (ord_app (parts_ord o h0 (.inl (Int.le_refl _))) hn) (parts_ord o h40 (.inr (Int.le_refl _)))
theorem laid_perm {rs new : List S4} {lo hi : Int} : (laidP rs lo hi new).Perm (partsP rs 0 lo ++ partsP rs hi 40 ++ new) := by
  unfold laidP
  rw [List.append_assoc, List.append_assoc]
  exact List.Perm.append_left _ List.perm_append_comm
/-! ### cells -/
theorem cells1_join {z r : S4} (h : goOn z r = true) (hz : 0 ≤ z.2.1) (hr : 0 ≤ r.2.1) : cells1 (z.1, z.2.1 + r.2.1, z.2.2.1, z.2.2.2) = cells1 z ++ cells1 r := by
  obtain ⟨a, l, p, s⟩ := z
  obtain ⟨a', l', p', s'⟩ := r
  obtain ⟨e1, e2, e3⟩ := goOn_iff.mp h
  simp only at e1 e2 e3 hz hr
  subst e1 e2 e3
  obtain ⟨n, rfl⟩ := Int.eq_ofNat_of_zero_le hz
  obtain ⟨m, rfl⟩ := Int.eq_ofNat_of_zero_le hr
  unfold cells1
  simp only
  have : ((n : Int) + (m : Int)).toNat = n + m := by omega
  rw [this, Int.toNat_natCast, Int.toNat_natCast, List.range_add, List.map_append, List.map_map]
  congr 1
  refine List.map_congr_left fun i _ => ?_
  simp only [Function.comp]
  rw [Int.natCast_add]
  congr 1
  · omega
  · congr 1
    omega
theorem cells_tidy : ∀ {rs g : List S4}, (∀ r ∈ g, 0 ≤ r.2.1) → (∀ r ∈ rs, 0 ≤ r.2.1) → cellsR (rs.foldl tstep g) = cellsR g ++ cellsR rs
  | [], g, _, _ => by
    show cellsR g = cellsR g ++ []
    simp
  | r :: t, g, hg, hr => by
    have r0 := hr r (List.mem_cons_self ..)
    rw [List.foldl_cons]
    have key : cellsR (tstep g r) = cellsR g ++ cells1 r ∧ ∀ x ∈ tstep g r, 0 ≤ x.2.1 := by
      rcases List.eq_nil_or_concat g with rfl | ⟨g0, z, rfl⟩
      · rw [tstep_nil]
        refine ⟨?_, fun x hx => ?_⟩
        · show cells1 r ++ [] = [] ++ cells1 r
          simp
        · obtain rfl : x = r := by simpa using hx
          exact r0
      · rw [List.concat_eq_append] at hg ⊢
        have z0 := hg z (List.mem_append_right _ (List.mem_cons_self ..))
        cases e : goOn z r with
        | true =>
          rw [tstep_on e, cellsR_snoc, cellsR_snoc, cells1_join e z0 r0, List.append_assoc]
          refine ⟨rfl, fun x hx => ?_⟩
          rcases List.mem_append.mp hx with hx | hx
          · exact hg x (List.mem_append_left _ hx)
          · obtain rfl : x = (z.1, z.2.1 + r.2.1, z.2.2.1, z.2.2.2) := by simpa using hx
            show 0 ≤ z.2.1 + r.2.1
            omega
        | false =>
          rw [tstep_off e, cellsR_snoc]
          refine ⟨rfl, fun x hx => ?_⟩
          rcases List.mem_append.mp hx with hx | hx
          · exact hg x hx
          · obtain rfl : x = r := by simpa using hx
            exact r0
    rw [cells_tidy key.2 fun x hx => hr x (List.mem_cons_of_mem _ hx), key.1, List.append_assoc]
    rfl
theorem cells_tidyP {rs : List S4} {a b : Int} (o : Ord a rs b) : cellsR (tidyP rs) = cellsR rs := by
  have := cells_tidy (rs := rs) (g := []) (fun r h => by cases h) fun r hr => by
    have := (o.mem hr).2.1
    omega
  exact this
theorem mem_cells1 {r : S4} {c : C3} : c ∈ cells1 r ↔ r.1 ≤ c.1 ∧ c.1 < r.1 + r.2.1 ∧ c.2.1 = r.2.2.1 ∧ c.2.2 = r.2.2.2 + (c.1 - r.1) := by
  unfold cells1
  rw [List.mem_map]
  constructor
  · rintro ⟨i, hi, rfl⟩
    have := List.mem_range.mp hi
    simp only
    refine ⟨by omega, by omega, trivial, by omega⟩
  · rintro ⟨h1, h2, h3, h4⟩
    obtain ⟨c1, c2, c3⟩ := c
    simp only at h1 h2 h3 h4
    refine ⟨(c1 - r.1).toNat, List.mem_range.mpr (by omega), ?_⟩
    have : ((c1 - r.1).toNat : Int) = c1 - r.1 := by omega
    rw [this, h3, h4]
    congr 1
    omega
theorem mem_cut {r : S4} {lo hi : Int} {c : C3} : c ∈ cellsR (cut1 lo hi r) ↔ c ∈ cells1 r ∧ lo ≤ c.1 ∧ c.1 < hi := by
  obtain ⟨a, l, p, s⟩ := r
  unfold cut1
  simp only
  split
  · next h =>
    have : cellsR [(pmax a lo, pmin (a + l) hi - pmax a lo, p, s + pmax a lo - a)] = cells1 (pmax a lo, pmin (a + l) hi - pmax a lo, p, s + pmax a lo - a) := by
      show cells1 _ ++ [] = _
      simp
    rw [this, mem_cells1, mem_cells1]
    simp only
    unfold pmax pmin at *
    split at h <;> split at h <;> simp only [*, if_true, if_false] <;> (constructor <;> (rintro ⟨h1, h2, h3⟩; omega))
  · next h =>
    rw [mem_cells1]
    simp only
    constructor
    · intro z
      cases z
    · rintro ⟨⟨h1, h2, _⟩, h3, h4⟩
      exfalso
      apply h
      unfold pmax pmin
      split <;> split <;> omega
theorem mem_parts {lo hi : Int} {c : C3} : ∀ {rs : List S4}, c ∈ cellsR (partsP rs lo hi) ↔ c ∈ cellsR rs ∧ lo ≤ c.1 ∧ c.1 < hi
  | [] => by
    show c ∈ [] ↔ c ∈ [] ∧ _
    simp
  | r :: t => by
    have ih := mem_parts (lo := lo) (hi := hi) (c := c) (rs := t)
    have e1 : cellsR (partsP (r :: t) lo hi) = cellsR (cut1 lo hi r) ++ cellsR (partsP t lo hi) := by
      unfold partsP cellsR
      rw [List.flatMap_cons, List.flatMap_append]
    have e2 : cellsR (r :: t) = cells1 r ++ cellsR t := rfl
    rw [e1, e2, List.mem_append, List.mem_append, ih, mem_cut]
    constructor
    · rintro (⟨h1, h2⟩ | ⟨h1, h2⟩)
      · exact ⟨.inl h1, h2⟩
      · exact ⟨.inr h1, h2⟩
    · rintro ⟨h1 | h1, h2⟩
      · exact .inl ⟨h1, h2⟩
      · exact .inr ⟨h1, h2⟩
theorem mem_laid {rs new : List S4} {lo hi : Int} {c : C3} (o : Ord 0 rs 40) : c ∈ cellsR (laidP rs lo hi new) ↔ (c ∈ cellsR rs ∧ (c.1 < lo ∨ hi ≤ c.1)) ∨ c ∈ cellsR new := by
  have e : cellsR (laidP rs lo hi new) = cellsR (partsP rs 0 lo) ++ cellsR new ++ cellsR (partsP rs hi 40) := by
    unfold laidP cellsR
    rw [List.flatMap_append, List.flatMap_append]
  rw [e, List.mem_append, List.mem_append, mem_parts, mem_parts]
  constructor
  · rintro ((⟨h1, h2, h3⟩ | h) | ⟨h1, h2, h3⟩)
    · exact .inl ⟨h1, .inl h3⟩
    · exact .inr h
    · exact .inl ⟨h1, .inr h2⟩
  · rintro (⟨h1, h2 | h2⟩ | h)
    · exact .inl (.inl ⟨h1, (cellsR_mem o h1).1, h2⟩)
    · exact .inr ⟨h1, h2, (cellsR_mem o h1).2⟩
    · exact .inl (.inr h)
/-! ### a dict of cells, in whatever order -/
theorem valV_app {kvs more : List (Key × V)} {k : Key} : valV (kvs ++ more) k = match valV kvs k with
    | some v => some v
    | none => valV more k := by
  unfold valV
  rw [List.find?_append]
  cases kvs.find? fun kv => decide (kv.1 = k) with
  | none => rfl
  | some p => rfl
theorem merge_app : ∀ {more kvs : List (Key × V)}, (∀ p ∈ more, valV kvs p.1 = none) → (more.map (·.1)).Nodup → mergeK kvs more = kvs ++ more
  | [], kvs, _, _ => by
    show kvs = kvs ++ []
    simp
  | p :: t, kvs, h, n => by
    show mergeK (putK kvs p.1 p.2) t = _
    rw [List.map_cons, List.nodup_cons] at n
    rw [putK_new _ (h p (List.mem_cons_self ..)), merge_app (fun x hx => ?_) n.2, List.append_assoc]
    · rfl
    · rw [valV_app, h x (List.mem_cons_of_mem _ hx)]
      show valV [(p.1, p.2)] x.1 = none
      exact (valV_neg fun z => n.1 (by rw [show p.1 = x.1 from z]; exact List.mem_map_of_mem hx)).trans valV_nil
end L2
set_option maxHeartbeats 1000000
/-! ### range(a, b, 8) -/
namespace L2
open PySem PySem.Spec PyProof.Rows
def ItR (lo c : Int) (n : Nat) : It := ⟨fun i _ => i < n, fun i H x H' => H' = H ∧ x = .int (lo + i * c), fun i _ => n ≤ i⟩
theorem turn_rangeS {P : Program} {w : World} {K : PySem.W.Frag} {tg : Expr} (it : Addr) (lo c : Int) (n : Nat) {hb : Bool} : Turn P w K tg (ItR lo c n) [it] it (fun i h => IsRangeIter h it (lo + (i : Nat) * c) ((n : Int) - (i : Nat)) c) hb where
  mem := by simp
  obj := fun i h st b hb => by
    have e : b = it := by simpa using hb
    subst e
    exact ⟨_, st, fun v z => by
      have z' : Data.fields _ = Data.cell v := z
      cases z'⟩
  keep := fun i h h' st k => k it (by simp) _ st
  item := by
    intro X hP hw hK s hc i pins σ H E I hf st hg
    subst hP hw hK
    obtain ⟨f0, f1, f2, f3, f4, f5⟩ := hf it (by simp)
    have hi : i < n := hg
    refine wpAny_pyNext_range_item st (by omega) fun h' st' sb => ?_
    have I1 : Inv X pins σ H { s with heap := h', toks := s.toks + 1 } := I.turned (fun b o hb e => (sb.2 b hb).trans e) f0 f1 f3 f4 f5
    have e1 : lo + ((i : Nat) : Int) * c + c = lo + ((i + 1 : Nat) : Int) * c := by
      rw [Int.natCast_add, Int.add_mul, Int.add_assoc]
      simp
    have e2 : (n : Int) - ((i : Nat) : Int) - 1 = (n : Int) - ((i + 1 : Nat) : Int) := by omega
    rw [e1, e2] at st'
    exact ⟨_, rfl, go_of (s := { s with heap := h', toks := s.toks + 1 }) (n := "range_iterator") st' rfl rfl (by decide) ⟨.int (lo + i * c), H, I1, ⟨s.toks, rfl⟩, ⟨rfl, rfl⟩, st', fun b hb => (hf b hb).1⟩⟩
  done := by
    intro X hP hw hK s hc i pins σ H E I hf st hg
    subst hP hw hK
    obtain ⟨f0, f1, f2, f3, f4, f5⟩ := hf it (by simp)
    have hi : (n : Int) - ((i : Nat) : Int) ≤ 0 := by have : n ≤ i := hg; omega
    rcases hc with hc | ⟨_, ea, o, vs, h1, h2, h3, h4⟩
    · exact wpAny_pyNext_range_end hc st hi fun h' eb => ⟨rfl, I.turned (t' := s.toks) (fun b o hb e => eb b o hb e) f0 f1 f3 f4 f5⟩
    · exact range_end_hand h1 h2 h3 h4 st hi fun h' eb => ⟨rfl, I.turned (t' := s.toks) (fun b o hb e => eb b o hb e) f0 f1 f3 f4 f5⟩
  self := fun _ _ _ _ _ st h => wpAny_pyIter_rangeiter st h
theorem size8 (a b : Int) : Builtin.Range.rangeSize a b 8 = if a < b then (b - a - 1) / 8 + 1 else 0 := by
  unfold Builtin.Range.rangeSize
  rw [if_pos (by decide)]
theorem small_8 {a b : Int} (ha : -(2 ^ 60) ≤ a) (ha' : a < 2 ^ 60) (hb : -(2 ^ 60) ≤ b) (hb' : b < 2 ^ 60) : Builtin.Range.small a b 8 = true := by
  unfold Builtin.Range.small
  rw [size8]
  simp only [Builtin.Range.rangeFitsLong, Bool.and_eq_true, Bool.or_eq_true, decide_eq_true_eq, beq_iff_eq, show (8 : Int) > 0 by decide, if_true]
  split <;> omega
section
variable {X : Cx} {tg : Expr}
def iRng3 (ta : TA) : TI := fun σ H R => ta σ H fun vs H1 => ∃ i j : Int, vs = [.int i, .int j, .int 8] ∧ (-(2 ^ 60) ≤ i ∧ i < 2 ^ 60 ∧ -(2 ^ 60) ≤ j ∧ j < 2 ^ 60) ∧ R (ItR i 8 (if i < j then (j - i - 1) / 8 + 1 else 0).toNat) H1
theorem range_it8 {hb : Bool} {pins : List (Addr × Obj)} {σ : St} {H : Hp} {s : Shared} {R : It → Hp → Prop} {E : Value → Shared → Prop} {lo hi : Int} {t u v : Tok} {tk : Nat} (I : Inv X pins σ H s) (h1 : -(2 ^ 60) ≤ lo) (h2 : lo < 2 ^ 60) (h3 : -(2 ^ 60) ≤ hi) (h4 : hi < 2 ^ 60)
    (q : R (ItR lo 8 (if lo < hi then (hi - lo - 1) / 8 + 1 else 0).toNat) H) : wpAny (model X.prog X.w) X.A (pyIter (.ref s.heap.objs.size)) (PIE X pins σ tg R hb) E { s with heap := s.heap.push { cls := .type "range", data := .fields #[.int lo t, .int hi u, .int 8 v] }, toks := tk } := by
  refine wpAny_pyIter_range (IsRange.new ..) (small_8 h1 h2 h3 h4) ?_
  have I1 : Inv X pins σ H { s with heap := s.heap.push { cls := .type "range", data := .fields #[.int lo t, .int hi u, .int 8 v] }, toks := tk } := I.kept fun b o e => Heap.get?_push_of_some _ e
  refine ⟨(s.heap.push { cls := .type "range", data := .fields #[.int lo t, .int hi u, .int 8 v] }).objs.size, [(s.heap.push { cls := .type "range", data := .fields #[.int lo t, .int hi u, .int 8 v] }).objs.size], _, _, H, rfl,
    I1.kept (t' := tk) fun b o e => Heap.get?_push_of_some _ e, turn_rangeS _ lo 8 _, ?_, fun b hb => ?_, q⟩
  · have e1 : lo + ((0 : Nat) : Int) * 8 = lo := by simp
    have e2 : (((if lo < hi then (hi - lo - 1) / 8 + 1 else 0).toNat : Nat) : Int) - ((0 : Nat) : Int) = Builtin.Range.rangeSize lo hi 8 := by
      rw [size8]
      split <;> omega
    show IsRangeIter _ _ (lo + ((0 : Nat) : Int) * 8) ((((if lo < hi then (hi - lo - 1) / 8 + 1 else 0).toNat : Nat) : Int) - ((0 : Nat) : Int)) 8
    rw [e1, e2]
    exact Heap.get?_push_size _ rfl
  · have e : b = (s.heap.push { cls := .type "range", data := .fields #[.int lo t, .int hi u, .int 8 v] }).objs.size := by simpa using hb
    subst e
    exact I1.fpOk (Nat.le_refl _) (I1.hok.fresh (Nat.le_refl _))
theorem pi_range3 {hb : Bool} {a b c : Expr} {ta : TA} {p pos : Pos} (hg : Gl X "range") (hm : X.mg "range" = none) (ha : PA X [a, b, c] ta) (hs : starEach [a, b, c] X.env = [(false, eval a X.env), (false, eval b X.env), (false, eval c X.env)] := by rfl) (hs2 : starEach [b, c] X.env = [(false, eval b X.env), (false, eval c X.env)] := by rfl) :
    PI X tg (.Call (.Name "range" p) [a, b, c] [] pos) (iRng3 ta) hb := by
  intro pins s σ H R I h
  refine Call_ (ld_blt I hg hm boot_range (PyProof.Rows.callWith_type1 (thn (ha pos pins s σ H _ I h) fun us s1 ⟨vs, H1, I1, r1, q1⟩ => ?_) (by rw [hs, hs2]) (by rw [hs2]; rfl)))
  obtain ⟨i, j, e, ⟨q1, q2, q3, q4⟩, q⟩ := q1
  subst e
  cases r1 with
  | cons r rr =>
    cases rr with
    | cons r' rr =>
      cases rr with
      | cons r'' rr =>
        cases rr
        obtain ⟨t, rfl⟩ := r
        obtain ⟨t', rfl⟩ := r'
        obtain ⟨t'', rfl⟩ := r''
        exact call_range_3 (by decide) (range_it8 I1 q1 q2 q3 q4 q) (.inl (PyProof.noPylong_small (by omega)))
end
theorem comp_rangeS {lo c : Int} {n : Nat} {p : Addr} {tt : TT} {te : TE} {cs : St} {Q : VK} {H1 : Hp} (Pv : Nat → List V → Hp → Prop) (h0 : Pv 0 [] (upd H1 p (.lst [])))
    (hs : ∀ i ys H, i < n → Pv i ys H → tt (some (.int (lo + i * c)) :: cs) H fun b H4 => if b = true then te (some (.int (lo + i * c)) :: cs) H4 fun y H5 => H5 p = some (.lst ys) ∧ ys.length < sizeLine ∧ Pv (i + 1) (ys ++ [y]) (upd H5 p (.lst (ys ++ [y]))) else Pv (i + 1) ys H4)
    (hd : ∀ ys H, Pv n ys H → Q (.ref p) H) : CompW (ItR lo c n) p tt te cs Q H1 := by
  refine comp_by n Pv h0 ?_ ?_
  · intro i ys H hi pv
    refine ⟨hi, fun v H3 y => ?_⟩
    obtain ⟨rfl, rfl⟩ := y
    exact hs i ys _ hi pv
  · intro ys H pv
    exact ⟨Nat.le_refl _, hd ys H pv⟩
end L2
/-! ### enumerate(a list), its pairs taken apart at once -/
namespace L2
open PySem PySem.Spec PyProof.Rows
def Ite (K : PySem.W.Frag) (a : Addr) : It :=
  ⟨fun i H => ∃ xs x, SqL K H a xs ∧ xs[i]? = some x, fun i H v H' => ∃ t x, v = .ref t ∧ H t = none ∧ H' = upd H t (.tup [.int i, x]) ∧ ∀ xs, SqL K H a xs → xs[i]? = some x, fun i H => ∃ xs, SqL K H a xs ∧ xs.length ≤ i⟩
theorem turn_enum {P : Program} {w : World} {K : PySem.W.Frag} {elts : List Expr} {x1} {tp : Pos} {e it a : Addr} (n : e ≠ it) :
    Turn P w K (.Tuple elts x1 tp) (Ite K a) [e, it] e (fun i h => (∃ old, IsEnum h e it i old) ∧ h.IsListIter it a i) where
  mem := by simp
  obj := fun i h Z c hc => by
    obtain ⟨⟨old, he⟩, ⟨o1, e1, _, d1⟩⟩ := Z
    simp only [List.mem_cons, List.not_mem_nil, or_false] at hc
    rcases hc with rfl | rfl
    · exact ⟨_, he, fun v q => by cases q⟩
    · exact ⟨_, e1, fun v q => by rw [d1] at q; cases q⟩
  keep := fun i h h' Z k => by
    obtain ⟨⟨old, he⟩, j⟩ := Z
    exact ⟨⟨old, k e (by simp) _ he⟩, j.at fun o z => k it (by simp) o z⟩
  item := by
    intro X hP hw hK s hc i pins σ H E I hf Z hg
    subst hP hw hK
    obtain ⟨xs, x, qa, gx⟩ := hg
    obtain ⟨its, rv, p, _⟩ := I.list qa
    obtain ⟨u, hu, ru⟩ := rv.get gx
    obtain ⟨⟨old, he⟩, j⟩ := Z
    refine wpAny_pyNext_enum_item he j p.isList (x := u) (by simpa using hu) n fun h1 a1 a2 a3 a4 kp => ?_
    refine ⟨_, rfl, wpAny_letOwnedTupleGo_enum a1 fun h2 b1 sb => ?_⟩
    have lz := Heap.lt_size he
    have nT := I.hok.fresh (Nat.le_refl s.heap.objs.size)
    have T2 := sb.extBut _ _ (Nat.ne_of_gt lz) a3
    have I1 : Inv X pins σ (upd H s.heap.objs.size (.tup [.int i, x])) { s with heap := h2, toks := s.toks + 1 } := I.turnsLaid (W := [e, it]) (t' := s.toks + 1) (T := s.heap.objs.size) (o := .tup [.int i, x]) hf
      (fun c o hc z => by
        simp only [List.mem_cons, List.not_mem_nil, or_false, not_or] at hc
        exact sb.extBut _ _ hc.1 (kp c o hc.1 hc.2 z)) (Nat.le_refl _) ⟨by show 2 ≤ sizeLine; decide, [.int i s.toks, u], .cons ⟨_, rfl⟩ (.cons ru .nil), ⟨_, T2, rfl, _, rfl⟩⟩
    refine ⟨.ref s.heap.objs.size, _, I1, rfl, ⟨_, x, rfl, nT, rfl, fun zs hq => by rw [I.list_inj hq qa]; exact gx⟩, ⟨⟨u, ?_⟩, a2.extBut sb.extBut (Ne.symm n)⟩, fun c hc => ?_⟩
    · exact b1
    · have lt : c < s.heap.objs.size := by
        simp only [List.mem_cons, List.not_mem_nil, or_false] at hc
        obtain ⟨o1, f1, _⟩ := j
        rcases hc with rfl | rfl
        · exact lz
        · exact Heap.lt_size f1
      rw [upd_ne (Nat.ne_of_lt lt)]
      exact (hf c hc).1
  done := by
    intro X hP hw hK s hc i pins σ H E I hf Z hg
    subst hP hw hK
    obtain ⟨xs, qa, hx⟩ := hg
    obtain ⟨its, rv, p, _⟩ := I.list qa
    obtain ⟨⟨old, he⟩, j⟩ := Z
    have l1 := rv.length
    refine wpAny_pyNext_enum_end hc.none he j p.isList (by simp; omega) fun h' kp => ⟨rfl, I.turns (t' := s.toks) (W := [e, it]) hf fun c o hc z => kp c o (fun q => hc (by simp [q])) z⟩
  self := fun _ _ s _ _ st h => by
    obtain ⟨⟨old, he⟩, _⟩ := st
    exact wpAny_pyIter_enum he h
def iEnum (K : PySem.W.Frag) (ta : TA) : TI := fun σ H R => ta σ H fun vs H1 => ∃ a xs, vs = [.ref a] ∧ SqL K H1 a xs ∧ R (Ite K a) H1
theorem pi_enum {X : Cx} {elts : List Expr} {x1} {tp : Pos} {a : Expr} {ta : TA} {p pos : Pos} (hg : Gl X "enumerate") (hm : X.mg "enumerate" = none) (ha : PA X [a] ta) (hs : starEach [a] X.env = [(false, eval a X.env)] := by rfl) :
    PI X (.Tuple elts x1 tp) (.Call (.Name "enumerate" p) [a] [] pos) (iEnum X.K ta) := by
  intro pins s σ H R I h
  refine Call_ (ld_blt I hg hm boot_enumerate (PyProof.Rows.callWith_type1 (thn (ha pos pins s σ H _ I h) fun us s1 ⟨vs, H1, I1, r1, q1⟩ => ?_) hs rfl))
  obtain ⟨a, xs, e, qa, q⟩ := q1
  subst e
  cases r1 with
  | cons r rr =>
    cases rr
    cases r
    obtain ⟨its, rv, p, _⟩ := I1.list qa
    refine call_enumerate_list p.isList fun h' z1 z2 z3 kp => wpAny_pyIter_enum z1 ?_
    refine ⟨_, [_, s1.heap.objs.size], _, _, H1, rfl, I1.kept (t' := s1.toks) kp, turn_enum (by simp), ⟨⟨_, z1⟩, z2⟩, fun c hc => ?_, q⟩
    have le : s1.heap.objs.size ≤ c := by
      simp only [List.mem_cons, List.not_mem_nil, or_false] at hc
      rcases hc with rfl | rfl <;> omega
    exact I1.fpOk le (I1.hok.fresh le)
theorem for_enum {K : PySem.W.Frag} {a : Addr} {xs : List V} {g : TG} {tb : TS} {D : Ends} {σ : St} {H : Hp} (Pv : Nat → St → Hp → Prop) (h0 : Pv 0 σ H) (hl : ∀ i σ H, Pv i σ H → SqL K H a xs)
    (hs : ∀ i x t σ H, xs[i]? = some x → Pv i σ H → H t = none → g (.ref t) σ (upd H t (.tup [.int i, x])) fun σ2 H2 => tb { D with nx := Pv (i + 1), ct := Pv (i + 1), bk := D.nx } σ2 H2) (hd : ∀ σ H, Pv xs.length σ H → D.nx σ H) :
    ∃ W : Nat → Nat → St → Hp → Prop, (∃ m, W 0 m σ H) ∧ ∀ i m σ H, W i m σ H →
      ((Ite K a).stop i H ∧ D.nx σ H) ∨ ((Ite K a).go i H ∧ ∃ N : St → Hp → Prop, (∀ σ' H', N σ' H' → ∃ m', m' < m ∧ W (i + 1) m' σ' H') ∧ ∀ x H', (Ite K a).yld i H x H' → g x σ H' fun σ2 H2 => tb { D with nx := N, ct := N, bk := D.nx } σ2 H2) := by
  refine ⟨fun i m σ H => m = xs.length - i ∧ i ≤ xs.length ∧ Pv i σ H, ⟨xs.length, by simp, Nat.zero_le _, h0⟩, ?_⟩
  rintro i m σ H ⟨rfl, li, p⟩
  have q1 := hl i σ H p
  by_cases hlt : i < xs.length
  · refine .inr ⟨⟨xs, xs[i]'hlt, q1, by simp [hlt]⟩, Pv (i + 1), fun σ' H' p' => ⟨xs.length - (i + 1), by omega, rfl, hlt, p'⟩, fun x H' y => ?_⟩
    obtain ⟨t, u, rfl, ht, rfl, hx⟩ := y
    exact hs i u t σ H (hx xs q1) p ht
  · have e : i = xs.length := by omega
    subst e
    exact .inl ⟨⟨xs, q1, Nat.le_refl _⟩, hd σ H p⟩
end L2
set_option maxHeartbeats 1000000
/-! ### a lambda x: x[G], called -/
namespace L2
open PySem PySem.Spec PySem.Calls PySem.W PyProof.Rows
section
variable {prog : Program} {w : World} {A : Around} {E : Value → Shared → Prop} {s : Shared}
/-- the scope of lambda x: .. G .. -/
structure LamSc (scope : Scope) (x : Str) : Prop where
  co : scope.isCoroutine = false
  gen : scope.isGenerator = false
  fn : scope.kind = .function
  nocell : ∀ y ∈ scope.names, y.2 ≠ .cell
  loc : scope.names.lookup x = some .local
theorem lam_item {f q c' : Addr} {qual x G : Str} {params : Arguments} {scope : Scope} {pm ctv : Value} {items : Array Value} {i k : Int} {j : Nat} {t tg : Tok} {p1 p2 p3 : Pos} {mg : Str → Option Value} {Q : Value → Shared → Prop}
    (hroom : A.depth < recursionLimit) (hlim : s.heap.NoLimit)
    (hf : s.heap.get? f = some (kla_obj "<lambda>" qual params (.Subscript (.Name x p1) (.Name G p2) p3) scope [] pm c' ctv)) (hcd : s.heap.CodeRec (.ref c') qual)
    (hbind : bindArgs (kla_fn "<lambda>" qual params (.Subscript (.Name x p1) (.Name G p2) p3) scope [] pm (.ref c') ctv) ⟨[.ref q], []⟩ = pure [(x, .ref q)])
    (S : LamSc scope x) (hxk : ∀ L a cd, (envX qual scope L a cd []).kindOf x = some .local) (hGk : ∀ L a cd, (envX qual scope L a cd []).kindOf G = some .globalImplicit)
    (hdx : (x == ("__debug__" : Str)) = false) (hdG : (G == ("__debug__" : Str)) = false)
    (hG : s.heap.Ns mainGlobals mg) (hg : mg G = some (.int i tg)) (hq : IsTup s.heap q items) (hlo : -(2 ^ 63) ≤ i) (hhi : i < 2 ^ 63) (hj : seqIndex? i items.size = some j) (hx : items[j]? = some (.int k t))
    (h : ∀ h' tk, (∀ b o, s.heap.get? b = some o → h'.get? b = some o) → Q (.int k t) { s with heap := h', toks := tk }) : wpAny (model prog w) A (call (.ref f) [.ref q]) Q E s := by
  refine wpAny_call ?_
  refine kla_callFunE hroom hf rfl S.co S.gen rfl hcd ?_
  rw [hbind]
  refine wpAny_pure (wpAny_newFunctionEnv S.nocell (fun y hy => by
    obtain rfl : y = (x, .ref q) := by simpa using hy
    exact S.loc) (fun h₁ hns hsb => ⟨hlim.fresh _ hsb, ?_⟩) S.fn)
  show codeAny _ _ (.expr (.Subscript (.Name x p1) (.Name G p2) p3) (envX qual scope s.heap.objs.size f (.ref c') [])) _ _
  have hk₁ : ∀ b o, s.heap.get? b = some o → h₁.get? b = some o := fun b o e => hsb.extBut b o (Nat.ne_of_lt (Heap.lt_size e)) (Heap.get?_push_of_some _ e)
  refine kla_codeExpr ?_
  refine Subscript_ ?_
  refine wpAny_Name (wpAny_loadName_local (v := .ref q) S.fn (hxk _ _ _) hns (by simp) ?_) hdx
  refine Name_function_global S.fn (hGk _ _ _) (loadGlobal_global (hG.keeps hk₁) hg ?_) hdG
  exact item_tuple (hq.keeps hk₁) hlo hhi hj hx (h h₁ _ hk₁)
end
end L2
set_option maxHeartbeats 1000000
/-! ### sorted by a key -/
namespace L2
open PySem PySem.Spec PySem.Calls PySem.W PyProof.Rows
section
variable {X : Cx} {pins : List (Addr × Obj)} {σ : St} {H : Hp} {s : Shared}
theorem obj_some {P : Program} {w : World} {H : Hp} {h : Heap} {a : Addr} {o : HO} (x : ObjOk P w H h a o) : ∃ u, h.get? a = some u := by
  cases o with
  | lst xs => obtain ⟨_, _, _, _, e⟩ := x; exact ⟨_, e⟩
  | tup xs => obtain ⟨_, _, _, u, e, _⟩ := x; exact ⟨_, e⟩
  | dK kvs => obtain ⟨_, _, _, _, u, _, _, e, _⟩ := x; exact ⟨_, e⟩
  | dT kvs => obtain ⟨_, _, _, _, u, _, _, e, _⟩ := x; exact ⟨_, e⟩
  | set S n => obtain ⟨u, _, _, _, e, _⟩ := x; exact ⟨_, e⟩
  | ins C dx fs => obtain ⟨_, _, _, e, _⟩ := x; exact ⟨_, e⟩
  | own y => obtain ⟨_, e⟩ := x; exact ⟨_, e⟩
  | xd fs => obtain ⟨_, ⟨_, _, _, e, _⟩, _⟩ := x; exact ⟨_, e⟩
  | rng lo hi => obtain ⟨_, _, _, e⟩ := x; exact ⟨_, e⟩
  | frz ob u => obtain ⟨e, _⟩ := x; exact ⟨_, e⟩
  | tbl ps => exact ⟨_, show h.get? a = some _ from x⟩
  | met f y => exact ⟨_, show h.get? a = some _ from x⟩
  | ext φ => obtain ⟨_, ⟨_, e⟩, _⟩ := x; exact ⟨_, e⟩
/-- the values, and what they are told to be -/
theorem perm_vals {vs : List Value} {ys : List V} {rs : List S4} {ps : List (Int × Value)} (r : Vals ys vs) (t : TupsAt H ys (rs.map tv)) (hp : ps.Perm ((rs.map (·.1)).zip vs)) :
    ∃ (ys' : List V) (rs' : List S4), Vals ys' (ps.map Prod.snd) ∧ TupsAt H ys' (rs'.map tv) ∧ rs'.Perm rs ∧ ps.map Prod.fst = rs'.map (·.1) := by
  -- triples
  have key : ∀ (ps qs : List (Int × Value)), ps.Perm qs → ∀ (ys : List V) (rs : List S4), Vals ys (qs.map Prod.snd) → TupsAt H ys (rs.map tv) → qs.map Prod.fst = rs.map (·.1) →
      ∃ (ys' : List V) (rs' : List S4), Vals ys' (ps.map Prod.snd) ∧ TupsAt H ys' (rs'.map tv) ∧ rs'.Perm rs ∧ ps.map Prod.fst = rs'.map (·.1) := by
    intro ps qs hp
    induction hp with
    | nil =>
      intro ys rs r t e
      exact ⟨ys, rs, r, t, List.Perm.refl _, e⟩
    | cons x hp ih =>
      intro ys rs r t e
      rename_i l1 l2
      cases ys with
      | nil => cases r
      | cons y ys =>
        cases rs with
        | nil => cases e
        | cons q rs =>
          cases r with
          | cons r0 r =>
            rw [List.map_cons, List.map_cons] at e
            injection e with e0 e
            obtain ⟨ys', rs', h1, h2, h3, h4⟩ := ih ys rs r t.2 e
            exact ⟨y :: ys', q :: rs', .cons r0 h1, ⟨t.1, h2⟩, h3.cons q, by rw [List.map_cons, List.map_cons, h4, e0]⟩
    | swap x y l =>
      intro ys rs r t e
      match ys, rs, r, t, e with
      | y0 :: y1 :: ys, q0 :: q1 :: rs, .cons r0 (.cons r1 r), ⟨t0, t1, t⟩, e =>
        rw [List.map_cons, List.map_cons, List.map_cons, List.map_cons] at e
        injection e with e0 e
        injection e with e1 e
        exact ⟨y1 :: y0 :: ys, q1 :: q0 :: rs, .cons r1 (.cons r0 r), ⟨t1, t0, t⟩, List.Perm.swap _ _ _, by rw [List.map_cons, List.map_cons, List.map_cons, List.map_cons, e0, e1, e]⟩
      | [], _, r, _, _ => cases r
      | [_], _, .cons _ r, _, _ => cases r
      | _ :: _ :: _, [], _, t, _ => exact t.elim
      | _ :: _ :: _, [_], _, t, _ => exact t.2.elim
    | trans h1 h2 ih1 ih2 =>
      intro ys rs r t e
      obtain ⟨ys2, rs2, a1, a2, a3, a4⟩ := ih2 ys rs r t e
      obtain ⟨ys3, rs3, b1, b2, b3, b4⟩ := ih1 ys2 rs2 a1 a2 a4
      exact ⟨ys3, rs3, b1, b2, b3.trans a3, b4⟩
  have ll : (rs.map (·.1)).length = vs.length := by
    rw [List.length_map, ← row_len t, r.length]
  refine key ps _ hp ys rs ?_ t ?_
  · rw [List.map_snd_zip (by omega)]
    exact r
  · rw [List.map_fst_zip (by omega)]
theorem call_sortKey {f c' : Addr} {qual x G : Str} {params : Arguments} {scope : Scope} {pm ctv : Value} {tg : Tok} {p1 p2 p3 : Pos} {l : Addr} {ys : List V} {rs : List S4} {Q : VK} (I : Inv X pins σ H s) (hr : Room 1 X.A)
    (hf : s.heap.get? f = some (kla_obj "<lambda>" qual params (.Subscript (.Name x p1) (.Name G p2) p3) scope [] pm c' ctv)) (hfL : f ≠ X.env.locals) (hcL : c' ≠ X.env.locals) (hcd : s.heap.CodeRec (.ref c') qual)
    (hbind : ∀ q, bindArgs (kla_fn "<lambda>" qual params (.Subscript (.Name x p1) (.Name G p2) p3) scope [] pm (.ref c') ctv) ⟨[.ref q], []⟩ = pure [(x, .ref q)])
    (S : LamSc scope x) (hxk : ∀ L a cd, (envX qual scope L a cd []).kindOf x = some .local) (hGk : ∀ L a cd, (envX qual scope L a cd []).kindOf G = some .globalImplicit)
    (hdx : (x == ("__debug__" : Str)) = false) (hdG : (G == ("__debug__" : Str)) = false) (hg : X.mg G = some (.int 0 tg))
    (hl : H l = some (.lst ys)) (ht : TupsAt H ys (rs.map tv)) (h64 : rs.length < 64)
    (q : ∀ (D : Addr) (ys' : List V) (rs' : List S4), TupsAt H ys' (rs'.map tv) → rs'.Perm rs → rs'.Pairwise (fun a b => a.1 ≤ b.1) → H D = none → Q (.ref D) (upd H D (.lst ys'))) :
    wpAny (model X.prog X.w) X.A (call (.builtin "sorted") [.ref l] [(Str.ofString "key", .ref f)]) (EP X pins σ Q) X.xe s := by
  obtain ⟨m, F⟩ := I.fr
  obtain ⟨its, rv, pl, hz⟩ := I.list (SqL.of (K := X.K) hl)
  have N := news_all (g := X.base) (h := s.heap) (L := X.env.locals)
  have ly := row_len ht
  have lv := rv.length
  have kept : ∀ {h : Heap} {own : List (Addr × Obj)}, Fr X.base X.env.locals h m → News X.base X.env.locals h (allNews X.base s.heap X.env.locals ++ own) → ∀ b o, b ≠ X.env.locals → s.heap.get? b = some o → h.get? b = some o := fun {h own} F' N' b o hb e => by
    cases qb : X.base.get? b with
    | some u =>
      have := I.bk b u qb
      rw [e] at this
      cases this
      exact F'.keep b _ qb
    | none => exact (N' (b, o) (List.mem_append_left _ (mem_allNews hb qb e))).1
  refine ksk_sorted (kz := rs.map (·.1)) (f := .ref f) (b := false) F N pl.isList (by rw [List.length_map]; omega) (by omega) (ksk_s1 _ _) (fun x => ksk_l1 _ _) (fun x => ksk_t1 f x) ?turn ?done
  case turn =>
    intro i v k hv hk h tk own F' N'
    have kp := kept F' N'
    obtain ⟨y, ey, ry⟩ : ∃ y, ys[i]? = some y ∧ RelV y v := by
      have hi : i < its.length := (List.getElem?_eq_some_iff.mp hv).1
      obtain ⟨u, eu, ru⟩ := rv.get (i := i) (x := ys[i]'(by omega)) (by simp)
      rw [hv] at eu
      cases eu
      exact ⟨_, by simp, ru⟩
    obtain ⟨r, q0, hr0, rfl, hq⟩ := row_get ht ey
    cases ry
    rw [List.getElem?_map, hr0] at hk
    cases hk
    obtain ⟨jts, rw', pt, _⟩ := I.tuple (SqT.of (K := X.K) hq)
    have nq : q0 ≠ X.env.locals := fun e => by
      have := I.free
      rw [← e, hq] at this
      cases this
    obtain ⟨o, eo, rest⟩ := id pt
    have pt' : IsTup h q0 jts.toArray := ⟨o, kp _ _ nq eo, rest⟩
    have l4 := rw'.length
    obtain ⟨u0, eu0, ru0⟩ := rw'.get (i := 0) (x := .int r.1) rfl
    obtain ⟨t0, rfl⟩ := ru0
    have cd : h.CodeRec (.ref c') qual := by
      obtain ⟨c2, oc, vs2, t2, e2, g2, d2⟩ := hcd
      cases e2
      exact ⟨c', oc, vs2, t2, rfl, kp _ _ hcL g2, d2⟩
    refine lam_item (s := { s with heap := h, toks := tk }) (q := q0) (i := 0) (j := 0) (t := t0) (mg := X.mg) ?_ (I.ok.mod.nolimit.keeps F'.keep) (kp _ _ hfL hf) cd (hbind q0) S hxk hGk hdx hdG (I.mod.glob.keeps F'.keep) hg pt' (by decide) (by decide) ?_ (by simpa using eu0) fun h' tk' hk' => ?_
    · have := hr.dp
      show X.A.depth < recursionLimit
      omega
    · have : (tv r).length = 4 := rfl
      rw [List.size_toArray, ← l4, this]
      rfl
    · exact KskEnd.intro (s₁ := { s with heap := h, toks := tk }) ⟨F'.ns.keeps hk', fun b o e => hk' b o (F'.keep b o e), F'.above⟩ (N'.grown hk') fun p hp => hp
  case done =>
    intro D h' tk out c F' N' lt ho
    obtain ⟨ps, hp, ho, hs⟩ := ho
    obtain ⟨ys', rs', r1, t1, p1, e1⟩ := perm_vals (H := H) rv ht hp
    have ND := N' (D, seqObj "list" out c) (List.mem_cons_self ..)
    have kp := kept (own := []) F' (fun p hp => N' p (List.mem_cons_of_mem _ (by simpa using hp)))
    have nD : ∀ b o, s.heap.get? b = some o → b ≠ D := fun b o e z => by
      by_cases hb : b = X.env.locals
      · exact ND.2.1 (by rw [← z, hb])
      · cases qb : X.base.get? b with
        | some u => rw [z, ND.2.2] at qb; cases qb
        | none =>
          have this : b < D := lt (b, o) (mem_allNews hb qb e)
          exact absurd (z ▸ this) (Nat.lt_irrefl _)
    have HD : H D = none := by
      cases qd : H D with
      | none => rfl
      | some u =>
        obtain ⟨o, eo⟩ := obj_some (I.hok D u qd)
        exact absurd rfl (nD D o eo)
    have nh : ∀ b u, H b = some u → b ≠ D := fun b u e z => by
      rw [z, HD] at e
      cases e
    have nL : ∀ b u, H b = some u → b ≠ X.env.locals := fun b u e z => by
      have := I.free
      rw [← z, e] at this
      cases this
    refine ⟨.ref D, upd H D (.lst ys'), ?_, rfl, q D ys' rs' t1 p1 ?_ HD⟩
    rotate_left
    · have : (ps.map Prod.fst).Pairwise (· ≤ ·) := by
        rw [List.pairwise_map]
        exact hs.imp fun h => by simpa using h
      rw [e1, List.pairwise_map] at this
      exact this
    refine I.step (g' := s.gens) (d' := s.drawn) (t' := tk) (ch := []) (fun b hb => nomatch hb) (fun b o hL _ _ e _ => kp b o hL e) (fun b o hL _ _ e _ => ⟨o.slots, kp b o hL e⟩) (fun b o _ e n => by rw [upd_ne (nD b o e)]; exact n) (fun b o _ e => ?_)
      (fun b xs e => by rw [upd_ne (nh b _ e)]; exact e) (fun b o u e => by rw [upd_ne (nh b _ e)]; exact e) (fun b ps e => ⟨#[], by rw [upd_ne (nh b _ e), e]; simp⟩) (fun m' hm => ?_) (fun b u e => ?_) I.bare
    · by_cases hb : b = X.env.locals
      · subst hb
        obtain ⟨o', _, _, ho', _⟩ := F'.ns
        exact ⟨o', ho'⟩
      · exact ⟨o, kp b o hb e⟩
    · have : m' = m := hm.eq_nsMap.trans F.ns.eq_nsMap.symm
      rw [this]
      exact F'.ns
    · by_cases hb : b = D
      · subst hb
        rw [upd_same] at e
        cases e
        refine ⟨?_, out.toList, c, by rw [ho]; exact r1, ?_⟩
        · have := row_len t1
          have := p1.length_eq
          have := PySem.sizeLine_eq
          omega
        · have := ND.1
          simpa [seqObj] using this
      · rw [upd_ne hb] at e
        refine (I.hok b u e).stay (fun c v hc qc => kp c v ?_ qc) (fun c qc => by rw [upd_ne (nh c _ qc)]; exact qc) fun c xs qc => by rw [upd_ne (nh c _ qc)]; exact qc
        rcases hc with z | z
        · rw [z]; exact nL b u e
        · exact nL c _ z
end
end L2
/-! ### min and max of a list of ints, with default= -/
namespace L2
open PySem PySem.Spec PyProof.Rows
section
variable {prog : Program} {w : World} {A : Around} {I : Addr} {fp wr : List Addr} {n : Nat} {P : Nat → Value → Prop} {St : Nat → Heap → Prop} {R : Result → Shared → Prop}
end
end L2
/-! ### min(l, default=d), max(l, default=d), l a list of ints -/
namespace L2
open PySem PySem.Spec PyProof.Rows
section
variable {prog : Program} {w : World} {A : Around} {E : Value → Shared → Prop} {s : Shared}
end
section
variable {prog : Program} {w : World} {A : Around} {E : Value → Shared → Prop} {s : Shared}
end
section
variable {prog : Program} {w : World} {A : Around} {E : Value → Shared → Prop} {s : Shared}
end
end L2
namespace L2
open PySem PySem.Spec PyProof.Rows
section
variable {X : Cx} {e v : Expr} {te tv : TE}
end
end L2
set_option maxHeartbeats 1000000
/-! ### sorted(e, key=lambda x: x[G]) -/
namespace L2
open PySem PySem.Spec PySem.Calls PySem.W PyProof.Rows
/-- the table of a code object, as it stands -/
def tabφ (P : Addr) (ps : Array Value) : Heap → Prop := fun h => h.get? P = some (tabObj ps)
def codφ (c : Addr) (qual : Str) : Heap → Prop := fun h => h.CodeRec (.ref c) qual
def TabS (H : Hp) (P : Addr) (pos : Pos) (qual : Str) : Prop := ∃ ps, H P = some (.ext (tabφ P ps)) ∧ TriplesOk ps.toList ∧ (codeAmong pos ps.toList = none ∨ ∃ c', codeAmong pos ps.toList = some (.ref c') ∧ H c' = some (.ext (codφ c' qual)))
/-- all but at P as it was -/
def SxP (P : Addr) (H H' : Hp) : Prop := ∀ b o, b ≠ P → H b = some o → H' b = some o
theorem SxP.refl (P : Addr) (H : Hp) : SxP P H H := fun _ _ _ e => e
theorem SxP.trans {P : Addr} {H H1 H2 : Hp} (a : SxP P H H1) (b : SxP P H1 H2) : SxP P H H2 := fun c o n e => b c o n (a c o n e)
theorem Same.sxP {P : Addr} {H H' : Hp} (s : Same H H') : SxP P H H' := fun b o _ e => s b o e
structure BltIn (base : Heap) (mg : Str → Option Value) : Prop where
  ex : ∃ bm o, mg "__builtins__" = some (.ref bm) ∧ bm ≠ builtinsNs ∧ bm ≠ mainGlobals ∧ base.get? bm = some o ∧ o.cls = .type "module" ∧ o.dict = some builtinsNs ∧ o.data = .plain
section
variable {X : Cx} {pins : List (Addr × Obj)} {σ : St} {H : Hp} {s : Shared}
theorem ext_ok {P : Program} {w : World} {H : Hp} {h : Heap} {a : Addr} {φ : Heap → Prop} (x : ObjOk P w H h a (.ext φ)) : φ h := x.1
theorem triples_snoc : ∀ {l : List Value} {a b : Int} {t u : Tok} {c : Value}, TriplesOk l → TriplesOk (l ++ [.int a t, .int b u, c])
  | [], _, _, _, _, _, _ => trivial
  | .int _ _ :: .int _ _ :: _ :: rest, _, _, _, _, _, h => triples_snoc (l := rest) h
theorem mk_lam {c P : Addr} {qual : Str} {params : Arguments} {body : Expr} {scope : Scope} {pos : Pos} {Q : Value → Shared → Prop} (I : Inv X pins σ H s) (hcode : X.env.code = .ref c) (C : CodeHd X.base c P) (B : BltIn X.base X.mg) (t : TabS H P pos qual)
    (hcl : closureFor scope X.env = pure [])
    (h : ∀ f c' pm ctv s' H', Inv X pins σ H' s' → SxP P H H' → TabS H' P pos qual → s'.heap.get? f = some (kla_obj "<lambda>" qual params body scope [] pm c' ctv) → s'.heap.CodeRec (.ref c') qual → f ≠ X.env.locals → c' ≠ X.env.locals → Q (.ref f) s') :
    wpAny (model X.prog X.w) X.A (makeFunction "<lambda>" qual params (.expr body) scope X.env [] [] [] pos pos.line) Q X.xe s := by
  obtain ⟨ps, hP, tr, hc⟩ := t
  have eP : s.heap.get? P = some (tabObj ps) := ext_ok (I.hok P _ hP)
  have nB : ∀ b o, X.base.get? b = some o → b ≠ P := fun b o e z => by
    have := (I.bs b o e).2
    rw [z, hP] at this
    cases this
  have hgs := I.mod.glob.keeps I.bk
  have gP : mainGlobals ≠ P := by
    obtain ⟨o, _, _, e, _⟩ := I.mod.glob
    exact nB _ o e
  have BA : s.heap.BuiltinsAt X.mg P := by
    obtain ⟨bm, o, b1, b2, b3, b4, b5, b6, b7⟩ := B.ex
    exact ⟨bm, o, b1, b2, b3, nB bm o b4, I.bk _ _ b4, b5, b6, b7⟩
  have nL : ∀ b u, H b = some u → b ≠ X.env.locals := fun b u e z => by
    have := I.free
    rw [← z, e] at this
    cases this
  rcases hc with hc | ⟨c', hc, hc'⟩
  · refine kla_makeFunction (mg := X.mg) hcl I.ok.glob hgs hcode (C.keeps I.bk) eP tr hc gP BA fun c' ctv h' tk hx hge hlt hrec htb => ?_
    have kp : ∀ b o, b ≠ P → s.heap.get? b = some o → (h'.push (kla_obj "<lambda>" qual params body scope [] ((X.mg "__name__").getD .none) c' ctv)).get? b = some o := fun b o hb e => Heap.get?_push_of_some _ (hx b o hb e)
    have nc : ∀ b o, s.heap.get? b = some o → b ≠ c' := fun b o e z => absurd (Nat.lt_of_lt_of_le (Heap.lt_size e) (z ▸ hge)) (Nat.lt_irrefl _)
    have Hc : H c' = none := I.hok.fresh hge
    have ncP : c' ≠ P := fun z => nc P _ eP z.symm
    have rec' : (h'.push (kla_obj "<lambda>" qual params body scope [] ((X.mg "__name__").getD .none) c' ctv)).CodeRec (.ref c') qual := hrec.push _
    have lt := I.lt
    have ntb : (h'.push (kla_obj "<lambda>" qual params body scope [] ((X.mg "__name__").getD .none) c' ctv)).get? P = some (tabObj (ps ++ #[rawInt pos.line, rawInt pos.col, .ref c'])) := Heap.get?_push_of_some _ htb
    refine h h'.objs.size c' _ ctv _ (upd (upd H P (.ext (tabφ P (ps ++ #[rawInt pos.line, rawInt pos.col, .ref c'])))) c' (.ext (codφ c' qual))) ?_ ?_ ?_ (Heap.get?_push_size _ rfl) rec' ?_ ?_
    · have up : ∀ b u, b ≠ P → H b = some u → upd (upd H P (.ext (tabφ P (ps ++ #[rawInt pos.line, rawInt pos.col, .ref c'])))) c' (.ext (codφ c' qual)) b = some u := fun b u hb e => by
        have : b ≠ c' := fun z => by rw [z, Hc] at e; cases e
        rw [upd_ne this, upd_ne hb]
        exact e
      have nPt : ∀ b u, H b = some u → (∀ φ, u ≠ .ext φ) → b ≠ P := fun b u e ne z => by
        rw [z, hP] at e
        cases e
        exact ne _ rfl
      refine I.step (g' := s.gens) (d' := s.drawn) (t' := tk) (ch := []) (fun b hb => nomatch hb) (fun b o hL _ _ e n => kp b o (fun z => by rw [z, hP] at n; cases n) e) (fun b o hL _ _ e n => ⟨o.slots, kp b o (fun z => by rw [z, hP] at n; cases n) e⟩)
        (fun b o _ e n => ?_) (fun b o _ e => ?_) (fun b xs e => up b _ (nPt b _ e fun φ z => by cases z) e) (fun b o u e => up b _ (nPt b _ e fun φ z => by cases z) e) (fun b ps e => ⟨#[], by rw [up b _ (nPt b _ e fun φ z => by cases z) e]; simp⟩) (fun m hm => hm.at fun o e => kp _ o (fun z => nL P _ hP z.symm) e) (fun b u e => ?_) I.bare
      · rw [upd_ne (nc b o e), upd_ne (fun z => by rw [z, hP] at n; cases n)]
        exact n
      · by_cases hb : b = P
        · subst hb
          exact ⟨_, ntb⟩
        · exact ⟨o, kp b o hb e⟩
      · by_cases hb : b = c'
        · subst hb
          rw [upd_same] at e
          cases e
          obtain ⟨c2, oc, vs2, t2, e2, g2, d2⟩ := id rec'
          cases e2
          refine ⟨rec', ⟨oc, g2⟩, fun h1 h2 x1 k2 => ?_⟩
          obtain ⟨c3, oc3, vs3, t3, e3, g3, d3⟩ := x1
          cases e3
          exact ⟨_, oc3, vs3, t3, rfl, k2 _ g3, d3⟩
        · by_cases hbP : b = P
          · subst hbP
            rw [upd_ne hb, upd_same] at e
            cases e
            exact ⟨ntb, ⟨_, ntb⟩, fun h1 h2 x1 k2 => k2 _ x1⟩
          · rw [upd_ne hb, upd_ne hbP] at e
            refine (I.hok b u e).stay (fun c v hc qc => kp c v ?_ qc) (fun c qc => up c _ (nPt c _ qc fun φ z => by cases z) qc) fun c xs qc => up c _ (nPt c _ qc fun φ z => by cases z) qc
            rcases hc with z | z
            · rw [z]; exact hbP
            · exact nPt c _ z fun φ z => by cases z
    · intro b o hb e
      have : b ≠ c' := fun z => by rw [z, Hc] at e; cases e
      rw [upd_ne this, upd_ne hb]
      exact e
    · refine ⟨_, by rw [upd_ne (Ne.symm ncP), upd_same], ?_, .inr ⟨c', ?_, upd_same⟩⟩
      · rw [Array.toList_append]
        exact triples_snoc tr
      · rw [Array.toList_append]
        exact codeAmong_snoc _ tr hc
    · exact Nat.ne_of_gt (Nat.lt_trans (Nat.lt_of_lt_of_le lt hge) hlt)
    · exact Nat.ne_of_gt (Nat.lt_of_lt_of_le lt hge)
  · have cr : s.heap.CodeRec (.ref c') qual := ext_ok (I.hok c' _ hc')
    refine kla_makeFunctionHit (mg := X.mg) hcl I.ok.glob hgs hcode (C.keeps I.bk) eP tr hc BA fun ctv h' tk hk hsz => ?_
    refine h h'.objs.size c' _ ctv _ H (I.kept fun b o e => Heap.get?_push_of_some _ (hk b o e)) (SxP.refl P H) ⟨ps, hP, tr, .inr ⟨c', hc, hc'⟩⟩ (Heap.get?_push_size _ rfl) ((cr.keeps hk).push _) ?_ (nL c' _ hc')
    exact Nat.ne_of_gt (Nat.lt_of_lt_of_le I.lt hsz)
end
section
variable {X : Cx} {e : Expr} {te : TE}
def tSortKey (P : Addr) (lpos : Pos) (qual : Str) (te : TE) : TE := fun σ H Q => te σ H fun v H1 => ∃ (l : Addr) (ys : List V) (rs : List S4), v = .ref l ∧ H1 l = some (.lst ys) ∧ TupsAt H1 ys (rs.map tv) ∧ rs.length < 64 ∧ TabS H1 P lpos qual ∧
  ∀ (D : Addr) (H2 : Hp) (ys' : List V) (rs' : List S4), SxP P H1 H2 → TabS H2 P lpos qual → H1 D = none → H2 D = some (.lst ys') → TupsAt H2 ys' (rs'.map tv) → rs'.Perm rs → rs'.Pairwise (fun a b => a.1 ≤ b.1) → Q (.ref D) H2
theorem pe_sortKey {c P : Addr} {qual x G : Str} {params : Arguments} {scope : Scope} {tg : Tok} {p1 p2 p3 lpos kp sp1 pos : Pos} (hc : X.calm = true) (hr : Room 1 X.A) (hgs : Gl X "sorted") (hms : X.mg "sorted" = none)
    (hcode : X.env.code = .ref c) (C : CodeHd X.base c P) (B : BltIn X.base X.mg) (hqual : X.env.qual ++ Str.ofString "<lambda>" = qual) (hdef : defaultsOf params X.env = ([], [])) (hcl : closureFor scope X.env = pure [])
    (hbind : ∀ q pm c' ctv, bindArgs (kla_fn "<lambda>" qual params (.Subscript (.Name x p1) (.Name G p2) p3) scope [] pm (.ref c') ctv) ⟨[.ref q], []⟩ = pure [(x, .ref q)])
    (S : LamSc scope x) (hxk : ∀ L a cd, (envX qual scope L a cd []).kindOf x = some .local) (hGk : ∀ L a cd, (envX qual scope L a cd []).kindOf G = some .globalImplicit)
    (hdx : (x == ("__debug__" : Str)) = false) (hdG : (G == ("__debug__" : Str)) = false) (hg : X.mg G = some (.int 0 tg)) (he : PE X e te)
    (h1 : starEach [e] X.env = [(false, eval e X.env)] := by rfl) :
    PE X (.Call (.Name "sorted" sp1) [e] [⟨some "key", .Lambda params (.Subscript (.Name x p1) (.Name G p2) p3) scope lpos, kp⟩] pos) (tSortKey P lpos qual te) := by
  intro pins s σ H Q I h
  refine wpAny_Call_Name_kw (ld_blt I hgs hms boot_sorted ?_)
  refine callWith_kw ?_ (by rw [h1]; rfl) (by rw [h1]; rfl)
  rw [h1]
  show wpAny (model X.prog X.w) _ (spliced ((false, eval e X.env) :: backTo pos (starEach [] X.env))) _ _ s
  refine Calls.spliced_cons (thn (he pins s σ H _ I h) fun u s1 ⟨v, H1, I1, r1, l, ys, rs, ev, hl, ht, h64, tb, q⟩ => Calls.spliced_nil (kws_cons ?_))
  subst ev
  cases r1
  subst hqual
  refine kla_eval hdef (mk_lam I1 hcode C B tb hcl fun f c' pm ctv s2 H2 I2 sx tb2 hf hcd fL cL => kws_nil ?_)
  have nlP : l ≠ P := fun z => by
    obtain ⟨ps, hP, _⟩ := tb
    rw [z, hP] at hl
    cases hl
  have ht2 : TupsAt H2 ys (rs.map tv) := ht.keep fun q0 t0 e0 => sx q0 _ (fun z => by
    obtain ⟨ps, hP, _⟩ := tb
    rw [z, hP] at e0
    cases e0) e0
  refine call_sortKey I2 hr hf fL cL hcd (fun q0 => hbind q0 pm c' ctv) S hxk hGk hdx hdG hg (sx l _ nlP hl) ht2 h64 fun D ys' rs' t' p' w' hD => ?_
  have nDP : ∀ b o, H2 b = some o → b ≠ D := fun b o e0 z => by rw [z, hD] at e0; cases e0
  have sD : Same H2 (upd H2 D (.lst ys')) := same_new hD _
  refine q D _ ys' rs' (sx.trans sD.sxP) ?_ ?_ upd_same (t'.mono sD) p' w'
  · obtain ⟨ps, hP, tr, hcc⟩ := tb2
    refine ⟨ps, sD _ _ hP, tr, hcc.imp id fun ⟨c2, a1, a2⟩ => ⟨c2, a1, sD _ _ a2⟩⟩
  · cases eD : H1 D with
    | none => rfl
    | some o =>
      by_cases z : D = P
      · obtain ⟨ps, hP, _⟩ := tb2
        rw [← z, hD] at hP
        cases hP
      · rw [sx D o z eD] at hD
        cases hD
end
end L2
set_option maxHeartbeats 1000000
/-! ### the head, where defs make lambdas: their tables tracked -/
namespace L2
open PySem PySem.Spec PySem.Calls PySem.W PyProof.Rows
theorem law_callT {P : Program} {w : World} {K : PySem.W.Frag} {mg mb : Str → Option Value} {CX : CXT} {k : Nat} {fa a : Addr} {fd : FuncData} {x : Str} {sp : Sp} {s₁ : Shared} {vs : List Value} {ns : List Int} {tabs : List (Addr × Addr)}
    (KX : K.In s₁.heap) (hns : s₁.heap.Ns mainGlobals mg) (hb : s₁.heap.Ns builtinsNs mb) (hbb : ∀ x : Str, x ≠ "__name__" → mb x = bootBuiltins x) (hlim : s₁.heap.NoLimit) (hg : s₁.gens = #[])
    (ha : s₁.heap.get? a = some { cls := .type "list", data := .seq vs.toArray }) (hi : IntsAre vs ns) (hl : ns.length ≤ sizeLine) (hr : Room k callerA)
    (hbm : ∃ bm ob, mg "__builtins__" = some (.ref bm) ∧ bm ≠ builtinsNs ∧ s₁.heap.get? bm = some ob ∧ ob.cls = .type "module" ∧ ob.dict = some builtinsNs ∧ ob.data = .plain)
    (hT : TabsAt tabs s₁.heap) (hTK : ∀ t ∈ tabs, K.lookup t.2 = none)
    (F : ∀ base : Heap, K.In base → base.Ns mainGlobals mg → (∀ t ∈ tabs, CodeHd base t.1 t.2) → BltIn base mg → FnOk P w K mg base CX k fa fd [x] sp) (hbind : ∀ (s : Shared) (u : Value), BindsTo s fd ⟨[u], []⟩ [(x, u)])
    (hsp : ∀ H : Hp, SqL K H a (ns.map V.int) → (∀ t ∈ tabs, H t.2 = some (.ext (tabφ t.2 #[]))) → sp [.ref a] H (fun v H' => v = .bl true ∧ ∀ t ∈ tabs, ∃ ps, H' t.2 = some (.ext (tabφ t.2 ps))) fun _ _ _ => False)
    (hCX : ∀ H e s', CX [] H s₁ (fun _ _ _ => False) e s' → False) :
    codeAny (model P w) callerA (.call (.ref fa) ⟨[.ref a], []⟩) (fun r s' => r = .ok (.ret (.bool true)) ∧ OldK s₁.heap s'.heap ∧ s'.os = s₁.os ∧ AllBare s'.gens) s₁ := by
  have rv := vals_ints hi
  have lenV := hi.length
  have aT : ∀ t ∈ tabs, t.2 ≠ a := fun t ht z => by
    have := (hT t ht).2
    rw [z, ha] at this
    cases this
  have core : ∀ H : Hp, SqL K H a (ns.map V.int) → HOk P w H s₁.heap → (∀ b, H b = none ∨ (b = a ∧ ∃ xs, H b = some (.frz { cls := .type "list", data := .seq vs.toArray } (.lst xs))) ∨ (∃ t ∈ tabs, b = t.2 ∧ H b = some (.ext (tabφ b #[])))) → (∀ t ∈ tabs, H t.2 = some (.ext (tabφ t.2 #[]))) → (H a ≠ none → K.lookup a = none) →
      codeAny (model P w) callerA (.call (.ref fa) ⟨[.ref a], []⟩) (fun r s' => r = .ok (.ret (.bool true)) ∧ OldK s₁.heap s'.heap ∧ s'.os = s₁.os ∧ AllBare s'.gens) s₁ := by
    intro H hS hok hA hTH hK
    have base_of : ∀ {b : Addr} {o : Obj}, s₁.heap.get? b = some o → H b = none → (hidT s₁.heap H).get? b = some o := fun e n => hidT_get e n
    have noA : ∀ {b : Addr} {o : Obj}, s₁.heap.get? b = some o → o ≠ { cls := .type "list", data := .seq vs.toArray } → o ≠ tabObj #[] → H b = none := fun {b o} e n1 n2 => by
      rcases hA b with z | ⟨z, _⟩ | ⟨t, ht, z, _⟩
      · exact z
      · rw [z, ha] at e
        exact absurd (Option.some.inj e).symm n1
      · rw [z, (hT t ht).2] at e
        exact absurd (Option.some.inj e).symm n2
    have nsK : ∀ {b : Addr} {m : Str → Option Value}, s₁.heap.Ns b m → (hidT s₁.heap H).Ns b m := fun {b m} ⟨o, es, ep, e, d, r⟩ => ⟨o, es, ep, base_of e (noA e (fun z => by rw [z] at d; cases d) (fun z => by rw [z] at d; cases d)), d, r⟩
    have hKb : K.In (hidT s₁.heap H) := fun b o e => base_of (KX b o e) (by
      rcases hA b with z | ⟨z, xs, e2⟩ | ⟨t, ht, z, _⟩
      · exact z
      · subst z
        rw [hK (by rw [e2]; simp)] at e
        cases e
      · rw [z, hTK t ht] at e
        cases e)
    have hM : Mod K mg (hidT s₁.heap H) := ⟨hKb, nsK hns, ⟨mb, nsK hb, hbb⟩, let ⟨mc, h1, h2⟩ := hlim; ⟨mc, nsK h1, h2⟩⟩
    have hC : ∀ t ∈ tabs, CodeHd (hidT s₁.heap H) t.1 t.2 := fun t ht => by
      obtain ⟨o, vs2, file, tf, flags, tg, inF, text, tt, e, c1, r⟩ := (hT t ht).1
      exact ⟨o, vs2, file, tf, flags, tg, inF, text, tt, base_of e (noA e (fun z => by rw [z] at c1; injection c1 with c1; exact absurd c1 (by decide)) (fun z => by rw [z] at c1; cases c1)), c1, r⟩
    have hBl : BltIn (hidT s₁.heap H) mg := by
      obtain ⟨bm, ob, b1, b2, b3, b4, b5, b6⟩ := hbm
      refine ⟨bm, ob, b1, b2, fun z => ?_, base_of b3 (noA b3 (fun z => by rw [z] at b6; cases b6) (fun z => by rw [z] at b6; cases b6)), b4, b5, b6⟩
      obtain ⟨o, es, ep, e, d, r⟩ := hns
      rw [z, e] at b3
      cases b3
      rw [d] at b6
      cases b6
    have e0 : Env0 P w K mg (hidT s₁.heap H) callerA [] s₁ H := ⟨rfl, hM, fun b o e => of_hidT e, Nat.le_of_eq (hidT_size _ _), trivial, fun b hb => absurd (show b ∈ ([] : List Addr) from hb) (by simp), hok, .of_eq hg⟩
    refine codeAny_mono ((F _ hKb (nsK hns) hC hBl).run callerA [] s₁ H ⟨[.ref a], []⟩ [.ref a] [.ref a] _ _ hr e0 (hbind s₁ (.ref a)) (.cons rfl .nil) (hsp H hS hTH)) fun r s' h => ?_
    cases r with
    | error e => exact (hCX H e s' h).elim
    | ok fl =>
      cases fl with
      | next => exact False.elim h
      | brk => exact False.elim h
      | cont => exact False.elim h
      | ret u =>
        obtain ⟨v, H', os, bare, un, hok', r', q⟩ := h
        have q' : v = .bl true ∧ ∀ t ∈ tabs, ∃ ps, H' t.2 = some (.ext (tabφ t.2 ps)) := q
        obtain ⟨rfl, q'⟩ := q'
        obtain rfl : u = Value.bool true := r'
        refine ⟨rfl, ⟨fun b o e => ?_, fun b o e => un.there b o e (by simp)⟩, os, bare⟩
        rcases hA b with z | ⟨z, xs, e2⟩ | ⟨t, ht, z, _⟩
        · exact .inl (un.keep b o e z (by intro y; exact absurd (show b ∈ ([] : List Addr) from y) (by simp)) (by simp))
        · have z2 := un.frzs b _ _ e2
          obtain ⟨e1, _⟩ := hok b _ e2
          obtain ⟨e3, _⟩ := hok' b _ z2
          rw [e] at e1; cases e1
          exact .inl e3
        · subst z
          obtain ⟨ps, hp⟩ := q' t ht
          have e3 : s'.heap.get? t.2 = some (tabObj ps) := ext_ok (hok' _ _ hp)
          have e4 := (hT t ht).2
          rw [e] at e4
          cases e4
          obtain ⟨o, vs2, file, tf, flags, tg, inF, text, tt, e5, c1, d1, v1, _⟩ := (hT t ht).1
          refine .inr (.inl ⟨⟨t.1, o, vs2, e5, c1, d1, v1⟩, rfl, #[], ps, rfl, ?_⟩)
          rw [e3]
          simp
  have tabO : ∀ t ∈ tabs, ∀ H : Hp, ObjOk P w H s₁.heap t.2 (.ext (tabφ t.2 #[])) := fun t ht H => ⟨(hT t ht).2, ⟨_, (hT t ht).2⟩, fun h1 h2 x1 k2 => k2 _ x1⟩
  cases hk : K.lookup a with
  | some o =>
    have e := KX a o hk
    rw [ha] at e
    cases e
    refine core (fun b => if b ∈ tabs.map (·.2) then some (.ext (tabφ b #[])) else none) (.inr ⟨_, vs.toArray, _, hk, rfl, rfl, rfl, by rw [List.size_toArray, lenV]; exact hl, by simpa using rv⟩) (fun b u z => ?_) (fun b => ?_) (fun t ht => if_pos (List.mem_map_of_mem ht)) (fun z => absurd (if_neg fun m => ?_) z)
    · by_cases hm : b ∈ tabs.map (·.2)
      · have z' := (if_pos hm).symm.trans z
        cases z'
        obtain ⟨t, ht, rfl⟩ := List.mem_map.mp hm
        exact tabO t ht _
      · have z' := (if_neg hm).symm.trans z
        cases z'
    · by_cases hm : b ∈ tabs.map (·.2)
      · obtain ⟨t, ht, rfl⟩ := List.mem_map.mp hm
        exact .inr (.inr ⟨t, ht, rfl, if_pos hm⟩)
      · exact .inl (if_neg hm)
    · obtain ⟨t, ht, z⟩ := List.mem_map.mp m
      exact aT t ht z
  | none =>
    refine core (fun b => if b = a then some (.frz { cls := .type "list", data := .seq vs.toArray } (.lst (ns.map V.int))) else if b ∈ tabs.map (·.2) then some (.ext (tabφ b #[])) else none) (.inl (.inr ⟨{ cls := .type "list", data := .seq vs.toArray }, if_pos rfl⟩)) (fun b u z => ?_) (fun b => ?_) (fun t ht => ?_) fun _ => hk
    · by_cases hb : b = a
      · have z' := (if_pos hb).symm.trans z
        cases z'
        subst hb
        exact ⟨ha, by rw [List.length_map]; exact hl, vs, _, rv, ha⟩
      · have z' := (if_neg hb).symm.trans z
        by_cases hm : b ∈ tabs.map (·.2)
        · have z2 := (if_pos hm).symm.trans z'
          cases z2
          obtain ⟨t, ht, rfl⟩ := List.mem_map.mp hm
          exact tabO t ht _
        · have z2 := (if_neg hm).symm.trans z'
          cases z2
    · by_cases hb : b = a
      · exact .inr (.inl ⟨hb, _, if_pos hb⟩)
      · by_cases hm : b ∈ tabs.map (·.2)
        · obtain ⟨t, ht, rfl⟩ := List.mem_map.mp hm
          exact .inr (.inr ⟨t, ht, rfl, (if_neg hb).trans (if_pos hm)⟩)
        · exact .inl ((if_neg hb).trans (if_neg hm))
    · exact (if_neg (aT t ht)).trans (if_pos (List.mem_map_of_mem ht))
theorem walk_tab {l : PySem.W.OpenLaw} {n k : Nat} {q : Program} {loose : List Str} {XP : (Str → Option Value) → Heap → Prop} {YP : World → Heap → Prop} {d : DefRec} {K : Params → PySem.W.Frag} {CX : World → CXT} {sp : World → Sp} {x : Str} {tabs : List (Addr × Addr)}
    (hn : l.most = some n) (hn2 : n ≤ sizeLine) (hdf : d.params.defaults = []) (hr : Room k callerA)
    (hY : ∀ (w : World) (h : Heap), YP w h → (K w.params).In h ∧ TabsAt tabs h) (hTK : ∀ (w : World), ∀ t ∈ tabs, (K w.params).lookup t.2 = none)
    (F : ∀ (w : World) (mg : Str → Option Value) (fa : Addr) (h : Heap), (K w.params).In h → h.Ns mainGlobals mg → mg d.name = some (.ref fa) →
      ∃ fd : FuncData, (∀ (s : Shared) (u : Value), BindsTo s fd ⟨[u], []⟩ [(x, u)]) ∧
        ∀ base : Heap, (K w.params).In base → base.Ns mainGlobals mg → (∀ t ∈ tabs, CodeHd base t.1 t.2) → BltIn base mg → FnOk l.prog w (K w.params) mg base (CX w) k fa fd [x] (sp w))
    (hsp : ∀ (w : World) (H : Hp) (a : Addr) (ns : List Int), ns.length ≤ n → SqL (K w.params) H a (ns.map V.int) → (∀ t ∈ tabs, H t.2 = some (.ext (tabφ t.2 #[]))) → sp w [.ref a] H (fun v H' => v = .bl true ∧ ∀ t ∈ tabs, ∃ ps, H' t.2 = some (.ext (tabφ t.2 ps))) fun _ _ _ => False)
    (hCX : ∀ (w : World) (H : Hp) (s : Shared) (e : Value) (s' : Shared), CX w [] H s (fun _ _ _ => False) e s' → False) :
    PySem.W.WalkO q loose XP YP l.row.toRowW d [] (fun f vs => PySem.call f vs) := by
  refine Att.attach_call hn hdf fun w s₀ s₁ mg mb fa o pm cd doc a vs ns G Y ho hd hcd hmg hobj hints hlen hg => ?_
  have KX := (hY w _ Y).1
  obtain ⟨fd, hb, hF⟩ := F w mg fa _ KX G.T.g hmg
  exact law_callT KX G.T.g G.T.b G.T.builtins G.T.nolimit hg hobj hints (Nat.le_trans hlen hn2) hr G.T.bmain (hY w _ Y).2 (hTK w) hF hb (fun H hS hT => hsp w H a ns hlen hS hT) fun H e s' => hCX w H s₁ e s'
end L2
set_option maxHeartbeats 1000000
/-! ### a lambda x: d[x], d a name of the frame that made it, called by a local name -/
namespace L2
open PySem PySem.Spec PySem.Calls PySem.W PyProof.Rows
/-- what is written of it -/
structure LamT where
  qual : Str
  params : Arguments
  x : Str
  y : Str
  p1 : Pos
  p2 : Pos
  p3 : Pos
  scope : Scope
def LamT.body (t : LamT) : Expr := .Subscript (.Name t.y t.p1) (.Name t.x t.p2) t.p3
structure LamT.Ok (t : LamT) : Prop where
  sc : LamSc t.scope t.x
  hx : ∀ L a cd c, (envX t.qual t.scope L a cd [(t.y, c)]).kindOf t.x = some .local
  hy : ∀ L a cd c, (envX t.qual t.scope L a cd [(t.y, c)]).kindOf t.y = some .free
  bind : ∀ u pm c' ctv c, bindArgs (kla_fn "<lambda>" t.qual t.params t.body t.scope [(t.y, c)] pm (.ref c') ctv) ⟨[u], []⟩ = pure [(t.x, u)]
  dx : (t.x == ("__debug__" : Str)) = false
  dy : (t.y == ("__debug__" : Str)) = false
  cy : (t.y == ("__classdict__" : Str)) = false
  sl : NoSl (.Name t.x t.p2)
def objφ (a : Addr) (o : Obj) : Heap → Prop := fun h => h.get? a = some o
/-- f gives d's values -/
def GetsOf (H : Hp) (f d : Addr) : Prop := ∃ (t : LamT) (c : Addr) (pm : Value) (c' : Addr) (ctv : Value) (oc : Obj), t.Ok ∧
  H f = some (.ext (objφ f (kla_obj "<lambda>" t.qual t.params t.body t.scope [(t.y, c)] pm c' ctv))) ∧ H c' = some (.ext (codφ c' t.qual)) ∧ H c = some (.ext (objφ c oc)) ∧ oc.data = .cell (some (.ref d))
theorem GetsOf.mono {H H' : Hp} {f d : Addr} (g : GetsOf H f d) (s : Same H H') : GetsOf H' f d := by
  obtain ⟨t, c, pm, c', ctv, oc, h1, h2, h3, h4, h5⟩ := g
  exact ⟨t, c, pm, c', ctv, oc, h1, s _ _ h2, s _ _ h3, s _ _ h4, h5⟩
section
variable {X : Cx} {pins : List (Addr × Obj)} {σ : St} {H : Hp} {s : Shared} {A : Around} {E : Value → Shared → Prop}
theorem lam_get {f d : Addr} {u : Value} {y v : V} {Q : Value → Shared → Prop} (I : Inv X pins σ H s) (hr : A.depth < recursionLimit) (hu : A.units + 4 < cLine) (g : GetsOf H f d) (dg : DGet H d y (some v)) (ry : RelV y u)
    (h : ∀ w' s', Inv X pins σ H s' → RelV v w' → Q w' s') : wpAny (model X.prog X.w) A (call (.ref f) [u]) Q E s := by
  obtain ⟨t, c, pm, c', ctv, oc, ok, h2, h3, h4, h5⟩ := g
  have ef : s.heap.get? f = some _ := ext_ok (I.hok f _ h2)
  have ec : s.heap.get? c = some oc := ext_ok (I.hok c _ h4)
  have er : s.heap.CodeRec (.ref c') t.qual := ext_ok (I.hok c' _ h3)
  refine wpAny_call ?_
  refine kla_callFunE hr ef rfl ok.sc.co ok.sc.gen rfl er ?_
  rw [ok.bind]
  refine wpAny_pure (wpAny_newFunctionEnv ok.sc.nocell (fun y hy => by
    obtain rfl : y = (t.x, u) := by simpa using hy
    exact ok.sc.loc) (fun h₁ hns hsb => ⟨I.nolimit.fresh _ hsb, ?_⟩) ok.sc.fn)
  show codeAny _ _ (.expr t.body (envX t.qual t.scope s.heap.objs.size f (.ref c') [(t.y, c)])) _ _
  have hk₁ : ∀ b o, s.heap.get? b = some o → h₁.get? b = some o := fun b o e => hsb.extBut b o (Nat.ne_of_lt (Heap.lt_size e)) (Heap.get?_push_of_some _ e)
  refine kla_codeExpr ?_
  refine subD_of PySem.F.slot_dict_getitem.lookup ok.sl ?_
  refine wpAny_Name (wpAny_loadName_free (v := .ref d) ok.sc.fn (ok.hy _ _ _ _) (by show (((t.y, c) :: []).lookup t.y) = some c; simp) ⟨oc, hk₁ _ _ ec, h5⟩ ?_ ok.cy) ok.dy
  refine wpAny_Name (wpAny_loadName_local (v := u) ok.sc.fn (ok.hx _ _ _ _) hns (by simp) ?_) ok.dx
  have I1 : Inv X pins σ H { s with heap := h₁, toks := s.toks + 1 } := I.kept hk₁
  exact ⟨dict_typeIs I1 dg, d_getItem (by show A.units + 3 + 1 < cLine; omega) I1 dg ry fun w' s' I' r' => h w' s' I' r'⟩
end
section
variable {X : Cx} {e : Expr} {te : TE}
def tFetch (i : Nat) (te : TE) : TE := fun σ H Q => ∃ f, σ[i]? = some (some (.ref f)) ∧ (∃ d, GetsOf H f d) ∧ te σ H fun y H1 => ∃ d v, GetsOf H1 f d ∧ DGet H1 d y (some v) ∧ Q v H1
theorem GetsOf.fn {pins : List (Addr × Obj)} {σ : St} {H : Hp} {s : Shared} {f d : Addr} (I : Inv X pins σ H s) (g : GetsOf H f d) : FnAt f s.heap := by
  obtain ⟨t, c, pm, c', ctv, oc, ok, h2, _⟩ := g
  exact ⟨_, _, _, _, ext_ok (I.hok f _ h2)⟩
theorem pe_fetch {i : Nat} {x : Str} {p pos : Pos} (hr : Room 1 X.A) (hv : ∀ {ps : Pos}, PE X (.Name x ps) (tVar i)) (he : PE X e te) (h1 : starEach [e] X.env = [(false, eval e X.env)] := by rfl) :
    PE X (.Call (.Name x p) [e] [] pos) (tFetch i te) := by
  intro pins s σ H Q I h
  obtain ⟨f, hf, ⟨d, g⟩, h⟩ := h
  refine wpAny_Call_Name_kw (thn (hv pins s σ H (fun v H' => v = .ref f ∧ H' = H) I ⟨_, hf, rfl, rfl⟩) fun u s1 ⟨v, H1, I1, rv, ev, eH⟩ => ?_)
  subst ev eH
  cases rv
  refine callWith_F (g.fn I1) ?_ h1 rfl
  rw [h1]
  show wpAny (model X.prog X.w) _ (spliced ((false, eval e X.env) :: backTo pos (starEach [] X.env))) _ _ s1
  refine Calls.spliced_cons (thn (he pins s1 σ _ _ I1 h) fun u s2 ⟨y, H2, I2, ry, d2, v, g2, dg, q⟩ => Calls.spliced_nil ⟨g2.fn I2, ?_⟩)
  have dp := hr.dp
  have un := hr.un
  exact lam_get I2 (by omega) (by omega) g2 dg ry fun w' s' I' r' => ⟨v, H2, I', r', q⟩
end
end L2
set_option maxHeartbeats 1000000
/-! ### a call that is handed a lambda over a name of this frame -/
namespace L2
open PySem PySem.Spec PySem.Calls PySem.W PyProof.Rows
def del (H : Hp) (c : Addr) : Hp := fun b => if b = c then none else H b
theorem del_ne {H : Hp} {c b : Addr} (h : b ≠ c) : del H c b = H b := if_neg h
theorem del_same {H : Hp} {c : Addr} : del H c c = none := if_pos rfl
theorem same_del {H H' : Hp} {c : Addr} {o : HO} (h : H c = none) (s : Same (upd H c o) H') : Same H (del H' c) := fun b u e => by
  have z : b ≠ c := fun z => by rw [z, h] at e; cases e
  rw [del_ne z]
  exact s b u (by rw [upd_ne z]; exact e)
section
variable {X : Cx} {pins : List (Addr × Obj)} {σ : St} {H : Hp} {s : Shared} {y : Str} {c : Addr} {oc : Obj}
theorem Inv.cellApart (I : Inv X pins σ H s) (hfn : X.fn y = true) (hcl : X.env.cells.lookup y = some c) : X.base.get? c = none ∧ c ∉ frs X.stack := by
  have ge := I.ok.cab y c hfn hcl
  refine ⟨Heap.get?_none_of_le (Nat.le_trans I.ok.bsz ge), fun z => ?_⟩
  rcases List.mem_cons.mp (I.stkSub c z) with z | z
  · obtain ⟨m, ⟨o, es, ep, ho, hd, _⟩, _⟩ := I.loc
    obtain ⟨v, o2, ho2, hd2⟩ := I.cell y c hcl
    rw [z, ho] at ho2
    cases ho2
    rw [hd] at hd2
    cases hd2
  · obtain ⟨_, o, ho, _⟩ := I.ok.funs.mem z
    exact absurd (Heap.lt_size ho) (Nat.not_lt.mpr ge)
theorem HOk.extra {P : Program} {w : World} {h : Heap} (k : HOk P w H h) (hn : H c = none) (ec : h.get? c = some oc) : HOk P w (upd H c (.ext (objφ c oc))) h := fun b u e => by
  by_cases z : b = c
  · subst z
    rw [upd_same] at e
    cases e
    exact ⟨ec, ⟨_, ec⟩, fun h1 h2 x1 k2 => k2 _ x1⟩
  · rw [upd_ne z] at e
    exact (k b u e).stay (fun _ _ _ q => q) (fun b2 e2 => by rw [upd_ne (fun z2 => by rw [z2, hn] at e2; cases e2)]; exact e2) fun b2 xs e2 => by rw [upd_ne (fun z2 => by rw [z2, hn] at e2; cases e2)]; exact e2
theorem HOk.del {P : Program} {w : World} {h : Heap} {φ : Heap → Prop} (k : HOk P w H h) (hc : H c = some (.ext φ)) : HOk P w (del H c) h := fun b u e => by
  have z : b ≠ c := fun z => by rw [z, del_same] at e; cases e
  rw [del_ne z] at e
  exact (k b u e).stay (fun _ _ _ q => q) (fun b2 e2 => by rw [del_ne (fun z2 => by rw [z2, hc] at e2; cases e2)]; exact e2) fun b2 xs e2 => by rw [del_ne (fun z2 => by rw [z2, hc] at e2; cases e2)]; exact e2
theorem run_fnC {k : Nat} {f : Addr} {fd : FuncData} {ps : List Str} {sp : Sp} {dvs : List V} {ds : List Value} {Q : VK} {us : List Value} {vs : List V} {cc : Bool} (F : FnOk X.prog X.w X.K X.mg X.base CX0 k f fd ps sp cc) (hr : Room k X.A cc) (hb : Binds X.K fd ps ds) (hd : Vals dvs ds)
    (I : Inv X pins σ H s) (r : Vals vs us) (hfn : X.fn y = true) (hcl : X.env.cells.lookup y = some c) (ec : s.heap.get? c = some oc)
    (h : sp (vs ++ dvs) (upd H c (.ext (objφ c oc))) (fun v H' => H' c = some (.ext (objφ c oc)) ∧ Q v (L2.del H' c)) E0) : wpAny (model X.prog X.w) X.A (call (.ref f) us) (EP X pins σ Q) X.xe s := by
  have r2 : Vals (vs ++ dvs) (us ++ ds) := r.append hd
  have hl : (us ++ ds).length = ps.length := by rw [← r2.length]; exact F.len _ _ _ _ h
  have hn := I.freeC y c hcl
  obtain ⟨nb, nf⟩ := I.cellApart hfn hcl
  have e0 : Env0 X.prog X.w X.K X.mg X.base X.A X.stack s (upd H c (.ext (objφ c oc))) := ⟨I.ok.frames, I.ok.mod, fun b o e => ⟨(I.bs b o e).1, by rw [upd_ne (fun z => by rw [z, nb] at e; cases e)]; exact (I.bs b o e).2⟩, Nat.le_trans I.ok.bsz I.sz, I.stack,
    fun b hb => by
      have z : b ≠ c := fun z => nf (by rw [← z]; exact hb)
      rw [upd_ne z]; exact I.stkFree b hb, I.hok.extra hn ec, I.bare⟩
  refine wpAny_call (codeAny_mono (F.run X.A X.stack s _ ⟨us, []⟩ (us ++ ds) (vs ++ dvs) _ E0 hr e0 (hb s us I.kIn hl) r2 h) fun r s' hq => ?_)
  cases r with
  | error e => exact False.elim hq
  | ok fl =>
    cases fl with
    | ret u =>
      obtain ⟨v, H', os, bare, un, hok, rv, hc', q⟩ := hq
      have ec' : s'.heap.get? c = some oc := ext_ok (hok c _ hc')
      have nc : ∀ b u, H b = some u → b ≠ c := fun b u e z => by rw [z, hn] at e; cases e
      refine I.after ⟨v, L2.del H' c, os, bare, ⟨fun b o e n hb hx => ?_, fun b o e n hb hx => ?_, fun b o e n hx => ?_, un.there, fun b xs e => ?_, fun b o u e => ?_, fun b ps e => ?_⟩, hok.del hc', rv, q⟩
      · by_cases z : b = c
        · subst z
          rw [ec] at e
          cases e
          exact ec'
        · exact un.keep b o e (by rw [upd_ne z]; exact n) hb hx
      · have z : b ≠ c := fun z => nf (by rw [← z]; exact hb)
        exact un.slot b o e (by rw [upd_ne z]; exact n) hb hx
      · by_cases z : b = c
        · rw [z, del_same]
        · rw [del_ne z]
          exact un.free b o e (by rw [upd_ne z]; exact n) hx
      · rw [del_ne (nc b _ e)]
        exact un.tups b xs (by rw [upd_ne (nc b _ e)]; exact e)
      · rw [del_ne (nc b _ e)]
        exact un.frzs b o u (by rw [upd_ne (nc b _ e)]; exact e)
      · rw [del_ne (nc b _ e)]
        exact un.tbls b ps (by rw [upd_ne (nc b _ e)]; exact e)
    | next => exact False.elim hq
    | brk => exact False.elim hq
    | cont => exact False.elim hq
theorem codeAmong_snoc_ne {pos pos2 : Pos} {c : Value} (hne : ¬ (pos.line = pos2.line ∧ pos.col = pos2.col)) (l : List Value) (h : TriplesOk l) : codeAmong pos2 (l ++ [rawInt pos.line, rawInt pos.col, c]) = codeAmong pos2 l := by
  fun_induction TriplesOk l with
  | case1 =>
    simp only [List.nil_append, codeAmong, rawInt]
    rw [if_neg]
    intro z
    simp only [Bool.and_eq_true, beq_iff_eq] at z
    apply hne
    omega
  | case2 a t b u x rest ih =>
    simp only [List.cons_append, codeAmong]
    rw [ih h]
  | case3 => exact h.elim
theorem triple_1 : ∀ {l : List Value} {q : Str} {t : Tok}, TriplesOk l → ¬ l[1]? = some (.str q t)
  | [], _, _, _ => by simp
  | .int _ _ :: .int _ _ :: _ :: _, _, _, _ => by simp
/-- the lambda made: it and its code tracked -/
theorem mk_lamC {cd P : Addr} {qual : Str} {params : Arguments} {body : Expr} {scope : Scope} {pos : Pos} {clos : List (Str × Addr)} {Q : Value → Shared → Prop} (I : Inv X pins σ H s) (hcode : X.env.code = .ref cd) (C : CodeHd X.base cd P) (B : BltIn X.base X.mg) (t : TabS H P pos qual)
    (hcl : closureFor scope X.env = pure clos)
    (h : ∀ f c' pm ctv s' H', Inv X pins σ H' s' → SxP P H H' → TabS H' P pos qual → (∀ pos2 q2, ¬ (pos.line = pos2.line ∧ pos.col = pos2.col) → TabS H P pos2 q2 → TabS H' P pos2 q2) → H f = none → H' f = some (.ext (objφ f (kla_obj "<lambda>" qual params body scope clos pm c' ctv))) → H' c' = some (.ext (codφ c' qual)) → Q (.ref f) s') :
    wpAny (model X.prog X.w) X.A (makeFunction "<lambda>" qual params (.expr body) scope X.env [] [] [] pos pos.line) Q X.xe s := by
  obtain ⟨ps, hP, tr, hc⟩ := t
  have eP : s.heap.get? P = some (tabObj ps) := ext_ok (I.hok P _ hP)
  have nB : ∀ b o, X.base.get? b = some o → b ≠ P := fun b o e z => by
    have := (I.bs b o e).2
    rw [z, hP] at this
    cases this
  have hgs := I.mod.glob.keeps I.bk
  have gP : mainGlobals ≠ P := by
    obtain ⟨o, _, _, e, _⟩ := I.mod.glob
    exact nB _ o e
  have BA : s.heap.BuiltinsAt X.mg P := by
    obtain ⟨bm, o, b1, b2, b3, b4, b5, b6, b7⟩ := B.ex
    exact ⟨bm, o, b1, b2, b3, nB bm o b4, I.bk _ _ b4, b5, b6, b7⟩
  have nL : ∀ b u, H b = some u → b ≠ X.env.locals := fun b u e z => by
    have := I.free
    rw [← z, e] at this
    cases this
  have lay : ∀ (h' : Heap) (tk : Tok) (H1 : Hp) (pm : Value) (c' : Addr) (ctv : Value), Inv X pins σ H1 { s with heap := h', toks := tk } →
      Inv X pins σ (upd H1 h'.objs.size (.ext (objφ h'.objs.size (kla_obj "<lambda>" qual params body scope clos pm c' ctv)))) { s with heap := h'.push (kla_obj "<lambda>" qual params body scope clos pm c' ctv), toks := tk } := fun h' tk H1 pm c' ctv I1 =>
    I1.laid (a := h'.objs.size) (t' := tk) (fun b o e => Heap.get?_push_of_some _ e) (Nat.le_refl _) ⟨Heap.get?_push_size _ rfl, ⟨_, Heap.get?_push_size _ rfl⟩, fun h1 h2 x1 k2 => k2 _ x1⟩
  rcases hc with hc | ⟨c', hc, hc'⟩
  · refine kla_makeFunction (mg := X.mg) hcl I.ok.glob hgs hcode (C.keeps I.bk) eP tr hc gP BA fun c' ctv h' tk hx hge hlt hrec htb => ?_
    have nc : ∀ b o, s.heap.get? b = some o → b ≠ c' := fun b o e z => absurd (Nat.lt_of_lt_of_le (Heap.lt_size e) (z ▸ hge)) (Nat.lt_irrefl _)
    have Hc : H c' = none := I.hok.fresh hge
    have ncP : c' ≠ P := fun z => nc P _ eP z.symm
    have lt := I.lt
    have up : ∀ b u, b ≠ P → H b = some u → upd (upd H P (.ext (tabφ P (ps ++ #[rawInt pos.line, rawInt pos.col, .ref c'])))) c' (.ext (codφ c' qual)) b = some u := fun b u hb e => by
      have : b ≠ c' := fun z => by rw [z, Hc] at e; cases e
      rw [upd_ne this, upd_ne hb]
      exact e
    have nPt : ∀ b u, H b = some u → (∀ φ, u ≠ .ext φ) → b ≠ P := fun b u e ne z => by
      rw [z, hP] at e
      cases e
      exact ne _ rfl
    have I1 : Inv X pins σ (upd (upd H P (.ext (tabφ P (ps ++ #[rawInt pos.line, rawInt pos.col, .ref c'])))) c' (.ext (codφ c' qual))) { s with heap := h', toks := tk } := by
      refine I.step (g' := s.gens) (d' := s.drawn) (t' := tk) (ch := []) (fun b hb => nomatch hb) (fun b o hL _ _ e n => hx b o (fun z => by rw [z, hP] at n; cases n) e) (fun b o hL _ _ e n => ⟨o.slots, hx b o (fun z => by rw [z, hP] at n; cases n) e⟩)
        (fun b o _ e n => ?_) (fun b o _ e => ?_) (fun b xs e => up b _ (nPt b _ e fun φ z => by cases z) e) (fun b o u e => up b _ (nPt b _ e fun φ z => by cases z) e) (fun b ps e => ⟨#[], by rw [up b _ (nPt b _ e fun φ z => by cases z) e]; simp⟩) (fun m hm => hm.at fun o e => hx _ o (fun z => nL P _ hP z.symm) e) (fun b u e => ?_) I.bare
      · rw [upd_ne (nc b o e), upd_ne (fun z => by rw [z, hP] at n; cases n)]
        exact n
      · by_cases hb : b = P
        · subst hb
          exact ⟨_, htb⟩
        · exact ⟨o, hx b o hb e⟩
      · by_cases hb : b = c'
        · subst hb
          rw [upd_same] at e
          cases e
          obtain ⟨c2, oc, vs2, t2, e2, g2, d2⟩ := id hrec
          cases e2
          refine ⟨hrec, ⟨oc, g2⟩, fun h1 h2 x1 k2 => ?_⟩
          obtain ⟨c3, oc3, vs3, t3, e3, g3, d3⟩ := x1
          cases e3
          exact ⟨_, oc3, vs3, t3, rfl, k2 _ g3, d3⟩
        · by_cases hbP : b = P
          · subst hbP
            rw [upd_ne hb, upd_same] at e
            cases e
            exact ⟨htb, ⟨_, htb⟩, fun h1 h2 x1 k2 => k2 _ x1⟩
          · rw [upd_ne hb, upd_ne hbP] at e
            refine (I.hok b u e).stay (fun c v hc qc => hx c v ?_ qc) (fun c qc => up c _ (nPt c _ qc fun φ z => by cases z) qc) fun c xs qc => up c _ (nPt c _ qc fun φ z => by cases z) qc
            rcases hc with z | z
            · rw [z]; exact hbP
            · exact nPt c _ z fun φ z => by cases z
    have fne : ∀ b, b < h'.objs.size → b ≠ h'.objs.size := fun b hb => Nat.ne_of_lt hb
    have Plt : P < h'.objs.size := Heap.lt_size htb
    refine h h'.objs.size c' _ ctv _ _ (lay h' tk _ _ c' ctv I1) (fun b o hb e => ?_) ?_ (fun pos2 q2 hne ⟨ps2, hP2, tr2, hc2⟩ => ?_) ?_ upd_same ?_
    · have lb := I.hok.lt e
      rw [upd_ne (Nat.ne_of_lt (Nat.lt_of_lt_of_le lb (Nat.le_trans hge (Nat.le_of_lt hlt))))]
      exact up b o hb e
    · refine ⟨_, by rw [upd_ne (fne _ Plt), upd_ne (Ne.symm ncP), upd_same], ?_, .inr ⟨c', ?_, by rw [upd_ne (fne _ hlt), upd_same]⟩⟩
      · rw [Array.toList_append]
        exact triples_snoc tr
      · rw [Array.toList_append]
        exact codeAmong_snoc _ tr hc
    · have eP2 : s.heap.get? P = some (tabObj ps2) := ext_ok (I.hok P _ hP2)
      obtain rfl : ps2 = ps := by
        rw [eP] at eP2
        injection eP2 with z
        injection z with _ _ z
        injection z with z
        exact z.symm
      refine ⟨_, by rw [upd_ne (fne _ Plt), upd_ne (Ne.symm ncP), upd_same], ?_, ?_⟩
      · rw [Array.toList_append]
        exact triples_snoc tr
      · rw [Array.toList_append]
        have e2 := codeAmong_snoc_ne (c := .ref c') hne ps2.toList tr
        rcases hc2 with z | ⟨c2, z1, z2⟩
        · exact .inl (e2.trans z)
        · refine .inr ⟨c2, e2.trans z1, ?_⟩
          have lb := I.hok.lt z2
          have n1 : c2 ≠ h'.objs.size := Nat.ne_of_lt (Nat.lt_of_lt_of_le lb (Nat.le_trans hge (Nat.le_of_lt hlt)))
          have n2 : c2 ≠ c' := Nat.ne_of_lt (Nat.lt_of_lt_of_le lb hge)
          by_cases z3 : c2 = P
          · exfalso
            obtain ⟨_, oc, vs2, t2, e3, g2, d2⟩ := id (ext_ok (I.hok c2 _ z2) : s.heap.CodeRec (.ref c2) q2)
            cases e3
            rw [z3, eP] at g2
            cases g2
            obtain ⟨d2, d3⟩ := d2
            have d4 : Data.fields ps2 = Data.fields vs2 := d2
            injection d4 with d4
            subst d4
            exact triple_1 tr (by rw [Array.getElem?_toList]; exact d3)
          · rw [upd_ne n1]
            exact up c2 _ z3 z2
    · exact I.hok.fresh (Nat.le_trans hge (Nat.le_of_lt hlt))
    · rw [upd_ne (fne _ hlt), upd_same]
  · refine kla_makeFunctionHit (mg := X.mg) hcl I.ok.glob hgs hcode (C.keeps I.bk) eP tr hc BA fun ctv h' tk hk hsz => ?_
    have I1 : Inv X pins σ H { s with heap := h', toks := tk } := I.kept hk
    have ne : ∀ b u, H b = some u → b ≠ h'.objs.size := fun b u e => Nat.ne_of_lt (Nat.lt_of_lt_of_le (I.hok.lt e) hsz)
    refine h h'.objs.size c' _ ctv _ _ (lay h' tk _ _ c' ctv I1) (fun b o hb e => by rw [upd_ne (ne b o e)]; exact e) ⟨ps, by rw [upd_ne (ne _ _ hP)]; exact hP, tr, .inr ⟨c', hc, by rw [upd_ne (ne _ _ hc')]; exact hc'⟩⟩ (fun pos2 q2 _ ⟨ps2, hP2, tr2, hc2⟩ => ⟨ps2, by rw [upd_ne (ne _ _ hP2)]; exact hP2, tr2, hc2.imp id fun ⟨c2, a1, a2⟩ => ⟨c2, a1, by rw [upd_ne (ne _ _ a2)]; exact a2⟩⟩) (I.hok.fresh hsz) upd_same (by rw [upd_ne (ne _ _ hc')]; exact hc')
end
end L2
set_option maxHeartbeats 1000000
namespace L2
open PySem PySem.Spec PySem.Calls PySem.W PyProof.Rows
section
variable {X : Cx} {y : Str} {c : Addr}
def tLamC (P : Addr) (lpos : Pos) (t : LamT) (c : Addr) : TE := fun σ H Q => TabS H P lpos t.qual ∧ ∀ f c' pm ctv H', SxP P H H' → TabS H' P lpos t.qual → (∀ pos2 q2, ¬ (lpos.line = pos2.line ∧ lpos.col = pos2.col) → TabS H P pos2 q2 → TabS H' P pos2 q2) → H f = none →
  H' f = some (.ext (objφ f (kla_obj "<lambda>" t.qual t.params t.body t.scope [(t.y, c)] pm c' ctv))) → H' c' = some (.ext (codφ c' t.qual)) → Q (.ref f) H'
theorem pe_lamC {cd P : Addr} {lpos : Pos} (t : LamT) (hcode : X.env.code = .ref cd) (C : CodeHd X.base cd P) (B : BltIn X.base X.mg) (hqual : X.env.qual ++ Str.ofString "<lambda>" = t.qual) (hdef : defaultsOf t.params X.env = ([], []))
    (hcl : closureFor t.scope X.env = pure [(t.y, c)]) : PE X (.Lambda t.params t.body t.scope lpos) (tLamC P lpos t c) := by
  intro pins s σ H Q I h
  obtain ⟨tb, h⟩ := h
  refine kla_eval hdef ?_
  have e : X.env.qual ++ Str.ofString "<lambda>" = t.qual := hqual
  rw [e]
  exact mk_lamC I hcode C B tb hcl fun f c' pm ctv s' H' I' sx tb' ot hf hf' hc' => ⟨.ref f, H', I', rfl, h f c' pm ctv H' sx tb' ot hf hf' hc'⟩
/-- a call that may look into the frame's cell -/
def tCallC (sp : Sp) (i : Nat) (c : Addr) (t : TA) : TE := fun σ H Q => t σ H fun vs H1 => ∃ d, σ[i]? = some (some (.ref d)) ∧ ∀ oc : Obj, H1 c = none → oc.data = .cell (some (.ref d)) →
  sp vs (upd H1 c (.ext (objφ c oc))) (fun v H' => H' c = some (.ext (objφ c oc)) ∧ Q v (del H' c)) E0
theorem pe_callC {k i : Nat} {f : Addr} {fd : FuncData} {ps : List Str} {sp : Sp} {x : Str} {p pos : Pos} {e : Expr} {es : List Expr} {t : TA} {cc : Bool} (F : FnOk X.prog X.w X.K X.mg X.base CX0 k f fd ps sp cc) (hr : Room k X.A cc) (hg : Gl X x) (hm : X.mg x = some (.ref f)) (hk : PySem.W.keepIn X.K (.ref f) = true) (hb : Binds X.K fd ps [])
    (ha : PA X (e :: es) t) (hfn : X.fn y = true) (hcl : X.env.cells.lookup y = some c) (hN : X.N[i]? = some y) (hkd : X.env.kindOf y = some .cell) (hv : Vis X.env.scope y)
    (hdb : (x == ("__debug__" : Str)) = false := by decide) (he : starEach (e :: es) X.env = (false, eval e X.env) :: starEach es X.env := by rfl) (hpl : (backTo pos (starEach es X.env)).any (·.1) = false := by rfl) :
    PE X (.Call (.Name x p) (e :: es) [] pos) (tCallC sp i c t) := by
  intro pins s σ H Q I h
  refine wpAny_Call_Name_kw (ld_glob I hg hm ?_ hdb)
  refine PySem.W.callWith_K (h₀ := X.base) I.ok.mod.kin hk (thn (ha pos pins s σ H _ I h) fun us s1 ⟨vs, H1, I1, r, d, hd, q⟩ => ⟨I1.kIn, ?_⟩) he hpl
  obtain ⟨m, hn, hl⟩ := I1.loc
  obtain ⟨u, ru, l⟩ := hl i y _ hN hd hv
  cases ru
  rcases l with ⟨z, _⟩ | ⟨_, c2, hc2, oc, ec, dc⟩
  · rw [hkd] at z
    cases z
  · rw [hcl] at hc2
    cases hc2
    refine run_fnC (dvs := []) (ds := []) F hr hb .nil I1 r hfn hcl ec ?_
    rw [List.append_nil]
    exact q oc (I1.freeC y c hcl) dc
theorem GetsOf.mk {H : Hp} {t : LamT} {f c c' d : Addr} {pm ctv : Value} {oc : Obj} (ok : t.Ok) (hc : H c = none) (hf : H f = some (.ext (objφ f (kla_obj "<lambda>" t.qual t.params t.body t.scope [(t.y, c)] pm c' ctv)))) (hc' : H c' = some (.ext (codφ c' t.qual))) (dc : oc.data = .cell (some (.ref d))) :
    GetsOf (upd H c (.ext (objφ c oc))) f d := by
  have ne : ∀ b u, H b = some u → b ≠ c := fun b u e z => by rw [z, hc] at e; cases e
  exact ⟨t, c, pm, c', ctv, oc, ok, by rw [upd_ne (ne _ _ hf)]; exact hf, by rw [upd_ne (ne _ _ hc')]; exact hc', upd_same, dc⟩
end
end L2
/-! ### cells told by a row and pieces -/
namespace L2
open PySem PySem.Spec PyProof.Rows
def vR (pc : Int → List Int) (k : Int) (v : Int) (r : S4) : Int := if r.1 ≤ k ∧ k < r.1 + r.2.1 then (pc r.2.2.1).getD (r.2.2.2 + k - r.1).toNat 0 else v
def vAt (pc : Int → List Int) (rs : List S4) (k : Int) : Int := rs.foldl (vR pc k) 0
theorem vAt_snoc (pc : Int → List Int) (rs : List S4) (r : S4) (k : Int) : vAt pc (rs ++ [r]) k = vR pc k (vAt pc rs k) r := by
  unfold vAt
  rw [List.foldl_append]
  rfl
theorem vR_cut {pc : Int → List Int} {k v size : Int} {r : S4} (h0 : 0 ≤ k) (h1 : k < size) : (cut1 0 size r).foldl (vR pc k) v = vR pc k v r := by
  obtain ⟨a, l, p, s⟩ := r
  unfold cut1
  simp only
  split
  · next h =>
    show vR pc k v _ = _
    unfold vR
    simp only
    have e : s + pmax a 0 - a + k - pmax a 0 = s + k - a := by omega
    rw [e]
    have c : (pmax a 0 ≤ k ∧ k < pmax a 0 + (pmin (a + l) size - pmax a 0)) ↔ (a ≤ k ∧ k < a + l) := by
      unfold pmax pmin
      split <;> split <;> omega
    by_cases z : a ≤ k ∧ k < a + l
    · rw [if_pos z, if_pos (c.mpr z)]
    · rw [if_neg z, if_neg (fun y => z (c.mp y))]
  · next h =>
    show v = vR pc k v _
    unfold vR
    simp only
    rw [if_neg]
    rintro ⟨z1, z2⟩
    apply h
    unfold pmax pmin
    split <;> split <;> omega
theorem vAt_parts {pc : Int → List Int} {k size : Int} (h0 : 0 ≤ k) (h1 : k < size) : ∀ (rs : List S4) (v : Int), (partsP rs 0 size).foldl (vR pc k) v = rs.foldl (vR pc k) v
  | [], v => rfl
  | r :: t, v => by
    have ep : partsP (r :: t) 0 size = cut1 0 size r ++ partsP t 0 size := by
      unfold partsP
      rw [List.flatMap_cons]
    rw [ep, List.foldl_append, vR_cut h0 h1, vAt_parts h0 h1 t]
    rfl
/-- the list of them -/
def cellsL (pc : Int → List Int) (rs : List S4) (n : Nat) : List Int := (List.range n).map fun k : Nat => vAt pc rs (k : Int)
theorem cellsL_len {pc : Int → List Int} {rs : List S4} {n : Nat} : (cellsL pc rs n).length = n := by
  unfold cellsL
  simp
theorem cellsL_nil (pc : Int → List Int) (n : Nat) : cellsL pc [] n = List.replicate n 0 := by
  unfold cellsL
  refine List.ext_getElem (by simp) fun i h1 h2 => ?_
  simp [vAt]
theorem cellsL_parts (pc : Int → List Int) (rs : List S4) (n : Nat) : cellsL pc (partsP rs 0 (n : Int)) n = cellsL pc rs n := by
  unfold cellsL
  refine List.map_congr_left fun k hk => ?_
  have := List.mem_range.mp hk
  exact vAt_parts (by omega) (by omega) rs 0
theorem cells_set {n m : Nat} {f g : Nat → Int} {v : Int} (h : ∀ k, k < n → g k = if k = m then v else f k) : ((List.range n).map f).set m v = (List.range n).map g := by
  refine List.ext_getElem (by simp) fun i h1 h2 => ?_
  have hi : i < n := by simpa using h2
  rw [List.getElem_set]
  simp only [List.getElem_map, List.getElem_range]
  rw [h i hi]
  by_cases z : i = m
  · rw [if_pos z.symm, if_pos z]
  · rw [if_neg (fun y => z y.symm), if_neg z]
/-- one more cell of a stretch -/
theorem cellsL_step {pc : Int → List Int} {rs : List S4} {n j : Nat} {a p s v : Int} (h0 : 0 ≤ a) (hs : 0 ≤ s) (hv : (pc p)[(s + (j : Int)).toNat]? = some v) :
    (cellsL pc (rs ++ [(a, (j : Int), p, s)]) n).set (a + (j : Int)).toNat v = cellsL pc (rs ++ [(a, ((j + 1 : Nat) : Int), p, s)]) n := by
  unfold cellsL
  refine cells_set fun k hk => ?_
  rw [vAt_snoc, vAt_snoc]
  generalize vAt pc rs (k : Int) = b
  unfold vR
  simp only
  by_cases z : k = (a + (j : Int)).toNat
  · rw [if_pos z, if_pos (by omega)]
    have e : s + (k : Int) - a = s + (j : Int) := by omega
    rw [e, List.getD_eq_getElem?_getD, hv]
    rfl
  · rw [if_neg z]
    by_cases y : a ≤ (k : Int) ∧ (k : Int) < a + (j : Int)
    · rw [if_pos y, if_pos (by omega)]
    · rw [if_neg y, if_neg (by omega)]
theorem cellsL_zero {pc : Int → List Int} {rs : List S4} {n : Nat} {a p s : Int} : cellsL pc (rs ++ [(a, ((0 : Nat) : Int), p, s)]) n = cellsL pc rs n := by
  unfold cellsL
  refine List.map_congr_left fun k _ => ?_
  rw [vAt_snoc]
  unfold vR
  simp only
  rw [if_neg (by omega)]
/-- a dict of pieces -/
def PcAt (H : Hp) (d : Addr) (pc : Int → List Int) (rs : List S4) : Prop := ∃ kvs, H d = some (.dK kvs) ∧ ∀ r ∈ rs, ∃ q tu, valV kvs (.inl r.2.2.1) = some (.ref q) ∧ H q = some (sqO tu ((pc r.2.2.1).map V.int)) ∧ 0 ≤ r.2.2.2 ∧ r.2.2.2 + r.2.1 ≤ ((pc r.2.2.1).length : Int)
theorem PcAt.mono {H H' : Hp} {d : Addr} {pc : Int → List Int} {rs : List S4} (h : PcAt H d pc rs) (s : Same H H') : PcAt H' d pc rs := by
  obtain ⟨kvs, e, k⟩ := h
  refine ⟨kvs, s _ _ e, fun r hr => ?_⟩
  obtain ⟨q, tu, h1, h2, h3⟩ := k r hr
  exact ⟨q, tu, h1, s _ _ h2, h3⟩
theorem mem_partsP {rs : List S4} {lo hi : Int} {r : S4} (h : r ∈ partsP rs lo hi) : ∃ r0 ∈ rs, r.2.2.1 = r0.2.2.1 ∧ lo ≤ r.1 ∧ r0.1 ≤ r.1 ∧ 0 < r.2.1 ∧ r.1 + r.2.1 ≤ hi ∧ r.1 + r.2.1 ≤ r0.1 + r0.2.1 ∧ r.2.2.2 = r0.2.2.2 + (r.1 - r0.1) := by
  unfold partsP at h
  obtain ⟨r0, h0, h1⟩ := List.mem_flatMap.mp h
  refine ⟨r0, h0, ?_⟩
  obtain ⟨a, l, p, s⟩ := r0
  unfold cut1 at h1
  simp only at h1
  split at h1
  · next c =>
    obtain rfl := List.mem_singleton.mp h1
    simp only
    unfold pmax pmin at *
    split at c <;> split at c <;> simp only [*, if_true, if_false] <;> refine ⟨trivial, ?_, ?_, ?_, ?_, ?_, ?_⟩ <;> (try trivial) <;> (try omega)
  · cases h1
theorem PcAt.parts {H : Hp} {d : Addr} {pc : Int → List Int} {rs : List S4} {lo hi : Int} (h : PcAt H d pc rs) : PcAt H d pc (partsP rs lo hi) := by
  obtain ⟨kvs, e, k⟩ := h
  refine ⟨kvs, e, fun r hr => ?_⟩
  obtain ⟨r0, h0, e1, e2, e3, e4, e5, e6, e7⟩ := mem_partsP hr
  obtain ⟨q, tu, h1, h2, h3, h4⟩ := k r0 h0
  rw [e1]
  exact ⟨q, tu, h1, h2, by omega, by omega⟩
end L2
/-! ### a set's table: its places rise -/
namespace L2
open PySem
def Rise (xs : Array Nat) : Prop := ∀ (i j : Nat) (a b : Nat), i < j → xs[i]? = some a → xs[j]? = some b → a < b
theorem below_go {xs : Array Nat} {j : Nat} (r : Rise xs) : ∀ (f lo hi : Nat), hi ≤ xs.size → lo ≤ hi → hi - lo ≤ f → (∀ (i a : Nat), i < lo → xs[i]? = some a → a < j) → (∀ (i a : Nat), hi ≤ i → xs[i]? = some a → j ≤ a) →
    SetTable.below.go xs j f lo hi ≤ xs.size ∧ (∀ (i a : Nat), i < SetTable.below.go xs j f lo hi → xs[i]? = some a → a < j) ∧ ∀ (i a : Nat), SetTable.below.go xs j f lo hi ≤ i → xs[i]? = some a → j ≤ a := by
  intro f
  induction f with
  | zero =>
    intro lo hi h1 h2 h3 hl hr
    have e : lo = hi := by omega
    subst e
    exact ⟨h1, hl, hr⟩
  | succ f ih =>
    intro lo hi h1 h2 h3 hl hr
    unfold SetTable.below.go
    by_cases lt : lo < hi
    · rw [if_pos lt]
      have hm : (lo + hi) / 2 < xs.size := by omega
      have em : xs[(lo + hi) / 2]? = some (xs[(lo + hi) / 2]) := Array.getElem?_eq_getElem hm
      have ed : xs.getD ((lo + hi) / 2) j = xs[(lo + hi) / 2] := by simp [Array.getD, hm]
      dsimp only
      rw [ed]
      by_cases c : xs[(lo + hi) / 2] < j
      · rw [if_pos c]
        refine ih _ _ h1 (by omega) (by omega) (fun i a hi' ea => ?_) hr
        rcases Nat.lt_or_ge i ((lo + hi) / 2) with q | q
        · exact Nat.lt_trans (r i _ a _ q ea em) c
        · have e : i = (lo + hi) / 2 := by omega
          subst e
          rw [em] at ea
          cases ea
          exact c
      · rw [if_neg c]
        refine ih _ _ (by omega) (by omega) (by omega) hl (fun i a hi' ea => ?_)
        rcases Nat.lt_or_ge ((lo + hi) / 2) i with q | q
        · have := r _ i _ a q em ea
          omega
        · have e : i = (lo + hi) / 2 := by omega
          subst e
          rw [em] at ea
          cases ea
          omega
    · rw [if_neg lt]
      have e : lo = hi := by omega
      subst e
      exact ⟨h1, hl, hr⟩
theorem below_at {xs : Array Nat} {j : Nat} (r : Rise xs) : SetTable.below xs j ≤ xs.size ∧ (∀ (i a : Nat), i < SetTable.below xs j → xs[i]? = some a → a < j) ∧ ∀ (i a : Nat), SetTable.below xs j ≤ i → xs[i]? = some a → j ≤ a :=
  below_go r _ _ _ (Nat.le_refl _) (Nat.zero_le _) (Nat.le_refl _) (fun i a h => absurd h (Nat.not_lt_zero _)) fun i a h e => by
    have := (Array.getElem?_eq_some_iff.mp e).1
    omega
theorem toList_insertAt {α : Type} (xs : Array α) (p : Nat) (x : α) : (SetTable.insertAt xs p x).toList = xs.toList.take p ++ x :: xs.toList.drop p := by
  unfold SetTable.insertAt
  have : (xs.toList.drop p).take (xs.size - p) = xs.toList.drop p := List.take_of_length_le (by simp)
  simp [this]
theorem rise_iff (xs : Array Nat) : Rise xs ↔ xs.toList.Pairwise (· < ·) := by
  rw [List.pairwise_iff_getElem]
  constructor
  · intro r i j hi hj h
    exact r i j _ _ h (by simp) (by simp)
  · intro r i j a b h ha hb
    obtain ⟨h1, e1⟩ := Array.getElem?_eq_some_iff.mp ha
    obtain ⟨h2, e2⟩ := Array.getElem?_eq_some_iff.mp hb
    have := r i j (by simpa using h1) (by simpa using h2) h
    simpa [e1, e2] using this
/-- a new place put where it belongs -/
theorem rise_insert {xs : Array Nat} {j : Nat} (r : Rise xs) (hn : j ∉ xs.toList) : Rise (SetTable.insertAt xs (SetTable.below xs j) j) := by
  obtain ⟨hp, hl, hr⟩ := below_at (j := j) r
  rw [rise_iff] at r ⊢
  rw [toList_insertAt]
  generalize SetTable.below xs j = p at hp hl hr
  rw [List.pairwise_append]
  refine ⟨r.sublist (List.take_sublist _ _), List.pairwise_cons.mpr ⟨fun b hb => ?_, r.sublist (List.drop_sublist _ _)⟩, fun a ha b hb => ?_⟩
  · obtain ⟨i, hi, e⟩ := List.getElem_of_mem hb
    rw [List.getElem_drop] at e
    have e2 : xs[p + i]? = some b := by rw [← e, ← Array.getElem?_toList]; exact List.getElem?_eq_getElem _
    have := hr (p + i) b (by omega) e2
    have : b ≠ j := fun z => hn (z ▸ List.mem_of_mem_drop hb)
    omega
  · obtain ⟨i, hi, e⟩ := List.getElem_of_mem ha
    rw [List.getElem_take] at e
    have hi' : i < p := by simp at hi; omega
    have e2 : xs[i]? = some a := by rw [← e, ← Array.getElem?_toList]; exact List.getElem?_eq_getElem _
    have lt := hl i a hi' e2
    rcases List.mem_cons.mp hb with z | z
    · rw [z]; exact lt
    · obtain ⟨k, hk, e'⟩ := List.getElem_of_mem z
      rw [List.getElem_drop] at e'
      have e3 : xs[p + k]? = some b := by rw [← e', ← Array.getElem?_toList]; exact List.getElem?_eq_getElem _
      have := hr (p + k) b (by omega) e3
      omega
/-- the first place at or behind slot -/
theorem below_after {xs : Array Nat} {i a : Nat} (r : Rise xs) (h : xs[i]? = some a) : SetTable.below xs (a + 1) = i + 1 := by
  obtain ⟨hp, hl, hr⟩ := below_at (j := a + 1) r
  have hi := (Array.getElem?_eq_some_iff.mp h).1
  rcases Nat.lt_trichotomy (SetTable.below xs (a + 1)) (i + 1) with q | q | q
  · have := hr i a (by omega) h
    omega
  · exact q
  · have lt : i + 1 < xs.size := by omega
    have e := Array.getElem?_eq_getElem lt
    have h1 := hl (i + 1) _ q e
    have h2 := r i (i + 1) a _ (Nat.lt_succ_self _) h e
    omega
theorem below_zero {xs : Array Nat} (r : Rise xs) : SetTable.below xs 0 = 0 := by
  obtain ⟨hp, hl, hr⟩ := below_at (j := 0) r
  rcases Nat.eq_zero_or_pos (SetTable.below xs 0) with q | q
  · exact q
  · have lt : 0 < xs.size := by omega
    have := hl 0 _ q (Array.getElem?_eq_getElem lt)
    omega
end L2
/-! ### adding to a set keeps its places rising, and no dummies -/
namespace L2
open PySem
structure TabOk (L : Bool) (t : SetTable) : Prop where
  rise : Rise t.place
  bare : t.dummies = #[]
  led : t.led = L
theorem below_mem {xs : Array Nat} {j : Nat} (r : Rise xs) (h : j ∈ xs.toList) : xs[SetTable.below xs j]? = some j := by
  obtain ⟨hp, hl, hr⟩ := below_at (j := j) r
  obtain ⟨i, hi, e⟩ := List.getElem_of_mem h
  have e2 : xs[i]? = some j := by rw [← e, ← Array.getElem?_toList]; exact List.getElem?_eq_getElem _
  rcases Nat.lt_trichotomy i (SetTable.below xs j) with q | q | q
  · have := hl i j q e2
    omega
  · rw [← q]; exact e2
  · have hi' := (Array.getElem?_eq_some_iff.mp e2).1
    have lt : SetTable.below xs j < xs.size := by omega
    have e3 := Array.getElem?_eq_getElem lt
    have h1 := hr _ _ (Nat.le_refl _) e3
    have h2 := r _ i _ j q e3 e2
    omega
theorem slot_bare {t : SetTable} {j : Nat} (hb : t.dummies = #[]) : t.slot j ≠ .dummy := by
  unfold SetTable.slot
  have : SetTable.has t.dummies j = false := by rw [hb]; rfl
  dsimp only
  split
  · intro z; cases z
  · rw [this]; intro z; simp at z
theorem slot_empty {t : SetTable} {j : Nat} (r : Rise t.place) (h : t.slot j = .empty) : j ∉ t.place.toList := fun m => by
  unfold SetTable.slot at h
  have := below_mem r m
  simp [this] at h
theorem probe_bare {t : SetTable} {ha : Nat → Int} {h : Int} (hb : t.dummies = #[]) : ∀ (f : Nat) (p : SetTable.Probe) (j : Nat) (d : Option Nat), p.dummy = none → SetTable.probe.go t ha h f p = some (.empty j d) → d = none ∧ t.slot j = .empty := by
  intro f
  induction f with
  | zero => intro p j d _ e; cases e
  | succ f ih =>
    intro p j d hp e
    have adv : (t.advance p).dummy = none := by
      unfold SetTable.advance
      split
      · exact hp
      · exact hp
    unfold SetTable.probe.go at e
    split at e
    · rename_i q
      cases e
      exact ⟨hp, q⟩
    · rename_i q
      exact absurd q (slot_bare hb)
    · split at e
      · cases e
      · exact ih _ j d adv e
theorem range_rise (n : Nat) : Rise (Array.range n) := by
  rw [rise_iff, Array.toList_range]
  exact List.pairwise_lt_range
theorem standIn_ok {L : Bool} {t : SetTable} (o : TabOk L t) (n : Nat) : TabOk L (t.standIn n) := ⟨range_rise n, rfl, o.led⟩
theorem put_ok {L : Bool} {t : SetTable} {j : Nat} (o : TabOk L t) (h : j ∉ t.place.toList) : TabOk L (t.put j).1 := by
  refine ⟨rise_insert o.rise h, ?_, o.led⟩
  have : SetTable.has t.dummies j = false := by rw [o.bare]; rfl
  show (if SetTable.has t.dummies j = true then _ else t.dummies) = #[]
  rw [this, o.bare]
  rfl
theorem lay_ok {L : Bool} {t : SetTable} {es : Array (Int × Value)} {h : Int} {x : Value} (o : TabOk L t) : TabOk L (layNew t es h x).2.1 := by
  unfold layNew
  cases e : t.freeSlot h with
  | none => exact standIn_ok o _
  | some r =>
    obtain ⟨j, d⟩ := r
    have hj : j ∉ t.place.toList := by
      unfold SetTable.freeSlot at e
      split at e
      · rename_i j' d' q
        obtain ⟨hd, hs⟩ := probe_bare o.bare _ _ j' d' rfl q
        subst hd
        cases e
        exact slot_empty o.rise hs
      · cases e
    have k := put_ok o hj
    dsimp only
    unfold SetTable.orStandIn
    split
    · exact k
    · exact standIn_ok k _
theorem live_rise {f : Nat → Option Nat} (n : Nat) : Rise (((List.range n).filterMap fun j => (f j).map (j, ·)).map (·.1)).toArray := by
  rw [rise_iff]
  have e : ((List.range n).filterMap fun j => (f j).map (j, ·)).map (·.1) = (List.range n).filter fun j => (f j).isSome := by
    induction (List.range n) with
    | nil => rfl
    | cons a l ih =>
      rw [List.filterMap_cons, List.filter_cons]
      cases q : f a with
      | none => simpa using ih
      | some v => simpa using ih
  rw [show (((List.range n).filterMap fun j => (f j).map (j, ·)).map (·.1)).toArray.toList = (List.range n).filter fun j => (f j).isSome from e]
  exact List.pairwise_lt_range.sublist List.filter_sublist
theorem relay_ok {L : Bool} {t : SetTable} {es : Array (Int × Value)} {n : Nat} (o : TabOk L t) : TabOk L (relayAll t es n).2.1 := by
  unfold relayAll
  cases e : t.relaid (es.map (·.1)) n with
  | none => exact standIn_ok o _
  | some r =>
    obtain ⟨t', order⟩ := r
    have k : TabOk L t' := by
      unfold SetTable.relaid SetTable.laid at e
      cases q : SetTable.layClean (SetTable.sizeAbove n - 1) (es.map (·.1)) with
      | none => rw [q] at e; cases e
      | some owner =>
        rw [q] at e
        cases e
        exact ⟨live_rise _, rfl, o.led⟩
    dsimp only
    split
    · exact k
    · exact standIn_ok o _
end L2
/-! ### a set by the list of its members, in the order of its table -/
namespace L2
open PySem PyProof.Rows
section
variable {prog : Program} {w : World} {K : Type} [DecidableEq K] (knd : KeyKind prog w K)
def ElOk (k : K) (e : Int × Value) : Prop := knd.is k e.2 = true ∧ e.1 = knd.hash k ∧ e.2.scannable = true
inductive Els : List K → List (Int × Value) → Prop
  | nil : Els [] []
  | cons {k : K} {e : Int × Value} {ks : List K} {es : List (Int × Value)} : ElOk knd k e → Els ks es → Els (k :: ks) (e :: es)
def SetL (h : Heap) (a : Addr) (ks : List K) : Prop :=
  ∃ o es ep t, h.get? a = some o ∧ o.ExactSet ∧ o.data = .set es ep t ∧ Els knd ks es.toList ∧ ks.Nodup ∧ es.size < scanBound ∧ t.fits es.size = true ∧ TabOk (!w.params.followText "set-order") t
variable {knd}
theorem Els.length {ks : List K} {es : List (Int × Value)} (x : Els knd ks es) : ks.length = es.length := by
  induction x with
  | nil => rfl
  | cons _ _ ih => simp [ih]
theorem Els.elems {ks : List K} {es : List (Int × Value)} (x : Els knd ks es) : ElemsOf knd es := by
  induction x with
  | nil => intro e he; cases he
  | @cons k e ks es h _ ih =>
    intro e' he
    rcases List.mem_cons.mp he with z | z
    · subst z; exact ⟨⟨k, h.1, h.2.1⟩, h.2.2⟩
    · exact ih e' z
theorem Els.mem {ks : List K} {es : List (Int × Value)} (x : Els knd ks es) (k : K) : k ∈ ks ↔ ∃ e ∈ es, knd.is k e.2 = true := by
  induction x with
  | nil => simp
  | @cons k' e ks es h _ ih =>
    rw [List.mem_cons, ih]
    constructor
    · rintro (z | ⟨e', he, q⟩)
      · subst z; exact ⟨e, List.mem_cons_self, h.1⟩
      · exact ⟨e', List.mem_cons_of_mem _ he, q⟩
    · rintro ⟨e', he, q⟩
      rcases List.mem_cons.mp he with z | z
      · subst z; exact .inl (knd.inj _ k k' q h.1)
      · exact .inr ⟨e', z, q⟩
theorem Els.perm {es es' : List (Int × Value)} (p : List.Perm es' es) : ∀ {ks : List K}, Els knd ks es → ∃ ks', ks'.Perm ks ∧ Els knd ks' es' := by
  induction p with
  | nil => intro ks x; exact ⟨ks, List.Perm.refl _, x⟩
  | cons e _ ih =>
    intro ks x
    cases x with
    | cons h r =>
      obtain ⟨ks', q, y⟩ := ih r
      exact ⟨_, q.cons _, .cons h y⟩
  | swap e f l =>
    intro ks x
    cases x with
    | cons h r => cases r with
      | cons h' r' => exact ⟨_, List.Perm.swap _ _ _, .cons h' (.cons h r')⟩
  | trans _ _ ih1 ih2 =>
    intro ks x
    obtain ⟨k1, q1, y1⟩ := ih2 x
    obtain ⟨k2, q2, y2⟩ := ih1 y1
    exact ⟨k2, q2.trans q1, y2⟩
theorem SetL.setOf {h : Heap} {a : Addr} {ks : List K} (x : SetL knd h a ks) : h.SetOf knd a (fun k => decide (k ∈ ks)) ks.length := by
  obtain ⟨o, es, ep, t, e, ex, d, el, nd, b, f, ok⟩ := x
  exact ⟨o, es, ep, t, e, ex, d, el.elems, fun k => by rw [decide_eq_true_iff]; exact el.mem k, b, f, by rw [el.length]; simp⟩
theorem SetL.at {h h' : Heap} {a : Addr} {ks : List K} (x : SetL knd h a ks) (k : ∀ o, h.get? a = some o → h'.get? a = some o) : SetL knd h' a ks := by
  obtain ⟨o, es, ep, t, e, r⟩ := x
  exact ⟨o, es, ep, t, k o e, r⟩
variable {A : Around} {E : Value → Shared → Prop} {s : Shared}
theorem store_setL {h : Heap} {a : Addr} {o : Obj} {es es' : Array (Int × Value)} {ep : Nat} {t t' : SetTable} {ks : List K} (ho : h.get? a = some o) (hex : o.ExactSet) (hd : o.data = .set es ep t) (el : Els knd ks es'.toList) (nd : ks.Nodup)
    (hb : es'.size < scanBound) (hf : t'.fits es'.size = true) (ok : TabOk (!w.params.followText "set-order") t') :
    (h.update a (Obj.putSet es' t')).get? a = some { o with data := .set es' (ep + 1) t' } ∧ SetL knd (h.update a (Obj.putSet es' t')) a ks := by
  have g : (h.update a (Obj.putSet es' t')).get? a = some { o with data := .set es' (ep + 1) t' } := by
    have q := Heap.get?_update_self (Obj.putSet es' t') ho (by rw [putSet_of es' t' hd]; rfl)
    rw [putSet_of es' t' hd] at q
    exact q
  exact ⟨g, _, es', ep + 1, t', g, hex, rfl, el, nd, hb, hf, ok⟩
/-- what stands behind the laying of a new element -/
theorem tail_setL {g : Bool → Sem Unit} (hg : ∀ (b : Bool) (s₁ : Shared) (Q' : Unit → Shared → Prop), Q' () s₁ → wpAny (model prog w) A (g b) Q' E s₁) {a : Addr} {o : Obj} {es es1 : Array (Int × Value)} {ep : Nat} {t t2 : SetTable} {ks : List K}
    (ho : s.heap.get? a = some o) (hex : o.ExactSet) (hd : o.data = .set es ep t) (el : Els knd ks es1.toList) (nd : ks.Nodup) (hb : es1.size < scanBound) (hf : t2.fits es1.size = true) (ok : TabOk (!w.params.followText "set-order") t2) {wasDummy : Bool} {R : Option Bool → Shared → Prop}
    (h : ∀ h' ks', Heap.SameBut a s.heap h' → ks'.Perm ks → SetL knd h' a ks' → R (some true) { s with heap := h' }) :
    wpAny (model prog w) A (do
        storeSet a es1 t2
        if (!wasDummy && t2.tooFull) = true then do
            g (relayAll t2 es1 (SetTable.grown es1.size)).2.2
            storeSet a (relayAll t2 es1 (SetTable.grown es1.size)).1 (relayAll t2 es1 (SetTable.grown es1.size)).2.1
            pure (some true)
          else pure (some true)) R E s := by
  obtain ⟨ho1, hS1⟩ := store_setL (knd := knd) ho hex hd el nd hb hf ok
  have sb := Heap.SameBut.update s.heap a (Obj.putSet es1 t2)
  refine wpAny_bind (wpAny_storeSet_of ho hd ?_ (fits_of_scanBound hb))
  split
  · have hp := relayAll_perm t2 es1 (SetTable.grown es1.size)
    have hfr := relayAll_fits t2 es1 (SetTable.grown es1.size)
    have okr : TabOk (!w.params.followText "set-order") (relayAll t2 es1 (SetTable.grown es1.size)).2.1 := relay_ok ok
    generalize relayAll t2 es1 (SetTable.grown es1.size) = Y at hp hfr okr ⊢
    obtain ⟨es2, t3, gv⟩ := Y
    obtain ⟨ks2, q2, el2⟩ := el.perm hp
    have z : es2.size = es1.size := by rw [← Array.length_toList, hp.length_eq, Array.length_toList]
    have hb2 : es2.size < scanBound := by rw [z]; exact hb
    refine wpAny_bind (hg _ _ _ (wpAny_bind (wpAny_storeSet_of ho1 rfl ?_ (fits_of_scanBound hb2))))
    obtain ⟨_, hS2⟩ := store_setL (knd := knd) ho1 hex rfl el2 (q2.nodup_iff.mpr nd) hb2 hfr okr
    exact wpAny_pure (h _ ks2 (sb.trans (Heap.SameBut.update _ a _)) q2 hS2)
  · exact wpAny_pure (h _ ks sb (List.Perm.refl _) hS1)
/-- an element added -/
theorem add_setL {a : Addr} {ks : List K} {k : K} {x : Value} {Q : Bool → Shared → Prop} (hkey : knd.is k x = true) (hsc : x.scannable = true) (hS : SetL knd s.heap a ks) (room : ks.length + 1 < scanBound)
    (h : ∀ b h' ks', Heap.SameBut a s.heap h' → ks'.Perm (if k ∈ ks then ks else ks ++ [k]) → SetL knd h' a ks' → Q b { s with heap := h' }) : wpAny (model prog w) A (setAddHashed a x (knd.hash k)) Q E s := by
  have hS0 := hS
  obtain ⟨o, es, ep, t, ho, hex, hd, el, nd, hb, hf, ok⟩ := hS
  have hel := el.elems
  have hl := el.length
  have hb1 : es.size + 1 < scanBound := by rw [hl] at room; simpa using room
  unfold setAddHashed setAddHashedIn
  refine wpAny_holding (wpAny_bind (wpAny_setState_of ho hd hf ?_))
  dsimp only
  rw [byScan_of hsc hb hel]
  simp only [↓reduceIte]
  unfold setAddByScan
  refine wpAny_bind (wpAny_bind (wpAny_rule (wpAny_bind (wpAny_setScan_of hkey ho hd hf hel ?_))))
  cases hr : List.findIdx? (fun e => knd.is k e.2) es.toList with
  | some j =>
    obtain ⟨hj, hpj, _⟩ := List.findIdx?_eq_some_iff_getElem.mp hr
    have hk : k ∈ ks := (el.mem k).mpr ⟨es.toList[j], List.getElem_mem hj, hpj⟩
    dsimp only
    have e : s = { s with heap := s.heap } := by cases s; rfl
    rw [e]
    exact wpAny_pure (wpAny_pure (h _ s.heap ks (Heap.SameBut.refl a s.heap) (by rw [if_pos hk]) hS0))
  | none =>
    have hk : k ∉ ks := fun m => by
      obtain ⟨e, he, hp⟩ := (el.mem k).mp m
      have q := List.findIdx?_eq_none_iff.mp hr e he
      rw [hp] at q
      cases q
    dsimp only
    have hperm := layNew_perm t es (knd.hash k) x
    have hfits := layNew_fits t es (knd.hash k) x
    have hok : TabOk (!w.params.followText "set-order") (layNew t es (knd.hash k) x).2.1 := lay_ok ok
    generalize layNew t es (knd.hash k) x = Y at hperm hfits hok ⊢
    obtain ⟨es1, t1, wd, gv⟩ := Y
    dsimp only at hperm hfits hok ⊢
    rw [Array.toList_push] at hperm
    have elp : Els knd (ks ++ [k]) (es.toList ++ [(knd.hash k, x)]) := by
      clear hr hperm hS0 hl room h nd hk
      generalize es.toList = l at el
      induction el with
      | nil => exact .cons ⟨hkey, rfl, hsc⟩ .nil
      | cons hh _ ih => exact .cons hh (ih )
    obtain ⟨ks1, q1, el1⟩ := elp.perm hperm
    have nd1 : ks1.Nodup := q1.nodup_iff.mpr (by
      rw [List.nodup_append]
      exact ⟨nd, by simp, fun a ha b hb z => hk (by rw [List.mem_singleton] at hb; rw [← hb, ← z]; exact ha)⟩)
    have hb2 : es1.size < scanBound := by rw [← Array.length_toList, hperm.length_eq, List.length_append, Array.length_toList]; simpa using hb1
    have fin : ∀ h' ks', Heap.SameBut a s.heap h' → ks'.Perm ks1 → SetL knd h' a ks' → Q true { s with heap := h' } := fun h' ks' sb p hs => h true h' ks' sb (by rw [if_neg hk]; exact p.trans q1) hs
    refine wpAny_bind (?_ : wpAny (model prog w) A (match gv with | true => rule "set.scan.the-table-gave-way" | false => pure ()) _ E s)
    have gw : ∀ (b : Bool) (s₁ : Shared) (Q' : Unit → Shared → Prop), Q' () s₁ → wpAny (model prog w) A (match b with | true => rule "set.scan.the-table-gave-way" | false => pure ()) Q' E s₁ := fun b s₁ Q' hq => by
      cases b
      · exact wpAny_pure hq
      · exact wpAny_rule hq
    refine gw _ _ _ ?_
    split
    · refine wpAny_bind ?_
      rw [hashByValue_scannable 8 hsc]
      refine wpAny_pure ?_
      refine tail_setL gw ho hex hd el1 nd1 hb2 ?_ ?_ fun h' ks' sb p hs => ?_
      · split
        · exact hfits
        · exact SetTable.fits_plain_off hfits
      · split
        · exact hok
        · exact ⟨hok.rise, hok.bare, hok.led⟩
      · exact wpAny_pure (fin h' ks' sb p hs)
    · refine wpAny_bind (wpAny_pure ?_)
      simp only [↓reduceIte]
      exact tail_setL gw ho hex hd el1 nd1 hb2 hfits hok fun h' ks' sb p hs => wpAny_pure (fin h' ks' sb p hs)
end
end L2
/-! ### set(a list) -/
namespace L2
open PySem PyProof.Rows
section
variable {prog : Program} {w : World} {K : Type} [DecidableEq K] {knd : KeyKind prog w K}
theorem added {ks ks' : List K} {k : K} (p : ks'.Perm (if k ∈ ks then ks else ks ++ [k])) : (∀ x, x ∈ ks' ↔ x ∈ ks ∨ x = k) ∧ ks'.length ≤ ks.length + 1 := by
  by_cases h : k ∈ ks
  · rw [if_pos h] at p
    exact ⟨fun x => by rw [p.mem_iff]; exact ⟨.inl, fun z => z.elim id fun e => e ▸ h⟩, by rw [p.length_eq]; omega⟩
  · rw [if_neg h] at p
    exact ⟨fun x => by rw [p.mem_iff]; simp, by rw [p.length_eq]; simp⟩
variable {A : Around} {E : Value → Shared → Prop}
theorem fill_loop {R : Result → Shared → Prop} {I : Addr} {fp wr : List Addr} {G : Array GenState → Array GenState → Prop} {n : Nat} {P : Nat → Value → Prop} {St : Nat → Shared → Prop} (W : WalksS prog w A.in1 I fp wr G n P St) (S : Addr) (nS : S ∉ fp)
    (val : Nat → K) (hv : ∀ i v, P i v → knd.is (val i) v = true ∧ v.scannable = true) (hb : n + 1 < scanBound) : ∀ (m i : Nat) (s : Shared) (ks : List K), n - i = m → i ≤ n → St i s → SetL knd s.heap S ks → ks.length ≤ i →
      (∀ s' ks', Moved (S :: wr) G s s' → SetL knd s'.heap S ks' → (∀ x, x ∈ ks' ↔ x ∈ ks ∨ ∃ j, i ≤ j ∧ j < n ∧ x = val j) → R (.ok (.ret .none)) s') → codeAny (model prog w) A (.builtin "set.update.loop" ⟨[.ref S, .ref I], []⟩) R s := by
  have nw : S ∉ wr := fun z => nS (W.sub _ z)
  have up : ∀ b ∈ wr, b ∈ S :: wr := fun b z => List.mem_cons_of_mem _ z
  intro m
  induction m with
  | zero =>
    intro i s ks hm hi st hS _ q
    have e : i = n := by omega
    subst e
    refine codeAny_builtin F.entry_set_update_loop ?_
    rw [Around.under_plainId F.plain_set_update_loop _]
    show wpAny (model prog w) A.in1 (pyNext (.ref I) >>= _) _ _ s
    refine wpAny_bind (W.done s _ _ st fun s' mv => ?_)
    show wpAny (model prog w) A.in1 (ret Value.none) _ _ s'
    exact wpAny_pure (q s' ks (mv.mono up) (hS.at fun o e => mv.heap S o nw e) fun x => ⟨.inl, fun z => z.elim id fun ⟨j, h1, h2, _⟩ => absurd h2 (by omega)⟩)
  | succ m ih =>
    intro i s ks hm hi st hS hl q
    have lt : i < n := by omega
    refine codeAny_builtin F.entry_set_update_loop ?_
    rw [Around.under_plainId F.plain_set_update_loop _]
    show wpAny (model prog w) A.in1 (pyNext (.ref I) >>= _) _ _ s
    refine wpAny_bind (W.item i s _ _ lt st fun v s' hP st' mv => ?_)
    obtain ⟨hk, hsc⟩ := hv i v hP
    have hS1 : SetL knd s'.heap S ks := hS.at fun o e => mv.heap S o nw e
    show wpAny (model prog w) A.in1 (holding [v] (setAdd S v) >>= _) _ _ s'
    refine wpAny_bind (wpAny_holding ?_)
    unfold setAdd
    refine wpAny_holding (wpAny_bind (knd.pyHash (k := val i) hk ?_))
    refine add_setL (knd := knd) (s := { s' with toks := s'.toks + 1 }) hk hsc hS1 (by omega) fun b h' ks' sb p hs => ?_
    obtain ⟨hm', hl'⟩ := added p
    refine wpAny_pure ⟨plainId_quiet F.plain_set_update_loop _, ih (i + 1) _ ks' (by omega) lt (W.frame _ s' _ _ st' (Nat.le_succ _) fun c hc o e => ?_) hs (by omega) fun s'' ks'' mv' hs' hx => ?_⟩
    · rw [sb.2 c fun z : c = S => nS (z ▸ hc)]
      exact e
    · refine q s'' ks'' (Moved.trans W.gtrans ((mv.mono up).then_heap (Nat.le_succ _) fun c o hc e => ?_) mv') hs' fun x => ?_
      · rw [sb.2 c fun z : c = S => hc (by rw [z]; exact List.mem_cons_self)]
        exact e
      · rw [hx, hm']
        constructor
        · rintro ((z | z) | ⟨j, h1, h2, e⟩)
          · exact .inl z
          · exact .inr ⟨i, Nat.le_refl _, lt, z⟩
          · exact .inr ⟨j, by omega, h2, e⟩
        · rintro (z | ⟨j, h1, h2, e⟩)
          · exact .inl (.inl z)
          · rcases Nat.eq_or_lt_of_le h1 with z | z
            · exact .inl (.inr (z ▸ e))
            · exact .inr ⟨j, z, h2, e⟩
variable {s : Shared}
abbrev bareSet (w : World) : Obj := { cls := .type "set", dict := none, data := .set #[] 0 (.fresh 0 0 (!w.params.followText "set-order")) }
theorem bareSet_ok {h : Heap} {a : Addr} (e : h.get? a = some (bareSet w)) : SetL knd h a [] :=
  ⟨_, #[], 0, _, e, ⟨rfl, rfl, rfl⟩, rfl, .nil, .nil, by decide, rfl, ⟨fun i j a b _ h _ => (by cases h), rfl, rfl⟩⟩
theorem new_set1 (a : Value) {Q : Value → Shared → Prop} (q : Q (.ref s.heap.objs.size) { s with heap := s.heap.push (bareSet w) }) : codeAny (model prog w) A (.call (.builtin "set.__new__") ⟨[.type "set", a], []⟩) (wants Q E) s := by
  refine codeAny_of_tree ?_
  show wpAny (model prog w) A.in1 (do checkBuiltinCall "set.__new__" ⟨[.type "set", a], []⟩; again (.builtin "set.__new__" ⟨[.type "set", a], []⟩)) _ _ s
  refine wpAny_bind (wpAny_of_eq (F.newCall_set_1 a) (wpAny_pure ⟨plainId_quiet F.plain_set_new _, codeAny_builtin F.entry_set_new ?_⟩))
  rw [Around.under_plainId F.plain_set_new _]
  unfold Builtin.«set.__new__» Builtin.Frozenset.newClass
  have hsub := sub_set_self
  obtain ⟨hp, g, d, tk, os⟩ := s
  dsimp only
  wp_walk
  refine wpAny_askSetting (wpAny_pure ?_)
  dsimp only
  simp only [newObj]
  refine wpAny_bind (wpAny_alloc (wpAny_pure ?_))
  exact wpAny_pure q
set_option maxHeartbeats 3200000 in
/-- set(l) -/
theorem call_setL {l : Addr} {items : Array Value} {Q : Value → Shared → Prop} (hh : A.handled = none) (hl : s.heap.IsList l items) (val : Nat → K) (hv : ∀ (i : Nat) (v : Value), items[i]? = some v → knd.is (val i) v = true ∧ v.scannable = true) (hb : items.size + 1 < scanBound)
    (q : ∀ (h' : Heap) (tk : Nat) (ks : List K), SetL knd h' s.heap.objs.size ks → (∀ x, x ∈ ks ↔ ∃ j, j < items.size ∧ x = val j) → (∀ b o, b < s.heap.objs.size → s.heap.get? b = some o → h'.get? b = some o) → Q (.ref s.heap.objs.size) { s with heap := h', toks := tk }) :
    wpAny (model prog w) A (call (.type "set") [.ref l]) Q E s := by
  obtain ⟨c, tl, hmro⟩ := F.called_set.mro
  have hmade := F.called_set.made
  have hsub := F.called_set.sub
  refine wpAny_call (codeAny_of_tree ?_)
  show wpAny (model prog w) _ (callAny (.type "set") _) _ _ _
  refine wpAny_pure ⟨Code.quiet_builtin _ (by decide +kernel), codeAny_builtin F.entry_type_call ?_⟩
  rw [Around.under_plain (weight_type_call_type "set" [.ref l] []) rfl]
  have h1 := F.called_set.notType
  have h2 := F.called_set.canCreate
  have hct := F.typeCall_set_1 (.ref l)
  repeat (any_goals (first | assumption | wp_step))
  refine codeAny_mono (new_set1 (.ref l) (E := E) (Q := fun ob s₁ => ob = .ref s.heap.objs.size ∧ s₁ = { s with heap := s.heap.push (bareSet w) }) ⟨rfl, rfl⟩) fun r s₁ hr => ?_
  cases r with
  | error e => exact hr
  | ok fl =>
    cases fl with
    | ret ob =>
      obtain ⟨rfl, rfl⟩ := hr
      have hS : (s.heap.push (bareSet w)).get? s.heap.objs.size = some (bareSet w) := Heap.get?_push_size _ rfl
      have hT : Shared.TypeIs { s with heap := s.heap.push (bareSet w) } (.ref s.heap.objs.size) "set" := ⟨_, hS, rfl⟩
      have hli := F.called_set.init.lookup
      have hbi := F.called_set.init.bind (.ref s.heap.objs.size)
      repeat (any_goals (first | assumption | wp_step))
      refine codeAny_mono (codeAny_call_builtin (R := wants (fun r s₂ => r = .none ∧ ∃ h' tk ks, s₂ = { s with heap := h', toks := tk } ∧ SetL knd h' s.heap.objs.size ks ∧ (∀ x, x ∈ ks ↔ ∃ j, j < items.size ∧ x = val j) ∧ (∀ b o, b < s.heap.objs.size → s.heap.get? b = some o → h'.get? b = some o)) E)
        F.called_set.init.plain F.entry_set_init (check_set_init_1 hT ?_)) fun r₂ s₂ hr₂ => ?_
      · obtain ⟨ol, hol, hcl, nl, hdl⟩ := hl
        obtain ⟨ocls, odict, odata, oslots⟩ := ol
        simp only at hcl hdl
        subst hcl hdl
        have hol' : (s.heap.push (bareSet w)).get? l = some { cls := .type "list", dict := odict, data := .seq items nl, slots := oslots } := Heap.get?_push_of_some _ hol
        have hsls := F.sub_list_set
        have hslf := F.sub_list_frozenset
        have hne : (Value.type "list" == Value.type "dict") = false := by decide
        have hl1 : (s.heap.push (bareSet w)).IsList l items := ⟨_, hol', rfl, nl, rfl⟩
        unfold Builtin.«set.__init__» noKeywords Builtin.Frozenset.updateFrom
        generalize hPI : pyIter = PI
        wp_walk
        subst hPI
        refine wpAny_pyIter_list hl1 (wpAny_bind (wpAny_runValue ?_))
        have hlS : l < s.heap.objs.size := Heap.lt_size hol
        have hh3 : A.in1.in1.in1.handled = none := by simp [hh]
        have hneI : l ≠ (s.heap.push (bareSet w)).objs.size := by
          rw [Heap.size_push]
          exact Nat.ne_of_lt (Nat.lt_succ_of_lt hlS)
        have hSf : s.heap.objs.size ∉ [(s.heap.push (bareSet w)).objs.size, l] := by
          rw [Heap.size_push]
          simp only [List.mem_cons, List.mem_singleton, List.not_mem_nil, or_false, not_or]
          exact ⟨Nat.ne_of_lt (Nat.lt_succ_self _), Nat.ne_of_gt hlS⟩
        refine fill_loop (knd := knd) ((Walks.list hh3 _ l hneI items).toS) s.heap.objs.size hSf val hv hb (items.size - 0) 0 _ [] (by omega) (Nat.zero_le _) ⟨⟨_, Heap.get?_push_size _ rfl, rfl, rfl⟩, hl1.push _⟩
          (bareSet_ok (Heap.get?_push_of_some _ hS)) (Nat.le_refl _) fun s' ks' mv hs hx => ?_
        obtain ⟨h', g', d', tk', os'⟩ := s'
        have eg : g' = s.gens := mv.gens
        have ed : d' = s.drawn := mv.drawn
        have eo : os' = s.os := mv.os
        subst eg ed eo
        show wpAny (model prog w) _ _ _ _ _
        refine wpAny_pure ?_
        show wpAny (model prog w) _ (ret Value.none) _ _ _
        refine wpAny_pure ⟨rfl, h', tk', ks', rfl, hs, fun x => ?_, fun b o hb e => ?_⟩
        · rw [hx]
          constructor
          · rintro (z | ⟨j, _, h2, e⟩)
            · cases z
            · exact ⟨j, h2, e⟩
          · rintro ⟨j, h2, e⟩
            exact .inr ⟨j, Nat.zero_le _, h2, e⟩
        · have hb1 : b ≠ s.heap.objs.size := Nat.ne_of_lt hb
          have hb2 : b ≠ (s.heap.push (bareSet w)).objs.size := by
            rw [Heap.size_push]
            exact Nat.ne_of_lt (Nat.lt_succ_of_lt hb)
          exact mv.heap b o (by simp only [List.mem_cons, List.mem_singleton, List.not_mem_nil, or_false, not_or]; exact ⟨hb1, hb2⟩) (Heap.get?_push_of_some _ (Heap.get?_push_of_some _ e))
      · cases r₂ with
        | error e => exact hr₂
        | ok fl₂ =>
          cases fl₂ with
          | ret r =>
            obtain ⟨rfl, h', tk, ks, rfl, hs, hx, hk'⟩ := hr₂
            repeat (any_goals (first | assumption | wp_step))
            exact q _ _ _ hs hx hk'
          | _ => exact hr₂.elim
    | _ => exact hr.elim
end
end L2
/-! ### a set walked -/
namespace L2
open PySem PyProof.Rows
theorem sl_setit_next : Slot "set_iterator" "__next__" "set_iterator.__next__" :=
  .of (owner := "set_iterator") (n := "__next__") (by rw [typeLookup_type, builtinLookup_eq_fast]; kernel_rfl) (by decide +kernel) (by decide +kernel) (by decide +kernel) (by first | exact .inl (by decide +kernel) | exact .inr (by decide +kernel)) (by rw [isSubtype_type]; kernel_rfl)
theorem en_setit_next : entryFor table "set_iterator.__next__" = some Builtin.«set_iterator.__next__» := entryFor_of_tree (by kernel_rfl)
theorem ar_setit_next (a : Value) : argsOk "set_iterator.__next__" ⟨[a], []⟩ := by unfold argsOk; kernel_rfl
theorem en_set_iter : entryFor table "set.__iter__" = some Builtin.«frozenset.__iter__» :=
  entryFor_alias (id' := "frozenset.__iter__") (by kernel_rfl) rfl (by decide +kernel) (by kernel_rfl)
/-- the iterator's record -/
abbrev SetIt (h : Heap) (it a : Addr) (f : Value) (i n ep : Nat) : Prop :=
  h.get? it = some { cls := .type "set_iterator", dict := none, data := .fields #[f, .int i 0, .ref a, .int n 0, .int ep 0], slots := #[] }
section
variable {prog : Program} {w : World} {A : Around} {E : Value → Shared → Prop} {s : Shared}
/-- one turn by the table's places -/
theorem setit_item {it a : Addr} {o : Obj} {es : Array (Int × Value)} {ep sl i j : Nat} {t : SetTable} {x : Int × Value} {Q : Option Value → Shared → Prop} (hne : a ≠ it) (hi : SetIt s.heap it a (.int sl 0) i es.size ep) (ho : s.heap.get? a = some o) (hd : o.data = .set es ep t) (hf : t.fits es.size = true)
    (hb : w.params.followText "set-order" = false) (hpl : t.plain = true ∨ es.size ≤ 1) (hled : t.led = true) (hbl : SetTable.below t.place sl = i) (hx : es[i]? = some x) (hj : t.place[i]? = some j)
    (q : ∀ g, SetIt g it a (.int ((j + 1 : Nat) : Int) 0) (i + 1) es.size ep → Heap.SameBut it s.heap g → Q (some x.2) { s with heap := g }) : wpAny (model prog w) A (pyNext (.ref it)) Q E s := by
  have T : s.TypeIs (.ref it) "set_iterator" := ⟨_, hi, rfl⟩
  unfold pyNext
  refine wpAny_bind (wpAny_attempt (wpAny_callSpecial?_slot (name := Str.ofString "__next__") T sl_setit_next (wpAny_call_entry sl_setit_next T en_setit_next ?_ (ar_setit_next _))))
  unfold Builtin.«set_iterator.__next__»
  refine wpAny_bind (m := slotArgs "__next__" 0 _) (wpAny_pure ?_)
  refine wpAny_bind (wpAny_fieldsOf hi rfl ?_)
  dsimp only
  unfold setEntries
  refine wpAny_bind (wpAny_bind (wpAny_setState_of ho hd hf (wpAny_pure ?_)))
  rw [if_neg (by simp)]
  unfold setNext
  refine wpAny_bind (wpAny_bind (wpAny_setState_of ho hd hf ?_))
  unfold setsByText
  refine wpAny_bind (wpAny_bind (wpAny_askSetting (wpAny_pure ?_)))
  show wpAny (model prog w) _ (if w.params.followText "set-order" = true then _ else _) _ _ s
  rw [hb, if_neg Bool.false_ne_true]
  have nd : (!t.plain && decide (es.size > 1)) = false := by
    rcases hpl with z | z
    · rw [z]; rfl
    · rw [decide_eq_false (Nat.not_lt.mpr z), Bool.and_false]
  show wpAny (model prog w) _ (if (!t.plain && decide (es.size > 1)) = true then _ else _) _ _ s
  rw [nd, if_neg Bool.false_ne_true]
  show wpAny (model prog w) _ ((if (!t.led && !es.isEmpty) = true then unsupported "set:maker-not-led" else pure ()) >>= _) _ _ s
  rw [hled]
  refine wpAny_bind (wpAny_pure (wpAny_pure ?_))
  have e1 : SetTable.below t.place ((sl : Int)).toNat = i := by rw [Int.toNat_natCast]; exact hbl
  rw [e1, hx, hj]
  refine wpAny_bind (wpAny_setField_rec hi (by simp) fun g1 i1 s1 => ?_)
  replace i1 : SetIt g1 it a (.int ((j + 1 : Nat) : Int) 0) i es.size ep := i1
  refine wpAny_bind (wpAny_setField_rec i1 (by simp) fun g2 i2 s2 => ?_)
  exact wpAny_pure ⟨_, rfl, wpAny_pure (q g2 i2 (s1.trans s2))⟩
/-- no more by the table's places -/
theorem setit_end {it a : Addr} {o : Obj} {es : Array (Int × Value)} {ep sl : Nat} {t : SetTable} {Q : Option Value → Shared → Prop} (hh : A.handled = none) (hi : SetIt s.heap it a (.int sl 0) es.size es.size ep) (ho : s.heap.get? a = some o) (hd : o.data = .set es ep t) (hf : t.fits es.size = true)
    (hb : w.params.followText "set-order" = false) (hpl : t.plain = true ∨ es.size ≤ 1) (hled : t.led = true) (hbl : SetTable.below t.place sl = es.size)
    (q : ∀ g, Heap.ExtBut it s.heap g → Q none { s with heap := g }) : wpAny (model prog w) A (pyNext (.ref it)) Q E s := by
  have T : s.TypeIs (.ref it) "set_iterator" := ⟨_, hi, rfl⟩
  unfold pyNext
  refine wpAny_bind (wpAny_attempt (wpAny_callSpecial?_slot (name := Str.ofString "__next__") T sl_setit_next (wpAny_call_entry sl_setit_next T en_setit_next ?_ (ar_setit_next _))))
  unfold Builtin.«set_iterator.__next__»
  refine wpAny_bind (m := slotArgs "__next__" 0 _) (wpAny_pure ?_)
  refine wpAny_bind (wpAny_fieldsOf hi rfl ?_)
  dsimp only
  unfold setEntries
  refine wpAny_bind (wpAny_bind (wpAny_setState_of ho hd hf (wpAny_pure ?_)))
  rw [if_neg (by simp)]
  unfold setNext
  refine wpAny_bind (wpAny_bind (wpAny_setState_of ho hd hf ?_))
  unfold setsByText
  refine wpAny_bind (wpAny_bind (wpAny_askSetting (wpAny_pure ?_)))
  show wpAny (model prog w) _ (if w.params.followText "set-order" = true then _ else _) _ _ s
  rw [hb, if_neg Bool.false_ne_true]
  have nd : (!t.plain && decide (es.size > 1)) = false := by
    rcases hpl with z | z
    · rw [z]; rfl
    · rw [decide_eq_false (Nat.not_lt.mpr z), Bool.and_false]
  show wpAny (model prog w) _ (if (!t.plain && decide (es.size > 1)) = true then _ else _) _ _ s
  rw [nd, if_neg Bool.false_ne_true]
  show wpAny (model prog w) _ ((if (!t.led && !es.isEmpty) = true then unsupported "set:maker-not-led" else pure ()) >>= _) _ _ s
  rw [hled]
  refine wpAny_bind (wpAny_pure (wpAny_pure ?_))
  have e1 : SetTable.below t.place ((sl : Int)).toNat = es.size := by rw [Int.toNat_natCast]; exact hbl
  rw [e1, show es[es.size]? = none by simp]
  refine wpAny_bind (wpAny_setField_rec hi (by simp) fun g1 i1 s1 => ?_)
  refine wpAny_bind ?_
  simp only [newExc, newTuple]
  refine wpAny_bind (wpAny_newObj_type ?_ (by size_fits))
  refine wpAny_bind (m := firstArgMember _ _) (wpAny_of_eq (a := Value.none) (by simp only [firstArgMember]; rfl) ?_)
  refine wpAny_newObj_type ?_ (by size_fits)
  simp only [raiseNew]
  refine wpAny_bind (wpAny_handled ?_)
  rw [show A.in1.handled = none from hh]
  refine wpAny_bind (wpAny_pure (wpAny_throw ?_))
  refine wpAny_bind (wpAny_isInstance (T := "StopIteration") (b := true) ⟨_, Heap.get?_push_size _ rfl, rfl⟩ isSubtype_stop ?_)
  exact wpAny_pure (q _ ((s1.extBut.push _).push _))
end
end L2
namespace L2
open PySem PyProof.Rows
theorem erase_perm {α : Type} : ∀ (l : List α) (i : Nat) (h : i < l.length), (l[i] :: l.eraseIdx i).Perm l
  | a :: l, 0, _ => List.Perm.refl _
  | a :: l, i + 1, h => by
    have h' : i < l.length := by simpa using h
    rw [List.eraseIdx_cons_succ, List.getElem_cons_succ]
    exact (List.Perm.swap _ _ _).trans ((erase_perm l i h').cons a)
theorem pick_go {α : Type} (next : Nat → Nat) : ∀ (f k : Nat) (left : List α) (out : Array α), left.length = f → (pickOrder.go next f k left out).toList.Perm (out.toList ++ left) := by
  intro f
  induction f with
  | zero =>
    intro k left out h
    have e : left = [] := List.length_eq_zero_iff.mp h
    subst e
    unfold pickOrder.go
    simp
  | succ f ih =>
    intro k left out h
    unfold pickOrder.go
    have lt : next k % left.length < left.length := Nat.mod_lt _ (by omega)
    rw [List.getElem?_eq_getElem lt]
    dsimp only
    refine (ih (k + 1) _ _ (by rw [List.length_eraseIdx_of_lt lt]; omega)).trans ?_
    rw [Array.toList_push, List.append_assoc]
    refine List.Perm.append_left _ ?_
    exact erase_perm left _ lt
theorem pick_perm {α : Type} (next : Nat → Nat) (xs : Array α) : (pickOrder next xs).toList.Perm xs.toList := by
  have := pick_go next xs.size 0 xs.toList #[] (by simp)
  simpa [pickOrder] using this
section
variable {prog : Program} {w : World} {A : Around} {E : Value → Shared → Prop} {s : Shared}
/-- one turn by the text's order -/
theorem settx_item {it a : Addr} {o : Obj} {es : Array (Int × Value)} {ep sl i : Nat} {t : SetTable} {x : Int × Value} {Q : Option Value → Shared → Prop} (hi : SetIt s.heap it a (.int sl 0) i es.size ep) (ho : s.heap.get? a = some o) (hd : o.data = .set es ep t) (hf : t.fits es.size = true)
    (hb : w.params.followText "set-order" = true) (hx : (pickOrder (w.params.setOrder a ep) es)[i]? = some x)
    (q : ∀ g, SetIt g it a (.int sl 0) (i + 1) es.size ep → Heap.SameBut it s.heap g → Q (some x.2) { s with heap := g }) : wpAny (model prog w) A (pyNext (.ref it)) Q E s := by
  have T : s.TypeIs (.ref it) "set_iterator" := ⟨_, hi, rfl⟩
  unfold pyNext
  refine wpAny_bind (wpAny_attempt (wpAny_callSpecial?_slot (name := Str.ofString "__next__") T sl_setit_next (wpAny_call_entry sl_setit_next T en_setit_next ?_ (ar_setit_next _))))
  unfold Builtin.«set_iterator.__next__»
  refine wpAny_bind (m := slotArgs "__next__" 0 _) (wpAny_pure ?_)
  refine wpAny_bind (wpAny_fieldsOf hi rfl ?_)
  dsimp only
  unfold setEntries
  refine wpAny_bind (wpAny_bind (wpAny_setState_of ho hd hf (wpAny_pure ?_)))
  rw [if_neg (by simp)]
  unfold setNext
  refine wpAny_bind (wpAny_bind (wpAny_setState_of ho hd hf ?_))
  unfold setsByText
  refine wpAny_bind (wpAny_bind (wpAny_askSetting (wpAny_pure ?_)))
  show wpAny (model prog w) _ (if w.params.followText "set-order" = true then _ else _) _ _ s
  rw [hb, if_pos rfl]
  dsimp only
  rw [if_neg (by simp)]
  unfold setWalk setsByText
  refine wpAny_bind (wpAny_bind (wpAny_setState_of ho hd hf ?_))
  refine wpAny_bind (wpAny_bind (wpAny_askSetting (wpAny_pure ?_)))
  show wpAny (model prog w) _ (if w.params.followText "set-order" = true then _ else _) _ _ s
  rw [hb, if_pos rfl]
  refine wpAny_bind (wpAny_askSetting (wpAny_pure (wpAny_pure ?_)))
  have e1 : (pickOrder (w.params.setOrder a ep) es)[((i : Int)).toNat]? = some x := by rw [Int.toNat_natCast]; exact hx
  show wpAny (model prog w) _ (match ((pickOrder (w.params.setOrder a ep) es)[((i : Int)).toNat]?).map (fun e => (e.2, ((sl : Int)).toNat)) with | some (x, next) => _ | none => _) _ _ s
  rw [e1]
  refine wpAny_bind (wpAny_setField_rec hi (by simp) fun g1 i1 s1 => ?_)
  replace i1 : SetIt g1 it a (.int sl 0) i es.size ep := i1
  refine wpAny_bind (wpAny_setField_rec i1 (by simp) fun g2 i2 s2 => ?_)
  exact wpAny_pure ⟨_, rfl, wpAny_pure (q g2 i2 (s1.trans s2))⟩
theorem settx_end {it a : Addr} {o : Obj} {es : Array (Int × Value)} {ep sl : Nat} {t : SetTable} {Q : Option Value → Shared → Prop} (hh : A.handled = none) (hi : SetIt s.heap it a (.int sl 0) es.size es.size ep) (ho : s.heap.get? a = some o) (hd : o.data = .set es ep t) (hf : t.fits es.size = true)
    (hb : w.params.followText "set-order" = true) (q : ∀ g, Heap.ExtBut it s.heap g → Q none { s with heap := g }) : wpAny (model prog w) A (pyNext (.ref it)) Q E s := by
  have T : s.TypeIs (.ref it) "set_iterator" := ⟨_, hi, rfl⟩
  unfold pyNext
  refine wpAny_bind (wpAny_attempt (wpAny_callSpecial?_slot (name := Str.ofString "__next__") T sl_setit_next (wpAny_call_entry sl_setit_next T en_setit_next ?_ (ar_setit_next _))))
  unfold Builtin.«set_iterator.__next__»
  refine wpAny_bind (m := slotArgs "__next__" 0 _) (wpAny_pure ?_)
  refine wpAny_bind (wpAny_fieldsOf hi rfl ?_)
  dsimp only
  unfold setEntries
  refine wpAny_bind (wpAny_bind (wpAny_setState_of ho hd hf (wpAny_pure ?_)))
  rw [if_neg (by simp)]
  unfold setNext
  refine wpAny_bind (wpAny_bind (wpAny_setState_of ho hd hf ?_))
  unfold setsByText
  refine wpAny_bind (wpAny_bind (wpAny_askSetting (wpAny_pure ?_)))
  show wpAny (model prog w) _ (if w.params.followText "set-order" = true then _ else _) _ _ s
  rw [hb, if_pos rfl]
  dsimp only
  rw [if_neg (by simp)]
  unfold setWalk setsByText
  refine wpAny_bind (wpAny_bind (wpAny_setState_of ho hd hf ?_))
  refine wpAny_bind (wpAny_bind (wpAny_askSetting (wpAny_pure ?_)))
  show wpAny (model prog w) _ (if w.params.followText "set-order" = true then _ else _) _ _ s
  rw [hb, if_pos rfl]
  refine wpAny_bind (wpAny_askSetting (wpAny_pure (wpAny_pure ?_)))
  have z : (pickOrder (w.params.setOrder a ep) es).size = es.size := by rw [← Array.length_toList, (pick_perm _ es).length_eq, Array.length_toList]
  have e1 : (pickOrder (w.params.setOrder a ep) es)[((es.size : Nat) : Int).toNat]? = none := by rw [Int.toNat_natCast, ← z]; simp
  show wpAny (model prog w) _ (match ((pickOrder (w.params.setOrder a ep) es)[((es.size : Nat) : Int).toNat]?).map (fun e => (e.2, ((sl : Int)).toNat)) with | some (x, next) => _ | none => _) _ _ s
  rw [e1]
  refine wpAny_bind (wpAny_setField_rec hi (by simp) fun g1 i1 s1 => ?_)
  refine wpAny_bind ?_
  simp only [newExc, newTuple]
  refine wpAny_bind (wpAny_newObj_type ?_ (by size_fits))
  refine wpAny_bind (m := firstArgMember _ _) (wpAny_of_eq (a := Value.none) (by simp only [firstArgMember]; rfl) ?_)
  refine wpAny_newObj_type ?_ (by size_fits)
  simp only [raiseNew]
  refine wpAny_bind (wpAny_handled ?_)
  rw [show A.in1.handled = none from hh]
  refine wpAny_bind (wpAny_pure (wpAny_throw ?_))
  refine wpAny_bind (wpAny_isInstance (T := "StopIteration") (b := true) ⟨_, Heap.get?_push_size _ rfl, rfl⟩ isSubtype_stop ?_)
  exact wpAny_pure (q _ ((s1.extBut.push _).push _))
end
end L2
namespace L2
open PySem PyProof.Rows
section
variable {prog : Program} {w : World} {A : Around} {E : Value → Shared → Prop} {s : Shared}
theorem wpAny_choose' {src : Source} {n : Nat} {Q : Nat → Shared → Prop} (hn : n ≠ 0) (q : ∀ i d, i < n → Q i { s with drawn := d }) : wpAny (model prog w) A (choose src n) Q E s := fun Γ p _ => by
  unfold choose
  rw [Sem.wp_choose]
  exact ⟨hn, q _ _ (Nat.mod_lt _ (Nat.pos_of_ne_zero hn))⟩
theorem draw_order {α : Type} : ∀ (n : Nat) (xs : List α) (s : Shared) (Q : List α → Shared → Prop), xs.length = n → (∀ ys d, ys.Perm xs → Q ys { s with drawn := d }) → wpAny (model prog w) A (drawOrder n xs) Q E s := by
  intro n
  induction n with
  | zero =>
    intro xs s Q h q
    have e : xs = [] := List.length_eq_zero_iff.mp h
    subst e
    unfold drawOrder
    have := q [] s.drawn (List.Perm.refl _)
    exact wpAny_pure this
  | succ n ih =>
    intro xs s Q h q
    cases xs with
    | nil => cases h
    | cons x xs =>
      unfold drawOrder
      refine wpAny_bind (wpAny_choose' (by simp) fun i d hi => ?_)
      rw [List.getElem?_eq_getElem hi]
      refine wpAny_bind (ih _ _ _ (by rw [List.length_eraseIdx_of_lt hi]; omega) fun ys d' p => wpAny_pure ?_)
      exact q _ d' ((p.cons _).trans (erase_perm _ _ hi))
/-- one turn by a drawn order -/
theorem setdr_item {it a T : Addr} {o ot : Obj} {es : Array (Int × Value)} {ep i p m : Nat} {t : SetTable} {us : Array Value} {tk : Tok} {x : Int × Value} {Q : Option Value → Shared → Prop} (hi : SetIt s.heap it a (.ref T) i es.size ep) (hT : s.heap.get? T = some ot) (ht : ot.data = .seq us m) (hu : us[i]? = some (.int p tk))
    (ho : s.heap.get? a = some o) (hd : o.data = .set es ep t) (hf : t.fits es.size = true) (hx : es[p]? = some x)
    (q : ∀ g, SetIt g it a (.ref T) (i + 1) es.size ep → Heap.SameBut it s.heap g → Q (some x.2) { s with heap := g }) : wpAny (model prog w) A (pyNext (.ref it)) Q E s := by
  have Ti : s.TypeIs (.ref it) "set_iterator" := ⟨_, hi, rfl⟩
  unfold pyNext
  refine wpAny_bind (wpAny_attempt (wpAny_callSpecial?_slot (name := Str.ofString "__next__") Ti sl_setit_next (wpAny_call_entry sl_setit_next Ti en_setit_next ?_ (ar_setit_next _))))
  unfold Builtin.«set_iterator.__next__»
  refine wpAny_bind (m := slotArgs "__next__" 0 _) (wpAny_pure ?_)
  refine wpAny_bind (wpAny_fieldsOf hi rfl ?_)
  dsimp only
  unfold setEntries
  refine wpAny_bind (wpAny_bind (wpAny_setState_of ho hd hf (wpAny_pure ?_)))
  rw [if_neg (by simp)]
  refine wpAny_bind (wpAny_seqItems hT ht ?_)
  have e1 : us[((i : Int)).toNat]? = some (.int p tk) := by rw [Int.toNat_natCast]; exact hu
  dsimp only
  rw [e1]
  dsimp only
  unfold setNextDrawn
  refine wpAny_bind (wpAny_bind (wpAny_setState_of ho hd hf ?_))
  dsimp only
  rw [if_neg (by simp)]
  have e2 : es[((p : Int)).toNat]? = some x := by rw [Int.toNat_natCast]; exact hx
  rw [e2]
  refine wpAny_pure ?_
  refine wpAny_bind (wpAny_setField_rec hi (by simp) fun g2 i2 s2 => ?_)
  exact wpAny_pure ⟨_, rfl, wpAny_pure (q g2 i2 s2)⟩
theorem setdr_end {it a T : Addr} {o ot : Obj} {es : Array (Int × Value)} {ep m : Nat} {t : SetTable} {us : Array Value} {Q : Option Value → Shared → Prop} (hh : A.handled = none) (hi : SetIt s.heap it a (.ref T) es.size es.size ep) (hT : s.heap.get? T = some ot) (ht : ot.data = .seq us m) (hu : us.size = es.size)
    (ho : s.heap.get? a = some o) (hd : o.data = .set es ep t) (hf : t.fits es.size = true) (q : ∀ g, Heap.ExtBut it s.heap g → Q none { s with heap := g }) : wpAny (model prog w) A (pyNext (.ref it)) Q E s := by
  have Ti : s.TypeIs (.ref it) "set_iterator" := ⟨_, hi, rfl⟩
  unfold pyNext
  refine wpAny_bind (wpAny_attempt (wpAny_callSpecial?_slot (name := Str.ofString "__next__") Ti sl_setit_next (wpAny_call_entry sl_setit_next Ti en_setit_next ?_ (ar_setit_next _))))
  unfold Builtin.«set_iterator.__next__»
  refine wpAny_bind (m := slotArgs "__next__" 0 _) (wpAny_pure ?_)
  refine wpAny_bind (wpAny_fieldsOf hi rfl ?_)
  dsimp only
  unfold setEntries
  refine wpAny_bind (wpAny_bind (wpAny_setState_of ho hd hf (wpAny_pure ?_)))
  rw [if_neg (by simp)]
  refine wpAny_bind (wpAny_seqItems hT ht ?_)
  have e1 : us[((es.size : Nat) : Int).toNat]? = none := by rw [Int.toNat_natCast, ← hu]; simp
  dsimp only
  rw [e1]
  refine wpAny_bind (wpAny_setField_rec hi (by simp) fun g0 i0 s0 => ?_)
  refine wpAny_bind (wpAny_setField_rec i0 (by simp) fun g1 i1 s1 => ?_)
  refine wpAny_bind ?_
  simp only [newExc, newTuple]
  refine wpAny_bind (wpAny_newObj_type ?_ (by size_fits))
  refine wpAny_bind (m := firstArgMember _ _) (wpAny_of_eq (a := Value.none) (by simp only [firstArgMember]; rfl) ?_)
  refine wpAny_newObj_type ?_ (by size_fits)
  simp only [raiseNew]
  refine wpAny_bind (wpAny_handled ?_)
  rw [show A.in1.handled = none from hh]
  refine wpAny_bind (wpAny_pure (wpAny_throw ?_))
  refine wpAny_bind (wpAny_isInstance (T := "StopIteration") (b := true) ⟨_, Heap.get?_push_size _ rfl, rfl⟩ isSubtype_stop ?_)
  exact wpAny_pure (q _ (((s0.trans s1).extBut.push _).push _))
end
end L2
namespace L2
open PySem PyProof.Rows
theorem sl_setit_iter : Slot "set_iterator" "__iter__" "set_iterator.__iter__" :=
  .of (owner := "set_iterator") (n := "__iter__") (by rw [typeLookup_type, builtinLookup_eq_fast]; kernel_rfl) (by decide +kernel) (by decide +kernel) (by decide +kernel) (by first | exact .inl (by decide +kernel) | exact .inr (by decide +kernel)) (by rw [isSubtype_type]; kernel_rfl)
theorem en_setit_iter : entryFor table "set_iterator.__iter__" = some Builtin.«dict_keyiterator.__iter__» :=
  entryFor_alias (id' := "dict_keyiterator.__iter__") (by kernel_rfl) (by first | rfl | decide +kernel | (unfold String.splitOn; simp +decide [String.splitOnAux])) (by decide +kernel) (by kernel_rfl)
theorem ar_setit_iter (a : Value) : argsOk "set_iterator.__iter__" ⟨[a], []⟩ := by unfold argsOk; kernel_rfl
section
variable {prog : Program} {w : World} {A : Around} {E : Value → Shared → Prop} {s : Shared}
theorem setit_self {it a : Addr} {f : Value} {i n ep : Nat} {Q : Value → Shared → Prop} (h : SetIt s.heap it a f i n ep) (q : Q (.ref it) s) : wpAny (model prog w) A (pyIter (.ref it)) Q E s := by
  have T : s.TypeIs (.ref it) "set_iterator" := ⟨_, h, rfl⟩
  refine wpAny_pyIter_slot T sl_setit_iter (wpAny_call_entry sl_setit_iter T en_setit_iter ?_ (ar_setit_iter _))
  show wpAny (model prog w) _ (ret (.ref it)) _ _ s
  exact wpAny_pure ⟨_, rfl, "set_iterator", _, T, sl_setit_next.lookup, q⟩
variable {K : Type} [DecidableEq K] {knd : KeyKind prog w K}
theorem Els.get {ks : List K} {es : List (Int × Value)} (x : Els knd ks es) : ∀ {i : Nat} {e : Int × Value}, es[i]? = some e → ∃ k, ks[i]? = some k ∧ knd.is k e.2 = true := by
  induction x with
  | nil => intro i e h; simp at h
  | @cons k e' ks es h _ ih =>
    intro i e hi
    cases i with
    | zero =>
      have : e' = e := by simpa using hi
      subst this
      exact ⟨k, rfl, h.1⟩
    | succ i => simpa using ih (i := i) (e := e) (by simpa using hi)
abbrev Gives (knd : KeyKind prog w K) (ks : List K) : Nat → Value → Prop := fun i v => ∃ k, ks[i]? = some k ∧ knd.is k v = true
/-- by the table's places -/
theorem walk_places {I a : Addr} {o : Obj} {es : Array (Int × Value)} {ep : Nat} {t : SetTable} {ks : List K} (hh : A.handled = none) (hne : a ≠ I) (hd : o.data = .set es ep t) (hf : t.fits es.size = true) (hb : w.params.followText "set-order" = false) (hpl : t.plain = true ∨ es.size ≤ 1) (ok : TabOk true t) (el : Els knd ks es.toList) :
    Walks prog w A I [I, a] [I] ks.length (Gives knd ks) (fun i h => ∃ sl : Nat, SetIt h I a (.int sl 0) i es.size ep ∧ SetTable.below t.place sl = i ∧ h.get? a = some o) := by
  have z : ks.length = es.size := by rw [el.length]; simp
  have zp : t.place.size = es.size := by
    unfold SetTable.fits at hf
    simp only [Bool.and_eq_true, beq_iff_eq] at hf
    exact hf.1
  refine ⟨fun b hb => by simp at hb; simp [hb], fun i h h' st k => ?_, fun i s Q E hi st q => ?_, fun s Q E st q => ?_, fun i s Q E st q => ?_⟩
  · obtain ⟨sl, h1, h2, h3⟩ := st
    exact ⟨sl, k I (by simp) _ h1, h2, k a (by simp) _ h3⟩
  · obtain ⟨sl, h1, h2, h3⟩ := st
    have hx : es[i]? = some es[i] := Array.getElem?_eq_getElem (by omega)
    have hj : t.place[i]? = some t.place[i] := Array.getElem?_eq_getElem (by omega)
    obtain ⟨k, hk, his⟩ := el.get (i := i) (e := es[i]) (by rw [Array.getElem?_toList]; exact hx)
    exact setit_item hne h1 h3 hd hf hb hpl ok.led h2 hx hj fun g g1 sb => q _ g s.toks ⟨k, hk, his⟩ ⟨_, g1, below_after ok.rise hj, (sb.2 a hne).trans h3⟩ fun b o hb e => (sb.2 b fun z => hb (by simp [z])).trans e
  · obtain ⟨sl, h1, h2, h3⟩ := st
    rw [z] at h1 h2
    exact setit_end hh h1 h3 hd hf hb hpl ok.led h2 fun g eb => q g s.toks fun b o hb e => eb b o (fun z => hb (by simp [z])) e
  · obtain ⟨sl, h1, _⟩ := st
    exact setit_self h1 q
/-- by the text's order -/
theorem walk_text {I a : Addr} {o : Obj} {es : Array (Int × Value)} {ep : Nat} {t : SetTable} {ks : List K} (hh : A.handled = none) (hne : a ≠ I) (hd : o.data = .set es ep t) (hf : t.fits es.size = true) (hb : w.params.followText "set-order" = true) (el : Els knd ks (pickOrder (w.params.setOrder a ep) es).toList) :
    Walks prog w A I [I, a] [I] ks.length (Gives knd ks) (fun i h => SetIt h I a (.int (0 : Nat) 0) i es.size ep ∧ h.get? a = some o) := by
  have zo : (pickOrder (w.params.setOrder a ep) es).size = es.size := by rw [← Array.length_toList, (pick_perm _ es).length_eq, Array.length_toList]
  have z : ks.length = es.size := by rw [el.length, ← zo]; simp
  refine ⟨fun b hb => by simp at hb; simp [hb], fun i h h' st k => ?_, fun i s Q E hi st q => ?_, fun s Q E st q => ?_, fun i s Q E st q => ?_⟩
  · exact ⟨k I (by simp) _ st.1, k a (by simp) _ st.2⟩
  · have hx : (pickOrder (w.params.setOrder a ep) es)[i]? = some (pickOrder (w.params.setOrder a ep) es)[i] := Array.getElem?_eq_getElem (by omega)
    obtain ⟨k, hk, his⟩ := el.get (i := i) (e := (pickOrder (w.params.setOrder a ep) es)[i]) (by rw [Array.getElem?_toList]; exact hx)
    exact settx_item st.1 st.2 hd hf hb hx fun g g1 sb => q _ g s.toks ⟨k, hk, his⟩ ⟨g1, (sb.2 a hne).trans st.2⟩ fun b o hb e => (sb.2 b fun z => hb (by simp [z])).trans e
  · obtain ⟨h1, h3⟩ := st
    rw [z] at h1
    exact settx_end hh h1 h3 hd hf hb fun g eb => q g s.toks fun b o hb e => eb b o (fun z => hb (by simp [z])) e
  · exact setit_self st.1 q
theorem filterMap_get {α β : Type} {f : α → Option β} : ∀ {ys : List α} (h : ∀ y ∈ ys, (f y).isSome) (i : Nat), (ys.filterMap f)[i]? = ys[i]?.bind f
  | [], _, i => by simp
  | y :: ys, h, i => by
    obtain ⟨b, hb⟩ := Option.isSome_iff_exists.mp (h y List.mem_cons_self)
    rw [List.filterMap_cons, hb]
    cases i with
    | zero => simp [hb]
    | succ i => simpa using filterMap_get (fun z hz => h z (List.mem_cons_of_mem _ hz)) i
/-- by a drawn order -/
theorem walk_drawn {I a T : Addr} {o ot : Obj} {es : Array (Int × Value)} {ep m : Nat} {t : SetTable} {ks : List K} {ys : List Nat} (hh : A.handled = none) (hne : a ≠ I) (hTI : T ≠ I) (hd : o.data = .set es ep t) (hf : t.fits es.size = true) (ht : ot.data = .seq (ys.map fun (i : Nat) => rawInt i).toArray m) (hy : ys.Perm (List.range es.size))
    (el : Els knd ks (ys.filterMap (es[·]?))) : Walks prog w A I [I, a, T] [I] ks.length (Gives knd ks) (fun i h => SetIt h I a (.ref T) i es.size ep ∧ h.get? T = some ot ∧ h.get? a = some o) := by
  have hs : ∀ y ∈ ys, (es[y]?).isSome := fun y h => by
    have : y < es.size := List.mem_range.mp (hy.mem_iff.mp h)
    rw [Array.getElem?_eq_getElem this]
    rfl
  have ly : ys.length = es.size := by rw [hy.length_eq, List.length_range]
  have z : ks.length = es.size := by
    rw [el.length, (hy.filterMap _).length_eq, filterMap_getElem?_range es]
    simp
  refine ⟨fun b hb => by simp at hb; simp [hb], fun i h h' st k => ?_, fun i s Q E hi st q => ?_, fun s Q E st q => ?_, fun i s Q E st q => ?_⟩
  · exact ⟨k I (by simp) _ st.1, k T (by simp) _ st.2.1, k a (by simp) _ st.2.2⟩
  · have li : i < ys.length := by omega
    have hyi : ys[i]? = some ys[i] := List.getElem?_eq_getElem li
    have lp : ys[i] < es.size := List.mem_range.mp (hy.mem_iff.mp (List.getElem_mem li))
    have hx : es[ys[i]]? = some es[ys[i]] := Array.getElem?_eq_getElem lp
    obtain ⟨k, hk, his⟩ := el.get (i := i) (e := es[ys[i]]) (by rw [filterMap_get hs, hyi]; exact hx)
    have hu : ((ys.map fun (i : Nat) => rawInt i).toArray)[i]? = some (.int (ys[i] : Nat) 0) := by simp [hyi, rawInt]
    exact setdr_item st.1 st.2.1 ht hu st.2.2 hd hf hx fun g g1 sb => q _ g s.toks ⟨k, hk, his⟩ ⟨g1, (sb.2 T hTI).trans st.2.1, (sb.2 a hne).trans st.2.2⟩ fun b o hb e => (sb.2 b fun z => hb (by simp [z])).trans e
  · obtain ⟨h1, h2, h3⟩ := st
    rw [z] at h1
    exact setdr_end hh h1 h2 ht (by simp [ly]) h3 hd hf fun g eb => q g s.toks fun b o hb e => eb b o (fun z => hb (by simp [z])) e
  · exact setit_self st.1 q
end
end L2
namespace L2
open PySem PyProof.Rows
section
variable {prog : Program} {w : World} {A : Around} {E : Value → Shared → Prop} {s : Shared} {K : Type} [DecidableEq K] {knd : KeyKind prog w K}
/-- iter(a set): its members in some order -/
theorem iter_setL {a : Addr} {ks : List K} {Q : Value → Shared → Prop} {B : Around} (hh : B.handled = none) (hS : SetL knd s.heap a ks)
    (q : ∀ (I : Addr) (fp : List Addr) (St : Nat → Heap → Prop) (ks' : List K) (g : Heap) (d : Drawn), ks'.Perm ks → Walks prog w B I fp [I] ks'.length (Gives knd ks') St → St 0 g → s.heap.objs.size ≤ I → (∀ b ∈ fp, b = a ∨ s.heap.objs.size ≤ b) → (∀ b ∈ fp, b < g.objs.size) →
      (∀ b o, s.heap.get? b = some o → g.get? b = some o) → Q (.ref I) { s with heap := g, drawn := d }) : wpAny (model prog w) A (pyIter (.ref a)) Q E s := by
  have hT := hS.setOf.typeIs
  obtain ⟨o, es, ep, t, ho, hex, hd, el, nd, hb, hf, ok⟩ := hS
  have la := Heap.lt_size ho
  refine wpAny_pyIter_slot hT F.slot_set_iter (wpAny_call_entry F.slot_set_iter hT en_set_iter ?_ (F.args_set_iter_1 _))
  unfold Builtin.«frozenset.__iter__»
  refine wpAny_bind (m := Builtin.Frozenset.slot0 "__iter__" _) (wpAny_pure ?_)
  unfold Builtin.Frozenset.sizeOf setEntries setDrawn setsByText
  refine wpAny_bind (wpAny_bind (wpAny_bind (wpAny_setState_of ho hd hf (wpAny_pure (wpAny_pure ?_)))))
  refine wpAny_bind (wpAny_bind (wpAny_setState_of ho hd hf ?_))
  refine wpAny_bind (wpAny_bind (wpAny_askSetting (wpAny_pure (wpAny_pure ?_))))
  have mk : ∀ (f : Value) (s1 : Shared), s1.heap.get? a = some o → ∀ R : Value → Shared → Prop, R (.ref s1.heap.objs.size) { s1 with heap := s1.heap.push { cls := .type "set_iterator", data := .fields #[f, .int (0 : Nat) 0, .ref a, .int es.size 0, .int ep 0] } } →
      wpAny (model prog w) A.in1 (do
        let e ← setEpoch a
        let v ← newFields "set_iterator" [f, rawInt 0, Value.ref a, rawInt es.size, rawInt e]
        ret v) (fun fin s' => ∃ v, fin = Fin.done (Flow.ret v) ∧ ∃ T' r, s'.TypeIs v T' ∧ typeLookup (Value.type T') (Str.ofString "__next__") = pure (some r) ∧ R v s') E s1 := fun f s1 h1 R hR => by
    refine wpAny_bind (wpAny_setEpoch_of h1 hd hf ?_)
    exact wpAny_bind (wpAny_newObj_type (wpAny_pure ⟨_, rfl, "set_iterator", _, ⟨_, Heap.get?_push_size _ rfl, rfl⟩, sl_setit_next.lookup, hR⟩))
  have hzn : es.size ≤ sizeLine := fits_of_scanBound hb
  show wpAny (model prog w) _ (if (!w.params.followText "set-order" && (!t.plain && decide (es.size > 1))) = true then _ else _) _ _ s
  have kp1 : ∀ (u : Obj) (b : Addr) (x : Obj), s.heap.get? b = some x → (s.heap.push u).get? b = some x := fun u b x e => Heap.get?_push_of_some _ e
  have lt1 : ∀ (u : Obj) (b : Addr), b ∈ [s.heap.objs.size, a] → b < (s.heap.push u).objs.size := fun u b hb => by
    rw [Heap.size_push]
    rcases List.mem_cons.mp hb with z | z
    · rw [z]; exact Nat.lt_succ_self _
    · rw [List.mem_singleton.mp z]; exact Nat.lt_succ_of_lt la
  have fp1 : ∀ b ∈ [s.heap.objs.size, a], b = a ∨ s.heap.objs.size ≤ b := fun b hb => by
    rcases List.mem_cons.mp hb with z | z
    · exact .inr (Nat.le_of_eq z.symm)
    · exact .inl (List.mem_singleton.mp z)
  cases hbt : w.params.followText "set-order" with
  | true =>
    rw [if_neg (by simp)]
    refine wpAny_bind (wpAny_pure (mk (rawInt 0) s ho Q ?_))
    obtain ⟨ks', p, el'⟩ := el.perm (pick_perm (w.params.setOrder a ep) es)
    exact q s.heap.objs.size [s.heap.objs.size, a] _ ks' _ s.drawn p (walk_text hh (Nat.ne_of_lt la) hd hf hbt el') ⟨Heap.get?_push_size _ rfl, kp1 _ _ _ ho⟩ (Nat.le_refl _) fp1 (lt1 _) (kp1 _)
  | false =>
    rw [hbt] at ok
    cases hdr : (!t.plain && decide (es.size > 1)) with
    | false =>
      rw [if_neg (by simp)]
      refine wpAny_bind (wpAny_pure (mk (rawInt 0) s ho Q ?_))
      have hpl : t.plain = true ∨ es.size ≤ 1 := by
        rcases Bool.and_eq_false_iff.mp hdr with z | z
        · exact .inl (by simpa using z)
        · exact .inr (Nat.not_lt.mp (of_decide_eq_false z))
      exact q s.heap.objs.size [s.heap.objs.size, a] _ ks _ s.drawn (List.Perm.refl _) (walk_places hh (Nat.ne_of_lt la) hd hf hbt hpl ok el) ⟨0, Heap.get?_push_size _ rfl, below_zero ok.rise, kp1 _ _ _ ho⟩ (Nat.le_refl _) fp1 (lt1 _) (kp1 _)
    | true =>
      rw [if_pos (by decide)]
      refine wpAny_bind (draw_order _ _ _ _ (by simp) fun ys d p => ?_)
      have ly : ys.length = es.size := by rw [p.length_eq]; simp
      refine wpAny_bind (wpAny_newTuple ?_ (by simp [ly]; exact hzn))
      obtain ⟨ks', p', el'⟩ := el.perm (show (ys.filterMap (es[·]?)).Perm es.toList from (p.filterMap _).trans (by rw [filterMap_getElem?_range es]))
      refine mk _ _ (kp1 _ _ _ ho) Q ?_
      have nT : s.heap.objs.size ≠ (s.heap.push { cls := .type "tuple", data := .seq (ys.map fun (i : Nat) => rawInt i).toArray }).objs.size := by
        rw [Heap.size_push]
        exact Nat.ne_of_lt (Nat.lt_succ_self _)
      have na : a ≠ (s.heap.push { cls := .type "tuple", data := .seq (ys.map fun (i : Nat) => rawInt i).toArray }).objs.size := by
        rw [Heap.size_push]
        exact Nat.ne_of_lt (Nat.lt_succ_of_lt la)
      refine q (s.heap.push { cls := .type "tuple", data := .seq (ys.map fun (i : Nat) => rawInt i).toArray }).objs.size [_, a, s.heap.objs.size] _ ks' _ d p' (walk_drawn hh na nT hd hf rfl p el') ⟨Heap.get?_push_size _ rfl, Heap.get?_push_of_some _ (Heap.get?_push_size _ rfl), Heap.get?_push_of_some _ (kp1 _ _ _ ho)⟩ ?_ ?_ ?_ fun b x e => Heap.get?_push_of_some _ (kp1 _ b x e)
      · rw [Heap.size_push]
        exact Nat.le_succ _
      · intro b hb
        simp only [List.mem_cons, List.not_mem_nil, or_false] at hb
        rcases hb with z | z | z
        · rw [z, Heap.size_push]; exact .inr (Nat.le_succ _)
        · exact .inl z
        · exact .inr (Nat.le_of_eq z.symm)
      · intro b hb
        simp only [List.mem_cons, List.not_mem_nil, or_false] at hb
        rw [Heap.size_push, Heap.size_push]
        rcases hb with z | z | z
        · rw [z, Heap.size_push]; exact Nat.lt_succ_self _
        · rw [z]; exact Nat.lt_succ_of_lt (Nat.lt_succ_of_lt la)
        · rw [z]; exact Nat.lt_succ_of_lt (Nat.lt_succ_self _)
end
end L2
namespace L2
open PySem PyProof.Rows
section
variable {prog : Program} {w : World} {A : Around} {E : Value → Shared → Prop} {s : Shared}
theorem hint_set {r : Addr} {Q : Bool → Shared → Prop} (hT : s.TypeIs (.ref r) "set") (q : Q false s) : wpAny (model prog w) A (Builtin.List.listLengthHint (.ref r)) Q E s := by
  unfold Builtin.List.listLengthHint
  refine wpAny_bind (wpAny_specialOf hT PySem.F.slot_set_len.lookup ?_)
  generalize hid : ("set.__len__" : String) = id0
  wp_delta
  rw [show splitId id0 = some ("set", "__len__") by subst hid; decide +kernel]
  subst hid
  refine wpAny_bind (wpAny_isInstance (T := "set") (b := true) hT (by rw [isSubtype_type]; kernel_rfl) ?_)
  refine wpAny_ite_split (fun z => absurd z (by decide)) fun _ => wpAny_ite_split (fun _ => ?_) fun z => absurd (by decide +kernel) z
  exact wpAny_bind (wpAny_typeOf hT (wpAny_pure q))
variable {K : Type} [DecidableEq K] {knd : KeyKind prog w K}
/-- a set's members put behind an empty list -/
theorem ext_setL {R : Result → Shared → Prop} {a S : Addr} {ks : List K} {c : Nat} {res : Value} (hh : A.handled = none) (hS : SetL knd s.heap a ks) (hn : ks.length ≤ sizeLine) (ne : S ≠ a) (hl : s.heap.get? S = some { cls := .type "list", data := .seq #[] c })
    (q : ∀ ks' h' d tk acc c', ks'.Perm ks → (∀ b o, b ≠ S → s.heap.get? b = some o → h'.get? b = some o) → h'.get? S = some { cls := .type "list", dict := none, data := .seq acc c', slots := #[] } → ItemsOf (Gives knd ks') acc ks'.length → R (.ok (.ret res)) { s with heap := h', drawn := d, toks := tk }) :
    wpAny (model prog w) A.in1 (Builtin.List.listExtendWith (.ref S) (.ref a) res) (fun fin s' => match fin with | .done f => R (.ok f) s' | .again c' => c'.quiet = true ∧ codeAny (model prog w) A c' R s') (fun e s' => R (.error e) s') s := by
  have hT := hS.setOf.typeIs
  unfold Builtin.List.listExtendWith
  refine wpAny_bind (wpAny_typeOf (T := "set") hT ?_)
  have h1 : Builtin.List.listSameRef (.ref S) (.ref a) = false := by simp [Builtin.List.listSameRef, ne]
  have h2 : (Value.type "set" == Value.type "list") = false := by decide
  have h3 : (Value.type "set" == Value.type "tuple") = false := by decide
  simp only [h1, h2, h3, Bool.or_false, Bool.false_eq_true, if_false]
  refine wpAny_bind (iter_setL (B := A.in1) hh hS fun I fp St ks' g d p W st hI hfp hlt kp => ?_)
  have lS := Heap.lt_size hl
  have nI : S ≠ I := fun z => absurd (Nat.lt_of_lt_of_le lS hI) (by rw [z]; exact Nat.lt_irrefl _)
  have nf : S ∉ fp := fun m => by
    rcases hfp S m with z | z
    · exact ne z
    · exact absurd (Nat.lt_of_lt_of_le lS z) (Nat.lt_irrefl _)
  have key : ∀ (h : Heap) (c1 tk : Nat), St 0 h → (∀ b o, b ≠ S → s.heap.get? b = some o → h.get? b = some o) → h.get? S = some { cls := .type "list", data := .seq #[] c1 } →
      codeAny (model prog w) A (.builtin "list.extend.loop" ⟨[.ref S, .ref I, res], []⟩) R { s with heap := h, drawn := d, toks := tk } := by
    intro h c1 tk hst hk hS1
    refine codeAny_extend_loopS W.toS (by rw [p.length_eq]; exact hn) S nf res ks'.length 0 _ #[] c1 rfl (Nat.zero_le _) hst hS1 (ItemsOf.nil _) fun s' acc' c' hm hS' hacc => ?_
    rw [Moved.eq_with hm]
    refine q ks' s'.heap d s'.toks acc' c' p (fun b o hb e => hm.heap b o (fun hmem => ?_) (hk b o hb e)) hS' hacc
    rcases List.mem_cons.mp hmem with z | z
    · exact hb z
    · exact absurd (Nat.lt_of_lt_of_le (Heap.lt_size e) hI) (by rw [List.mem_singleton.mp z]; exact Nat.lt_irrefl _)
  have hS1 := kp _ _ hl
  have hT1 : Shared.TypeIs { s with heap := g, drawn := d } (.ref a) "set" := by
    obtain ⟨o, e, hc⟩ := hT
    exact ⟨o, kp _ _ e, hc⟩
  refine wpAny_bind (wpAny_holding (hint_set hT1 ?_))
  refine wpAny_ite_split (fun _ => ?_) (fun _ => wpAny_pure ⟨plainId_quiet PySem.F.plain_extend_loop _, key g c s.toks st (fun b o _ e => kp b o e) hS1⟩)
  refine wpAny_bind (wpAny_rule (wpAny_bind ?_))
  show wpAny (model prog w) _ (updateSeq S (·.push .none) >>= fun _ => updateSeq S (·.pop)) _ _ _
  refine wpAny_bind (wpAny_updateSeq hS1 rfl ?_)
  have hS2 := Heap.get?_update_self (Obj.mapSeq (·.push Value.none)) hS1 rfl
  refine wpAny_updateSeq (hz := by seq_fits) hS2 rfl ?_
  have hS3 := Heap.get?_update_self (Obj.mapSeq (·.pop)) hS2 rfl
  refine wpAny_pure ⟨plainId_quiet PySem.F.plain_extend_loop _, key _ _ _ ?_ (fun b o hb e => ?_) hS3⟩
  · refine W.frame 0 _ _ st fun b hb o e => ?_
    have hbS : b ≠ S := fun z => nf (z ▸ hb)
    exact (Heap.get?_update_other _ _ (Ne.symm hbS)).trans ((Heap.get?_update_other _ _ (Ne.symm hbS)).trans e)
  · exact (Heap.get?_update_other _ _ (Ne.symm hb)).trans ((Heap.get?_update_other _ _ (Ne.symm hb)).trans (kp b o e))
/-- collected -/
theorem coll_setL {a : Addr} {ks : List K} {Q : List Value → Shared → Prop} (hh : A.handled = none) (hS : SetL knd s.heap a ks) (hn : ks.length ≤ sizeLine)
    (q : ∀ ks' h' d tk acc, ks'.Perm ks → (∀ b o, s.heap.get? b = some o → h'.get? b = some o) → s.heap.objs.size < h'.objs.size → ItemsOf (Gives knd ks') acc ks'.length → Q acc.toList { s with heap := h', drawn := d, toks := tk }) : wpAny (model prog w) A (collect (.ref a)) Q E s := by
  have la : a < s.heap.objs.size := by
    obtain ⟨o, es, ep, t, ho, _⟩ := hS
    exact Heap.lt_size ho
  unfold collect
  refine wpAny_bind (wpAny_runValue (codeAny_builtin PySem.F.entry_proto_collect ?_))
  rw [Around.under_plainId PySem.F.plain_proto_collect _]
  have new : (s.heap.push { cls := .type "list", data := .seq ([] : List Value).toArray }).get? s.heap.objs.size = some { cls := .type "list", data := .seq #[] 0 } := Heap.get?_push_size _ rfl
  have hS1 : SetL knd (s.heap.push { cls := .type "list", data := .seq ([] : List Value).toArray }) a ks := hS.at fun o e => Heap.get?_push_of_some _ e
  have key : ∀ R : Result → Shared → Prop, (∀ ks' h' d tk acc c, ks'.Perm ks → (∀ b o, b ≠ s.heap.objs.size → (s.heap.push { cls := .type "list", data := .seq ([] : List Value).toArray }).get? b = some o → h'.get? b = some o) →
      h'.get? s.heap.objs.size = some { cls := .type "list", dict := none, data := .seq acc c, slots := #[] } → ItemsOf (Gives knd ks') acc ks'.length → R (.ok (.ret (.ref s.heap.objs.size))) { s with heap := h', drawn := d, toks := tk }) →
      codeAny (model prog w) A (.builtin "list.__iadd__" ⟨[.ref s.heap.objs.size, .ref a], []⟩) R { s with heap := s.heap.push { cls := .type "list", data := .seq ([] : List Value).toArray } } := by
    intro R hR
    refine codeAny_builtin PySem.F.entry_list_iadd ?_
    rw [Around.under_plainId PySem.F.plain_list_iadd _]
    exact ext_setL (s := { s with heap := s.heap.push { cls := .type "list", data := .seq ([] : List Value).toArray } }) hh hS1 hn (Nat.ne_of_gt la) new fun ks' h' d tk acc c p kp hL it => hR ks' h' d tk acc c p kp hL it
  show wpAny (model prog w) A.in1 (newList [] >>= fun x => again (.builtin "list.__iadd__" ⟨[x, .ref a], []⟩)) _ _ s
  refine wpAny_bind (wpAny_newObj_type (wpAny_pure ⟨plainId_quiet PySem.F.plain_list_iadd _, key _ fun ks' h' d tk acc c p kp hL it => ?_⟩))
  show wpAny (model prog w) A (load s.heap.objs.size >>= _) Q E { s with heap := h', drawn := d, toks := tk }
  refine wpAny_bind (wpAny_load hL (wpAny_pure ?_))
  exact q ks' h' d tk acc p (fun b o e => kp b o (Nat.ne_of_lt (Heap.lt_size e)) (Heap.get?_push_of_some _ e)) (Heap.lt_size hL) it
end
end L2
/-! ### sorted(set(a list of ints)) -/
namespace L2
open PySem PySem.Spec PyProof.Rows
theorem Inv.drew {X : Cx} {pins : List (Addr × Obj)} {σ : St} {H : Hp} {s : Shared} (I : Inv X pins σ H s) (d : Drawn) : Inv X pins σ H { s with drawn := d } :=
  ⟨I.ok, I.os, I.bare, I.base, I.loc, I.cell, I.free, I.freeC, I.pin, I.hok, I.len⟩
theorem vals_gives {P : Program} {w : World} : ∀ (ks : List Int) (us : List Value), us.length = ks.length → (∀ (j : Nat) (v : Value), us[j]? = some v → Gives (intKind P w) ks j v) → Vals (ks.map V.int) us
  | [], [], _, _ => .nil
  | [], _ :: _, h, _ => by cases h
  | _ :: _, [], h, _ => by cases h
  | k :: ks, u :: us, h, g => by
    obtain ⟨k', e, his⟩ := g 0 u rfl
    have ek : k = k' := Option.some.inj e
    subst ek
    refine .cons ?_ (vals_gives (P := P) (w := w) ks us (Nat.succ.inj h) fun j v hj => g (j + 1) v hj)
    obtain ⟨t, rfl⟩ := Value.isInt_shape (show Value.isInt k u = true from his)
    exact ⟨t, rfl⟩
theorem nodup_le {α : Type} [DecidableEq α] : ∀ {ks ns : List α}, ks.Nodup → (∀ k ∈ ks, k ∈ ns) → ks.length ≤ ns.length
  | [], _, _, _ => Nat.zero_le _
  | k :: ks, ns, nd, h => by
    obtain ⟨n1, n2⟩ := List.nodup_cons.mp nd
    have m := h k List.mem_cons_self
    have := nodup_le (ns := ns.erase k) n2 fun x hx => (List.mem_erase_of_ne (a := x) (b := k) fun z => n1 (by rw [← z]; exact hx)).mpr (h x (List.mem_cons_of_mem _ hx))
    rw [List.length_erase_of_mem m] at this
    have := List.length_pos_of_mem m
    simp only [List.length_cons]
    omega
section
variable {X : Cx} {e : Expr} {te : TE}
def tSSet (K : PySem.W.Frag) (te : TE) : TE := fun σ H Q => te σ H fun x H1 => ∃ (a : Addr) (ns : List Int), x = .ref a ∧ SqL K H1 a (ns.map V.int) ∧ ns.length < 64 ∧ ∀ (l : Addr) (ms : List Int), ms.Pairwise (· < ·) → (∀ k, k ∈ ms ↔ k ∈ ns) → H1 l = none → Q (.ref l) (upd H1 l (.lst (ms.map V.int)))
theorem pe_sset {p1 p2 q1 q2 : Pos} (hc : X.calm = true) (g1 : Gl X "sorted") (m1 : X.mg "sorted" = none) (g2 : Gl X "set") (m2 : X.mg "set" = none) (he : PE X e te) (h1 : starEach [e] X.env = [(false, eval e X.env)] := by rfl)
    (h2 : starEach [.Call (.Name "set" p2) [e] [] q2] X.env = [(false, eval (.Call (.Name "set" p2) [e] [] q2) X.env)] := by rfl) : PE X (.Call (.Name "sorted" p1) [.Call (.Name "set" p2) [e] [] q2] [] q1) (tSSet X.K te) := by
  intro pins s σ H Q I h
  refine wpAny_Call_Name_kw (ld_blt I g1 m1 boot_sorted ?_)
  refine PyProof.Rows.callWith_builtin1 ?_ h2 rfl
  rw [h2]
  show wpAny (model X.prog X.w) _ (spliced ((false, eval (.Call (.Name "set" p2) [e] [] q2) X.env) :: backTo q1 (starEach [] X.env))) _ _ s
  refine Calls.spliced_cons ?_
  refine wpAny_Call_Name_kw (ld_blt I g2 m2 boot_set ?_)
  refine PyProof.Rows.callWith_type1 ?_ h1 rfl
  rw [h1]
  show wpAny (model X.prog X.w) _ (spliced ((false, eval e X.env) :: backTo q2 (starEach [] X.env))) _ _ s
  refine Calls.spliced_cons (thn (he pins s σ H _ I h) fun u s1 ⟨x, H1, I1, r1, q⟩ => ?_)
  obtain ⟨a, ns, rfl, hq, h64, q⟩ := q
  cases r1
  refine Calls.spliced_nil ?_
  obtain ⟨its, rv, pl, _⟩ := I1.list hq
  have hl : its.length = ns.length := by
    have := rv.length
    rw [List.length_map] at this
    exact this.symm
  have hh := I1.ok.hd hc
  have hv : ∀ (i : Nat) (v : Value), its.toArray[i]? = some v → (intKind X.prog X.w).is (ns.getD i 0) v = true ∧ v.scannable = true := fun i v hi => by
    obtain ⟨t, rfl⟩ := IntsAre.int_at (ints_of rv) i v (by simpa using hi)
    exact ⟨intKind_is _ _ _ _, rfl⟩
  refine call_setL (knd := intKind X.prog X.w) hh pl.isList (fun i => ns.getD i 0) hv (by simp [hl]; unfold scanBound; omega) fun h2 tk ks hS hx kp => ?_
  have I2 : Inv X pins σ H1 { s1 with heap := h2, toks := tk } := I1.kept fun b o z => kp b o (Heap.lt_size z) z
  have mem : ∀ k, k ∈ ks ↔ k ∈ ns := fun k => by
    rw [hx]
    constructor
    · rintro ⟨j, hj, rfl⟩
      have lj : j < ns.length := by simpa [hl] using hj
      rw [List.getD_eq_getElem?_getD, List.getElem?_eq_getElem lj]
      exact List.getElem_mem lj
    · intro m
      obtain ⟨j, hj, z⟩ := List.getElem_of_mem m
      exact ⟨j, by simpa [hl] using hj, by rw [List.getD_eq_getElem?_getD, List.getElem?_eq_getElem hj]; exact z.symm⟩
  have nd : ks.Nodup := by
    obtain ⟨_, _, _, _, _, _, _, _, nd, _⟩ := hS
    exact nd
  have le : ks.length ≤ ns.length := nodup_le nd fun k hk => (mem k).mp hk
  refine Calls.spliced_nil ?_
  refine Calls.call_function_entry kind_sorted plain_sorted entry_sorted (args_sorted1 _) ?_
  unfold Builtin.«sorted»
  refine wpAny_bind (m := checkCount "sorted" 1 1 _) (wpAny_pure (wpAny_bind (coll_setL (knd := intKind X.prog X.w) (s := { s1 with heap := h2, toks := tk }) hh hS (Nat.le_of_lt (small (by omega))) fun ks' h3 d tk' acc p kp3 lt3 it => ?_)))
  have I3 : Inv X pins σ H1 { s1 with heap := h3, drawn := d, toks := tk' } := (I2.kept (t' := tk') kp3).drew d
  have rv3 : Vals (ks'.map V.int) acc.toList := vals_gives (P := X.prog) (w := X.w) ks' acc.toList (by simpa using it.1) fun j v hj => it.2 j v (by simpa using hj)
  have l3 : acc.toList.length < 64 := by
    have := rv3.length
    rw [List.length_map, p.length_eq] at this
    omega
  have hL : (h3.push (seqObj "list" acc.toList.toArray 0)).get? h3.objs.size = some (seqObj "list" acc.toList.toArray 0) := Heap.get?_push_size _ rfl
  refine wpAny_bind (wpAny_newList ?_)
  refine wpAny_bind (wpAny_holding (wpAny_call_entry slot_list_sort ⟨_, hL, rfl⟩ entry_list_sort (list_sort_tree hL (ints_of rv3) l3 fun out ms a1 a2 a3 => ⟨_, rfl, ?_⟩) (args_list_sort _)))
  refine wpAny_pure ⟨_, rfl, ?_⟩
  obtain ⟨ee, hee⟩ := sortedHeap_at (out := out) hL
  have pm : ms.Perm ks := a2.trans p
  have ndm : ms.Nodup := pm.nodup_iff.mpr nd
  have lt : ms.Pairwise (· < ·) := (a3.and ndm).imp fun z => by
    have := z.1
    have := z.2
    omega
  refine ⟨.ref h3.objs.size, _, I3.laid (a := h3.objs.size) (o := .lst (ms.map V.int)) (t' := tk') (fun b o z => ?_) (Nat.le_refl _) ?_, rfl, q _ ms lt (fun k => by rw [pm.mem_iff]; exact mem k) (I3.hok.fresh (Nat.le_refl _))⟩
  · have l := Heap.lt_size z
    rw [sortedHeap_old (Nat.ne_of_lt l) (by rw [Heap.size_push]; exact Nat.lt_succ_of_lt l)]
    exact Heap.get?_push_of_some _ z
  · refine ⟨?_, out.toList, ee, of_ints a1, ?_⟩
    · rw [List.length_map, pm.length_eq]
      exact Nat.le_of_lt (small (by omega))
    · rw [hee]
end
end L2
namespace K15
open PySem L2 PyProof.Rows
def top (i : Nat) : Stmt := PySem.Challenge.pw_clonewood_k15_whole_life_of_a_file.main.body.getD i (.Pass ⟨0, 0, 0, 0⟩)
abbrev sWho : Stmt := top 1
abbrev sWth : Stmt := top 2
abbrev sTof : Stmt := top 3
abbrev sEnd : Stmt := top 13
abbrev sEip : Stmt := top 14
abbrev sPts : Stmt := top 15
abbrev sWo : Stmt := top 16
abbrev sShi : Stmt := top 17
abbrev sGoe : Stmt := top 18
abbrev sJoi : Stmt := top 19
abbrev sTid : Stmt := top 20
abbrev sLad : Stmt := top 21
abbrev sGap : Stmt := top 22
abbrev sPla : Stmt := top 23
abbrev sCof : Stmt := top 24
abbrev sSpl : Stmt := top 25
abbrev sItp : Stmt := top 26
abbrev sIst : Stmt := top 27
abbrev sIsr : Stmt := top 28
abbrev sStm : Stmt := top 31
abbrev sPut : Stmt := top 32
abbrev sSha : Stmt := top 33
abbrev sCut : Stmt := top 34
abbrev sDee : Stmt := top 35
abbrev sHol : Stmt := top 36
abbrev sRig : Stmt := top 37
abbrev sLaw : Stmt := top 38
def noPos : Pos := ⟨0, 0, 0, 0⟩
def lamOf (q : Str) : Expr → LamT × Pos
  | .Lambda ps (.Subscript (.Name y p1) (.Name x p2) p3) sc lp => (⟨q, ps, x, y, p1, p2, p3, sc⟩, lp)
  | _ => (⟨q, ⟨[], [], none, [], [], none, []⟩, "", "", noPos, noPos, noPos, defScope sPts⟩, noPos)
def orFst : Expr → Expr
  | .BoolOp _ l _ => l.getD 0 (.Name "" noPos)
  | e => e
def cmpL : Expr → Expr
  | .Compare l _ _ _ => l
  | e => e
def arg2 : Expr → Expr
  | .Call _ l _ _ => l.getD 2 (.Name "" noPos)
  | e => e
def inIf : Stmt → Expr
  | .If e _ _ _ => arg2 (cmpL (orFst e))
  | _ => .Name "" noPos
def bodyOf : Stmt → List Stmt
  | .FunctionDef _ _ b _ _ _ _ _ _ _ => b
  | _ => []
def lR : LamT × Pos := lamOf "_law_right.<locals>.<lambda>" (inIf ((bodyOf sRig).getD 4 (.Pass noPos)))
def lamR : LamT := lR.1
def posR : Pos := lR.2
theorem okR : lamR.Ok := ⟨⟨rfl, rfl, rfl, by decide +kernel, rfl⟩, fun _ _ _ _ => rfl, fun _ _ _ _ => rfl, fun _ _ _ _ _ => rfl, by decide +kernel, by decide +kernel, by decide +kernel, fun _ _ => rfl⟩
/-- what the top has of names -/
structure Txt (mg : Str → Option Value) : Prop where
  isi : mg "isinstance" = none
  int : mg "int" = none
  bol : mg "bool" = none
  len : mg "len" = none
  rng : mg "range" = none
  lst : mg "list" = none
  tup : mg "tuple" = none
  min : mg "min" = none
  max : mg "max" = none
  srt : mg "sorted" = none
  set : mg "set" = none
  all : mg "all" = none
  zip : mg "zip" = none
  enu : mg "enumerate" = none
  mc : ∃ t, mg "MOST_CELLS" = some (.int 40 t)
  pc8 : ∃ t, mg "PIECE_CELLS" = some (.int 8 t)
  fp : ∃ t, mg "FIRST_PLACE" = some (.int 2 t)
  lp : ∃ t, mg "LAST_PLACE" = some (.int 599 t)
  at0 : ∃ t, mg "AT" = some (.int 0 t)
  lg : ∃ t, mg "LONG" = some (.int 1 t)
  pl2 : ∃ t, mg "PLACE" = some (.int 2 t)
  sk3 : ∃ t, mg "SKIP" = some (.int 3 t)
section
variable (K : PySem.W.Frag)
theorem kit_tt : PySem.W.kitOne K (.type "tuple") (.type "tuple") = some true := by kernel_rfl
end
end K15
set_option maxHeartbeats 4000000
namespace K15
open PySem L2
section
variable {P : Program} {w : World} {K : PySem.W.Frag} {mg : Str → Option Value} {base : Heap} {f g fPts fEnd fEip fGoe fJoi fWo fTid : Addr} {fd gd2 dPts dEnd dEip dGoe dJoi dWo dTid : FuncData}
theorem dec_int (a b : Int) : decide (V.int a = V.int b) = decide (a = b) := decide_eq_decide.mpr ⟨fun h => by injection h, fun h => by rw [h]⟩
/-! ### end_of, end_in_piece, goes_on -/
def spEnd : Sp := fun vs H Q _ => ∃ (q : Addr) (r : S4), vs = [.ref q] ∧ H q = some (.tup (tv r)) ∧ Q (.int (r.1 + r.2.1)) H
theorem scEnd : FnScope ["stretch"] ["stretch"] (defScope sEnd) := ⟨rfl, rfl, rfl, by decide +kernel, rfl, by decide +kernel, by decide +kernel⟩
theorem ok_End (F : Fun K "end_of" "end_of" sEnd f fd) (T : Txt mg) : FnOk P w K mg base CX0 1 f fd ["stretch"] spEnd := by
  refine F.ok scEnd (fun vs H Q E h => ?_) (fun cdv A outer s H vs Q E hr h => ?_)
  · obtain ⟨q, r, rfl, _⟩ := h
    rfl
  obtain ⟨q, r, rfl, hq, qq⟩ := h
  obtain ⟨t1, at0⟩ := T.at0
  obtain ⟨t2, lg⟩ := T.lg
  refine ⟨_, (pss_one (ps_ret (pe_op op_add (pe_ix ix_tup (pv 0) (pe_glob (v := .int 0) rfl at0 ⟨_, rfl⟩) (fun _ _ => rfl)) (pe_ix ix_tup (pv 0) (pe_glob (v := .int 1) rfl lg ⟨_, rfl⟩) (fun _ _ => rfl))))), ?_⟩
  exact ⟨_, rfl, q, _, _, .int r.1, rfl, rfl, SqT.of hq, rfl, _, rfl, q, _, _, .int r.2.1, rfl, rfl, SqT.of hq, rfl, _, _, rfl, rfl, qq⟩
def spEip : Sp := fun vs H Q _ => ∃ (q : Addr) (r : S4), vs = [.ref q] ∧ H q = some (.tup (tv r)) ∧ Q (.int (r.2.2.2 + r.2.1)) H
theorem scEip : FnScope ["stretch"] ["stretch"] (defScope sEip) := ⟨rfl, rfl, rfl, by decide +kernel, rfl, by decide +kernel, by decide +kernel⟩
theorem ok_Eip (F : Fun K "end_in_piece" "end_in_piece" sEip f fd) (T : Txt mg) : FnOk P w K mg base CX0 1 f fd ["stretch"] spEip := by
  refine F.ok scEip (fun vs H Q E h => ?_) (fun cdv A outer s H vs Q E hr h => ?_)
  · obtain ⟨q, r, rfl, _⟩ := h
    rfl
  obtain ⟨q, r, rfl, hq, qq⟩ := h
  obtain ⟨t1, sk3⟩ := T.sk3
  obtain ⟨t2, lg⟩ := T.lg
  refine ⟨_, (pss_one (ps_ret (pe_op op_add (pe_ix ix_tup (pv 0) (pe_glob (v := .int 3) rfl sk3 ⟨_, rfl⟩) (fun _ _ => rfl)) (pe_ix ix_tup (pv 0) (pe_glob (v := .int 1) rfl lg ⟨_, rfl⟩) (fun _ _ => rfl))))), ?_⟩
  exact ⟨_, rfl, q, _, _, .int r.2.2.2, rfl, rfl, SqT.of hq, rfl, _, rfl, q, _, _, .int r.2.1, rfl, rfl, SqT.of hq, rfl, _, _, rfl, rfl, qq⟩
def spGoe : Sp := fun vs H Q _ => ∃ (q q' : Addr) (r r' : S4), vs = [.ref q, .ref q'] ∧ H q = some (.tup (tv r)) ∧ H q' = some (.tup (tv r')) ∧ Q (.bl (goOn r r')) H
theorem scGoe : FnScope ["ahead", "stretch"] ["ahead", "stretch"] (defScope sGoe) := ⟨rfl, rfl, rfl, by decide +kernel, rfl, by decide +kernel, by decide +kernel⟩
theorem ok_Goe (F : Fun K "goes_on" "goes_on" sGoe f fd) (hEnd : Has K mg "end_of" sEnd ["stretch"] fEnd dEnd) (GEnd : FnOk P w K mg base CX0 1 fEnd dEnd ["stretch"] spEnd)
    (hEip : Has K mg "end_in_piece" sEip ["stretch"] fEip dEip) (GEip : FnOk P w K mg base CX0 1 fEip dEip ["stretch"] spEip) (T : Txt mg) : FnOk P w K mg base CX0 2 f fd ["ahead", "stretch"] spGoe := by
  refine F.ok scGoe (fun vs H Q E h => ?_) (fun cdv A outer s H vs Q E hr h => ?_)
  · obtain ⟨q, q', r, r', rfl, _⟩ := h
    rfl
  obtain ⟨q, q', r, r', rfl, hq, hq', qq⟩ := h
  obtain ⟨t1, at0⟩ := T.at0
  obtain ⟨t2, pl2⟩ := T.pl2
  obtain ⟨t3, sk3⟩ := T.sk3
  refine ⟨_, (pss_cons (ps_if (PW.pt (pw_or (pt_cmpR op_ne (pe_call GEnd (hr.mono (by decide)) rfl hEnd.nm hEnd.fn.kp hEnd.bd .nil pass0 (pa_cons (pv 0) pa_nil)) (pe_ix ix_tup (pv 1) (pe_glob (v := .int 0) rfl at0 ⟨_, rfl⟩) (fun _ _ => rfl)) (nomark _)) (pw_or1 (pt_cmpR op_ne (pe_ix ix_tup (pv 0) (pe_glob (v := .int 2) rfl pl2 ⟨_, rfl⟩) (fun _ _ => rfl)) (pe_ix ix_tup (pv 1) (pe_glob (v := .int 2) rfl pl2 ⟨_, rfl⟩) (fun _ _ => rfl)) (nomark _)))))
    (pss_one (ps_ret pe_bl))
    pss_nil)
    (pss_one (ps_ret (pe_cmpR op_eq (pe_call GEip (hr.mono (by decide)) rfl hEip.nm hEip.fn.kp hEip.bd .nil pass0 (pa_cons (pv 0) pa_nil)) (pe_ix ix_tup (pv 1) (pe_glob (v := .int 3) rfl sk3 ⟨_, rfl⟩) (fun _ _ => rfl)) (nomark _))))), ?_⟩
  refine ⟨_, rfl, q, r, rfl, hq, _, rfl, q', _, _, .int r'.1, rfl, rfl, SqT.of hq', rfl, rfl, _, rfl, ?_⟩
  unfold goOn at qq
  rw [dec_int]
  by_cases c1 : r.1 + r.2.1 = r'.1
  · rw [decide_eq_true c1] at qq ⊢
    refine iteF ?_
    refine ⟨_, rfl, q, _, _, .int r.2.2.1, rfl, rfl, SqT.of hq, rfl, _, rfl, q', _, _, .int r'.2.2.1, rfl, rfl, SqT.of hq', rfl, rfl, _, rfl, ?_⟩
    rw [dec_int]
    by_cases c2 : r.2.2.1 = r'.2.2.1
    · rw [decide_eq_true c2] at qq ⊢
      refine iteF ?_
      refine ⟨_, rfl, q, r, rfl, hq, _, rfl, q', _, _, .int r'.2.2.2, rfl, rfl, SqT.of hq', rfl, rfl, ?_⟩
      rw [dec_int]
      exact qq
    · rw [decide_eq_false c2] at qq ⊢
      exact iteT qq
  · rw [decide_eq_false c1] at qq ⊢
    exact iteT (iteT qq)
/-! ### parts -/
def spPts : Sp := fun vs H Q _ => ∃ (a : Addr) (tu : Bool) (rs : List S4) (lo hi : Int), vs = [.ref a, .int lo, .int hi] ∧ RowAt tu H a rs ∧ rs.length ≤ 1000 ∧ ∀ p H', Same H H' → H p = none → RowAt false H' p (partsP rs lo hi) → Q (.ref p) H'
theorem scPts : FnScope ["row", "low", "high", "cut", "at", "long", "place", "skip", "begin", "end"] ["row", "low", "high"] (defScope sPts) := ⟨rfl, rfl, rfl, by decide +kernel, rfl, by decide +kernel, by decide +kernel⟩
theorem ok_Pts (F : Fun K "parts" "parts" sPts f fd) (T : Txt mg) : FnOk P w K mg base CX0 1 f fd ["row", "low", "high"] spPts := by
  refine F.ok scPts (fun vs H Q E h => ?_) (fun cdv A outer s H vs Q E hr h => ?_)
  · obtain ⟨a, tu, rs, lo, hi, rfl, _⟩ := h
    rfl
  obtain ⟨a, tu, rs, lo, hi, rfl, ⟨ys, ha, hT⟩, hn, qq⟩ := h
  refine ⟨_, (pss_cons (ps_set (i := 3) scPts.nd rfl (Or.inl rfl) (pe_lst pa_nil))
    (pss_cons (ps_for PassesOwn.never rfl (pi_seq (pv 0)) (pg_tup rfl (pgs_cons (pg_name (i := 4) scPts.nd rfl (Or.inl rfl)) (pgs_cons (pg_name (i := 5) scPts.nd rfl (Or.inl rfl)) (pgs_cons (pg_name (i := 6) scPts.nd rfl (Or.inl rfl)) (pgs_cons (pg_name (i := 7) scPts.nd rfl (Or.inl rfl)) pgs_nil)))))
    (pss_cons (ps_set (i := 8) scPts.nd rfl (Or.inl rfl) (pe_callB (call_max2 rfl) rfl T.max PyProof.Rows.boot_max (pa_cons (pv 4) (pa_cons (pv 1) pa_nil))))
    (pss_cons (ps_set (i := 9) scPts.nd rfl (Or.inl rfl) (pe_callB (call_min2 rfl) rfl T.min PyProof.Rows.boot_min (pa_cons (pe_op op_add (pv 4) (pv 5)) (pa_cons (pv 2) pa_nil))))
    (pss_one (ps_if (pt_cmpR op_lt (pv 8) (pv 9) (nomark _))
    (pss_one (ps_expr (pe_bm PySem.F.plainAttrs_list PySem.F.slot_list_append PySem.F.type_list_append mt_append (pv 3) (pa_cons (pe_tup (pa_cons (pv 8) (pa_cons (pe_op op_sub (pv 9) (pv 8)) (pa_cons (pv 6) (pa_cons (pe_op op_sub (pe_op op_add (pv 7) (pv 8)) (pv 4)) pa_nil))))) pa_nil))))
    pss_nil)))))
    (pss_one (ps_ret (pv 3))))), ?_⟩
  refine ⟨by decide, fun p hp => ?_⟩
  have s1 := same_new hp (HO.lst [])
  have ly := row_len hT
  refine ⟨_, rfl, a, tu, rfl, ⟨_, Sq.of (s1 _ _ ha)⟩, for_seq (K := K) (tu := tu) (a := a) (xs := ys) (fun i σ H2 => ∃ (o4 o5 o6 o7 o8 o9 : Option V) (zs : List V), σ = [some (.ref a), some (.int lo), some (.int hi), some (.ref p), o4, o5, o6, o7, o8, o9] ∧ Same H H2 ∧ H2 p = some (.lst zs) ∧ TupsAt H2 zs ((partsP (rs.take i) lo hi).map tv)) ⟨none, none, none, none, none, none, [], rfl, s1, upd_same, trivial⟩ (fun i σ H2 _ h2 => ?_) ?_ ?_⟩
  · obtain ⟨_, _, _, _, _, _, _, _, s2, _⟩ := h2
    exact Sq.of (s2 _ _ ha)
  · rintro i x σ H2 hx ⟨o4, o5, o6, o7, o8, o9, zs, rfl, s2, e2, t2⟩
    obtain ⟨r, q, hr', rfl, hq⟩ := row_get (hT.mono s2) hx
    refine ⟨q, _, rfl, SqT.of hq, rfl, _, _, rfl, _, _, rfl, _, _, rfl, _, _, rfl, rfl, ?_⟩
    refine ⟨_, rfl, _, rfl, _, _, rfl, ?_⟩
    refine ⟨_, rfl, _, rfl, _, _, rfl, rfl, _, rfl, _, _, rfl, ?_⟩
    refine ⟨_, rfl, _, rfl, _, _, rfl, rfl, _, rfl, ?_⟩
    have lz := row_len t2
    have lz2 := parts_len lo hi (rs.take i)
    have lz3 := List.length_take_le' i rs
    have tn : partsP (rs.take (i + 1)) lo hi = partsP (rs.take i) lo hi ++ cut1 lo hi r := by rw [take_next hr', parts_snoc]
    refine ite2 (fun c => ?_) (fun c => ?_)
    · have c' : pmax r.1 lo < pmin (r.1 + r.2.1) hi := of_decide_eq_true c
      refine ⟨_, rfl, .inl ⟨rfl, _, SqL.of e2⟩, _, rfl, _, rfl, _, rfl, _, _, rfl, rfl, _, rfl, _, rfl, _, rfl, _, _, rfl, rfl, _, rfl, _, _, rfl, rfl, (by show 4 ≤ sizeLine; decide), fun q2 hq2 => ?_⟩
      have s3 := same_new hq2 (HO.tup (tv (pmax r.1 lo, pmin (r.1 + r.2.1) hi - pmax r.1 lo, r.2.2.1, r.2.2.2 + pmax r.1 lo - r.1)))
      have e3 := s3 _ _ e2
      refine ⟨p, zs, _, rfl, rfl, e3, small (by omega), _, _, _, _, _, _, _, rfl, same_over (s2.trans s3) hp _, upd_same, ?_⟩
      rw [tn]
      unfold cut1
      rw [if_pos c', List.map_append]
      exact ((t2.mono s3).snoc upd_same).upd (lst_ne e3)
    · have c' : ¬ pmax r.1 lo < pmin (r.1 + r.2.1) hi := fun e => c (decide_eq_true e)
      refine ⟨_, _, _, _, _, _, _, rfl, s2, e2, ?_⟩
      rw [tn]
      unfold cut1
      rw [if_neg c', List.append_nil]
      exact t2
  · rintro σ H2 ⟨o4, o5, o6, o7, o8, o9, zs, rfl, s2, e2, t2⟩
    rw [ly, List.take_length] at t2
    exact ⟨_, rfl, qq p H2 s2 hp ⟨zs, e2, t2⟩⟩
/-! ### without -/
def spWo : Sp := fun vs H Q _ => ∃ (a : Addr) (tu : Bool) (rs : List S4) (lo hi : Int), vs = [.ref a, .int lo, .int hi] ∧ RowAt tu H a rs ∧ rs.length ≤ 1000 ∧ ∀ p H', Same H H' → H p = none → RowAt false H' p (partsP rs 0 lo ++ partsP rs hi 40) → Q (.ref p) H'
theorem scWo : FnScope ["row", "low", "high"] ["row", "low", "high"] (defScope sWo) := ⟨rfl, rfl, rfl, by decide +kernel, rfl, by decide +kernel, by decide +kernel⟩
theorem ok_Wo (F : Fun K "without" "without" sWo f fd) (hPts : Has K mg "parts" sPts ["row", "low", "high"] fPts dPts) (GPts : FnOk P w K mg base CX0 1 fPts dPts ["row", "low", "high"] spPts) (T : Txt mg) : FnOk P w K mg base CX0 2 f fd ["row", "low", "high"] spWo := by
  refine F.ok scWo (fun vs H Q E h => ?_) (fun cdv A outer s H vs Q E hr h => ?_)
  · obtain ⟨a, tu, rs, lo, hi, rfl, _⟩ := h
    rfl
  obtain ⟨a, tu, rs, lo, hi, rfl, hR, hn, qq⟩ := h
  obtain ⟨t1, mc⟩ := T.mc
  refine ⟨_, (pss_one (ps_ret (pe_op op_cat (pe_call GPts (hr.mono (by decide)) rfl hPts.nm hPts.fn.kp hPts.bd .nil pass0 (pa_cons (pv 0) (pa_cons pe_int (pa_cons (pv 1) pa_nil)))) (pe_call GPts (hr.mono (by decide)) rfl hPts.nm hPts.fn.kp hPts.bd .nil pass0 (pa_cons (pv 0) (pa_cons (pv 2) (pa_cons (pe_glob (v := .int 40) rfl mc ⟨_, rfl⟩) pa_nil))))))), ?_⟩
  refine ⟨_, rfl, _, rfl, a, tu, rs, 0, lo, rfl, hR, hn, fun p H1 s1 hp ⟨ys, e1, r1⟩ => ?_⟩
  refine ⟨_, rfl, _, rfl, a, tu, rs, hi, 40, rfl, hR.mono s1, hn, fun p2 H2 s2 hp2 ⟨zs, e2, r2⟩ => ?_⟩
  have l1 := row_len r1
  have l2 := row_len r2
  have l3 := parts_len 0 lo rs
  have l4 := parts_len hi 40 rs
  refine ⟨p, p2, ys, zs, rfl, rfl, s2 _ _ e1, e2, Nat.le_of_lt (small (by omega)), fun p3 hp3 => qq p3 _ ((s1.trans s2).trans (same_new hp3 _)) ?_ ⟨_, upd_same, ?_⟩⟩
  · cases e : H p3 with
    | none => rfl
    | some o => rw [(s1.trans s2) _ _ e] at hp3; cases hp3
  · rw [List.map_append]
    exact (r2.app (r1.mono s2)).mono (same_new hp3 _)
/-! ### joined, tidied -/
def spJoi : Sp := fun vs H Q _ => ∃ (q q' : Addr) (z r : S4), vs = [.ref q, .ref q'] ∧ H q = some (.tup (tv z)) ∧ H q' = some (.tup (tv r)) ∧ ∀ t, H t = none → Q (.ref t) (upd H t (.tup (tv (z.1, z.2.1 + r.2.1, z.2.2.1, z.2.2.2))))
theorem scJoi : FnScope ["ahead", "stretch"] ["ahead", "stretch"] (defScope sJoi) := ⟨rfl, rfl, rfl, by decide +kernel, rfl, by decide +kernel, by decide +kernel⟩
theorem ok_Joi (F : Fun K "joined" "joined" sJoi f fd) (T : Txt mg) : FnOk P w K mg base CX0 1 f fd ["ahead", "stretch"] spJoi := by
  refine F.ok scJoi (fun vs H Q E h => ?_) (fun cdv A outer s H vs Q E hr h => ?_)
  · obtain ⟨q, q', z, r, rfl, _⟩ := h
    rfl
  obtain ⟨q, q', z, r, rfl, hq, hq', qq⟩ := h
  obtain ⟨t1, at0⟩ := T.at0
  obtain ⟨t2, lg⟩ := T.lg
  obtain ⟨t3, pl2⟩ := T.pl2
  obtain ⟨t4, sk3⟩ := T.sk3
  refine ⟨_, (pss_one (ps_ret (pe_tup (pa_cons (pe_ix ix_tup (pv 0) (pe_glob (v := .int 0) rfl at0 ⟨_, rfl⟩) (fun _ _ => rfl)) (pa_cons (pe_op op_add (pe_ix ix_tup (pv 0) (pe_glob (v := .int 1) rfl lg ⟨_, rfl⟩) (fun _ _ => rfl)) (pe_ix ix_tup (pv 1) (pe_glob (v := .int 1) rfl lg ⟨_, rfl⟩) (fun _ _ => rfl))) (pa_cons (pe_ix ix_tup (pv 0) (pe_glob (v := .int 2) rfl pl2 ⟨_, rfl⟩) (fun _ _ => rfl)) (pa_cons (pe_ix ix_tup (pv 0) (pe_glob (v := .int 3) rfl sk3 ⟨_, rfl⟩) (fun _ _ => rfl)) pa_nil))))))), ?_⟩
  exact ⟨_, rfl, q, _, _, .int z.1, rfl, rfl, SqT.of hq, rfl, _, rfl, q, _, _, .int z.2.1, rfl, rfl, SqT.of hq, rfl, _, rfl, q', _, _, .int r.2.1, rfl, rfl, SqT.of hq', rfl, _, _, rfl, rfl, _, rfl, q, _, _, .int z.2.2.1, rfl, rfl, SqT.of hq, rfl, _, rfl, q, _, _, .int z.2.2.2, rfl, rfl, SqT.of hq, rfl, (by show 4 ≤ sizeLine; decide), fun t ht => qq t ht⟩
theorem tidy_snoc (rs : List S4) (r : S4) : tidyP (rs ++ [r]) = tstep (tidyP rs) r := by
  unfold tidyP
  rw [List.foldl_append]
  rfl
def spTid : Sp := fun vs H Q _ => ∃ (a : Addr) (tu : Bool) (rs : List S4), vs = [.ref a] ∧ RowAt tu H a rs ∧ rs.length ≤ 1000 ∧ ∀ p H', Same H H' → H p = none → RowAt false H' p (tidyP rs) → Q (.ref p) H'
theorem scTid : FnScope ["row", "tidy", "stretch"] ["row"] (defScope sTid) := ⟨rfl, rfl, rfl, by decide +kernel, rfl, by decide +kernel, by decide +kernel⟩
theorem ok_Tid (F : Fun K "tidied" "tidied" sTid f fd) (hGoe : Has K mg "goes_on" sGoe ["ahead", "stretch"] fGoe dGoe) (GGoe : FnOk P w K mg base CX0 2 fGoe dGoe ["ahead", "stretch"] spGoe)
    (hJoi : Has K mg "joined" sJoi ["ahead", "stretch"] fJoi dJoi) (GJoi : FnOk P w K mg base CX0 1 fJoi dJoi ["ahead", "stretch"] spJoi) (T : Txt mg) : FnOk P w K mg base CX0 3 f fd ["row"] spTid := by
  refine F.ok scTid (fun vs H Q E h => ?_) (fun cdv A outer s H vs Q E hr h => ?_)
  · obtain ⟨a, tu, rs, rfl, _⟩ := h
    rfl
  obtain ⟨a, tu, rs, rfl, ⟨ys, ha, hT⟩, hn, qq⟩ := h
  refine ⟨_, (pss_cons (ps_set (i := 1) scTid.nd rfl (Or.inl rfl) (pe_lst pa_nil))
    (pss_cons (ps_for PassesOwn.never rfl (pi_seq (pv 0)) (pg_name (i := 2) scTid.nd rfl (Or.inl rfl))
    (pss_one (ps_if (PW.pt (pw_and (pt_truth (pv 1) (fun _ => rfl)) (pw_and1 (pt_val (pe_call GGoe (hr.mono (by decide)) rfl hGoe.nm hGoe.fn.kp hGoe.bd .nil pass0 (pa_cons (pe_ix ix_list (pv 1) (pe_un un_neg pe_int) (fun _ _ => rfl)) (pa_cons (pv 2) pa_nil)))))))
    (pss_one (ps_asg (pe_call GJoi (hr.mono (by decide)) rfl hJoi.nm hJoi.fn.kp hJoi.bd .nil pass0 (pa_cons (pe_ix ix_list (pv 1) (pe_un un_neg pe_int) (fun _ _ => rfl)) (pa_cons (pv 2) pa_nil))) (pg_sub (pv 1) (pe_un un_neg pe_int) set_list)))
    (pss_one (ps_expr (pe_bm PySem.F.plainAttrs_list PySem.F.slot_list_append PySem.F.type_list_append mt_append (pv 1) (pa_cons (pv 2) pa_nil)))))))
    (pss_one (ps_ret (pv 1))))), ?_⟩
  refine ⟨by decide, fun p hp => ?_⟩
  have s1 := same_new hp (HO.lst [])
  have ly := row_len hT
  refine ⟨_, rfl, a, tu, rfl, ⟨_, Sq.of (s1 _ _ ha)⟩, for_seq (K := K) (tu := tu) (a := a) (xs := ys) (fun i σ H2 => ∃ (o : Option V) (zs : List V), σ = [some (.ref a), some (.ref p), o] ∧ Same H H2 ∧ H2 p = some (.lst zs) ∧ TupsAt H2 zs ((tidyP (rs.take i)).map tv)) ⟨none, [], rfl, s1, upd_same, trivial⟩ (fun i σ H2 _ h2 => ?_) ?_ ?_⟩
  · obtain ⟨_, _, _, s2, _⟩ := h2
    exact Sq.of (s2 _ _ ha)
  · rintro i x σ H2 hx ⟨o, zs, rfl, s2, e2, t2⟩
    obtain ⟨r, q, hr', rfl, hq⟩ := row_get (hT.mono s2) hx
    have tn : tidyP (rs.take (i + 1)) = tstep (tidyP (rs.take i)) r := by rw [take_next hr', tidy_snoc]
    have lz := row_len t2
    have lz2 := tfold_len (rs.take i) []
    have lz3 := List.length_take_le' i rs
    have lz4 : (tidyP (rs.take i)).length ≤ rs.length := by
      unfold tidyP
      simp at lz2 ⊢
      omega
    rw [tn]
    generalize tidyP (rs.take i) = g at t2 lz lz4
    rcases List.eq_nil_or_concat g with rfl | ⟨g0, z, rfl⟩
    · have : zs = [] := by
        cases zs with
        | nil => rfl
        | cons => exact t2.elim
      subst this
      refine ⟨_, rfl, false, .inl ⟨[], SqL.of e2, rfl⟩, iteF (iteF ?_)⟩
      refine ⟨_, rfl, .inl ⟨rfl, _, SqL.of e2⟩, _, rfl, p, _, _, rfl, rfl, e2, small (by simp), _, _, rfl, same_over s2 hp _, upd_same, ?_⟩
      exact (TupsAt.snoc hq t2).upd (lst_ne e2)
    · rw [List.concat_eq_append] at t2 lz lz4 ⊢
      rw [List.map_append] at t2
      obtain ⟨zs0, qz, rfl, t3, e3⟩ := TupsAt.last (ts := g0.map tv) (t := tv z) t2
      refine ⟨_, rfl, true, .inl ⟨_, SqL.of e2, by simp⟩, iteT ?_⟩
      refine ⟨_, rfl, _, rfl, p, _, _, .ref qz, rfl, rfl, SqL.of e2, atI_last _ _, _, rfl, qz, q, z, r, rfl, e3, hq, _, rfl, ?_⟩
      cases hg : goOn z r with
      | true =>
        refine iteT ?_
        refine ⟨_, rfl, _, rfl, p, _, _, .ref qz, rfl, rfl, SqL.of e2, atI_last _ _, _, rfl, qz, q, z, r, rfl, e3, hq, fun t ht => ?_⟩
        have s3 := same_new ht (HO.tup (tv (z.1, z.2.1 + r.2.1, z.2.2.1, z.2.2.2)))
        refine ⟨_, rfl, _, rfl, p, _, _, _, rfl, rfl, s3 _ _ e2, atI_end, ?_⟩
        rw [set_end]
        refine ⟨_, _, rfl, same_over (s2.trans s3) hp _, upd_same, ?_⟩
        rw [tstep_on hg, List.map_append]
        exact ((t3.mono s3).snoc upd_same).upd (lst_ne (s3 _ _ e2))
      | false =>
        refine iteF ?_
        refine ⟨_, rfl, .inl ⟨rfl, _, SqL.of e2⟩, _, rfl, p, _, _, rfl, rfl, e2, small (by rw [lz]; omega), _, _, rfl, same_over s2 hp _, upd_same, ?_⟩
        rw [tstep_off hg, List.map_append]
        exact (TupsAt.snoc hq (by rw [List.map_append]; exact t2)).upd (lst_ne e2)
  · rintro σ H2 ⟨o, zs, rfl, s2, e2, t2⟩
    rw [ly, List.take_length] at t2
    exact ⟨_, rfl, qq p H2 s2 hp ⟨zs, e2, t2⟩⟩
/-! ### laid -/
theorem okC {x qual : Str} {st : Stmt} {f : Addr} {fd : FuncData} {N ps : List Str} {k : Nat} {sp : Sp} (F : Fun K x qual st f fd) (S : FnScope N ps (defScope st)) (len : ∀ vs H Q E, sp vs H Q E → vs.length = ps.length)
    (hbody : ∀ (cdv : Value) (A : Around) (outer : List Env) (s : Shared) (H : Hp) (vs : List V) (Q : VK) (E : XK), cdv = fd.code → Room k (A.deeper (PyProof.Rows.envOfC qual (defScope st) s.heap.objs.size f cdv)) → sp vs H Q E →
      ∃ t, PSs (cxOf CX0 P w K mg base N qual (defScope st) f cdv A outer s H E).nox (defBody st) t ∧ t { nx := fun _ H' => Q .non H', rt := Q } (start N vs) H) : FnOk P w K mg base CX0 (k + 1) f fd ps sp := by
  obtain ⟨oc, od, kV, doc, pm, an, cdv, ct, osl, rfl, lk, hcd⟩ := F.ex
  refine fn_of lk hcd S len fun A outer s H vs Q E hr hsp => ?_
  obtain ⟨t, h, q⟩ := hbody cdv A outer s H vs Q E rfl hr hsp
  exact ⟨t, h.nox, q⟩
def lpos : Pos := match sLad with
  | .FunctionDef _ _ b _ _ _ _ _ _ _ => (match b.getD 1 (.Pass ⟨0, 0, 0, 0⟩) with
    | .Return (some (.Call _ [.Call _ _ [⟨_, .Lambda _ _ _ lp, _⟩] _] _ _)) _ => lp
    | _ => ⟨0, 0, 0, 0⟩)
  | _ => ⟨0, 0, 0, 0⟩
def lqual : Str := Str.ofString "laid.<locals>.<lambda>"
def spLad (PP : Addr) : Sp := fun vs H Q _ => ∃ (a n : Addr) (tu tn : Bool) (rs new : List S4) (lo hi : Int), vs = [.ref a, .int lo, .int hi, .ref n] ∧ RowAt tu H a rs ∧ RowAt tn H n new ∧ Ord 0 rs 40 ∧ 0 ≤ lo ∧ hi ≤ 40 ∧ Ord lo new hi ∧ TabS H PP lpos lqual ∧
  ∀ p H', SxP PP H H' → TabS H' PP lpos lqual → H p = none → RowAt false H' p (tidyP (laidP rs lo hi new)) → Q (.ref p) H'
theorem scLad : FnScope ["row", "low", "high", "new", "both"] ["row", "low", "high", "new"] (defScope sLad) := ⟨rfl, rfl, rfl, by decide +kernel, rfl, by decide +kernel, by decide +kernel⟩
theorem ok_Lad {cc PP : Addr} (F : Fun K "laid" "laid" sLad f fd) (hcode : fd.code = .ref cc) (C : PySem.W.CodeHd base cc PP) (B : BltIn base mg) (hWo : Has K mg "without" sWo ["row", "low", "high"] fWo dWo) (GWo : FnOk P w K mg base CX0 2 fWo dWo ["row", "low", "high"] spWo)
    (hTid : Has K mg "tidied" sTid ["row"] fTid dTid) (GTid : FnOk P w K mg base CX0 3 fTid dTid ["row"] spTid) (T : Txt mg) : FnOk P w K mg base CX0 4 f fd ["row", "low", "high", "new"] (spLad PP) := by
  refine okC F scLad (fun vs H Q E h => ?_) (fun cdv A outer s H vs Q E hcd' hr h => ?_)
  · obtain ⟨a, n, tu, tn, rs, new, lo, hi, rfl, _⟩ := h
    rfl
  obtain ⟨a, n, tu, tn, rs, new, lo, hi, rfl, hR, hN, ho, h0, h40, hno, hTab, qq⟩ := h
  obtain ⟨t1, at0⟩ := T.at0
  have hcd : cdv = .ref cc := hcd'.trans hcode
  subst hcd
  have hcd : (cxOf CX0 P w K mg base ["row", "low", "high", "new", "both"] "laid" (defScope sLad) f (.ref cc) A outer s H E).nox.env.code = .ref cc := rfl
  have lo1 := ord_len ho
  have lon := ord_len hno
  refine ⟨_, (pss_cons (ps_set (i := 4) scLad.nd rfl (Or.inl rfl) (pe_op op_cat (pe_call GWo (hr.mono (by decide)) rfl hWo.nm hWo.fn.kp hWo.bd .nil pass0 (pa_cons (pv 0) (pa_cons (pv 1) (pa_cons (pv 2) pa_nil)))) (pe_callTy call_list_of rfl T.lst PyProof.Rows.boot_list (pa_cons (pv 3) pa_nil))))
    (pss_one (ps_ret (pe_call GTid (hr.mono (by decide)) rfl hTid.nm hTid.fn.kp hTid.bd .nil pass0 (pa_cons (pe_sortKey (c := cc) (P := PP) rfl (hr.mono (by decide)) rfl T.srt hcd C B rfl rfl rfl (fun _ _ _ _ => rfl) ⟨rfl, rfl, rfl, by decide, rfl⟩ (fun _ _ _ => rfl) (fun _ _ _ => rfl) (by decide) (by decide) at0 (pv 4)) pa_nil))))), ?_⟩
  refine ⟨_, rfl, _, rfl, _, rfl, a, tu, rs, lo, hi, rfl, hR, by omega, fun p H1 s1 hp ⟨ys, e1, r1⟩ => ?_⟩
  obtain ⟨zs, e2, r2⟩ := hN.mono s1
  refine ⟨_, rfl, n, zs, rfl, Sq.or e2, fun l hl => ?_⟩
  have s2 := same_new hl (HO.lst zs)
  have l1 := row_len r1
  have l2 := row_len r2
  have l3 := parts_len 0 lo rs
  have l4 := parts_len hi 40 rs
  rw [List.length_append] at l1
  refine ⟨p, l, ys, zs, rfl, rfl, s2 _ _ e1, upd_same, Nat.le_of_lt (small (by omega)), fun b hb => ?_⟩
  have s3 := same_new hb (HO.lst (ys ++ zs))
  have sA := s1.trans (s2.trans s3)
  have tb : TupsAt (upd (upd H1 l (HO.lst zs)) b (HO.lst (ys ++ zs))) (ys ++ zs) ((partsP rs 0 lo ++ partsP rs hi 40 ++ new).map tv) := by
    rw [List.map_append]
    exact (r2.app r1).mono (s2.trans s3)
  have oL := laid_ord ho h0 hno h40
  have lL := ord_len oL
  have lp := laid_perm (rs := rs) (new := new) (lo := lo) (hi := hi)
  have le := lp.length_eq
  have tab1 : TabS (upd (upd H1 l (HO.lst zs)) b (HO.lst (ys ++ zs))) PP lpos lqual := by
    obtain ⟨ps, hP, tr, hc⟩ := hTab
    exact ⟨ps, sA _ _ hP, tr, hc.imp id fun ⟨c2, a1, a2⟩ => ⟨c2, a1, sA _ _ a2⟩⟩
  refine ⟨_, rfl, b, ys ++ zs, partsP rs 0 lo ++ partsP rs hi 40 ++ new, rfl, upd_same, tb, by omega, tab1, fun D H2 ys' rs' sx tab2 hD eD tD pD wD => ?_⟩
  have er : rs' = laidP rs lo hi new := sort_uniq (pD.trans lp.symm) wD (ord_rise oL)
  subst er
  refine ⟨D, false, _, rfl, ⟨ys', eD, tD⟩, by omega, fun p' H3 s4 hp' r3 => ?_⟩
  refine qq p' H3 ((Same.sxP sA).trans (sx.trans s4.sxP)) ?_ ?_ r3
  · obtain ⟨ps, hP, tr, hc⟩ := tab2
    exact ⟨ps, s4 _ _ hP, tr, hc.imp id fun ⟨c2, a1, a2⟩ => ⟨c2, a1, s4 _ _ a2⟩⟩
  · cases e : H p' with
    | none => rfl
    | some o =>
      obtain ⟨ps, hP, _⟩ := hTab
      by_cases z : p' = PP
      · obtain ⟨ps2, hP2, _⟩ := tab2
        rw [← z, hp'] at hP2
        cases hP2
      · rw [((Same.sxP sA).trans sx) p' o z e] at hp'
        cases hp'
end
end K15
set_option maxHeartbeats 4000000
namespace K15
open PySem L2
section
variable {P : Program} {w : World} {K : PySem.W.Frag} {mg : Str → Option Value} {base : Heap} {f fPts : Addr} {fd dPts : FuncData}
theorem none_back {H H' : Hp} {l : Addr} (s : Same H H') (h : H' l = none) : H l = none := by
  cases e : H l with
  | none => rfl
  | some o => rw [s _ _ e] at h; cases h
/-! ### cells_of -/
def spCof : Sp := fun vs H Q _ => ∃ (a g d : Addr) (tu : Bool) (rs : List S4) (n : Nat) (pc : Int → List Int), vs = [.ref a, .int (n : Int), .ref g] ∧ RowAt tu H a rs ∧ rs.length ≤ 1000 ∧ n ≤ 1000 ∧ GetsOf H g d ∧ PcAt H d pc rs ∧
  ∀ p H', Same H H' → H p = none → H' p = some (.lst ((cellsL pc rs n).map V.int)) → Q (.ref p) H'
theorem scCof : FnScope ["row", "size", "fetch", "cells", "at", "long", "place", "skip", "piece", "step"] ["row", "size", "fetch"] (defScope sCof) := ⟨rfl, rfl, rfl, by decide +kernel, rfl, by decide +kernel, by decide +kernel⟩
theorem ok_Cof (F : Fun K "cells_of" "cells_of" sCof f fd) (hPts : Has K mg "parts" sPts ["row", "low", "high"] fPts dPts) (GPts : FnOk P w K mg base CX0 1 fPts dPts ["row", "low", "high"] spPts) (T : Txt mg) : FnOk P w K mg base CX0 2 f fd ["row", "size", "fetch"] spCof := by
  refine F.ok scCof (fun vs H Q E h => ?_) (fun cdv A outer s H vs Q E hr h => ?_)
  · obtain ⟨a, g, d, tu, rs, n, pc, rfl, _⟩ := h
    rfl
  obtain ⟨a, g, d, tu, rs, n, pc, rfl, hR, hl, hn, hg, hpc, qq⟩ := h
  refine ⟨_, (pss_cons (ps_set (i := 3) scCof.nd rfl (Or.inl rfl) (pe_op op_rep (pe_lst (pa_cons pe_int pa_nil)) (pv 1)))
    (pss_cons (ps_for PassesOwn.never rfl (pi_list (pe_call GPts (hr.mono (by decide)) rfl hPts.nm hPts.fn.kp hPts.bd .nil pass0 (pa_cons (pv 0) (pa_cons pe_int (pa_cons (pv 1) pa_nil))))) (pg_tup rfl (pgs_cons (pg_name (i := 4) scCof.nd rfl (Or.inl rfl)) (pgs_cons (pg_name (i := 5) scCof.nd rfl (Or.inl rfl)) (pgs_cons (pg_name (i := 6) scCof.nd rfl (Or.inl rfl)) (pgs_cons (pg_name (i := 7) scCof.nd rfl (Or.inl rfl)) pgs_nil)))))
    (pss_cons (ps_set (i := 8) scCof.nd rfl (Or.inl rfl) (pe_fetch (i := 2) (hr.mono (by decide)) (pv 2) (pv 6)))
    (pss_one (ps_for PassesOwn.never rfl (pi_range1 rfl T.rng (pa_cons (pv 5) pa_nil)) (pg_name (i := 9) scCof.nd rfl (Or.inl rfl))
    (pss_one (ps_asg (pe_ix ix_seq (pv 8) (pe_op op_add (pv 7) (pv 9)) (fun _ _ => rfl)) (pg_sub (pv 3) (pe_op op_add (pv 4) (pv 9)) set_list)))))))
    (pss_one (ps_ret (pv 3))))), ?_⟩
  refine ⟨(by show 1 ≤ sizeLine; decide), fun l hl1 => ⟨_, rfl, l, (n : Int), _, rfl, rfl, upd_same, by omega, by omega, ?_, fun p hp => ?_⟩⟩
  · rw [Int.toNat_natCast]
    exact Nat.le_of_lt (small (by simp; omega))
  have s1 := same_new hl1 (HO.lst [V.int 0])
  have s2 := s1.trans (same_new hp (HO.lst (List.replicate (n : Int).toNat [V.int 0]).flatten))
  have e0 : (List.replicate (n : Int).toNat [V.int 0]).flatten = (cellsL pc [] n).map V.int := by
    rw [cellsL_nil, Int.toNat_natCast, List.map_replicate]
    simp
  have ep : upd (upd H l (HO.lst [V.int 0])) p (HO.lst (List.replicate (n : Int).toNat [V.int 0]).flatten) p = some (.lst ((cellsL pc [] n).map V.int)) := by rw [upd_same, e0]
  have hpH : H p = none := none_back s1 hp
  revert s2 ep
  generalize upd (upd H l (HO.lst [V.int 0])) p (HO.lst (List.replicate (n : Int).toNat [V.int 0]).flatten) = H1
  intro s2 ep
  refine ⟨_, rfl, _, rfl, a, tu, rs, 0, (n : Int), rfl, hR.mono s2, hl, fun pt H2 s3 hpt ⟨ys, e2, t2⟩ => ?_⟩
  have npt : pt ≠ p := fun z => by rw [z, ep] at hpt; cases hpt
  have sA := s2.trans s3
  have hpcH : PcAt H d pc (partsP rs 0 (n : Int)) := hpc.parts
  have mp : ∀ r ∈ partsP rs 0 (n : Int), 0 ≤ r.1 ∧ 0 < r.2.1 ∧ r.1 + r.2.1 ≤ (n : Int) := fun r hr' => by
    obtain ⟨_, _, _, h1, _, h2, h3, _⟩ := mem_partsP hr'
    exact ⟨h1, h2, h3⟩
  have lp := parts_len 0 (n : Int) rs
  rw [← cellsL_parts] at qq
  generalize partsP rs 0 (n : Int) = ps at t2 hpcH mp lp qq
  have ly := row_len t2
  have e2' : H2 pt = some (.lst ys) := e2
  refine ⟨pt, rfl, ⟨_, SqL.of e2'⟩, for_list (K := K) (a := pt) (xs := ys) (fun i σ H3 => ∃ (o4 o5 o6 o7 o8 o9 : Option V), σ = [some (.ref a), some (.int (n : Int)), some (.ref g), some (.ref p), o4, o5, o6, o7, o8, o9] ∧ Same H H3 ∧ H3 pt = some (.lst ys) ∧ TupsAt H3 ys (ps.map tv) ∧ H3 p = some (.lst ((cellsL pc (ps.take i) n).map V.int)))
    ⟨none, none, none, none, none, none, rfl, sA, e2, t2, s3 _ _ ep⟩ (fun i σ H3 _ h3 => ?_) ?_ ?_⟩
  · obtain ⟨_, _, _, _, _, _, _, _, e3, _⟩ := h3
    exact SqL.of e3
  · rintro i x σ H3 hx ⟨o4, o5, o6, o7, o8, o9, rfl, s4, e3, t3, e4⟩
    obtain ⟨r, q, hr', rfl, hq⟩ := row_get t3 hx
    obtain ⟨b0, b1, b2⟩ := mp r (List.mem_of_getElem? hr')
    obtain ⟨kvs, ed, kk⟩ := id hpcH
    have g3 := hg.mono s4
    obtain ⟨q1, tu1, h1, h2, h3, h4⟩ := kk r (List.mem_of_getElem? hr')
    refine ⟨q, _, rfl, SqT.of hq, rfl, _, _, rfl, _, _, rfl, _, _, rfl, _, _, rfl, rfl, ?_⟩
    refine ⟨g, rfl, ⟨d, g3⟩, _, rfl, d, .ref q1, g3, .inl ⟨kvs, .inl r.2.2.1, .inl (s4 _ _ ed), rfl, h1.symm⟩, ?_⟩
    refine ⟨_, rfl, r.2.1, rfl, by omega, by omega, ?_⟩
    refine for_range (lo := 0) (n := r.2.1.toNat) (fun j σ H5 => ∃ o9, σ = [some (.ref a), some (.int (n : Int)), some (.ref g), some (.ref p), some (.int r.1), some (.int r.2.1), some (.int r.2.2.1), some (.int r.2.2.2), some (.ref q1), o9] ∧ Same H H5 ∧ H5 pt = some (.lst ys) ∧ TupsAt H5 ys (ps.map tv) ∧ H5 p = some (.lst ((cellsL pc (ps.take i ++ [(r.1, (j : Int), r.2.2.1, r.2.2.2)]) n).map V.int)))
      ⟨_, rfl, s4, e3, t3, by rw [cellsL_zero]; exact e4⟩ ?_ ?_
    · rintro j σ H5 hj ⟨o9', rfl, s5, e5, t5, e6⟩
      have hj' : j < r.2.1.toNat := hj
      have z0 : (0 : Int) + (j : Int) = (j : Int) := by omega
      obtain ⟨v, hv⟩ : ∃ v, (pc r.2.2.1)[(r.2.2.2 + (j : Int)).toNat]? = some v := by
        have : (r.2.2.2 + (j : Int)).toNat < (pc r.2.2.1).length := by omega
        exact ⟨_, List.getElem?_eq_getElem this⟩
      have hat : atI ((pc r.2.2.1).map V.int) (r.2.2.2 + (0 + (j : Int))) = some (.int v) := by
        have e : r.2.2.2 + (0 + (j : Int)) = (((r.2.2.2 + (j : Int)).toNat : Nat) : Int) := by omega
        rw [e]
        exact atI_nat (by rw [List.getElem?_map, hv]; rfl)
      have h5 := s5 _ _ h2
      have lc : ((cellsL pc (ps.take i ++ [(r.1, (j : Int), r.2.2.1, r.2.2.2)]) n).map V.int).length = n := by rw [List.length_map, cellsL_len]
      have hix : ixN ((cellsL pc (ps.take i ++ [(r.1, (j : Int), r.2.2.1, r.2.2.2)]) n).map V.int).length (r.1 + (0 + (j : Int))) = some (r.1 + (j : Int)).toNat := by
        rw [lc]
        unfold ixN
        rw [z0]
        rw [if_pos (by omega), if_pos (by omega)]
      have next : ∃ o9, [some (V.ref a), some (.int (n : Int)), some (.ref g), some (.ref p), some (.int r.1), some (.int r.2.1), some (.int r.2.2.1), some (.int r.2.2.2), some (.ref q1), some (.int (0 + (j : Int)))] = [some (V.ref a), some (.int (n : Int)), some (.ref g), some (.ref p), some (.int r.1), some (.int r.2.1), some (.int r.2.2.1), some (.int r.2.2.2), some (.ref q1), o9] ∧ Same H (upd H5 p (.lst (((cellsL pc (ps.take i ++ [(r.1, (j : Int), r.2.2.1, r.2.2.2)]) n).map V.int).set (r.1 + (j : Int)).toNat (.int v)))) ∧ upd H5 p (.lst (((cellsL pc (ps.take i ++ [(r.1, (j : Int), r.2.2.1, r.2.2.2)]) n).map V.int).set (r.1 + (j : Int)).toNat (.int v))) pt = some (.lst ys) ∧ TupsAt (upd H5 p (.lst (((cellsL pc (ps.take i ++ [(r.1, (j : Int), r.2.2.1, r.2.2.2)]) n).map V.int).set (r.1 + (j : Int)).toNat (.int v)))) ys (ps.map tv) ∧ upd H5 p (.lst (((cellsL pc (ps.take i ++ [(r.1, (j : Int), r.2.2.1, r.2.2.2)]) n).map V.int).set (r.1 + (j : Int)).toNat (.int v))) p = some (.lst ((cellsL pc (ps.take i ++ [(r.1, ((j + 1 : Nat) : Int), r.2.2.1, r.2.2.2)]) n).map V.int)) :=
        ⟨_, rfl, same_over s5 hpH _, by rw [upd_ne npt]; exact e5, t5.upd (lst_ne e6), by rw [upd_same, ← cellsL_step b0 h3 hv, List.map_set]⟩
      cases tu1 with
      | false => exact ⟨_, rfl, _, rfl, _, rfl, _, _, rfl, rfl, .inl ⟨q1, _, _, .int v, rfl, rfl, SqL.of h5, hat, _, rfl, _, rfl, _, rfl, _, _, rfl, rfl, p, _, _, _, rfl, rfl, e6, hix, next⟩⟩
      | true => exact ⟨_, rfl, _, rfl, _, rfl, _, _, rfl, rfl, .inr (.inl ⟨q1, _, _, .int v, rfl, rfl, SqT.of h5, hat, _, rfl, _, rfl, _, rfl, _, _, rfl, rfl, p, _, _, _, rfl, rfl, e6, hix, next⟩)⟩
    · rintro σ H5 ⟨o9', rfl, s5, e5, t5, e6⟩
      refine ⟨_, _, _, _, _, _, rfl, s5, e5, t5, ?_⟩
      rw [take_next hr']
      have e : ((r.2.1.toNat : Nat) : Int) = r.2.1 := by omega
      rw [e] at e6
      exact e6
  · rintro σ H3 ⟨o4, o5, o6, o7, o8, o9, rfl, s4, e3, t3, e4⟩
    rw [ly, List.take_length] at e4
    exact ⟨_, rfl, qq p H3 s4 hpH e4⟩
end
def chunk (cs : List Int) (i : Nat) : List Int := (cs.drop (8 * i)).take 8
theorem cut_chunk (cs : List Int) (i : Nat) (h : 8 * i < cs.length) : cutV (cs.map V.int) (some (0 + (i : Int) * 8)) (some (0 + (i : Int) * 8 + 8)) = (chunk cs i).map V.int := by
  have e1 : (0 : Int) + (i : Int) * 8 = ((8 * i : Nat) : Int) := by omega
  have e2 : ((8 * i : Nat) : Int) + 8 = ((8 * i + 8 : Nat) : Int) := by omega
  unfold cutV chunk
  rw [e1, e2, HT.sIx_nat, HT.sIx_nat, List.length_map, ← List.map_drop, ← List.map_take, Nat.min_eq_left (by omega : 8 * i ≤ cs.length)]
  congr 1
  rcases Nat.le_total (8 * i + 8) cs.length with z | z
  · rw [Nat.min_eq_left z]
    congr 1
    omega
  · rw [Nat.min_eq_right z, List.take_of_length_le (by rw [List.length_drop]; omega), List.take_of_length_le (by rw [List.length_drop]; omega)]
/-- the parts of a split, as far as i -/
def SplAt (H : Hp) (at' : Int) (cs : List Int) (zs : List V) : Prop := ∀ k, k < zs.length → ∃ t q, zs[k]? = some (.ref t) ∧ H t = some (.tup [.int (at' + 8 * (k : Int)), .ref q]) ∧ H q = some (.tup ((chunk cs k).map V.int))
theorem SplAt.keep {H H' : Hp} {at' : Int} {cs : List Int} {zs : List V} (h : SplAt H at' cs zs) (kp : ∀ q t, H q = some (.tup t) → H' q = some (.tup t)) : SplAt H' at' cs zs := fun k hk => by
  obtain ⟨t, q, h1, h2, h3⟩ := h k hk
  exact ⟨t, q, h1, kp _ _ h2, kp _ _ h3⟩
theorem SplAt.mono {H H' : Hp} {at' : Int} {cs : List Int} {zs : List V} (h : SplAt H at' cs zs) (s : Same H H') : SplAt H' at' cs zs := h.keep fun q t e => s _ _ e
section
variable {P : Program} {w : World} {K : PySem.W.Frag} {mg : Str → Option Value} {base : Heap} {f fPts : Addr} {fd dPts : FuncData}
def spSpl : Sp := fun vs H Q _ => ∃ (c : Addr) (at' : Int) (cs : List Int), vs = [.int at', .ref c] ∧ H c = some (.lst (cs.map V.int)) ∧ cs.length ≤ 1000 ∧
  ∀ p H' zs, Same H H' → H p = none → H' p = some (.lst zs) → zs.length = (cs.length + 7) / 8 → SplAt H' at' cs zs → Q (.ref p) H'
theorem scSpl : FnScope ["at", "cells"] ["at", "cells"] (defScope sSpl) := ⟨rfl, rfl, rfl, by decide +kernel, rfl, by decide +kernel, by decide +kernel⟩
theorem ok_Spl (F : Fun K "split_up" "split_up" sSpl f fd) (T : Txt mg) : FnOk P w K mg base CX0 1 f fd ["at", "cells"] spSpl := by
  refine F.ok scSpl (fun vs H Q E h => ?_) (fun cdv A outer s H vs Q E hr h => ?_)
  · obtain ⟨c, at', cs, rfl, _⟩ := h
    rfl
  obtain ⟨c, at', cs, rfl, hc, hl, qq⟩ := h
  obtain ⟨t1, pc8⟩ := T.pc8
  refine ⟨_, (pss_one (ps_ret (pe_comp [0, 1] ["at", "cells"] (pi_range3 rfl T.rng (pa_cons pe_int (pa_cons (pe_callB call_len_seq rfl T.len PySem.boot_len (pa_cons (pv 1) pa_nil)) (pa_cons (pe_glob (v := .int 8) rfl pc8 ⟨_, rfl⟩) pa_nil)))) (fun _ _ _ _ _ _ => pts_nil)
          (fun _ _ _ _ _ _ => (pe_tup (pa_cons (pe_op op_add (pv 1) (pv 0)) (pa_cons (pe_callTy (call_tuple_ofK (K := K) rfl) rfl T.tup PyProof.Rows.boot_tuple (pa_cons (pe_slice (sl_listK (K := K) rfl) (pv 2) (po_some (pv 0)) (po_some (pe_op op_add (pv 0) (pe_glob (v := .int 8) rfl pc8 ⟨_, rfl⟩)))) pa_nil)) pa_nil))))
          rfl (by decide +kernel) (by decide +kernel) rfl (by decide +kernel) (fun j y hj => by
            match j, hj with
            | 0, hj => cases hj; exact ⟨0, rfl, rfl, rfl, .inl rfl⟩ 
            | 1, hj => cases hj; exact ⟨1, rfl, rfl, rfl, .inl rfl⟩) rfl (by decide +kernel) rfl))), ?_⟩
  have lm : (cs.map V.int).length = cs.length := List.length_map _
  refine ⟨_, rfl, c, _, rfl, .inl (SqL.of hc), 0, _, rfl, ⟨by decide, by decide, by rw [lm]; omega, by rw [lm]; omega⟩, fun p hp => ?_⟩
  rw [lm]
  have en : (if (0 : Int) < (cs.length : Int) then ((cs.length : Int) - 0 - 1) / 8 + 1 else 0).toNat = (cs.length + 7) / 8 := by
    split <;> omega
  rw [en]
  refine comp_rangeS (fun i zs H2 => Same H H2 ∧ H2 p = some (.lst zs) ∧ zs.length = i ∧ SplAt H2 at' cs zs) ⟨same_new hp _, upd_same, rfl, fun k hk => absurd hk (by simp)⟩ ?_ ?_
  · rintro i zs H2 hi ⟨s2, e2, l2, p2⟩
    have h8 : 8 * i < cs.length := by omega
    refine ttT ⟨_, rfl, _, rfl, _, _, rfl, rfl, _, rfl, _, rfl, _, rfl, _, rfl, _, _, rfl, rfl, _, rfl, c, _, rfl, SqL.of (s2 _ _ hc), fun b hb => ?_⟩
    rw [cut_chunk cs i h8]
    have s3 := same_new hb (HO.lst ((chunk cs i).map V.int))
    refine ⟨b, _, rfl, .inl ⟨SqL.of upd_same, fun q hq => ?_⟩⟩
    have s4 := same_new hq (HO.tup ((chunk cs i).map V.int))
    refine ⟨(by show 2 ≤ sizeLine; decide), fun t ht => ?_⟩
    have s5 := same_new ht (HO.tup [V.int (at' + (0 + (i : Int) * 8)), V.ref q])
    have sB := s3.trans (s4.trans s5)
    have e5 := sB _ _ e2
    refine ⟨e5, small (by omega), same_over (s2.trans sB) hp _, upd_same, by simp [l2], ?_⟩
    have kp : ∀ q0 t0, upd (upd (upd H2 b (HO.lst ((chunk cs i).map V.int))) q (HO.tup ((chunk cs i).map V.int))) t (HO.tup [V.int (at' + (0 + (i : Int) * 8)), V.ref q]) q0 = some (.tup t0) → upd (upd (upd (upd H2 b (HO.lst ((chunk cs i).map V.int))) q (HO.tup ((chunk cs i).map V.int))) t (HO.tup [V.int (at' + (0 + (i : Int) * 8)), V.ref q])) p (.lst (zs ++ [.ref t])) q0 = some (.tup t0) := fun q0 t0 e => by
      rw [upd_ne (fun z => by rw [z, e5] at e; cases e)]
      exact e
    intro k hk
    rw [List.length_append] at hk
    by_cases z : k < zs.length
    · obtain ⟨t0, q0, h1, h2, h3⟩ := ((p2.mono sB).keep kp) k z
      exact ⟨t0, q0, by rw [List.getElem?_append_left z]; exact h1, h2, h3⟩
    · have ek : k = i := by
        have : [V.ref t].length = 1 := rfl
        omega
      subst ek
      refine ⟨t, q, by rw [List.getElem?_append_right (by omega), l2]; simp, ?_, kp _ _ (s5 _ _ upd_same)⟩
      have e8 : at' + (0 + (k : Int) * 8) = at' + 8 * (k : Int) := by omega
      rw [← e8]
      exact kp _ _ upd_same
  · rintro zs H2 ⟨s2, e2, l2, p2⟩
    exact qq p H2 zs s2 hp e2 l2 p2
end
section
variable {P : Program} {w : World} {K : PySem.W.Frag} {mg : Str → Option Value} {base : Heap} {f fStm : Addr} {fd dStm : FuncData}
/-! ### _law_stream -/
def spStm : Sp := fun vs H Q _ => ∃ (c n : Int), vs = [.int c, .int n] ∧ 0 ≤ n ∧ n ≤ 1000 ∧ ∀ p H' (ns : List Int), Same H H' → H p = none → H' p = some (.lst (ns.map V.int)) → ns.length = n.toNat → Q (.ref p) H'
theorem scStm : FnScope ["_law_cell", "_law_many", "_law_found", "_law_left", "_law_number", "_law_k"] ["_law_cell", "_law_many"] (defScope sStm) := ⟨rfl, rfl, rfl, by decide +kernel, rfl, by decide +kernel, by decide +kernel⟩
theorem ok_Stm (F : Fun K "_law_stream" "_law_stream" sStm f fd) (T : Txt mg) : FnOk P w K mg base CX0 1 f fd ["_law_cell", "_law_many"] spStm := by
  refine F.ok scStm (fun vs H Q E h => ?_) (fun cdv A outer s H vs Q E hr h => ?_)
  · obtain ⟨c, n, rfl, _⟩ := h
    rfl
  obtain ⟨c, n, rfl, n0, n1, qq⟩ := h
  refine ⟨_, (pss_cons (ps_set (i := 2) scStm.nd rfl (Or.inl rfl) (pe_lst pa_nil))
    (pss_cons (ps_set (i := 3) scStm.nd rfl (Or.inl rfl) (pe_op op_fdiv (pv 0) pe_int))
    (pss_cons (ps_set (i := 4) scStm.nd rfl (Or.inl rfl) (pe_op op_mod (pv 3) pe_int))
    (pss_cons (ps_for PassesOwn.never rfl (pi_range1 rfl T.rng (pa_cons (pv 1) pa_nil)) (pg_name (i := 5) scStm.nd rfl (Or.inl rfl))
    (pss_cons (ps_set (i := 4) scStm.nd rfl (Or.inl rfl) (pe_op op_mod (pe_op op_add (pe_op op_add (pe_op op_add (pe_op op_mul (pv 4) (pv 4)) (pe_op op_mul pe_int (pv 4))) (pe_op op_mul pe_int (pv 5))) pe_int) pe_int))
    (pss_cons (ps_expr (pe_bm PySem.F.plainAttrs_list PySem.F.slot_list_append PySem.F.type_list_append mt_append (pv 2) (pa_cons (pe_ix ix_list (pe_lst (pa_cons (pv 4) (pa_cons (pe_op op_mod (pv 3) pe_int) pa_nil))) (pe_op op_mod (pv 0) pe_int) (fun _ _ => rfl)) pa_nil)))
    (pss_one (ps_set (i := 3) scStm.nd rfl (Or.inl rfl) (pe_op op_fdiv (pv 3) pe_int))))))
    (pss_one (ps_ret (pv 2))))))), ?_⟩
  refine ⟨by decide, fun p hp => ?_⟩
  refine ⟨_, rfl, _, _, rfl, rfl, ⟨by decide, by decide⟩, ?_⟩
  refine ⟨_, rfl, _, _, rfl, rfl, (by show (0 : Int) < 2147483647; decide), ?_⟩
  have m0 : (0 : Int) ≤ c / 2 % 2147483647 := by omega
  have m1 : c / 2 % 2147483647 < 2147483647 := by omega
  dsimp only
  generalize c / 2 % 2147483647 = m at m0 m1
  generalize c / 2 = lf
  refine ⟨_, rfl, n, rfl, by omega, by omega, ?_⟩
  refine for_range (lo := 0) (n := n.toNat) (fun i σ H2 => ∃ (lf m : Int) (o : Option V) (ns : List Int), σ = [some (.int c), some (.int n), some (.ref p), some (.int lf), some (.int m), o] ∧ 0 ≤ m ∧ m < 2147483647 ∧ Same H H2 ∧ H2 p = some (.lst (ns.map V.int)) ∧ ns.length = i) ⟨lf, m, none, [], rfl, m0, m1, same_new hp _, upd_same, rfl⟩ ?_ ?_
  · rintro i σ H2 hi ⟨lf, m, o, ns, rfl, m0, m1, s2, e2, l2⟩
    have hi' : i < n.toNat := hi
    refine ⟨_, rfl, _, rfl, _, _, rfl, rfl, .inl ⟨by omega, by omega⟩, _, rfl, _, _, rfl, rfl, .inr ⟨by omega, by omega⟩, _, _, rfl, rfl, _, rfl, _, _, rfl, rfl, .inl ⟨by decide, by decide⟩, _, _, rfl, rfl, _, _, rfl, rfl, _, _, rfl, rfl, (by show (0 : Int) < 2147483647; decide), ?_⟩
    dsimp only
    generalize hm : (m * m + 48271 * m + 7919 * (0 + (i : Int)) + 11) % 2147483647 = m'
    have m0' : (0 : Int) ≤ m' := by omega
    have m1' : m' < 2147483647 := by omega
    refine ⟨_, rfl, .inl ⟨rfl, _, SqL.of e2⟩, _, rfl, _, rfl, _, _, rfl, rfl, (by show (0 : Int) < 1000003; decide), (by show 2 ≤ sizeLine; decide), fun pl hpl => ?_⟩
    have s3 := same_new hpl (HO.lst [V.int m', V.int (lf % 1000003)])
    refine ⟨_, rfl, _, _, rfl, rfl, (by show (0 : Int) < 2; decide), ?_⟩
    have e3 := s3 _ _ e2
    have fin : ∀ z : Int, ∃ (lf' m'' : Int) (o : Option V) (ns' : List Int), [some (V.int c), some (.int n), some (.ref p), some (.int (lf / 1000003)), some (.int m'), some (.int (0 + (i : Int)))] = [some (V.int c), some (.int n), some (.ref p), some (.int lf'), some (.int m''), o] ∧ 0 ≤ m'' ∧ m'' < 2147483647 ∧ Same H (upd (upd H2 pl (HO.lst [V.int m', V.int (lf % 1000003)])) p (.lst (ns.map V.int ++ [.int z]))) ∧ upd (upd H2 pl (HO.lst [V.int m', V.int (lf % 1000003)])) p (.lst (ns.map V.int ++ [.int z])) p = some (.lst (ns'.map V.int)) ∧ ns'.length = i + 1 := fun z =>
      ⟨_, _, _, ns ++ [z], rfl, m0', m1', same_over (s2.trans s3) hp _, by rw [upd_same, List.map_append]; rfl, by simp [l2]⟩
    have sm : (ns.map V.int).length < sizeLine := small (by rw [List.length_map]; omega)
    obtain e | e : c % 2 = 0 ∨ c % 2 = 1 := by omega
    · exact ⟨pl, _, _, .int m', rfl, rfl, SqL.of upd_same, (by rw [e]; rfl), p, _, _, rfl, rfl, e3, sm, _, rfl, _, _, rfl, rfl, ⟨by decide, by decide⟩, fin _⟩
    · exact ⟨pl, _, _, .int (lf % 1000003), rfl, rfl, SqL.of upd_same, (by rw [e]; rfl), p, _, _, rfl, rfl, e3, sm, _, rfl, _, _, rfl, rfl, ⟨by decide, by decide⟩, fin _⟩
  · rintro σ H2 ⟨lf, m, o, ns, rfl, m0, m1, s2, e2, l2⟩
    exact ⟨_, rfl, qq p H2 ns s2 hp e2 l2⟩
end
end K15
set_option maxHeartbeats 4000000
namespace K15
open PySem L2
section
variable {P : Program} {w : World} {K : PySem.W.Frag} {mg : Str → Option Value} {base : Heap} {f fWho fWth fTof fEnd fEip fGoe fItp fIst : Addr} {fd dWho dWth dTof dEnd dEip dGoe dItp dIst : FuncData}
theorem scWho : FnScope ["thing"] ["thing"] (defScope sWho) := ⟨rfl, rfl, rfl, by decide +kernel, rfl, by decide +kernel, by decide +kernel⟩
theorem ok_Who (F : Fun K "is_whole" "is_whole" sWho f fd) (T : Txt mg) : FnOk P w K mg base CX0 1 f fd ["thing"] spWho0 := by
  refine F.ok scWho (fun vs H Q E h => ?_) (fun cdv A outer s H vs Q E hr h => ?_)
  · obtain ⟨x, rfl, _⟩ := h
    rfl
  obtain ⟨x, rfl, hT, q⟩ := h
  obtain ⟨t, ty, k1, k2⟩ := hT.ty (K := K)
  refine ⟨_, (pss_one (ps_ret (pe_and (pe_callB call_isinst rfl T.isi PyProof.Rows.boot_isinstance (pa_cons (pv 0) (pa_cons (pe_bltn (v := .ty "int") rfl T.int PyProof.Rows.boot_int rfl) pa_nil))) (pe_one (pe_not (pe_callB call_isinst rfl T.isi PyProof.Rows.boot_isinstance (pa_cons (pv 0) (pa_cons (pe_bltn (v := .ty "bool") rfl T.bol PyProof.Rows.boot_bool rfl) pa_nil)))))))), ?_⟩
  refine ⟨_, rfl, x, "int", t, isI0 x, rfl, ty, k1, _, rfl, ?_⟩
  unfold who0 at q
  refine ite2 (fun c => ?_) (fun c => ?_)
  · refine ⟨_, rfl, x, "bool", t, isB0 x, rfl, ty, k2, _, rfl, ?_⟩
    rw [c] at q
    exact q
  · rw [Bool.not_eq_true] at c
    rw [c] at q
    exact q
theorem scWth : FnScope ["thing", "low", "high"] ["thing", "low", "high"] (defScope sWth) := ⟨rfl, rfl, rfl, by decide +kernel, rfl, by decide +kernel, by decide +kernel⟩
theorem ok_Wth (F : Fun K "is_within" "is_within" sWth f fd) {fW : Addr} {dW : FuncData} (hWho : Has K mg "is_whole" sWho ["thing"] fW dW) (GWho : FnOk P w K mg base CX0 1 fW dW ["thing"] spWho0) : FnOk P w K mg base CX0 2 f fd ["thing", "low", "high"] spWth0 := by
  refine F.ok scWth (fun vs H Q E h => ?_) (fun cdv A outer s H vs Q E hr h => ?_)
  · obtain ⟨x, l, h, rfl, _⟩ := h
    rfl
  obtain ⟨x, l, h, rfl, hT, q⟩ := h
  refine ⟨_, (pss_one (ps_ret (pe_and (pe_call GWho (hr.mono (by decide)) rfl hWho.nm hWho.fn.kp hWho.bd .nil pass0 (pa_cons (pv 0) pa_nil)) (pe_one (pe_chain op_le op_le (pv 1) (pv 0) (pv 2)))))), ?_⟩
  refine ⟨_, rfl, x, rfl, hT, _, rfl, ?_⟩
  rcases hT with ⟨n, rfl⟩ | ⟨z, rfl⟩ | ⟨b, rfl⟩ | rfl | ⟨a, z, rfl, _⟩ | ⟨a, z, rfl, _⟩ | ⟨a, z, rfl, _⟩
  · refine iteT ?_
    refine ⟨_, rfl, _, rfl, _, _, rfl, rfl, _, rfl, ?_⟩
    have q' : Q (.bl (decide (l ≤ n) && decide (n ≤ h))) H := q
    refine ite2 (fun c => ?_) (fun c => ?_)
    · rw [c] at q'
      exact ⟨_, rfl, _, _, rfl, rfl, q'⟩
    · rw [Bool.not_eq_true] at c
      rw [c] at q'
      exact q'
  all_goals exact iteF q
/-! ### is_tuple_of -/
theorem dec_len (a b : Nat) : decide (V.int ((a : Nat) : Int) = V.int ((b : Nat) : Int)) = decide (a = b) := decide_eq_decide.mpr ⟨fun h => by injection h with h; omega, fun h => by rw [h]⟩
def spTof : Sp := fun vs H Q _ => ∃ (x : V) (n : Nat), vs = [x, .int (n : Int)] ∧ ((∃ q xs, x = .ref q ∧ H q = some (.tup xs) ∧ Q (.bl (decide (xs.length = n))) H) ∨ (NotT H x ∧ Q (.bl false) H))
theorem scTof : FnScope ["thing", "many"] ["thing", "many"] (defScope sTof) := ⟨rfl, rfl, rfl, by decide +kernel, rfl, by decide +kernel, by decide +kernel⟩
theorem ok_Tof (F : Fun K "is_tuple_of" "is_tuple_of" sTof f fd) (T : Txt mg) : FnOk P w K mg base CX0 1 f fd ["thing", "many"] spTof := by
  refine F.ok scTof (fun vs H Q E h => ?_) (fun cdv A outer s H vs Q E hr h => ?_)
  · obtain ⟨x, n, rfl, _⟩ := h
    rfl
  obtain ⟨x, n, rfl, h⟩ := h
  refine ⟨_, (pss_one (ps_ret (pe_and (pe_callB call_isinst rfl T.isi PyProof.Rows.boot_isinstance (pa_cons (pv 0) (pa_cons (pe_bltn (v := .ty "tuple") rfl T.tup PyProof.Rows.boot_tuple rfl) pa_nil))) (pe_one (pe_cmpR op_eq (pe_callB call_len_seq rfl T.len PySem.boot_len (pa_cons (pv 0) pa_nil)) (pv 1) (nomark _)))))), ?_⟩
  rcases h with ⟨q, xs, rfl, hq, qq⟩ | ⟨hN, qq⟩
  · refine ⟨_, rfl, _, _, _, true, rfl, .tup hq, kit_tt K, _, rfl, iteT ?_⟩
    refine ⟨_, rfl, q, _, rfl, .inr (SqT.of hq), _, rfl, rfl, ?_⟩
    rw [dec_len]
    exact qq
  · obtain ⟨t, ty, k⟩ := hN.kit (K := K)
    exact ⟨_, rfl, x, _, t, false, rfl, ty, k, _, rfl, iteF qq⟩
/-! ### is_tree_place, is_stretch -/
def spItp : Sp := fun vs H Q _ => ∃ x, vs = [x] ∧ Ty0 H x ∧ Q (.bl (wth0 x 2 599)) H
theorem scItp : FnScope ["thing"] ["thing"] (defScope sItp) := ⟨rfl, rfl, rfl, by decide +kernel, rfl, by decide +kernel, by decide +kernel⟩
theorem ok_Itp (F : Fun K "is_tree_place" "is_tree_place" sItp f fd) (hWth : Has K mg "is_within" sWth ["thing", "low", "high"] fWth dWth) (GWth : FnOk P w K mg base CX0 2 fWth dWth ["thing", "low", "high"] spWth0) (T : Txt mg) : FnOk P w K mg base CX0 3 f fd ["thing"] spItp := by
  refine F.ok scItp (fun vs H Q E h => ?_) (fun cdv A outer s H vs Q E hr h => ?_)
  · obtain ⟨x, rfl, _⟩ := h
    rfl
  obtain ⟨x, rfl, hT, qq⟩ := h
  obtain ⟨t1, fp⟩ := T.fp
  obtain ⟨t2, lp⟩ := T.lp
  refine ⟨_, (pss_one (ps_ret (pe_call GWth (hr.mono (by decide)) rfl hWth.nm hWth.fn.kp hWth.bd .nil pass0 (pa_cons (pv 0) (pa_cons (pe_glob (v := .int 2) rfl fp ⟨_, rfl⟩) (pa_cons (pe_glob (v := .int 599) rfl lp ⟨_, rfl⟩) pa_nil)))))), ?_⟩
  exact ⟨_, rfl, x, 2, 599, rfl, hT, qq⟩
def spIst : Sp := fun vs H Q _ => ∃ (x : V) (o : Option S4), vs = [x] ∧ PartO H x o ∧ ∀ H', Same H H' → Q (.bl (o.any okP)) H'
theorem scIst : FnScope ["thing"] ["thing"] (defScope sIst) := ⟨rfl, rfl, rfl, by decide +kernel, rfl, by decide +kernel, by decide +kernel⟩
theorem ok_Ist (F : Fun K "is_stretch" "is_stretch" sIst f fd) (hTof : Has K mg "is_tuple_of" sTof ["thing", "many"] fTof dTof) (GTof : FnOk P w K mg base CX0 1 fTof dTof ["thing", "many"] spTof)
    (hWho : Has K mg "is_whole" sWho ["thing"] fWho dWho) (GWho : FnOk P w K mg base CX0 1 fWho dWho ["thing"] spWho0)
    (hEnd : Has K mg "end_of" sEnd ["stretch"] fEnd dEnd) (GEnd : FnOk P w K mg base CX0 1 fEnd dEnd ["stretch"] spEnd)
    (hEip : Has K mg "end_in_piece" sEip ["stretch"] fEip dEip) (GEip : FnOk P w K mg base CX0 1 fEip dEip ["stretch"] spEip)
    (hItp : Has K mg "is_tree_place" sItp ["thing"] fItp dItp) (GItp : FnOk P w K mg base CX0 3 fItp dItp ["thing"] spItp) (T : Txt mg) : FnOk P w K mg base CX0 4 f fd ["thing"] spIst := by
  refine F.ok scIst (fun vs H Q E h => ?_) (fun cdv A outer s H vs Q E hr h => ?_)
  · obtain ⟨x, o, rfl, _⟩ := h
    rfl
  obtain ⟨x, o, rfl, hP, qq⟩ := h
  obtain ⟨t1, at0⟩ := T.at0
  obtain ⟨t2, lg⟩ := T.lg
  obtain ⟨t3, sk3⟩ := T.sk3
  obtain ⟨t4, mc⟩ := T.mc
  obtain ⟨t5, pc8⟩ := T.pc8
  obtain ⟨t6, pl2⟩ := T.pl2
  refine ⟨_, (pss_cons (ps_if (PW.pt (pw_or (pt_not (pt_val (pe_call GTof (hr.mono (by decide)) rfl hTof.nm hTof.fn.kp hTof.bd .nil pass0 (pa_cons (pv 0) (pa_cons pe_int pa_nil))))) (pw_or1 (pt_not (pt_val (pe_callB (call_all hr.hd) rfl T.all PyProof.Rows.boot_all (pa_cons (pe_comp [] [] (pi_tup (pv 0)) (fun _ _ _ _ _ _ => pts_nil)
          (fun _ _ _ _ _ _ => (pe_call GWho (hr.mono (by decide)) rfl hWho.nm hWho.fn.kp hWho.bd .nil pass0 (pa_cons (pv 0) pa_nil)))
          rfl (by decide +kernel) (by decide +kernel) rfl (by decide +kernel) (fun _ _ z => nomatch z) rfl (by decide +kernel) rfl) pa_nil)))))))
    (pss_one (ps_ret pe_bl))
    pss_nil)
    (pss_cons (ps_if (PW.pt (pw_or (pt_cmpR op_lt (pe_ix ix_tup (pv 0) (pe_glob (v := .int 0) rfl at0 ⟨_, rfl⟩) (fun _ _ => rfl)) pe_int (nomark _)) (pw_or (pt_cmpR op_lt (pe_ix ix_tup (pv 0) (pe_glob (v := .int 1) rfl lg ⟨_, rfl⟩) (fun _ _ => rfl)) pe_int (nomark _)) (pw_or1 (pt_cmpR op_lt (pe_ix ix_tup (pv 0) (pe_glob (v := .int 3) rfl sk3 ⟨_, rfl⟩) (fun _ _ => rfl)) pe_int (nomark _))))))
    (pss_one (ps_ret pe_bl))
    pss_nil)
    (pss_cons (ps_if (PW.pt (pw_or (pt_cmpR op_gt (pe_call GEnd (hr.mono (by decide)) rfl hEnd.nm hEnd.fn.kp hEnd.bd .nil pass0 (pa_cons (pv 0) pa_nil)) (pe_glob (v := .int 40) rfl mc ⟨_, rfl⟩) (nomark _)) (pw_or1 (pt_cmpR op_gt (pe_call GEip (hr.mono (by decide)) rfl hEip.nm hEip.fn.kp hEip.bd .nil pass0 (pa_cons (pv 0) pa_nil)) (pe_glob (v := .int 8) rfl pc8 ⟨_, rfl⟩) (nomark _)))))
    (pss_one (ps_ret pe_bl))
    pss_nil)
    (pss_one (ps_ret (pe_call GItp (hr.mono (by decide)) rfl hItp.nm hItp.fn.kp hItp.bd .nil pass0 (pa_cons (pe_ix ix_tup (pv 0) (pe_glob (v := .int 2) rfl pl2 ⟨_, rfl⟩) (fun _ _ => rfl)) pa_nil))))))), ?_⟩
  rcases hP with ⟨q, xs, rfl, hq, hy, hl, ho⟩ | ⟨hN, rfl⟩
  rotate_left
  · exact ⟨_, rfl, x, 4, rfl, .inr ⟨hN, _, rfl, iteT (iteT (qq H (Same.refl H)))⟩⟩
  refine ⟨_, rfl, .ref q, 4, rfl, .inl ⟨q, xs, rfl, hq, _, rfl, ?_⟩⟩
  by_cases c4 : xs.length = 4
  rotate_left
  · rw [decide_eq_false c4]
    rw [ho, st4_len c4] at qq
    exact iteT (iteT (qq H (Same.refl H)))
  rw [decide_eq_true c4]
  refine iteF ?_
  refine ⟨_, rfl, q, rfl, ⟨_, SqT.of hq⟩, fun p hp => ?_⟩
  refine comp_tup (K := K) (a := q) (xs := xs) (fun i ys H2 => ys = (xs.take i).map (fun y => V.bl (who0 y)) ∧ Same H H2 ∧ H2 p = some (.lst ys)) ⟨rfl, same_new hp _, upd_same⟩ (fun i ys H2 _ h2 => SqT.of (h2.2.1 _ _ hq)) ?_ ?_
  · rintro i y ys H2 hi ⟨rfl, s2, e2⟩
    refine ttT ⟨_, rfl, y, rfl, (hy y (List.mem_of_getElem? hi)).mono s2, e2, ?_, (take_snoc (fun y => V.bl (who0 y)) hi).symm, same_over s2 hp _, upd_same⟩
    rw [List.length_map]
    have := List.length_take_le' i xs
    exact small (by omega)
  rintro ys H2 ⟨rfl, s2, e2⟩
  rw [List.take_length] at e2
  refine ⟨p, xs.map who0, rfl, SqL.of (by rw [e2, List.map_map]; rfl), _, rfl, ?_⟩
  have ea : (xs.map who0).all id = xs.all who0 := by
    rw [List.all_map]
    rfl
  rw [ea]
  have q2 := s2 _ _ hq
  cases hw : xs.all who0 with
  | false =>
    rw [ho, (st4_who c4).1 hw] at qq
    exact iteT (qq H2 s2)
  | true =>
    obtain ⟨r, rfl⟩ := (st4_who c4).2 hw
    rw [ho, st4_tv] at qq
    have qq' : ∀ b, okP r = b → Q (.bl b) H2 := fun b e => by rw [← e]; exact qq H2 s2
    have t2 := SqT.of (K := K) q2
    refine iteF ?_
    have no : okP r ≠ true → okP r = false := fun h => Bool.eq_false_iff.mpr h
    refine ⟨_, rfl, q, _, _, .int r.1, rfl, rfl, t2, rfl, _, _, rfl, rfl, _, rfl, ite2 (fun c => ?_) (fun c => ?_)⟩
    · have c' : r.1 < 0 := of_decide_eq_true c
      refine iteT (qq' false (no fun h => ?_))
      unfold okP at h
      simp only [Bool.and_eq_true, decide_eq_true_eq] at h
      omega
    have b1 : ¬ r.1 < 0 := fun e => c (decide_eq_true e)
    refine ⟨_, rfl, q, _, _, .int r.2.1, rfl, rfl, t2, rfl, _, _, rfl, rfl, _, rfl, ite2 (fun c => ?_) (fun c => ?_)⟩
    · have c' : r.2.1 < 1 := of_decide_eq_true c
      refine iteT (qq' false (no fun h => ?_))
      unfold okP at h
      simp only [Bool.and_eq_true, decide_eq_true_eq] at h
      omega
    have b2 : ¬ r.2.1 < 1 := fun e => c (decide_eq_true e)
    refine ⟨_, rfl, q, _, _, .int r.2.2.2, rfl, rfl, t2, rfl, _, _, rfl, rfl, _, rfl, ite2 (fun c => ?_) (fun c => ?_)⟩
    · have c' : r.2.2.2 < 0 := of_decide_eq_true c
      refine qq' false (no fun h => ?_)
      unfold okP at h
      simp only [Bool.and_eq_true, decide_eq_true_eq] at h
      omega
    have b3 : ¬ r.2.2.2 < 0 := fun e => c (decide_eq_true e)
    refine ⟨_, rfl, q, r, rfl, q2, _, _, rfl, rfl, _, rfl, ite2 (fun c => ?_) (fun c => ?_)⟩
    · have c' : 40 < r.1 + r.2.1 := of_decide_eq_true c
      refine iteT (qq' false (no fun h => ?_))
      unfold okP at h
      simp only [Bool.and_eq_true, decide_eq_true_eq] at h
      omega
    have b4 : ¬ 40 < r.1 + r.2.1 := fun e => c (decide_eq_true e)
    refine ⟨_, rfl, q, r, rfl, q2, _, _, rfl, rfl, _, rfl, ite2 (fun c => ?_) (fun c => ?_)⟩
    · have c' : 8 < r.2.2.2 + r.2.1 := of_decide_eq_true c
      refine qq' false (no fun h => ?_)
      unfold okP at h
      simp only [Bool.and_eq_true, decide_eq_true_eq] at h
      omega
    have b5 : ¬ 8 < r.2.2.2 + r.2.1 := fun e => c (decide_eq_true e)
    refine ⟨_, rfl, q, _, _, .int r.2.2.1, rfl, rfl, t2, rfl, .int r.2.2.1, rfl, Ty0.int _, qq' _ ?_⟩
    show okP r = (decide (2 ≤ r.2.2.1) && decide (r.2.2.1 ≤ 599))
    unfold okP
    rw [decide_eq_true (show 0 ≤ r.1 by omega), decide_eq_true (show 1 ≤ r.2.1 by omega), decide_eq_true (show 0 ≤ r.2.2.2 by omega), decide_eq_true (show r.1 + r.2.1 ≤ 40 by omega), decide_eq_true (show r.2.2.2 + r.2.1 ≤ 8 by omega)]
    rfl
/-! ### is_row -/
def spIsr : Sp := fun vs H Q _ => ∃ (x : V) (size : Int), vs = [x, .int size] ∧ ((∃ q ys os, x = .ref q ∧ H q = some (.tup ys) ∧ PartsO H ys os ∧ ys.length ≤ 100 ∧ ∀ H', Same H H' → Q (.bl (rowO os size)) H') ∨ (NotT H x ∧ Q (.bl false) H))
theorem scIsr : FnScope ["thing", "size", "ahead", "stretch"] ["thing", "size"] (defScope sIsr) := ⟨rfl, rfl, rfl, by decide +kernel, rfl, by decide +kernel, by decide +kernel⟩
theorem ok_Isr (F : Fun K "is_row" "is_row" sIsr f fd) (hIst : Has K mg "is_stretch" sIst ["thing"] fIst dIst) (GIst : FnOk P w K mg base CX0 4 fIst dIst ["thing"] spIst)
    (hEnd : Has K mg "end_of" sEnd ["stretch"] fEnd dEnd) (GEnd : FnOk P w K mg base CX0 1 fEnd dEnd ["stretch"] spEnd)
    (hGoe : Has K mg "goes_on" sGoe ["ahead", "stretch"] fGoe dGoe) (GGoe : FnOk P w K mg base CX0 2 fGoe dGoe ["ahead", "stretch"] spGoe) (T : Txt mg) : FnOk P w K mg base CX0 5 f fd ["thing", "size"] spIsr := by
  refine F.ok scIsr (fun vs H Q E h => ?_) (fun cdv A outer s H vs Q E hr h => ?_)
  · obtain ⟨x, size, rfl, _⟩ := h
    rfl
  obtain ⟨x, size, rfl, h⟩ := h
  obtain ⟨t1, at0⟩ := T.at0
  refine ⟨_, (pss_cons (ps_if (PW.pt (pw_or (pt_not (pt_val (pe_callB call_isinst rfl T.isi PyProof.Rows.boot_isinstance (pa_cons (pv 0) (pa_cons (pe_bltn (v := .ty "tuple") rfl T.tup PyProof.Rows.boot_tuple rfl) pa_nil))))) (pw_or1 (pt_not (pt_val (pe_callB (call_all hr.hd) rfl T.all PyProof.Rows.boot_all (pa_cons (pe_comp [] [] (pi_tup (pv 0)) (fun _ _ _ _ _ _ => pts_nil)
          (fun _ _ _ _ _ _ => (pe_call GIst (hr.mono (by decide)) rfl hIst.nm hIst.fn.kp hIst.bd .nil pass0 (pa_cons (pv 0) pa_nil)))
          rfl (by decide +kernel) (by decide +kernel) rfl (by decide +kernel) (fun _ _ z => nomatch z) rfl (by decide +kernel) rfl) pa_nil)))))))
    (pss_one (ps_ret pe_bl))
    pss_nil)
    (pss_cons (ps_for PassesOwn.never rfl (pi_zipT rfl T.zip (pa_cons (pv 0) (pa_cons (pe_slice sl_tupW (pv 0) (po_some pe_int) po_none) pa_nil))) (pg_tup rfl (pgs_cons (pg_name (i := 2) scIsr.nd rfl (Or.inl rfl)) (pgs_cons (pg_name (i := 3) scIsr.nd rfl (Or.inl rfl)) pgs_nil)))
    (pss_one (ps_if (PW.pt (pw_or (pt_cmpR op_gt (pe_call GEnd (hr.mono (by decide)) rfl hEnd.nm hEnd.fn.kp hEnd.bd .nil pass0 (pa_cons (pv 2) pa_nil)) (pe_ix ix_tup (pv 3) (pe_glob (v := .int 0) rfl at0 ⟨_, rfl⟩) (fun _ _ => rfl)) (nomark _)) (pw_or1 (pt_val (pe_call GGoe (hr.mono (by decide)) rfl hGoe.nm hGoe.fn.kp hGoe.bd .nil pass0 (pa_cons (pv 2) (pa_cons (pv 3) pa_nil)))))))
    (pss_one (ps_ret pe_bl))
    pss_nil)))
    (pss_one (ps_ret (pe_callB (call_all hr.hd) rfl T.all PyProof.Rows.boot_all (pa_cons (pe_comp [1] ["size"] (pi_tup (pv 0)) (fun _ _ _ _ _ _ => pts_nil)
          (fun _ _ _ _ _ _ => (pe_cmpR op_le (pe_call GEnd (hr.mono (by decide)) rfl hEnd.nm hEnd.fn.kp hEnd.bd .nil pass0 (pa_cons (pv 0) pa_nil)) (pv 1) (nomark _)))
          rfl (by decide +kernel) (by decide +kernel) rfl (by decide +kernel) (fun j y hj => by
            match j, hj with
            | 0, hj => cases hj; exact ⟨1, rfl, rfl, rfl, .inl rfl⟩) rfl (by decide +kernel) rfl) pa_nil)))))), ?_⟩
  rcases h with ⟨q, ys, os, rfl, hq, hP, hl, qq⟩ | ⟨hN, qq⟩
  rotate_left
  · obtain ⟨t, ty, k⟩ := hN.kit (K := K)
    exact ⟨_, rfl, x, _, t, false, rfl, ty, k, _, rfl, iteT (iteT qq)⟩
  have lo := hP.len
  refine ⟨_, rfl, _, _, _, true, rfl, .tup hq, kit_tt K, _, rfl, iteF ?_⟩
  refine ⟨_, rfl, q, rfl, ⟨_, SqT.of hq⟩, fun p hp => ?_⟩
  refine comp_tup (K := K) (a := q) (xs := ys) (fun i zs H2 => zs = ((os.take i).map (fun o => o.any okP)).map V.bl ∧ Same H H2 ∧ H2 p = some (.lst zs)) ⟨rfl, same_new hp _, upd_same⟩ (fun i zs H2 _ h2 => SqT.of (h2.2.1 _ _ hq)) ?_ ?_
  · rintro i y zs H2 hi ⟨rfl, s2, e2⟩
    obtain ⟨o, ho, hPo⟩ := hP.get hi
    refine ttT ⟨_, rfl, y, o, rfl, hPo.mono s2, fun H3 s3 => ⟨s3 _ _ e2, ?_, ?_, same_over (s2.trans s3) hp _, upd_same⟩⟩
    · rw [List.length_map, List.length_map]
      have := List.length_take_le' i os
      exact small (by omega)
    · rw [take_next ho, List.map_append, List.map_append]
      rfl
  rintro zs H2 ⟨rfl, s2, e2⟩
  rw [lo, List.take_length] at e2
  refine ⟨p, os.map (fun o => o.any okP), rfl, SqL.of e2, _, rfl, ?_⟩
  have ea : (os.map (fun o => o.any okP)).all id = os.all fun o => o.any okP := by
    rw [List.all_map]
    rfl
  rw [ea]
  cases hw : os.all fun o => o.any okP with
  | false =>
    rw [rowO_no hw] at qq
    exact iteT (qq H2 s2)
  | true =>
    refine iteF ?_
    obtain ⟨rs, h1, h2⟩ := allS_all hw
    have hT : TupsAt H ys (rs.map tv) := by
      rw [allS_eq h1] at hP
      exact hP.tups
    have er : rowO os size = (apart rs && rs.all fun r => decide (r.1 + r.2.1 ≤ size)) := by
      unfold rowO
      rw [h1]
      show isRowP rs size = _
      unfold isRowP
      rw [h2, Bool.true_and]
    rw [er] at qq
    have lr := row_len hT
    -- the loop
    refine ⟨_, rfl, _, rfl, _, rfl, q, ys, rfl, s2 _ _ hq, fun b H3 s3 hb => ?_⟩
    rw [cutV_one] at hb
    have s23 := s2.trans s3
    refine ⟨q, b, ys, ys.drop 1, rfl, SqT.of (s23 _ _ hq), SqT.of hb, for_zipT (K := K) (a := q) (b := b) (xs := ys) (ys := ys.drop 1) (fun i σ H4 => ∃ o2 o3, σ = [some (.ref q), some (.int size), o2, o3] ∧ Same H3 H4 ∧ ∀ (j : Nat) a b, j < i → rs[j]? = some a → rs[j + 1]? = some b → ¬ b.1 < a.1 + a.2.1 ∧ goOn a b = false) ⟨none, none, rfl, Same.refl _, fun j _ _ h => by omega⟩ (fun i σ H4 h => ?_) ?_ ?_⟩
    · obtain ⟨_, _, _, s4, _⟩ := h
      exact ⟨SqT.of (s4 _ _ (s23 _ _ hq)), SqT.of (s4 _ _ hb)⟩
    · rintro i x y t σ H4 hx hy ⟨o2, o3, rfl, s4, ok⟩ ht
      have sA := s23.trans s4
      rw [List.getElem?_drop, Nat.add_comm] at hy
      obtain ⟨r, q1, hr1, rfl, hq1⟩ := row_get (hT.mono sA) hx
      obtain ⟨r', q2, hr2, rfl, hq2⟩ := row_get (hT.mono sA) hy
      have s5 := same_new ht (HO.tup [V.ref q1, V.ref q2])
      have no : (¬ (¬ r'.1 < r.1 + r.2.1 ∧ goOn r r' = false)) → Q (.bl false) (upd H4 t (HO.tup [V.ref q1, V.ref q2])) := fun h => by
        have ap : apart rs = false := by
          rw [← Bool.not_eq_true, apart_iff]
          exact fun k => h (k i r r' hr1 hr2)
        have := qq _ (sA.trans s5)
        rw [ap] at this
        exact this
      refine ⟨t, _, rfl, SqT.of upd_same, rfl, _, _, rfl, _, _, rfl, rfl, ?_⟩
      refine ⟨_, rfl, q1, r, rfl, s5 _ _ hq1, _, rfl, q2, _, _, .int r'.1, rfl, rfl, SqT.of (s5 _ _ hq2), rfl, _, _, rfl, rfl, _, rfl, ite2 (fun c => ?_) (fun c => ?_)⟩
      · have c' : r'.1 < r.1 + r.2.1 := of_decide_eq_true c
        exact iteT (no fun h => h.1 c')
      have c' : ¬ r'.1 < r.1 + r.2.1 := fun e => c (decide_eq_true e)
      refine ⟨_, rfl, _, rfl, q1, q2, r, r', rfl, s5 _ _ hq1, s5 _ _ hq2, _, rfl, ?_⟩
      cases hg : goOn r r' with
      | true => exact iteT (no fun h => by rw [hg] at h; cases h.2)
      | false =>
        refine iteF ⟨_, _, rfl, s4.trans s5, fun j a b hj ha hb' => ?_⟩
        by_cases e : j = i
        · subst e
          rw [hr1] at ha
          rw [hr2] at hb'
          cases ha
          cases hb'
          exact ⟨c', hg⟩
        · exact ok j a b (by omega) ha hb'
    · rintro i σ H4 hi ⟨o2, o3, rfl, s4, ok⟩
      have sA := s23.trans s4
      have ap : apart rs = true := apart_iff.mpr fun j a b ha hb' => ok j a b (by
        have := (List.getElem?_eq_some_iff.mp hb').1
        rw [List.length_drop] at hi
        omega) ha hb'
      rw [ap, Bool.true_and] at qq
      have hqA := sA _ _ hq
      refine ⟨_, rfl, q, rfl, ⟨_, SqT.of hqA⟩, fun p3 hp3 => ?_⟩
      refine comp_tup (K := K) (a := q) (xs := ys) (fun i zs H5 => zs = ((rs.take i).map (fun r => decide (r.1 + r.2.1 ≤ size))).map V.bl ∧ Same H4 H5 ∧ H5 p3 = some (.lst zs)) ⟨rfl, same_new hp3 _, upd_same⟩ (fun i zs H5 _ h5 => SqT.of (h5.2.1 _ _ hqA)) ?_ ?_
      · rintro i y zs H5 hi' ⟨rfl, s5, e5⟩
        obtain ⟨r, q1, hr1, rfl, hq1⟩ := row_get (hT.mono (sA.trans s5)) hi'
        refine ttT ⟨_, rfl, q1, r, rfl, hq1, _, rfl, _, _, rfl, rfl, e5, ?_, ?_, same_over s5 hp3 _, upd_same⟩
        · rw [List.length_map, List.length_map]
          have := List.length_take_le' i rs
          exact small (by omega)
        · rw [take_next hr1, List.map_append, List.map_append]
          rfl
      · rintro zs H5 ⟨rfl, s5, e5⟩
        rw [lr, List.take_length] at e5
        refine ⟨p3, rs.map (fun r => decide (r.1 + r.2.1 ≤ size)), rfl, SqL.of e5, ?_⟩
        have ea2 : (rs.map (fun r => decide (r.1 + r.2.1 ≤ size))).all id = rs.all fun r => decide (r.1 + r.2.1 ≤ size) := by
          rw [List.all_map]
          rfl
        rw [ea2]
        exact qq H5 (sA.trans s5)
end
end K15
set_option maxHeartbeats 4000000
namespace K15
open PySem L2
section
variable {P : Program} {w : World} {K : PySem.W.Frag} {mg : Str → Option Value} {base : Heap} {f g fPts fEnd : Addr} {fd gd2 dPts dEnd : FuncData}
/-! ### shifted -/
def spShi : Sp := fun vs H Q _ => ∃ (a : Addr) (tu : Bool) (rs : List S4) (k : Int), vs = [.ref a, .int k] ∧ RowAt tu H a rs ∧ rs.length ≤ 1000 ∧ ∀ p H', Same H H' → H p = none → RowAt false H' p (shiftP rs k) → Q (.ref p) H'
theorem scShi : FnScope ["row", "by"] ["row", "by"] (defScope sShi) := ⟨rfl, rfl, rfl, by decide +kernel, rfl, by decide +kernel, by decide +kernel⟩
theorem ok_Shi (F : Fun K "shifted" "shifted" sShi f fd) (T : Txt mg) : FnOk P w K mg base CX0 1 f fd ["row", "by"] spShi := by
  refine F.ok scShi (fun vs H Q E h => ?_) (fun cdv A outer s H vs Q E hr h => ?_)
  · obtain ⟨a, tu, rs, k, rfl, _⟩ := h
    rfl
  obtain ⟨a, tu, rs, k, rfl, ⟨ys, ha, hT⟩, hn, qq⟩ := h
  refine ⟨_, (pss_one (ps_ret (pe_compR (g := g4 K) ["at", "long", "place", "skip"] [1] ["by"] (pi_seq (pv 0)) (fun _ _ _ _ _ _ => pg_tup rfl (pgs_cons (pg_name (i := 0) (show (["at", "long", "place", "skip", "by"] : List Str).Nodup by decide +kernel) rfl (Or.inl rfl)) (pgs_cons (pg_name (i := 1) (show (["at", "long", "place", "skip", "by"] : List Str).Nodup by decide +kernel) rfl (Or.inl rfl)) (pgs_cons (pg_name (i := 2) (show (["at", "long", "place", "skip", "by"] : List Str).Nodup by decide +kernel) rfl (Or.inl rfl)) (pgs_cons (pg_name (i := 3) (show (["at", "long", "place", "skip", "by"] : List Str).Nodup by decide +kernel) rfl (Or.inl rfl)) pgs_nil))))) (fun _ _ _ _ _ _ => pts_nil)
          (fun _ _ _ _ _ _ => (pe_tup (pa_cons (pe_op op_add (pv 0) (pv 4)) (pa_cons (pv 1) (pa_cons (pv 2) (pa_cons (pv 3) pa_nil))))))
          rfl (by decide +kernel) (by decide +kernel) (by decide +kernel) (fun j y hj => by
            match j, hj with
            | 0, hj => cases hj; exact ⟨1, rfl, rfl, rfl, .inl rfl⟩) rfl rfl))), ?_⟩
  have ly := row_len hT
  refine ⟨_, rfl, a, tu, rfl, ⟨_, Sq.of ha⟩, fun p hp => ?_⟩
  refine comp4 (K := K) (tu := tu) (a := a) (xs := ys) (fun i zs H2 => Same H H2 ∧ H2 p = some (.lst zs) ∧ TupsAt H2 zs ((shiftP (rs.take i) k).map tv)) ⟨same_new hp _, upd_same, trivial⟩ (fun i zs H2 _ h2 => Sq.of (h2.1 _ _ ha)) ?_ ?_
  · rintro i x zs H2 hx ⟨s2, e2, t2⟩
    obtain ⟨r, q, hr', rfl, hq⟩ := row_get (hT.mono s2) hx
    refine ⟨q, _, _, _, _, rfl, SqT.of hq, ttT ?_⟩
    refine ⟨_, rfl, _, rfl, _, _, rfl, rfl, _, rfl, _, rfl, _, rfl, (by show 4 ≤ sizeLine; decide), fun q2 hq2 => ?_⟩
    have s3 := same_new hq2 (HO.tup (tv (r.1 + k, r.2.1, r.2.2.1, r.2.2.2)))
    have e3 := s3 _ _ e2
    have lz := row_len t2
    have lz2 : (shiftP (rs.take i) k).length ≤ rs.length := by
      unfold shiftP
      rw [List.length_map]
      exact List.length_take_le' i rs
    refine ⟨e3, small (by omega), same_over (s2.trans s3) hp _, upd_same, ?_⟩
    have tn : shiftP (rs.take (i + 1)) k = shiftP (rs.take i) k ++ [(r.1 + k, r.2.1, r.2.2.1, r.2.2.2)] := by
      unfold shiftP
      rw [take_next hr', List.map_append]
      rfl
    rw [tn, List.map_append]
    exact ((t2.mono s3).snoc upd_same).upd (lst_ne e3)
  · rintro zs H2 ⟨s2, e2, t2⟩
    rw [ly, List.take_length] at t2
    exact qq p H2 s2 hp ⟨zs, e2, t2⟩
/-! ### gaps -/
def spGap : Sp := fun vs H Q _ => ∃ (a : Addr) (tu : Bool) (rs : List S4) (size : Int), vs = [.ref a, .int size] ∧ RowAt tu H a rs ∧ rs.length ≤ 1000 ∧ ∀ p H', Same H H' → H p = none → GapAt H' p (gapsP rs size) → Q (.ref p) H'
theorem gst_len (l : List S4) : ∀ st : List (Int × Int) × Int, (l.foldl gst st).1.length ≤ st.1.length + l.length := by
  induction l with
  | nil => intro st; simp
  | cons r t ih =>
    intro st
    have h := ih (gst st r)
    have : (gst st r).1.length ≤ st.1.length + 1 := by
      unfold gst
      dsimp only
      split
      · simp
      · omega
    rw [List.foldl_cons, List.length_cons]
    omega
theorem scGap : FnScope ["row", "size", "spans", "end", "stretch"] ["row", "size"] (defScope sGap) := ⟨rfl, rfl, rfl, by decide +kernel, rfl, by decide +kernel, by decide +kernel⟩
theorem ok_Gap (F : Fun K "gaps" "gaps" sGap f fd) (hPts : Has K mg "parts" sPts ["row", "low", "high"] fPts dPts) (GPts : FnOk P w K mg base CX0 1 fPts dPts ["row", "low", "high"] spPts)
    (hEnd : Has K mg "end_of" sEnd ["stretch"] fEnd dEnd) (GEnd : FnOk P w K mg base CX0 1 fEnd dEnd ["stretch"] spEnd) (T : Txt mg) : FnOk P w K mg base CX0 2 f fd ["row", "size"] spGap := by
  refine F.ok scGap (fun vs H Q E h => ?_) (fun cdv A outer s H vs Q E hr h => ?_)
  · obtain ⟨a, tu, rs, size, rfl, _⟩ := h
    rfl
  obtain ⟨a, tu, rs, size, rfl, hR, hn, qq⟩ := h
  obtain ⟨t1, at0⟩ := T.at0
  refine ⟨_, (pss_cons (ps_set (i := 2) scGap.nd rfl (Or.inl rfl) (pe_lst pa_nil))
    (pss_cons (ps_set (i := 3) scGap.nd rfl (Or.inl rfl) pe_int)
    (pss_cons (ps_for PassesOwn.never rfl (pi_list (pe_call GPts (hr.mono (by decide)) rfl hPts.nm hPts.fn.kp hPts.bd .nil pass0 (pa_cons (pv 0) (pa_cons pe_int (pa_cons (pv 1) pa_nil))))) (pg_name (i := 4) scGap.nd rfl (Or.inl rfl))
    (pss_cons (ps_if (pt_cmpR op_lt (pv 3) (pe_ix ix_tup (pv 4) (pe_glob (v := .int 0) rfl at0 ⟨_, rfl⟩) (fun _ _ => rfl)) (nomark _))
    (pss_one (ps_expr (pe_bm PySem.F.plainAttrs_list PySem.F.slot_list_append PySem.F.type_list_append mt_append (pv 2) (pa_cons (pe_tup (pa_cons (pv 3) (pa_cons (pe_ix ix_tup (pv 4) (pe_glob (v := .int 0) rfl at0 ⟨_, rfl⟩) (fun _ _ => rfl)) pa_nil))) pa_nil))))
    pss_nil)
    (pss_one (ps_set (i := 3) scGap.nd rfl (Or.inl rfl) (pe_call GEnd (hr.mono (by decide)) rfl hEnd.nm hEnd.fn.kp hEnd.bd .nil pass0 (pa_cons (pv 4) pa_nil))))))
    (pss_cons (ps_if (pt_cmpR op_lt (pv 3) (pv 1) (nomark _))
    (pss_one (ps_expr (pe_bm PySem.F.plainAttrs_list PySem.F.slot_list_append PySem.F.type_list_append mt_append (pv 2) (pa_cons (pe_tup (pa_cons (pv 3) (pa_cons (pv 1) pa_nil))) pa_nil))))
    pss_nil)
    (pss_one (ps_ret (pv 2))))))), ?_⟩
  refine ⟨by decide, fun p hp => ?_⟩
  have s1 := same_new hp (HO.lst [])
  refine ⟨_, rfl, _, rfl, a, tu, rs, 0, size, rfl, hR.mono s1, hn, fun pl H2 s2 hpl ⟨ys, e2, r2⟩ => ?_⟩
  have l2 := row_len r2
  have l3 := parts_len 0 size rs
  have np : pl ≠ p := fun e => by rw [e, upd_same] at hpl; cases hpl
  refine ⟨pl, rfl, ⟨_, SqL.of e2⟩, for_list (K := K) (a := pl) (xs := ys) (fun i σ H3 => ∃ (o : Option V) (gs : List V), σ = [some (.ref a), some (.int size), some (.ref p), some (.int (((partsP rs 0 size).take i).foldl gst ([], 0)).2), o] ∧ Same H H3 ∧ H3 pl = some (.lst ys) ∧ TupsAt H3 ys ((partsP rs 0 size).map tv) ∧ H3 p = some (.lst gs) ∧ TupsAt H3 gs ((((partsP rs 0 size).take i).foldl gst ([], 0)).1.map tp))
    ⟨none, [], rfl, s1.trans s2, e2, r2, s2 _ _ upd_same, trivial⟩ (fun i σ H3 _ h3 => ?_) ?_ ?_⟩
  · obtain ⟨_, _, _, _, e3, _⟩ := h3
    exact SqL.of e3
  · rintro i x σ H3 hx ⟨o, gs, rfl, s3, e3, r3, e4, r4⟩
    obtain ⟨r, q, hr', rfl, hq⟩ := row_get r3 hx
    have tn : ((partsP rs 0 size).take (i + 1)).foldl gst ([], 0) = gst (((partsP rs 0 size).take i).foldl gst ([], 0)) r := by
      rw [take_next hr', List.foldl_append]
      rfl
    have lg : gs.length = _ := r4.len
    have lg2 := gst_len ((partsP rs 0 size).take i) ([], 0)
    have lg3 := List.length_take_le' i (partsP rs 0 size)
    rw [List.length_map] at lg
    rw [tn]
    generalize ((partsP rs 0 size).take i).foldl gst ([], 0) = st at r4 lg lg2
    have lg4 : st.1.length ≤ (List.take i (partsP rs 0 size)).length := by simpa using lg2
    refine ⟨_, rfl, _, rfl, q, _, _, .int r.1, rfl, rfl, SqT.of hq, rfl, _, _, rfl, rfl, _, rfl, ?_⟩
    refine ite2 (fun c => ?_) (fun c => ?_)
    · have c' : st.2 < r.1 := of_decide_eq_true c
      refine ⟨_, rfl, .inl ⟨rfl, _, SqL.of e4⟩, _, rfl, _, rfl, q, _, _, .int r.1, rfl, rfl, SqT.of hq, rfl, (by show 2 ≤ sizeLine; decide), fun q2 hq2 => ?_⟩
      have s5 := same_new hq2 (HO.tup (tp (st.2, r.1)))
      have e5 := s5 _ _ e4
      refine ⟨p, gs, _, rfl, rfl, e5, small (by omega), ?_⟩
      have nq : q ≠ p := fun e => by rw [e, e4] at hq; cases hq
      refine ⟨_, rfl, q, r, rfl, ?_, _, _, rfl, same_over (s3.trans s5) hp _, ?_, (r3.mono s5).upd (lst_ne e5), upd_same, ?_⟩
      · rw [upd_ne nq]
        exact s5 _ _ hq
      · rw [upd_ne np]
        exact s5 _ _ e3
      · unfold gst
        dsimp only
        rw [if_pos c', List.map_append]
        exact ((r4.mono s5).snoc upd_same).upd (lst_ne e5)
    · have c' : ¬ st.2 < r.1 := fun e => c (decide_eq_true e)
      refine ⟨_, rfl, q, r, rfl, hq, _, gs, rfl, s3, e3, r3, e4, ?_⟩
      unfold gst
      dsimp only
      rw [if_neg c']
      exact r4
  · rintro σ H3 ⟨o, gs, rfl, s3, e3, r3, e4, r4⟩
    rw [l2, List.take_length] at r4 ⊢
    have lg : gs.length = _ := r4.len
    have lg2 := gst_len (partsP rs 0 size) ([], 0)
    rw [List.length_map] at lg
    have eg : gapsP rs size = gfin ((partsP rs 0 size).foldl gst ([], 0)) size := rfl
    rw [eg] at qq
    generalize (partsP rs 0 size).foldl gst ([], 0) = st at r4 lg lg2 qq
    have lg4 : st.1.length ≤ (partsP rs 0 size).length := by simpa using lg2
    refine ⟨_, rfl, _, rfl, _, _, rfl, rfl, _, rfl, ?_⟩
    refine ite2 (fun c => ?_) (fun c => ?_)
    · have c' : st.2 < size := of_decide_eq_true c
      refine ⟨_, rfl, .inl ⟨rfl, _, SqL.of e4⟩, _, rfl, _, rfl, (by show 2 ≤ sizeLine; decide), fun q2 hq2 => ?_⟩
      have s5 := same_new hq2 (HO.tup (tp (st.2, size)))
      have e5 := s5 _ _ e4
      refine ⟨p, gs, _, rfl, rfl, e5, small (by omega), ?_⟩
      refine ⟨_, rfl, qq p _ (same_over (s3.trans s5) hp _) hp ⟨_, upd_same, ?_⟩⟩
      unfold gfin
      rw [if_pos c', List.map_append]
      exact ((r4.mono s5).snoc upd_same).upd (lst_ne e5)
    · have c' : ¬ st.2 < size := fun e => c (decide_eq_true e)
      refine ⟨_, rfl, qq p _ s3 hp ⟨gs, e4, ?_⟩⟩
      unfold gfin
      rw [if_neg c']
      exact r4
/-! ### places_in -/
def spPla : Sp := fun vs H Q _ => ∃ (a : Addr) (tu : Bool) (rs : List S4), vs = [.ref a] ∧ RowAt tu H a rs ∧ rs.length < 64 ∧ ∀ p H' (ms : List Int), Same H H' → H p = none → H' p = some (.lst (ms.map V.int)) → ms.Pairwise (· < ·) → (∀ k, k ∈ ms ↔ k ∈ rs.map (·.2.2.1)) → Q (.ref p) H'
theorem scPla : FnScope ["row"] ["row"] (defScope sPla) := ⟨rfl, rfl, rfl, by decide +kernel, rfl, by decide +kernel, by decide +kernel⟩
theorem ok_Pla (F : Fun K "places_in" "places_in" sPla f fd) (T : Txt mg) : FnOk P w K mg base CX0 1 f fd ["row"] spPla := by
  refine F.ok scPla (fun vs H Q E h => ?_) (fun cdv A outer s H vs Q E hr h => ?_)
  · obtain ⟨a, tu, rs, rfl, _⟩ := h
    rfl
  obtain ⟨a, tu, rs, rfl, ⟨ys, ha, hT⟩, hn, qq⟩ := h
  obtain ⟨t1, pl2⟩ := T.pl2
  refine ⟨_, (pss_one (ps_ret (pe_sset rfl rfl T.srt rfl T.set (pe_comp [] [] (pi_seq (pv 0)) (fun _ _ _ _ _ _ => pts_nil)
          (fun _ _ _ _ _ _ => (pe_ix (ix_tupK (K := K) rfl) (pv 0) (pe_glob (v := .int 2) rfl pl2 ⟨_, rfl⟩) (fun _ _ => rfl)))
          rfl (by decide +kernel) (by decide +kernel) rfl (by decide +kernel) (fun _ _ z => nomatch z) rfl (by decide +kernel) rfl)))), ?_⟩
  have ly := row_len hT
  refine ⟨_, rfl, a, tu, rfl, ⟨_, Sq.of ha⟩, fun p hp => ?_⟩
  refine comp_seq (K := K) (tu := tu) (a := a) (xs := ys) (fun i zs H2 => zs = ((rs.take i).map (·.2.2.1)).map V.int ∧ Same H H2 ∧ H2 p = some (.lst zs)) ⟨rfl, same_new hp _, upd_same⟩ (fun i zs H2 _ h2 => Sq.of (h2.2.1 _ _ ha)) ?_ ?_
  · rintro i x zs H2 hx ⟨rfl, s2, e2⟩
    obtain ⟨r, q, hr', rfl, hq⟩ := row_get (hT.mono s2) hx
    refine ttT ⟨_, rfl, q, _, _, .int r.2.2.1, rfl, rfl, SqT.of hq, rfl, e2, ?_, ?_, same_over s2 hp _, upd_same⟩
    · rw [List.length_map, List.length_map]
      have := List.length_take_le' i rs
      exact small (by omega)
    · rw [take_next hr', List.map_append, List.map_append]
      rfl
  · rintro zs H2 ⟨rfl, s2, e2⟩
    rw [ly, List.take_length] at e2
    refine ⟨p, _, rfl, SqL.of e2, by rw [List.length_map]; exact hn, fun l ms h1 h2 hl => qq l _ ms (s2.trans (same_new hl _)) ?_ upd_same h1 h2⟩
    cases e : H l with
    | none => rfl
    | some o => rw [s2 _ _ e] at hl; cases hl
end
end K15
namespace L2
open PySem PySem.Spec PyProof.Rows
/-! ### a file's row and where each of its cells comes from -/
abbrev Src := Option (Int × Int)
abbrev Fl := Nat × List S4 × List Src
def src (os : List Src) (k : Int) : Src := if k < 0 then none else os.getD k.toNat none
def GS (pc : Int → List Int) (N : Nat) (os : List Src) : Prop := ∀ p s, some (p, s) ∈ os → 2 ≤ p ∧ p < 2 + (N : Int) ∧ 0 ≤ s ∧ s < ((pc p).length : Int)
structure FI (pc : Int → List Int) (N : Nat) (x : Fl) : Prop where
  len : x.2.2.length = x.1
  n40 : x.1 ≤ 40
  ord : Ord 0 x.2.1 x.1
  ng : noGo x.2.1 = true
  gs : GS pc N x.2.2
  cel : ∀ k p s, (k, p, s) ∈ cellsR x.2.1 ↔ src x.2.2 k = some (p, s)
theorem src_nat (os : List Src) (k : Nat) : src os (k : Int) = os.getD k none := by
  unfold src
  rw [if_neg (by omega), Int.toNat_natCast]
theorem src_some {os : List Src} {k : Int} {p s : Int} (h : src os k = some (p, s)) : 0 ≤ k ∧ k < (os.length : Int) ∧ os[k.toNat]? = some (some (p, s)) := by
  unfold src at h
  by_cases z : k < 0
  · rw [if_pos z] at h
    cases h
  · rw [if_neg z, List.getD_eq_getElem?_getD] at h
    cases e : os[k.toNat]? with
    | none => rw [e] at h; cases h
    | some o =>
      rw [e] at h
      have := (List.getElem?_eq_some_iff.mp e).1
      exact ⟨by omega, by omega, by rw [← h]; rfl⟩
theorem src_mem {os : List Src} {k : Int} {p s : Int} (h : src os k = some (p, s)) : some (p, s) ∈ os := List.mem_of_getElem? (src_some h).2.2
theorem mem_src {os : List Src} {p s : Int} (h : some (p, s) ∈ os) : ∃ k : Nat, src os (k : Int) = some (p, s) := by
  obtain ⟨k, hk⟩ := List.mem_iff_getElem?.mp h
  refine ⟨k, ?_⟩
  rw [src_nat, List.getD_eq_getElem?_getD, hk]
  rfl
theorem cell_at {rs : List S4} {r : S4} {k : Int} (hr : r ∈ rs) (h1 : r.1 ≤ k) (h2 : k < r.1 + r.2.1) : (k, r.2.2.1, r.2.2.2 + (k - r.1)) ∈ cellsR rs :=
  List.mem_flatMap.mpr ⟨r, hr, mem_cells1.mpr ⟨h1, h2, rfl, rfl⟩⟩
theorem cell_of {rs : List S4} {c : C3} (h : c ∈ cellsR rs) : ∃ r ∈ rs, r.1 ≤ c.1 ∧ c.1 < r.1 + r.2.1 ∧ c.2.1 = r.2.2.1 ∧ c.2.2 = r.2.2.2 + (c.1 - r.1) := by
  obtain ⟨r, hr, hc⟩ := List.mem_flatMap.mp h
  exact ⟨r, hr, mem_cells1.mp hc⟩
theorem ord_tight {n : Int} : ∀ {rs : List S4} {lo hi : Int}, Ord lo rs hi → lo ≤ n → (∀ r ∈ rs, r.1 + r.2.1 ≤ n) → Ord lo rs n
  | [], _, _, _, h, _ => h
  | r :: t, lo, hi, o, h, m => ⟨o.1, o.2.1, ord_tight o.2.2 (m r (List.mem_cons_self ..)) fun x hx => m x (List.mem_cons_of_mem _ hx)⟩
theorem FI.of {pc : Int → List Int} {N n : Nat} {rs : List S4} {os : List Src} (hl : os.length = n) (hn : n ≤ 40) (o : Ord 0 rs 40) (g : noGo rs = true) (hg : GS pc N os) (hc : ∀ k p s, (k, p, s) ∈ cellsR rs ↔ src os k = some (p, s)) : FI pc N (n, rs, os) := by
  refine ⟨hl, hn, ord_tight o (by show (0 : Int) ≤ (n : Int); omega) fun r hr => ?_, g, hg, hc⟩
  have b := o.mem hr
  have c := cell_at (k := r.1 + r.2.1 - 1) hr (by omega) (by omega)
  have := (src_some ((hc _ _ _).mp c)).2.1
  show r.1 + r.2.1 ≤ (n : Int)
  omega
theorem FI.mono {pc pc' : Int → List Int} {N N' : Nat} {x : Fl} (h : FI pc N x) (hN : N ≤ N') (hp : ∀ p, 2 ≤ p → p < 2 + (N : Int) → pc' p = pc p) : FI pc' N' x :=
  ⟨h.len, h.n40, h.ord, h.ng, fun p s m => by
    have z := h.gs p s m
    rw [hp p z.1 z.2.1]
    exact ⟨z.1, by omega, z.2.2⟩, h.cel⟩
/-! ### a span of a list exchanged -/
def spl (os : List Src) (lo L : Nat) (mid : List Src) : List Src := (os ++ List.replicate (lo + L - os.length) none).take lo ++ mid ++ (os ++ List.replicate (lo + L - os.length) none).drop (lo + L)
theorem spl_len {os mid : List Src} {lo L : Nat} (h : mid.length = L) : (spl os lo L mid).length = max os.length (lo + L) := by
  unfold spl
  simp only [List.length_append, List.length_take, List.length_drop, List.length_replicate, h]
  omega
theorem getD_app {xs ys : List Src} {k : Nat} : (xs ++ ys).getD k none = if k < xs.length then xs.getD k none else ys.getD (k - xs.length) none := by
  rw [List.getD_eq_getElem?_getD, List.getD_eq_getElem?_getD, List.getD_eq_getElem?_getD]
  by_cases z : k < xs.length
  · rw [if_pos z, List.getElem?_append_left z]
  · rw [if_neg z, List.getElem?_append_right (by omega)]
theorem getD_none (m k : Nat) : (List.replicate m (none : Src)).getD k none = none := by
  rw [List.getD_eq_getElem?_getD, List.getElem?_replicate]
  split <;> rfl
theorem getD_pad {os : List Src} {m k : Nat} : (os ++ List.replicate m none).getD k none = os.getD k none := by
  rw [getD_app]
  by_cases z : k < os.length
  · rw [if_pos z]
  · rw [if_neg z, getD_none, List.getD_eq_getElem?_getD, List.getElem?_eq_none (by omega)]
    rfl
theorem getD_take {xs : List Src} {m k : Nat} : (xs.take m).getD k none = if k < m then xs.getD k none else none := by
  rw [List.getD_eq_getElem?_getD, List.getElem?_take, List.getD_eq_getElem?_getD]
  split <;> rfl
theorem getD_drop {xs : List Src} {m k : Nat} : (xs.drop m).getD k none = xs.getD (m + k) none := by
  rw [List.getD_eq_getElem?_getD, List.getElem?_drop, List.getD_eq_getElem?_getD]
theorem spl_src {os mid : List Src} {lo L : Nat} (h : mid.length = L) (k : Int) : src (spl os lo L mid) k = if (lo : Int) ≤ k ∧ k < (lo : Int) + (L : Int) then src mid (k - (lo : Int)) else src os k := by
  by_cases z : k < 0
  · rw [if_neg (by omega)]
    unfold src
    rw [if_pos z, if_pos z]
  obtain ⟨j, rfl⟩ := Int.eq_ofNat_of_zero_le (Int.not_lt.mp z)
  have el : (os ++ List.replicate (lo + L - os.length) none).length = max os.length (lo + L) := by
    simp only [List.length_append, List.length_replicate]
    omega
  have e1 : ((os ++ List.replicate (lo + L - os.length) none).take lo).length = lo := by
    rw [List.length_take, el]
    omega
  show src (spl os lo L mid) ((j : Nat) : Int) = _
  rw [src_nat]
  unfold spl
  rw [getD_app, List.length_append, e1, h]
  by_cases c1 : j < lo
  · rw [if_pos (by omega), getD_app, e1, if_pos c1, getD_take, if_pos c1, getD_pad, if_neg (by omega)]
    show _ = src os ((j : Nat) : Int)
    rw [src_nat]
  · by_cases c2 : j < lo + L
    · rw [if_pos c2, getD_app, e1, if_neg c1, if_pos (by omega)]
      have : (((j : Nat) : Int) - (lo : Int)) = ((j - lo : Nat) : Int) := by omega
      show _ = src mid (((j : Nat) : Int) - (lo : Int))
      rw [this, src_nat]
    · rw [if_neg c2, getD_drop, getD_pad, if_neg (by omega)]
      show _ = src os ((j : Nat) : Int)
      rw [src_nat]
      congr 1
      omega
theorem spl_mem {os mid : List Src} {lo L : Nat} {p s : Int} (h : mid.length = L) (hm : some (p, s) ∈ spl os lo L mid) : some (p, s) ∈ mid ∨ some (p, s) ∈ os := by
  obtain ⟨k, hk⟩ := mem_src hm
  rw [spl_src h] at hk
  split at hk
  · exact .inl (src_mem hk)
  · exact .inr (src_mem hk)
/-- a row laid over a file's row -/
theorem FI.laid {pc : Int → List Int} {N n lo L : Nat} {rs new : List S4} {os mid : List Src} (h : FI pc N (n, rs, os)) (ho : Ord (lo : Int) new ((lo : Int) + (L : Int))) (h40 : lo + L ≤ 40) (hm : mid.length = L) (hg : GS pc N mid)
    (hc : ∀ k p s, (k, p, s) ∈ cellsR new ↔ (lo : Int) ≤ k ∧ k < (lo : Int) + (L : Int) ∧ src mid (k - (lo : Int)) = some (p, s)) :
    FI pc N (max n (lo + L), tidyP (laidP rs (lo : Int) ((lo : Int) + (L : Int)) new), spl os lo L mid) := by
  have hl : os.length = n := h.len
  have n40 : n ≤ 40 := h.n40
  have o40 : Ord 0 rs 40 := h.ord.up (by show (n : Int) ≤ 40; omega)
  have oL := laid_ord o40 (by omega) ho (by omega)
  refine FI.of (by rw [spl_len hm, hl]) (by omega) (tidy_ord (g := []) (mid := 0) (Int.le_refl _) oL) (tidy_noGo (g := []) rfl) (fun p s z => (spl_mem hm z).elim (hg p s) (h.gs p s)) fun k p s => ?_
  rw [cells_tidyP oL, mem_laid o40, spl_src hm, hc, h.cel]
  show (src os k = some (p, s) ∧ (k < (lo : Int) ∨ (lo : Int) + (L : Int) ≤ k)) ∨ _ ↔ _
  by_cases z : (lo : Int) ≤ k ∧ k < (lo : Int) + (L : Int)
  · rw [if_pos z]
    exact ⟨fun y => y.elim (fun y => by omega) fun y => y.2.2, fun y => .inr ⟨z.1, z.2, y⟩⟩
  · rw [if_neg z]
    exact ⟨fun y => y.elim (fun y => y.1) fun y => absurd ⟨y.1, y.2.1⟩ z, fun y => .inl ⟨y, by omega⟩⟩
/-! ### which rows are tidy -/
theorem ord_two : ∀ {rs : List S4} {lo hi : Int} {a b : S4}, Ord lo rs hi → a ∈ rs → b ∈ rs → a = b ∨ a.1 + a.2.1 ≤ b.1 ∨ b.1 + b.2.1 ≤ a.1
  | r :: t, lo, hi, a, b, o, ha, hb => by
    cases ha with
    | head =>
      cases hb with
      | head => exact .inl rfl
      | tail _ hb => exact .inr (.inl (o.2.2.mem hb).1)
    | tail _ ha =>
      cases hb with
      | head => exact .inr (.inr (o.2.2.mem ha).1)
      | tail _ hb => exact ord_two o.2.2 ha hb
theorem noGo_all : ∀ {rs : List S4} {lo hi : Int}, Ord lo rs hi → noGo rs = true → ∀ a ∈ rs, ∀ b ∈ rs, goOn a b = false
  | [], _, _, _, _ => fun a ha => by cases ha
  | r :: t, lo, hi, o, g => fun a ha b hb => by
    have gt : noGo t = true := by
      cases t with
      | nil => rfl
      | cons m t => exact (Bool.and_eq_true _ _ ▸ g : (_ ∧ _)).2
    have ih := noGo_all o.2.2 gt
    rw [Bool.eq_false_iff]
    intro z
    obtain ⟨z1, z2, z3⟩ := goOn_iff.mp z
    cases ha with
    | head =>
      cases hb with
      | head => have := o.2.1; omega
      | tail _ hb =>
        cases t with
        | nil => cases hb
        | cons m t =>
          have g1 : (!goOn r m && noGo (m :: t)) = true := g
          rw [Bool.and_eq_true] at g1
          cases hb with
          | head =>
            rw [z] at g1
            cases g1.1
          | tail _ hb =>
            have q : Ord (r.1 + r.2.1) (m :: t) hi := o.2.2
            have := q.1
            have := q.2.1
            have := (q.2.2.mem hb).1
            omega
    | tail _ ha =>
      cases hb with
      | head =>
        have := o.2.1
        have := o.2.2.mem ha
        omega
      | tail _ hb => rw [ih a ha b hb] at z; cases z
theorem all_noGo : ∀ {rs : List S4}, (∀ a ∈ rs, ∀ b ∈ rs, goOn a b = false) → noGo rs = true
  | [], _ => rfl
  | [a], _ => rfl
  | a :: b :: t, h => by
    show (!goOn a b && noGo (b :: t)) = true
    rw [h a (List.mem_cons_self ..) b (List.mem_cons_of_mem _ (List.mem_cons_self ..)), all_noGo fun x hx y hy => h x (List.mem_cons_of_mem _ hx) y (List.mem_cons_of_mem _ hy)]
    rfl
theorem cut1_mem {r x : S4} {lo hi : Int} (h : x ∈ cut1 lo hi r) : x = (pmax r.1 lo, pmin (r.1 + r.2.1) hi - pmax r.1 lo, r.2.2.1, r.2.2.2 + pmax r.1 lo - r.1) ∧ pmax r.1 lo < pmin (r.1 + r.2.1) hi := by
  unfold cut1 at h
  split at h
  · next c => exact ⟨List.mem_singleton.mp h, c⟩
  · cases h
theorem pmax_le (a b : Int) : a ≤ pmax a b ∧ b ≤ pmax a b := by
  unfold pmax
  split <;> omega
theorem pmin_le (a b : Int) : pmin a b ≤ a ∧ pmin a b ≤ b := by
  unfold pmin
  split <;> omega
/-- two cuts of two stretches that do not go on -/
theorem cut_go {a b x y : S4} {lo hi lo' hi' : Int} (hab : a.1 + a.2.1 ≤ b.1 ∨ b.1 + b.2.1 ≤ a.1) (g : goOn a b = false) (hx : x ∈ cut1 lo hi a) (hy : y ∈ cut1 lo' hi' b) : goOn x y = false := by
  obtain ⟨rfl, cx⟩ := cut1_mem hx
  obtain ⟨rfl, cy⟩ := cut1_mem hy
  rw [Bool.eq_false_iff]
  intro z
  obtain ⟨z1, z2, z3⟩ := goOn_iff.mp z
  simp only at z1 z2 z3
  have p1 := pmax_le a.1 lo
  have p2 := pmax_le b.1 lo'
  have p3 := pmin_le (a.1 + a.2.1) hi
  have p4 := pmin_le (b.1 + b.2.1) hi'
  generalize pmax a.1 lo = x1 at *
  generalize pmax b.1 lo' = x2 at *
  generalize pmin (a.1 + a.2.1) hi = x3 at *
  generalize pmin (b.1 + b.2.1) hi' = x4 at *
  rcases hab with h | h
  · have : goOn a b = true := goOn_iff.mpr ⟨by omega, z2, by omega⟩
    rw [g] at this
    cases this
  · omega
theorem wo_noGo {rs : List S4} {lo hi : Int} (o : Ord 0 rs 40) (g : noGo rs = true) (h : lo < hi ∨ hi = 40) : noGo (partsP rs 0 lo ++ partsP rs hi 40) = true := by
  have ga := noGo_all o g
  refine all_noGo fun x hx y hy => ?_
  have self : ∀ {r : S4}, 0 < r.2.1 → goOn r r = false := fun {r} hr => by
    rw [Bool.eq_false_iff]
    intro z
    have := (goOn_iff.mp z).1
    omega
  have key : ∀ {l1 h1 l2 h2 : Int} {a b : S4}, a ∈ rs → b ∈ rs → x ∈ cut1 l1 h1 a → y ∈ cut1 l2 h2 b → (a = b → goOn x y = false) → goOn x y = false := fun {l1 h1 l2 h2 a b} ha hb hx hy e => by
    rcases ord_two o ha hb with z | z | z
    · exact e z
    · exact cut_go (.inl z) (ga a ha b hb) hx hy
    · exact cut_go (.inr z) (ga a ha b hb) hx hy
  have pos : ∀ {l1 h1 : Int} {a : S4}, x ∈ cut1 l1 h1 a → goOn x x = false := fun hx => by
    obtain ⟨rfl, c⟩ := cut1_mem hx
    exact self (by show 0 < _ - _; omega)
  rcases List.mem_append.mp hx with hx | hx <;> rcases List.mem_append.mp hy with hy | hy <;> obtain ⟨a, ha, hx⟩ := List.mem_flatMap.mp hx <;> obtain ⟨b, hb, hy⟩ := List.mem_flatMap.mp hy
  · refine key ha hb hx hy fun e => ?_
    subst e
    have := (cut1_mem hx).1.trans (cut1_mem hy).1.symm
    subst this
    exact pos hx
  · rw [Bool.eq_false_iff]
    intro z
    have z1 := (goOn_iff.mp z).1
    obtain ⟨rfl, cx⟩ := cut1_mem hx
    obtain ⟨rfl, cy⟩ := cut1_mem hy
    simp only at z1
    have p2 := pmax_le b.1 hi
    have p3 := pmin_le (a.1 + a.2.1) lo
    have p4 := pmin_le (b.1 + b.2.1) 40
    omega
  · rw [Bool.eq_false_iff]
    intro z
    have z1 := (goOn_iff.mp z).1
    obtain ⟨rfl, cx⟩ := cut1_mem hx
    obtain ⟨rfl, cy⟩ := cut1_mem hy
    simp only at z1
    have p1 := pmax_le a.1 hi
    have p2 := pmin_le (a.1 + a.2.1) 40
    have p3 := pmin_le (b.1 + b.2.1) lo
    omega
  · refine key ha hb hx hy fun e => ?_
    subst e
    have := (cut1_mem hx).1.trans (cut1_mem hy).1.symm
    subst this
    exact pos hx
theorem wo_ord {rs : List S4} {lo hi : Int} (o : Ord 0 rs 40) (h0 : 0 ≤ lo) (h1 : lo ≤ hi) (h2 : hi ≤ 40) : Ord 0 (partsP rs 0 lo ++ partsP rs hi 40) 40 :=
  ord_app (parts_ord o h0 (.inl (Int.le_refl _))) (parts_ord (e := lo) o (by omega) (.inr h1))
theorem mem_wo {rs : List S4} {lo hi : Int} {c : C3} (o : Ord 0 rs 40) : c ∈ cellsR (partsP rs 0 lo ++ partsP rs hi 40) ↔ c ∈ cellsR rs ∧ (c.1 < lo ∨ hi ≤ c.1) := by
  unfold cellsR
  rw [List.flatMap_append, List.mem_append]
  show c ∈ cellsR (partsP rs 0 lo) ∨ c ∈ cellsR (partsP rs hi 40) ↔ _
  rw [mem_parts, mem_parts]
  constructor
  · rintro (⟨h, _, h2⟩ | ⟨h, h1, _⟩)
    · exact ⟨h, .inl h2⟩
    · exact ⟨h, .inr h1⟩
  · rintro ⟨h, z⟩
    have b := cellsR_mem o h
    rcases z with z | z
    · exact .inl ⟨h, b.1, z⟩
    · exact .inr ⟨h, z, b.2⟩
/-- a file cut down or made greater -/
theorem FI.cutA {pc : Int → List Int} {N n m : Nat} {rs : List S4} {os : List Src} (h : FI pc N (n, rs, os)) (hm : m ≤ 40) : FI pc N (m, partsP rs 0 (m : Int) ++ partsP rs 40 40, os.take m ++ List.replicate (m - os.length) none) := by
  have n40 : n ≤ 40 := h.n40
  have o40 : Ord 0 rs 40 := h.ord.up (by show (n : Int) ≤ 40; omega)
  have es : ∀ k, src (os.take m ++ List.replicate (m - os.length) none) k = if k < (m : Int) then src os k else none := fun k => by
    by_cases z : k < 0
    · unfold src
      rw [if_pos z, if_pos z, if_pos (by omega)]
    obtain ⟨j, rfl⟩ := Int.eq_ofNat_of_zero_le (Int.not_lt.mp z)
    show src _ ((j : Nat) : Int) = if ((j : Nat) : Int) < _ then src os ((j : Nat) : Int) else none
    rw [src_nat, src_nat, getD_pad, getD_take]
    by_cases y : j < m
    · rw [if_pos y, if_pos (by omega)]
    · rw [if_neg y, if_neg (by omega)]
  refine FI.of (by simp only [List.length_append, List.length_take, List.length_replicate]; omega) hm (wo_ord o40 (by omega) (by omega) (Int.le_refl _)) (wo_noGo o40 h.ng (.inr rfl)) (fun p s z => ?_) fun k p s => ?_
  · obtain ⟨k, hk⟩ := mem_src z
    rw [es] at hk
    split at hk
    · exact h.gs p s (src_mem hk)
    · cases hk
  · rw [mem_wo o40, es, h.cel]
    show (src os k = some (p, s) ∧ (k < (m : Int) ∨ 40 ≤ k)) ↔ _
    by_cases z : k < (m : Int)
    · rw [if_pos z]
      exact ⟨fun y => y.1, fun y => ⟨y, .inl z⟩⟩
    · rw [if_neg z]
      refine ⟨fun y => ?_, fun y => by cases y⟩
      have := (src_some y.1).2.1
      have hl : os.length = n := h.len
      omega
/-- a hole -/
theorem FI.cutB {pc : Int → List Int} {N n lo hi : Nat} {rs : List S4} {os : List Src} (h : FI pc N (n, rs, os)) (h1 : lo < hi) (h2 : hi ≤ n) : FI pc N (n, partsP rs 0 (lo : Int) ++ partsP rs (hi : Int) 40, os.take lo ++ List.replicate (hi - lo) none ++ os.drop hi) := by
  have n40 : n ≤ 40 := h.n40
  have hl : os.length = n := h.len
  have o40 : Ord 0 rs 40 := h.ord.up (by show (n : Int) ≤ 40; omega)
  have e : os.take lo ++ List.replicate (hi - lo) none ++ os.drop hi = spl os lo (hi - lo) (List.replicate (hi - lo) none) := by
    unfold spl
    have : lo + (hi - lo) - os.length = 0 := by omega
    rw [this, List.replicate_zero, List.append_nil]
    have : lo + (hi - lo) = hi := by omega
    rw [this]
  have hr : (List.replicate (hi - lo) (none : Src)).length = hi - lo := List.length_replicate ..
  rw [e]
  refine FI.of (by rw [spl_len hr, hl]; omega) n40 (wo_ord o40 (by omega) (by omega) (by omega)) (wo_noGo o40 h.ng (.inl (by omega))) (fun p s z => ?_) fun k p s => ?_
  · rcases spl_mem hr z with z | z
    · cases (List.mem_replicate.mp z).2
    · exact h.gs p s z
  · rw [mem_wo o40, spl_src hr, h.cel]
    show (src os k = some (p, s) ∧ (k < (lo : Int) ∨ (hi : Int) ≤ k)) ↔ _
    by_cases z : (lo : Int) ≤ k ∧ k < (lo : Int) + ((hi - lo : Nat) : Int)
    · rw [if_pos z]
      refine ⟨fun y => by omega, fun y => ?_⟩
      cases (List.mem_replicate.mp (src_mem y)).2
    · rw [if_neg z]
      exact ⟨fun y => y.1, fun y => ⟨y, by omega⟩⟩
end L2
set_option maxHeartbeats 4000000
namespace K15
open PySem L2
/-! ### the row of new pieces -/
theorem chunk_len (cs : List Int) (k : Nat) : (chunk cs k).length = min 8 (cs.length - 8 * k) := by
  unfold chunk
  rw [List.length_take, List.length_drop]
def rowN (a : Int) (N : Nat) (cs : List Int) (k : Nat) : S4 := (a + 8 * (k : Int), ((chunk cs k).length : Int), 2 + (N : Int) + (k : Int), 0)
def rowsN (a : Int) (N : Nat) (cs : List Int) (m : Nat) : List S4 := (List.range m).map (rowN a N cs)
def srcs (N L : Nat) : List Src := (List.range L).map fun k => some (2 + (N : Int) + ((k / 8 : Nat) : Int), ((k % 8 : Nat) : Int))
def pcN (pc : Int → List Int) (N : Nat) (cs : List Int) (m : Nat) (p : Int) : List Int := if 2 + (N : Int) ≤ p ∧ p < 2 + (N : Int) + (m : Int) then chunk cs (p - 2 - (N : Int)).toNat else pc p
theorem rowsN_succ (a : Int) (N : Nat) (cs : List Int) (m : Nat) : rowsN a N cs (m + 1) = rowsN a N cs m ++ [rowN a N cs m] := by
  unfold rowsN
  rw [List.range_succ, List.map_append]
  rfl
theorem srcs_len (N L : Nat) : (srcs N L).length = L := by
  unfold srcs
  rw [List.length_map, List.length_range]
theorem pcN_succ (pc : Int → List Int) (N : Nat) (cs : List Int) (m : Nat) : pcN pc N cs (m + 1) = fun p => if p = 2 + ((N + m : Nat) : Int) then chunk cs m else pcN pc N cs m p := by
  funext p
  unfold pcN
  by_cases z : p = 2 + ((N + m : Nat) : Int)
  · rw [if_pos z, if_pos (by omega)]
    congr 1
    omega
  · rw [if_neg z]
    by_cases y : 2 + (N : Int) ≤ p ∧ p < 2 + (N : Int) + (m : Int)
    · rw [if_pos y, if_pos (by omega)]
    · rw [if_neg y, if_neg (by omega)]
theorem pcN_zero (pc : Int → List Int) (N : Nat) (cs : List Int) : pcN pc N cs 0 = pc := by
  funext p
  unfold pcN
  rw [if_neg (by omega)]
theorem src_srcs {N L : Nat} {k : Int} {p s : Int} : src (srcs N L) k = some (p, s) ↔ ∃ i : Nat, k = (i : Int) ∧ i < L ∧ p = 2 + (N : Int) + ((i / 8 : Nat) : Int) ∧ s = ((i % 8 : Nat) : Int) := by
  constructor
  · intro h
    obtain ⟨h0, h1, h2⟩ := src_some h
    rw [srcs_len] at h1
    unfold srcs at h2
    rw [List.getElem?_map, List.getElem?_range (by omega)] at h2
    injection h2 with h2
    injection h2 with h2
    injection h2 with h3 h4
    exact ⟨k.toNat, by omega, by omega, h3.symm, h4.symm⟩
  · rintro ⟨i, rfl, hi, rfl, rfl⟩
    rw [src_nat, List.getD_eq_getElem?_getD]
    unfold srcs
    rw [List.getElem?_map, List.getElem?_range hi]
    rfl
theorem cells_rowsN {a : Int} {N : Nat} {cs : List Int} {k p s : Int} : (k, p, s) ∈ cellsR (rowsN a N cs ((cs.length + 7) / 8)) ↔ a ≤ k ∧ k < a + (cs.length : Int) ∧ src (srcs N cs.length) (k - a) = some (p, s) := by
  constructor
  · intro h
    obtain ⟨r, hr, h1, h2, h3, h4⟩ := cell_of h
    unfold rowsN at hr
    obtain ⟨j, hj, rfl⟩ := List.mem_map.mp hr
    have hj := List.mem_range.mp hj
    unfold rowN at h1 h2 h3 h4
    simp only at h1 h2 h3 h4
    rw [chunk_len] at h2
    refine ⟨by omega, by omega, src_srcs.mpr ⟨(k - a).toNat, by omega, by omega, ?_, ?_⟩⟩
    · rw [h3]
      have : (k - a).toNat / 8 = j := by omega
      omega
    · rw [h4]
      omega
  · rintro ⟨h1, h2, h3⟩
    obtain ⟨i, e, hi, rfl, rfl⟩ := src_srcs.mp h3
    have hm : rowN a N cs (i / 8) ∈ rowsN a N cs ((cs.length + 7) / 8) := List.mem_map.mpr ⟨i / 8, List.mem_range.mpr (by omega), rfl⟩
    have c := cell_at (k := k) hm (by unfold rowN; simp only; omega) (by unfold rowN; simp only; rw [chunk_len]; omega)
    unfold rowN at c
    simp only at c
    have e2 : (0 : Int) + (k - (a + 8 * ((i / 8 : Nat) : Int))) = ((i % 8 : Nat) : Int) := by omega
    rw [e2] at c
    exact c
theorem rowsN_ord (a : Int) (N : Nat) (cs : List Int) : ∀ m : Nat, m ≤ (cs.length + 7) / 8 → Ord a (rowsN a N cs m) (a + ((min (8 * m) cs.length : Nat) : Int))
  | 0, _ => by
    show a ≤ _
    omega
  | m + 1, h => by
    rw [rowsN_succ]
    refine (rowsN_ord a N cs m (by omega)).snoc ?_ ?_ ?_
    · show _ ≤ a + 8 * (m : Int)
      omega
    · show 0 < ((chunk cs m).length : Int)
      rw [chunk_len]
      omega
    · show a + 8 * (m : Int) + ((chunk cs m).length : Int) ≤ _
      rw [chunk_len]
      omega
theorem gs_srcs {pc : Int → List Int} {N : Nat} {cs : List Int} : GS (pcN pc N cs ((cs.length + 7) / 8)) (N + (cs.length + 7) / 8) (srcs N cs.length) := fun p s h => by
  obtain ⟨k, hk⟩ := mem_src h
  obtain ⟨i, _, hi, rfl, rfl⟩ := src_srcs.mp hk
  unfold pcN
  rw [if_pos (by omega), chunk_len]
  refine ⟨by omega, by omega, by omega, by omega⟩
theorem pcN_len {pc : Int → List Int} {N : Nat} {cs : List Int} {m : Nat} (h : ∀ p, (pc p).length ≤ 8) (p : Int) : (pcN pc N cs m p).length ≤ 8 := by
  unfold pcN
  split
  · rw [chunk_len]
    omega
  · exact h p
/-! ### a span of another file -/
theorem ord_shift {d : Int} : ∀ {rs : List S4} {lo hi : Int}, Ord lo rs hi → Ord (lo + d) (shiftP rs d) (hi + d)
  | [], lo, hi, h => by
    have h' : lo ≤ hi := h
    show lo + d ≤ hi + d
    omega
  | r :: t, lo, hi, h => by
    refine ⟨by have := h.1; show lo + d ≤ r.1 + d; omega, h.2.1, ?_⟩
    have ih := ord_shift (d := d) h.2.2
    have e : r.1 + d + r.2.1 = r.1 + r.2.1 + d := by omega
    show Ord (r.1 + d + r.2.1) (shiftP t d) (hi + d)
    rw [e]
    exact ih
theorem cells_shift {rs : List S4} {d k p s : Int} : (k, p, s) ∈ cellsR (shiftP rs d) ↔ (k - d, p, s) ∈ cellsR rs := by
  constructor
  · intro h
    obtain ⟨r, hr, h1, h2, h3, h4⟩ := cell_of h
    unfold shiftP at hr
    obtain ⟨r0, hr0, rfl⟩ := List.mem_map.mp hr
    simp only at h1 h2 h3 h4
    have c := cell_at (k := k - d) hr0 (by omega) (by omega)
    rw [h3, h4]
    have e : r0.2.2.2 + (k - (r0.1 + d)) = r0.2.2.2 + (k - d - r0.1) := by omega
    rw [e]
    exact c
  · intro h
    obtain ⟨r, hr, h1, h2, h3, h4⟩ := cell_of h
    simp only at h1 h2 h3 h4
    have hm : (r.1 + d, r.2.1, r.2.2.1, r.2.2.2) ∈ shiftP rs d := List.mem_map.mpr ⟨r, hr, rfl⟩
    have c := cell_at (k := k) hm (by show r.1 + d ≤ k; omega) (by show k < r.1 + d + r.2.1; omega)
    rw [h3, h4]
    have e : r.2.2.2 + (k - d - r.1) = r.2.2.2 + (k - (r.1 + d)) := by omega
    rw [e]
    exact c
theorem src_mid {os : List Src} {a L : Nat} {k : Int} : src ((os.drop a).take L) k = if k < (L : Int) ∧ 0 ≤ k then src os ((a : Int) + k) else none := by
  by_cases z : k < 0
  · unfold src
    rw [if_pos z, if_neg (by omega)]
  obtain ⟨j, rfl⟩ := Int.eq_ofNat_of_zero_le (Int.not_lt.mp z)
  show src _ ((j : Nat) : Int) = if ((j : Nat) : Int) < (L : Int) ∧ 0 ≤ ((j : Nat) : Int) then src os ((a : Int) + ((j : Nat) : Int)) else none
  have e : (a : Int) + ((j : Nat) : Int) = ((a + j : Nat) : Int) := by omega
  rw [e, src_nat, src_nat, getD_take, getD_drop]
  by_cases y : j < L
  · rw [if_pos y, if_pos (by omega)]
  · rw [if_neg y, if_neg (by omega)]
theorem _root_.L2.FI.shared {pc : Int → List Int} {N n n2 a L to : Nat} {rs rs2 : List S4} {os os2 : List Src} (h : FI pc N (n, rs, os)) (h2 : FI pc N (n2, rs2, os2)) (ha : a + L ≤ n2) (ht : to + L ≤ 40) :
    FI pc N (max n (to + L), tidyP (laidP rs (to : Int) ((to : Int) + (L : Int)) (shiftP (partsP rs2 (a : Int) ((a : Int) + (L : Int))) ((to : Int) - (a : Int)))), spl os to L ((os2.drop a).take L)) := by
  have hl2 : os2.length = n2 := h2.len
  have ml : ((os2.drop a).take L).length = L := by
    rw [List.length_take, List.length_drop]
    omega
  refine h.laid ?_ ht ml (fun p s m => h2.gs p s (List.mem_of_mem_drop (List.mem_of_mem_take m))) fun k p s => ?_
  · have o := ord_shift (d := (to : Int) - (a : Int)) (parts_ord (lo := (a : Int)) (hi := (a : Int) + (L : Int)) (e := (a : Int)) h2.ord (by omega) (.inr (Int.le_refl _)))
    have e1 : (a : Int) + ((to : Int) - (a : Int)) = (to : Int) := by omega
    have e2 : (a : Int) + (L : Int) + ((to : Int) - (a : Int)) = (to : Int) + (L : Int) := by omega
    rw [e1, e2] at o
    exact o
  · rw [cells_shift, mem_parts, src_mid]
    show ((k - ((to : Int) - (a : Int)), p, s) ∈ cellsR rs2 ∧ (a : Int) ≤ k - ((to : Int) - (a : Int)) ∧ k - ((to : Int) - (a : Int)) < (a : Int) + (L : Int)) ↔ _
    rw [h2.cel]
    show (src os2 (k - ((to : Int) - (a : Int))) = some (p, s) ∧ _) ↔ _
    have e : (a : Int) + (k - (to : Int)) = k - ((to : Int) - (a : Int)) := by omega
    rw [e]
    by_cases z : k - (to : Int) < (L : Int) ∧ 0 ≤ k - (to : Int)
    · rw [if_pos z]
      exact ⟨fun y => ⟨by omega, by omega, y.1⟩, fun y => ⟨y.2.2, by omega, by omega⟩⟩
    · rw [if_neg z]
      exact ⟨fun y => by omega, fun y => by omega⟩
/-! ### what is asked of a file -/
theorem v_none {pc : Int → List Int} {k : Int} : ∀ {rs : List S4} {v : Int}, (∀ r ∈ rs, ¬ (r.1 ≤ k ∧ k < r.1 + r.2.1)) → rs.foldl (vR pc k) v = v
  | [], _, _ => rfl
  | r :: t, v, h => by
    rw [List.foldl_cons]
    have e : vR pc k v r = v := by
      unfold vR
      rw [if_neg (h r (List.mem_cons_self ..))]
    rw [e]
    exact v_none fun x hx => h x (List.mem_cons_of_mem _ hx)
theorem v_some {pc : Int → List Int} {k : Int} : ∀ {rs : List S4} {lo hi v : Int} {r : S4}, Ord lo rs hi → r ∈ rs → r.1 ≤ k → k < r.1 + r.2.1 → rs.foldl (vR pc k) v = (pc r.2.2.1).getD (r.2.2.2 + k - r.1).toNat 0
  | x :: t, lo, hi, v, r, o, hr, h1, h2 => by
    rw [List.foldl_cons]
    cases hr with
    | head =>
      rw [v_none fun y hy => by have := (o.2.2.mem hy).1; omega]
      unfold vR
      rw [if_pos ⟨h1, h2⟩]
    | tail _ hr => exact v_some o.2.2 hr h1 h2
def valO (pc : Int → List Int) : Src → Int
  | none => 0
  | some (p, s) => (pc p).getD s.toNat 0
theorem _root_.L2.FI.vals {pc : Int → List Int} {N : Nat} {x : Fl} (h : FI pc N x) : cellsL pc x.2.1 x.1 = x.2.2.map (valO pc) := by
  unfold cellsL
  refine List.ext_getElem (by simp [h.len]) fun i h1 h2 => ?_
  have hi : i < x.1 := by simpa using h1
  have hi2 : i < x.2.2.length := by simpa using h2
  rw [List.getElem_map, List.getElem_range, List.getElem_map]
  have es : src x.2.2 (i : Int) = x.2.2[i] := by
    rw [src_nat, List.getD_eq_getElem?_getD, List.getElem?_eq_getElem hi2]
    rfl
  unfold vAt
  cases e : x.2.2[i] with
  | none =>
    rw [v_none fun r hr c => ?_]
    · rfl
    · have c := cell_at hr c.1 c.2
      rw [h.cel, es, e] at c
      cases c
  | some ps =>
    obtain ⟨p, s⟩ := ps
    obtain ⟨r, hr, h1, h2, h3, h4⟩ := cell_of ((h.cel (i : Int) p s).mpr (es.trans e))
    simp only at h1 h2 h3 h4
    rw [v_some h.ord hr h1 h2, h3, h4]
    show _ = (pc r.2.2.1).getD (r.2.2.2 + ((i : Int) - r.1)).toNat 0
    congr 2
    omega
theorem gl_congr {t t' : Int → Bool} : ∀ {n : Nat}, (∀ k : Nat, k < n → t k = t' k) → gl t n = gl t' n
  | 0, _ => rfl
  | n + 1, h => by
    show gstep t (gl t n) n = gstep t' (gl t' n) n
    rw [gl_congr fun k hk => h k (by omega)]
    unfold gstep
    rw [h n (by omega)]
theorem _root_.L2.FI.holes {pc : Int → List Int} {N : Nat} {x : Fl} (h : FI pc N x) : gapsP x.2.1 (x.1 : Int) = gl (fun k => (src x.2.2 k).isSome) x.1 := by
  rw [gaps_eq h.ord (Int.le_refl _)]
  refine gl_congr fun k hk => ?_
  show tk x.2.1 (k : Int) = (src x.2.2 (k : Int)).isSome
  rw [Bool.eq_iff_iff]
  unfold tk
  rw [List.any_eq_true]
  constructor
  · rintro ⟨r, hr, z⟩
    rw [Bool.and_eq_true, decide_eq_true_eq, decide_eq_true_eq] at z
    rw [(h.cel _ _ _).mp (cell_at hr z.1 z.2)]
    rfl
  · intro z
    cases e : src x.2.2 (k : Int) with
    | none => rw [e] at z; cases z
    | some ps =>
      obtain ⟨p, s⟩ := ps
      obtain ⟨r, hr, h1, h2, _⟩ := cell_of ((h.cel _ _ _).mpr e)
      exact ⟨r, hr, by rw [Bool.and_eq_true, decide_eq_true_eq, decide_eq_true_eq]; exact ⟨h1, h2⟩⟩
theorem _root_.L2.FI.places {pc : Int → List Int} {N : Nat} {x : Fl} (h : FI pc N x) (p : Int) : p ∈ x.2.1.map (·.2.2.1) ↔ ∃ s, some (p, s) ∈ x.2.2 := by
  constructor
  · intro z
    obtain ⟨r, hr, rfl⟩ := List.mem_map.mp z
    have b := h.ord.mem hr
    exact ⟨_, src_mem ((h.cel _ _ _).mp (cell_at (k := r.1) hr (Int.le_refl _) (by omega)))⟩
  · rintro ⟨s, z⟩
    obtain ⟨k, hk⟩ := mem_src z
    obtain ⟨r, hr, _, _, h3, _⟩ := cell_of ((h.cel _ _ _).mpr hk)
    exact List.mem_map.mpr ⟨r, hr, h3.symm⟩
theorem _root_.L2.FI.good {pc : Int → List Int} {N : Nat} {x : Fl} (h : FI pc N x) {r : S4} (hr : r ∈ x.2.1) : 2 ≤ r.2.2.1 ∧ r.2.2.1 < 2 + (N : Int) ∧ 0 ≤ r.2.2.2 ∧ r.2.2.2 + r.2.1 ≤ ((pc r.2.2.1).length : Int) := by
  have b := h.ord.mem hr
  have c1 := h.gs _ _ (src_mem ((h.cel _ _ _).mp (cell_at (k := r.1) hr (Int.le_refl _) (by omega))))
  have c2 := h.gs _ _ (src_mem ((h.cel _ _ _).mp (cell_at (k := r.1 + r.2.1 - 1) hr (by omega) (by omega))))
  exact ⟨c1.1, c1.2.1, by omega, by omega⟩
theorem _root_.L2.FI.row {pc : Int → List Int} {N : Nat} {x : Fl} (h : FI pc N x) (hN : N ≤ 598) (hp : ∀ p, (pc p).length ≤ 8) : isRowP x.2.1 (x.1 : Int) = true := by
  unfold isRowP
  have n40 := h.n40
  rw [ord_apart h.ord h.ng, Bool.and_true, Bool.and_eq_true, List.all_eq_true, List.all_eq_true]
  constructor
  · intro r hr
    have b := h.ord.mem hr
    have g := h.good hr
    have := hp r.2.2.1
    unfold okP
    simp only [Bool.and_eq_true, decide_eq_true_eq]
    omega
  · intro r hr
    exact decide_eq_true (h.ord.mem hr).2.2
end K15
set_option maxHeartbeats 4000000
namespace K15
open PySem L2
/-! ### tables of other defs -/
theorem cod_tab (P : Addr) (ps : Array Value) (q : Str) : codφ P q ≠ tabφ P ps := fun e => by
  let o : Obj := { cls := .type "list", data := .fields #[.none, .str q 0] }
  let h : Heap := { objs := Array.replicate P o }
  have g : (h.push o).get? P = some o := by
    have := Heap.get?_push_size (h := h) (o := o) rfl
    rwa [show h.objs.size = P from Array.size_replicate ..] at this
  have c : codφ P q (h.push o) := ⟨P, o, _, 0, rfl, g, rfl, rfl⟩
  rw [e] at c
  have c' : (h.push o).get? P = some (PySem.W.tabObj ps) := c
  rw [g] at c'
  have z : o.cls = (PySem.W.tabObj ps).cls := congrArg (fun x => (Option.getD x o).cls) c'
  cases z
/-- a table stays if all but another one's stays -/
theorem tabOther {H H' : Hp} {PP PR : Addr} {ps : Array Value} {pos : Pos} {q : Str} (t : TabS H PR pos q) (hP : H PP = some (.ext (tabφ PP ps))) (n : PR ≠ PP) (k : ∀ b φ, b ≠ PP → H b = some (.ext φ) → H' b = some (.ext φ)) : TabS H' PR pos q := by
  obtain ⟨qs, e, tr, hc⟩ := t
  refine ⟨qs, k _ _ n e, tr, hc.imp id fun ⟨c2, a1, a2⟩ => ⟨c2, a1, k _ _ (fun z => ?_) a2⟩⟩
  rw [z, hP] at a2
  injection a2 with a2
  injection a2 with a2
  exact cod_tab _ _ _ a2.symm
theorem tabKeep {H H' : Hp} {PR : Addr} {pos : Pos} {q : Str} (t : TabS H PR pos q) (k : ∀ b φ, H b = some (.ext φ) → H' b = some (.ext φ)) : TabS H' PR pos q := by
  obtain ⟨qs, e, tr, hc⟩ := t
  exact ⟨qs, k _ _ e, tr, hc.imp id fun ⟨c2, a1, a2⟩ => ⟨c2, a1, k _ _ a2⟩⟩
/-! ### the model of a file -/
def dec (H : Hp) : V → Option Src
  | .non => some none
  | .ref q => (match H q with
    | some (.tup [.int p, .int s]) => some (some (p, s))
    | _ => none)
  | _ => none
theorem dec_ref {H : Hp} {q : Addr} {p s : Int} (h : H q = some (.tup [.int p, .int s])) : dec H (.ref q) = some (some (p, s)) := by
  unfold dec
  simp only
  rw [h]
theorem dec_cases {H : Hp} {v : V} {o : Src} (h : dec H v = some o) : (v = .non ∧ o = none) ∨ ∃ q p s, v = .ref q ∧ o = some (p, s) ∧ H q = some (.tup [.int p, .int s]) := by
  unfold dec at h
  split at h
  · injection h with h
    exact .inl ⟨rfl, h.symm⟩
  · split at h
    · next e =>
      injection h with h
      exact .inr ⟨_, _, _, rfl, h.symm, e⟩
    · cases h
  · cases h
def ModAt (H : Hp) (ms : List V) (os : List Src) : Prop := ms.map (dec H) = os.map some
theorem ModAt.len {H : Hp} {ms : List V} {os : List Src} (h : ModAt H ms os) : ms.length = os.length := by
  have := congrArg List.length h
  rwa [List.length_map, List.length_map] at this
theorem ModAt.get {H : Hp} {ms : List V} {os : List Src} {i : Nat} {v : V} (h : ModAt H ms os) (e : ms[i]? = some v) : ∃ o, os[i]? = some o ∧ dec H v = some o := by
  have := congrArg (fun l => l[i]?) h
  simp only [List.getElem?_map, e] at this
  cases z : os[i]? with
  | none => rw [z] at this; cases this
  | some o =>
    rw [z] at this
    injection this with this
    exact ⟨o, rfl, this⟩
theorem ModAt.keep {H H' : Hp} {ms : List V} {os : List Src} (h : ModAt H ms os) (k : ∀ q t, H q = some (.tup t) → H' q = some (.tup t)) : ModAt H' ms os := by
  unfold ModAt at *
  rw [← h]
  refine List.map_congr_left fun v hv => ?_
  obtain ⟨i, hi⟩ := List.mem_iff_getElem?.mp hv
  obtain ⟨o, _, e⟩ := ModAt.get h hi
  rw [e]
  rcases dec_cases e with ⟨rfl, rfl⟩ | ⟨q, p, s, rfl, rfl, e2⟩
  · rfl
  · exact dec_ref (k _ _ e2)
theorem ModAt.app {H : Hp} {ms ns : List V} {os us : List Src} (h : ModAt H ms os) (h2 : ModAt H ns us) : ModAt H (ms ++ ns) (os ++ us) := by
  unfold ModAt at *
  rw [List.map_append, List.map_append, h, h2]
theorem ModAt.take {H : Hp} {ms : List V} {os : List Src} (h : ModAt H ms os) (n : Nat) : ModAt H (ms.take n) (os.take n) := by
  unfold ModAt at *
  rw [List.map_take, List.map_take, h]
theorem ModAt.drop {H : Hp} {ms : List V} {os : List Src} (h : ModAt H ms os) (n : Nat) : ModAt H (ms.drop n) (os.drop n) := by
  unfold ModAt at *
  rw [List.map_drop, List.map_drop, h]
theorem ModAt.nones (H : Hp) (n : Nat) : ModAt H (List.replicate n V.non) (List.replicate n none) := by
  unfold ModAt
  rw [List.map_replicate, List.map_replicate]
  rfl
/-! ### the pieces, the files, the state -/
def PzAt (H : Hp) (d : Addr) (pc : Int → List Int) (N : Nat) : Prop := ∃ kvs, H d = some (.dK kvs) ∧ kvs.map (·.1) = (List.range N).map (fun j : Nat => (Sum.inl (2 + (j : Int)) : Key)) ∧ ∀ j, j < N → ∃ q, valV kvs (.inl (2 + (j : Int))) = some (.ref q) ∧ H q = some (.tup ((pc (2 + (j : Int))).map V.int))
theorem PzAt.keep {H H' : Hp} {d : Addr} {pc : Int → List Int} {N : Nat} (h : PzAt H d pc N) (k : ∀ q t, H q = some (.tup t) → H' q = some (.tup t)) (kd : ∀ kvs, H d = some (.dK kvs) → H' d = some (.dK kvs)) : PzAt H' d pc N := by
  obtain ⟨kvs, e, m, z⟩ := h
  refine ⟨kvs, kd _ e, m, fun j hj => ?_⟩
  obtain ⟨q, h1, h2⟩ := z j hj
  exact ⟨q, h1, k _ _ h2⟩
theorem PzAt.len {H : Hp} {d : Addr} {pc : Int → List Int} {N : Nat} {kvs : List (Key × V)} (h : PzAt H d pc N) (e : H d = some (.dK kvs)) : kvs.length = N := by
  obtain ⟨kvs', e', m, _⟩ := h
  rw [e] at e'
  cases e'
  have := congrArg List.length m
  simpa using this
theorem PzAt.put {H : Hp} {d q : Addr} {pc : Int → List Int} {N : Nat} {kvs : List (Key × V)} {xs : List Int} (h : PzAt H d pc N) (e : H d = some (.dK kvs)) (hq : H q = some (.tup (xs.map V.int))) :
    PzAt (upd H d (.dK (putK kvs (.inl (2 + (N : Int))) (.ref q)))) d (fun p => if p = 2 + (N : Int) then xs else pc p) (N + 1) := by
  obtain ⟨kvs', e', m, k⟩ := h
  rw [e] at e'
  cases e'
  have ne : ∀ q t, H q = some (.tup t) → q ≠ d := fun q t z y => by rw [y, e] at z; cases z
  have nn : valV kvs (.inl (2 + (N : Int))) = none := by
    cases z : valV kvs (.inl (2 + (N : Int))) with
    | none => rfl
    | some u =>
      have := valV_in z
      rw [m] at this
      obtain ⟨j, hj, ej⟩ := List.mem_map.mp this
      injection ej with ej
      have := List.mem_range.mp hj
      omega
  refine ⟨_, upd_same, ?_, fun j hj => ?_⟩
  · rw [putK_new _ nn, List.map_append, m, List.range_succ, List.map_append]
    rfl
  · rw [valV_put]
    by_cases z : j = N
    · subst z
      rw [if_pos rfl]
      simp only [if_true]
      exact ⟨q, rfl, by rw [upd_ne (ne _ _ hq)]; exact hq⟩
    · have z2 : (2 + (j : Int)) ≠ 2 + (N : Int) := by omega
      rw [if_neg (fun y => z2 (by injection y))]
      simp only [if_neg z2]
      obtain ⟨q', h1, h2⟩ := k j (by omega)
      exact ⟨q', h1, by rw [upd_ne (ne _ _ h2)]; exact h2⟩
theorem PzAt.pc {H : Hp} {d : Addr} {pc : Int → List Int} {N : Nat} {x : Fl} (h : PzAt H d pc N) (f : FI pc N x) : PcAt H d pc x.2.1 := by
  obtain ⟨kvs, e, m, k⟩ := h
  refine ⟨kvs, e, fun r hr => ?_⟩
  have g := f.good hr
  obtain ⟨q, h1, h2⟩ := k (r.2.2.1 - 2).toNat (by omega)
  have e2 : 2 + (((r.2.2.1 - 2).toNat : Nat) : Int) = r.2.2.1 := by omega
  rw [e2] at h1 h2
  exact ⟨q, true, h1, h2, g.2.2.1, g.2.2.2⟩
def FileAt (H : Hp) (t : Addr) (x : Fl) : Prop := ∃ ra ma ms, H t = some (.tup [.int (x.1 : Int), .ref ra, .ref ma]) ∧ RowAt false H ra x.2.1 ∧ H ma = some (.lst ms) ∧ ModAt H ms x.2.2
/-- all that is no table stays -/
def KeepD (H H' : Hp) : Prop := ∀ b o, (∀ φ, o ≠ HO.ext φ) → H b = some o → H' b = some o
theorem Same.keepD {H H' : Hp} (s : Same H H') : KeepD H H' := fun b o _ e => s b o e
theorem SxP.keepD {P : Addr} {φ : Heap → Prop} {H H' : Hp} (s : SxP P H H') (e : H P = some (.ext φ)) : KeepD H H' := fun b o n e2 => s b o (fun z => by rw [z, e] at e2; cases e2; exact n _ rfl) e2
theorem FileAt.keep {H H' : Hp} {t : Addr} {x : Fl} (h : FileAt H t x) (k : KeepD H H') : FileAt H' t x := by
  obtain ⟨ra, ma, ms, h1, ⟨ys, h2, h3⟩, h4, h5⟩ := h
  exact ⟨ra, ma, ms, k _ _ (fun _ z => by cases z) h1, ⟨ys, k _ _ (fun _ z => by cases z) h2, h3.keep fun q t e => k _ _ (fun _ z => by cases z) e⟩, k _ _ (fun _ z => by cases z) h4, h5.keep fun q t e => k _ _ (fun _ z => by cases z) e⟩
structure Gd (H : Hp) (st fl d PP : Addr) (pc : Int → List Int) (N : Nat) (t : Nat → Addr) (F : Nat → Fl) : Prop where
  st : H st = some (.dK [(.inr "files", .ref fl), (.inr "pieces", .ref d)])
  fl : H fl = some (.lst [.ref (t 0), .ref (t 1)])
  fi : ∀ i, i < 2 → FileAt H (t i) (F i)
  ok : ∀ i, i < 2 → FI pc N (F i)
  pz : PzAt H d pc N
  ln : ∀ p, (pc p).length ≤ 8
  tb : TabS H PP lpos lqual
theorem Gd.keep {H H' : Hp} {st fl d PP : Addr} {pc : Int → List Int} {N : Nat} {t : Nat → Addr} {F : Nat → Fl} (g : Gd H st fl d PP pc N t F) (k : KeepD H H') (tb : TabS H' PP lpos lqual) : Gd H' st fl d PP pc N t F :=
  ⟨k _ _ (fun _ z => by cases z) g.st, k _ _ (fun _ z => by cases z) g.fl, fun i hi => (g.fi i hi).keep k, g.ok, g.pz.keep (fun q t e => k _ _ (fun _ z => by cases z) e) fun kvs e => k _ _ (fun _ z => by cases z) e, g.ln, tb⟩
theorem Gd.mono {H H' : Hp} {st fl d PP : Addr} {pc : Int → List Int} {N : Nat} {t : Nat → Addr} {F : Nat → Fl} (g : Gd H st fl d PP pc N t F) (s : Same H H') : Gd H' st fl d PP pc N t F := g.keep (Same.keepD s) (tabKeep g.tb fun b φ e => s _ _ e)
/-- the list of the files is no row and no model -/
theorem Gd.ne {H : Hp} {st fl d PP : Addr} {pc : Int → List Int} {N : Nat} {t : Nat → Addr} {F : Nat → Fl} (g : Gd H st fl d PP pc N t F) {b : Addr} : (∀ {rs : List S4}, RowAt false H b rs → b ≠ fl) ∧ ∀ {ms : List V} {os : List Src}, H b = some (.lst ms) → ModAt H ms os → b ≠ fl := by
  obtain ⟨ra, ma, ms0, h1, _⟩ := g.fi 0 (by omega)
  refine ⟨fun {rs} h z => ?_, fun {ms os} h m z => ?_⟩
  · obtain ⟨ys, e, t⟩ := h
    rw [z] at e
    have e' := g.fl.symm.trans e
    injection e' with e'
    injection e' with e'
    subst e'
    obtain ⟨r, q, _, hv, hq⟩ := row_get (i := 0) t rfl
    cases hv
    rw [h1] at hq
    injection hq with hq
    injection hq with hq
    exact absurd (congrArg List.length hq) (by show (3 : Nat) ≠ 4; decide)
  · rw [z] at h
    have e' := g.fl.symm.trans h
    injection e' with e'
    injection e' with e'
    subst e'
    obtain ⟨o, _, e⟩ := m.get (i := 0) rfl
    rcases dec_cases e with ⟨z, _⟩ | ⟨q, p, s, z, _, e2⟩
    · cases z
    · cases z
      rw [h1] at e2
      injection e2 with e2
      injection e2 with e2
      cases e2
theorem FileAt.set {H : Hp} {st fl d PP : Addr} {pc : Int → List Int} {N : Nat} {t : Nat → Addr} {F : Nat → Fl} {tn : Addr} {x : Fl} {ys : List V} (g : Gd H st fl d PP pc N t F) (h : FileAt H tn x) : FileAt (upd H fl (.lst ys)) tn x := by
  obtain ⟨ra, ma, ms, h1, h2, h4, h5⟩ := h
  have n1 := g.ne.1 h2
  have n2 := g.ne.2 h4 h5
  obtain ⟨zs, h2, h3⟩ := h2
  have nt : ∀ q t, H q = some (.tup t) → upd H fl (.lst ys) q = some (.tup t) := fun q t e => by
    rw [upd_ne (fun z => by rw [z, g.fl] at e; cases e)]
    exact e
  exact ⟨ra, ma, ms, nt _ _ h1, ⟨zs, by rw [upd_ne n1]; exact h2, h3.keep nt⟩, by rw [upd_ne n2]; exact h4, h5.keep nt⟩
theorem Gd.set {H : Hp} {st fl d PP : Addr} {pc : Int → List Int} {N : Nat} {t : Nat → Addr} {F : Nat → Fl} {tn : Addr} {x : Fl} (w : Nat) (g : Gd H st fl d PP pc N t F) (h : FileAt H tn x) (hx : FI pc N x) :
    Gd (upd H fl (.lst [.ref (if 0 = w then tn else t 0), .ref (if 1 = w then tn else t 1)])) st fl d PP pc N (fun i => if i = w then tn else t i) (fun i => if i = w then x else F i) := by
  have nl : ∀ b o, (∀ ys, o ≠ HO.lst ys) → H b = some o → ∀ o', upd H fl o' b = some o := fun b o n e o' => by
    rw [upd_ne (fun z => by rw [z, g.fl] at e; cases e; exact n _ rfl)]
    exact e
  refine ⟨nl _ _ (fun _ z => by cases z) g.st _, upd_same, fun i hi => ?_, fun i hi => ?_, g.pz.keep (fun q t e => nl _ _ (fun _ z => by cases z) e _) (fun kvs e => nl _ _ (fun _ z => by cases z) e _), g.ln, tabKeep g.tb fun b φ e => nl _ _ (fun _ z => by cases z) e _⟩
  · by_cases z : i = w
    · rw [if_pos z, if_pos z]
      exact FileAt.set g h
    · rw [if_neg z, if_neg z]
      exact FileAt.set g (g.fi i hi)
  · by_cases z : i = w
    · rw [if_pos z]
      exact hx
    · rw [if_neg z]
      exact g.ok i hi
/-- all else but the list of the files, the pieces and a table -/
def Kf (fl d PP : Addr) (H H' : Hp) : Prop := ∀ b o, b ≠ fl → b ≠ d → b ≠ PP → H b = some o → H' b = some o
theorem Kf.trans {fl d PP : Addr} {H H1 H2 : Hp} (a : Kf fl d PP H H1) (b : Kf fl d PP H1 H2) : Kf fl d PP H H2 := fun c o n1 n2 n3 e => b c o n1 n2 n3 (a c o n1 n2 n3 e)
theorem Same.kf {fl d PP : Addr} {H H' : Hp} (s : Same H H') : Kf fl d PP H H' := fun b o _ _ _ e => s b o e
theorem SxP.kf {fl d PP : Addr} {H H' : Hp} (s : SxP PP H H') : Kf fl d PP H H' := fun b o _ _ n e => s b o n e
theorem kf_fl {fl d PP : Addr} {H : Hp} {o : HO} : Kf fl d PP H (upd H fl o) := fun b u n _ _ e => by rw [upd_ne n]; exact e
/-- the state, its numbers of pieces told -/
def GdN (H : Hp) (st fl d PP : Addr) (N : Nat) : Prop := ∃ pc t F, Gd H st fl d PP pc N t F
/-- what each deed keeps -/
def spDeed (PP : Addr) (args : List V → Addr → Prop) : Sp := fun vs H Q _ => ∃ (st fl d : Addr) (N : Nat), args vs st ∧ GdN H st fl d PP N ∧ d ≠ st ∧ N ≤ 500 ∧ ∀ H' N', Kf fl d PP H H' → GdN H' st fl d PP N' → N' ≤ N + 5 → Q .non H'
theorem f_ne_p : (Str.ofString "files") ≠ Str.ofString "pieces" := by decide +kernel
theorem valF (a b : V) : valV [((.inr "files" : Key), a), (.inr "pieces", b)] (.inr "files") = some a := by
  simp [valV, List.find?]
theorem valP (a b : V) : valV [((.inr "files" : Key), a), (.inr "pieces", b)] (.inr "pieces") = some b := by
  have n := f_ne_p
  simp [valV, List.find?, n]
theorem cut_to (xs : List V) (n : Nat) : cutV xs none (some (n : Int)) = xs.take n := by
  unfold cutV
  rw [HT.sIx_none, HT.sIx_nat, Nat.sub_zero, List.drop_zero, ← List.take_eq_take_min]
theorem cut_from (xs : List V) (n : Nat) : cutV xs (some (n : Int)) none = xs.drop n := by
  unfold cutV
  rw [HT.sIx_none, HT.sIx_nat]
  rcases Nat.le_total n xs.length with z | z
  · rw [Nat.min_eq_left z]
    exact List.take_of_length_le (by rw [List.length_drop]; omega)
  · rw [Nat.min_eq_right z, List.drop_eq_nil_of_le z]
    simp
theorem cut_mid (xs : List V) (n m : Nat) (h : n + m ≤ xs.length) : cutV xs (some (n : Int)) (some ((n : Int) + (m : Int))) = (xs.drop n).take m := by
  unfold cutV
  have e : (n : Int) + (m : Int) = ((n + m : Nat) : Int) := by omega
  rw [e, HT.sIx_nat, HT.sIx_nat, Nat.min_eq_left h, Nat.min_eq_left (show n ≤ xs.length by omega)]
  congr 1
  omega
end K15
set_option maxHeartbeats 4000000
namespace K15
open PySem L2
theorem gl_len (t : Int → Bool) : ∀ n, (gl t n).length ≤ n
  | 0 => Nat.le_refl _
  | n + 1 => by
    have ih := gl_len t n
    show (gstep t (gl t n) n).length ≤ n + 1
    unfold gstep
    split
    · omega
    · split
      · split
        · next z h1 h2 =>
          have : (gl t n) ≠ [] := fun e => by rw [e] at h1; cases h1
          have : 0 < (gl t n).length := List.length_pos_iff.mpr this
          simp
          omega
        · simp; omega
      · simp; omega
section
variable {P : Program} {w : World} {K : PySem.W.Frag} {mg : Str → Option Value} {base : Heap} {f : Addr} {fd : FuncData}
def spHol : Sp := fun vs H Q _ => ∃ (a : Addr) (ms : List V) (os : List Src), vs = [.ref a] ∧ H a = some (.lst ms) ∧ ModAt H ms os ∧ os.length ≤ 40 ∧ ∀ p H', Same H H' → H p = none → GapAt H' p (gl (fun k => (src os k).isSome) os.length) → Q (.ref p) H'
theorem scHol : FnScope ["_law_model", "_law_found", "_law_at", "_law_source"] ["_law_model"] (defScope sHol) := ⟨rfl, rfl, rfl, by decide +kernel, rfl, by decide +kernel, by decide +kernel⟩
theorem ok_Hol (F : Fun K "_law_holes" "_law_holes" sHol f fd) (T : Txt mg) : FnOk P w K mg base CX0 1 f fd ["_law_model"] spHol := by
  refine F.ok scHol (fun vs H Q E h => ?_) (fun cdv A outer s H vs Q E hr h => ?_)
  · obtain ⟨a, ms, os, rfl, _⟩ := h
    rfl
  obtain ⟨a, ms, os, rfl, ha, hM, l40, qq⟩ := h
  have hu := hu_of hr
  refine ⟨_, (pss_cons (ps_set (i := 1) scHol.nd rfl (Or.inl rfl) (pe_lst pa_nil))
    (pss_cons (ps_for PassesOwn.never rfl (pi_enum rfl T.enu (pa_cons (pv 0) pa_nil)) (pg_tup rfl (pgs_cons (pg_name (i := 2) scHol.nd rfl (Or.inl rfl)) (pgs_cons (pg_name (i := 3) scHol.nd rfl (Or.inl rfl)) pgs_nil)))
    (pss_one (ps_if (PW.pt (pw_and (pt_cmpR op_isN (pv 3) pe_non (nomark _)) (pw_and (pt_cmpR (op_neE (hu_of hr |> Nat.lt_of_succ_lt)) (pv 1) (pe_lst pa_nil) (nomark _)) (pw_and1 (pt_cmpR op_eq (pe_ix ix_tup (pe_ix ix_list (pv 1) (pe_un un_neg pe_int) (fun _ _ => rfl)) pe_int (fun _ _ => rfl)) (pv 2) (nomark _))))))
    (pss_one (ps_asg (pe_tup (pa_cons (pe_ix ix_tup (pe_ix ix_list (pv 1) (pe_un un_neg pe_int) (fun _ _ => rfl)) pe_int (fun _ _ => rfl)) (pa_cons (pe_op op_add (pv 2) pe_int) pa_nil))) (pg_sub (pv 1) (pe_un un_neg pe_int) set_list)))
    (pss_one (ps_if (pt_cmpR op_isN (pv 3) pe_non (nomark _))
    (pss_one (ps_expr (pe_bm PySem.F.plainAttrs_list PySem.F.slot_list_append PySem.F.type_list_append mt_append (pv 1) (pa_cons (pe_tup (pa_cons (pv 2) (pa_cons (pe_op op_add (pv 2) pe_int) pa_nil))) pa_nil))))
    pss_nil)))))
    (pss_one (ps_ret (pv 1))))), ?_⟩
  refine ⟨by decide, fun p hp => ?_⟩
  have s1 := same_new hp (HO.lst [])
  have lms := hM.len
  generalize ht : (fun k => (src os k).isSome) = tk at qq
  refine ⟨_, rfl, a, ms, rfl, SqL.of (s1 _ _ ha), for_enum (K := K) (a := a) (xs := ms) (fun i σ H3 => ∃ (o2 o3 : Option V) (gs : List V), σ = [some (.ref a), some (.ref p), o2, o3] ∧ Same H H3 ∧ H3 p = some (.lst gs) ∧ TupsAt H3 gs ((gl tk i).map tp)) ⟨none, none, [], rfl, s1, upd_same, trivial⟩ (fun i σ H3 h3 => ?_) ?_ ?_⟩
  · obtain ⟨_, _, _, _, s3, _⟩ := h3
    exact SqL.of (s3 _ _ ha)
  · rintro j x t σ H3 hx ⟨o2, o3, gs, rfl, s3, e4, r4⟩ ht0
    have hj : j < ms.length := (List.getElem?_eq_some_iff.mp hx).1
    obtain ⟨o, ho, hd⟩ := (hM.keep fun q u e => s3 _ _ e).get hx
    have s0 := same_new ht0 (HO.tup [V.int (j : Int), x])
    have sj : tk (j : Int) = o.isSome := by
      rw [← ht]
      show (src os (j : Int)).isSome = _
      rw [src_nat, List.getD_eq_getElem?_getD, ho]
      rfl
    refine ⟨t, _, rfl, SqT.of upd_same, rfl, _, _, rfl, _, _, rfl, rfl, ?_⟩
    have s3 := s3.trans s0
    have e4 := s0 _ _ e4
    have r4 := r4.mono s0
    revert s3 e4 r4
    clear s0
    generalize upd H3 t (HO.tup [V.int (j : Int), x]) = H3'
    intro s3 e4 r4
    have lg : gs.length = (gl tk j).length := by rw [r4.len, List.length_map]
    have lg2 := gl_len tk j
    have gS : gl tk (j + 1) = gstep tk (gl tk j) (j : Int) := rfl
    refine ⟨_, rfl, rfl, _, rfl, ?_⟩
    have app : tk (j : Int) = false → (∀ z, (gl tk j).getLast? = some z → z.2 ≠ (j : Int)) → ∀ {H4 : Hp}, Same H3' H4 → ∀ q2, H4 q2 = none → ∃ (o2 o3 : Option V) (gs' : List V), [some (V.ref a), some (.ref p), some (V.int (j : Int)), some x] = [some (V.ref a), some (.ref p), o2, o3] ∧ Same H (upd (upd H4 q2 (.tup [.int (j : Int), .int ((j : Int) + 1)])) p (.lst (gs ++ [.ref q2]))) ∧ upd (upd H4 q2 (.tup [.int (j : Int), .int ((j : Int) + 1)])) p (.lst (gs ++ [.ref q2])) p = some (.lst gs') ∧ TupsAt (upd (upd H4 q2 (.tup [.int (j : Int), .int ((j : Int) + 1)])) p (.lst (gs ++ [.ref q2]))) gs' ((gl tk (j + 1)).map tp) := by
      intro tf lf H4 s4 q2 hq2
      have s5 := s4.trans (same_new hq2 (HO.tup [.int (j : Int), .int ((j : Int) + 1)]))
      refine ⟨_, _, _, rfl, same_over (s3.trans s5) hp _, upd_same, ?_⟩
      rw [gS, gstep_ne tf lf, List.map_append]
      exact ((r4.mono s5).snoc upd_same).upd (lst_ne (s5 _ _ e4))
    rcases dec_cases hd with ⟨rfl, rfl⟩ | ⟨q0, p0, k0, rfl, rfl, _⟩
    · have tj : tk (j : Int) = false := sj
      refine iteT ?_
      refine ⟨_, rfl, by decide, fun pe hpe => ?_⟩
      have s4 := same_new hpe (HO.lst [])
      refine ⟨p, pe, _, rfl, rfl, SqL.of (s4 _ _ e4), SqL.of upd_same, _, rfl, ?_⟩
      rcases List.eq_nil_or_concat (gl tk j) with eg | ⟨g0, z, eg⟩
      · rw [eg] at r4
        have : gs = [] := by
          cases gs with
          | nil => rfl
          | cons => exact r4.elim
        subst this
        refine iteF (iteF ?_)
        refine ⟨_, rfl, rfl, _, rfl, iteT ?_⟩
        refine ⟨_, rfl, .inl ⟨rfl, _, SqL.of (s4 _ _ e4)⟩, _, rfl, _, rfl, _, _, rfl, rfl, (by show 2 ≤ sizeLine; decide), fun q2 hq2 => ?_⟩
        exact ⟨p, _, _, rfl, rfl, (same_new hq2 _) _ _ (s4 _ _ e4), small (by simp), app tj (by rw [eg]; intro z hz; cases hz) s4 q2 hq2⟩
      · rw [eg, List.concat_eq_append, List.map_append] at r4
        obtain ⟨gs0, qz, rfl, r5, e5⟩ := TupsAt.last (ts := g0.map tp) (t := tp z) r4
        have ne : decide (gs0 ++ [V.ref qz] ≠ []) = true := decide_eq_true (by simp)
        rw [ne]
        refine iteT ?_
        refine ⟨_, rfl, _, rfl, p, _, _, .ref qz, rfl, rfl, SqL.of (s4 _ _ e4), atI_last _ _, qz, _, _, .int z.2, rfl, rfl, SqT.of (s4 _ _ e5), rfl, _, rfl, rfl, _, rfl, ?_⟩
        by_cases cz : z.2 = (j : Int)
        · have ez : decide (V.int z.2 = V.int (j : Int)) = true := decide_eq_true (by rw [cz])
          rw [ez]
          refine iteT ?_
          refine ⟨_, rfl, _, rfl, p, _, _, .ref qz, rfl, rfl, SqL.of (s4 _ _ e4), atI_last _ _, qz, _, _, .int z.1, rfl, rfl, SqT.of (s4 _ _ e5), rfl, _, rfl, _, _, rfl, rfl, (by show 2 ≤ sizeLine; decide), fun q2 hq2 => ?_⟩
          have s6 := s4.trans (same_new hq2 (HO.tup [.int z.1, .int ((j : Int) + 1)]))
          refine ⟨_, rfl, _, rfl, p, _, _, _, rfl, rfl, s6 _ _ e4, atI_end, ?_⟩
          rw [set_end]
          refine ⟨_, _, _, rfl, same_over (s3.trans s6) hp _, upd_same, ?_⟩
          have eg2 : gl tk j = g0 ++ [(z.1, (j : Int))] := by rw [eg, List.concat_eq_append, ← cz]
          rw [gS, eg2, gstep_on tj, List.map_append]
          exact ((r5.mono s6).snoc upd_same).upd (lst_ne (s6 _ _ e4))
        · have ez : decide (V.int z.2 = V.int (j : Int)) = false := decide_eq_false (by intro h; exact cz (by injection h))
          rw [ez]
          refine iteF ?_
          refine ⟨_, rfl, rfl, _, rfl, iteT ?_⟩
          refine ⟨_, rfl, .inl ⟨rfl, _, SqL.of (s4 _ _ e4)⟩, _, rfl, _, rfl, _, _, rfl, rfl, (by show 2 ≤ sizeLine; decide), fun q2 hq2 => ?_⟩
          refine ⟨p, _, _, rfl, rfl, (same_new hq2 _) _ _ (s4 _ _ e4), small (by rw [lg]; omega), app tj (fun y hy => ?_) s4 q2 hq2⟩
          rw [eg, List.concat_eq_append, List.getLast?_concat] at hy
          cases hy
          exact cz
    · have tj : tk (j : Int) = true := sj
      refine iteF (iteF ?_)
      refine ⟨_, rfl, rfl, _, rfl, iteF ⟨_, _, gs, rfl, s3, e4, ?_⟩⟩
      rw [gS, gstep_taken tj]
      exact r4
  · rintro σ H3 ⟨o2, o3, gs, rfl, s3, e4, r4⟩
    rw [lms] at r4
    exact ⟨_, rfl, qq p H3 s3 hp ⟨gs, e4, r4⟩⟩
end
end K15
set_option maxHeartbeats 4000000
namespace K15
open PySem L2
theorem at_w {t : Nat → Addr} : ∀ {w : Nat}, w < 2 → atI [V.ref (t 0), V.ref (t 1)] (w : Int) = some (.ref (t w))
  | 0, _ => rfl
  | 1, _ => rfl
  | w + 2, h => absurd h (by omega)
theorem ix_w : ∀ {w : Nat} {a b : V}, w < 2 → ixN [a, b].length (w : Int) = some w
  | 0, _, _, _ => rfl
  | 1, _, _, _ => rfl
  | w + 2, _, _, h => absurd h (by omega)
theorem set_w {t : Nat → Addr} {tn : Addr} : ∀ {w : Nat}, w < 2 → [V.ref (t 0), V.ref (t 1)].set w (.ref tn) = [.ref (if 0 = w then tn else t 0), .ref (if 1 = w then tn else t 1)]
  | 0, _ => rfl
  | 1, _ => rfl
  | w + 2, h => absurd h (by omega)
theorem fin_set {H : Hp} {st fl d PP : Addr} {pc : Int → List Int} {N : Nat} {t : Nat → Addr} {F : Nat → Fl} {tn : Addr} {x : Fl} {w : Nat} (hw : w < 2) (g : Gd H st fl d PP pc N t F) (h : FileAt H tn x) (hx : FI pc N x) : GdN (upd H fl (.lst ([V.ref (t 0), V.ref (t 1)].set w (.ref tn)))) st fl d PP N := by
  rw [set_w hw]
  exact ⟨_, _, _, g.set w h hx⟩
theorem rep_non (k : Nat) : (List.replicate k [V.non]).flatten = List.replicate k V.non := by
  simp
theorem len40 {pc : Int → List Int} {N : Nat} {x : Fl} (h : FI pc N x) : x.2.1.length ≤ 40 := by
  have := ord_len h.ord
  have := h.n40
  omega
section
variable {P : Program} {w : World} {K : PySem.W.Frag} {mg : Str → Option Value} {base : Heap} {f fWo : Addr} {fd dWo : FuncData}
def spCut (PP : Addr) : Sp := spDeed PP fun vs st => ∃ (wh : Nat) (k : Int), wh < 2 ∧ vs = [.ref st, .int (wh : Int), .int k]
theorem scCut : FnScope ["_law_state", "_law_which", "_law_number", "_law_size", "_law_row", "_law_model", "_law_many", "_law_low", "_law_high"] ["_law_state", "_law_which", "_law_number"] (defScope sCut) := ⟨rfl, rfl, rfl, by decide +kernel, rfl, by decide +kernel, by decide +kernel⟩
theorem ok_Cut {PP : Addr} (F : Fun K "_law_cut" "_law_cut" sCut f fd) (hWo : Has K mg "without" sWo ["row", "low", "high"] fWo dWo) (GWo : FnOk P w K mg base CX0 2 fWo dWo ["row", "low", "high"] spWo) (T : Txt mg) : FnOk P w K mg base CX0 3 f fd ["_law_state", "_law_which", "_law_number"] (spCut PP) := by
  refine F.ok scCut (fun vs H Q E h => ?_) (fun cdv A outer s H vs Q E hr h => ?_)
  · obtain ⟨st, fl, d, N, ⟨wh, k, _, rfl⟩, _⟩ := h
    rfl
  obtain ⟨st, fl, d, N, ⟨wh, k, hw, rfl⟩, ⟨pc, t, FF, g⟩, nd, hN, q⟩ := h
  have hu := hu_of hr
  refine ⟨_, (pss_cons (ps_asg (pe_ix ix_list (pe_dget hu (pv 0) pe_str (fun _ _ => rfl)) (pv 1) (fun _ _ => rfl)) (pg_tup rfl (pgs_cons (pg_name (i := 3) scCut.nd rfl (Or.inl rfl)) (pgs_cons (pg_name (i := 4) scCut.nd rfl (Or.inl rfl)) (pgs_cons (pg_name (i := 5) scCut.nd rfl (Or.inl rfl)) pgs_nil)))))
    (pss_one (ps_if (pt_cmpR op_eq (pe_op op_mod (pv 2) pe_int) pe_int (nomark _))
    (pss_cons (ps_set (i := 6) scCut.nd rfl (Or.inl rfl) (pe_op op_mod (pe_op op_fdiv (pv 2) pe_int) pe_int))
    (pss_cons (ps_set (i := 5) scCut.nd rfl (Or.inl rfl) (pe_op op_cat (pe_slice sl_list (pv 5) po_none (po_some (pv 6))) (pe_op op_rep (pe_lst (pa_cons pe_non pa_nil)) (pe_op op_sub (pv 6) (pe_callB call_len_seq rfl T.len PySem.boot_len (pa_cons (pv 5) pa_nil))))))
    (pss_one (ps_asg (pe_tup (pa_cons (pv 6) (pa_cons (pe_call GWo (hr.mono (by decide)) rfl hWo.nm hWo.fn.kp hWo.bd .nil pass0 (pa_cons (pv 4) (pa_cons (pv 6) (pa_cons pe_int pa_nil)))) (pa_cons (pv 5) pa_nil)))) (pg_sub (pe_dget hu (pv 0) pe_str (fun _ _ => rfl)) (pv 1) set_list)))))
    (pss_one (ps_if (pt_cmpR op_gt (pv 3) pe_int (nomark _))
    (pss_cons (ps_set (i := 7) scCut.nd rfl (Or.inl rfl) (pe_op op_mod (pe_op op_fdiv (pv 2) pe_int) (pv 3)))
    (pss_cons (ps_set (i := 8) scCut.nd rfl (Or.inl rfl) (pe_op op_add (pe_op op_add (pv 7) pe_int) (pe_op op_mod (pe_op op_fdiv (pv 2) pe_int) (pe_op op_sub (pv 3) (pv 7)))))
    (pss_cons (ps_set (i := 5) scCut.nd rfl (Or.inl rfl) (pe_op op_cat (pe_op op_cat (pe_slice sl_list (pv 5) po_none (po_some (pv 7))) (pe_op op_rep (pe_lst (pa_cons pe_non pa_nil)) (pe_op op_sub (pv 8) (pv 7)))) (pe_slice sl_list (pv 5) (po_some (pv 8)) po_none)))
    (pss_one (ps_asg (pe_tup (pa_cons (pv 3) (pa_cons (pe_call GWo (hr.mono (by decide)) rfl hWo.nm hWo.fn.kp hWo.bd .nil pass0 (pa_cons (pv 4) (pa_cons (pv 7) (pa_cons (pv 8) pa_nil)))) (pa_cons (pv 5) pa_nil)))) (pg_sub (pe_dget hu (pv 0) pe_str (fun _ _ => rfl)) (pv 1) set_list))))))
    pss_nil))))), ?_⟩
  obtain ⟨ra, ma, ms, h1, h2, h4, h5⟩ := g.fi wh hw
  have ok := g.ok wh hw
  have lms := h5.len
  have lr := len40 ok
  have hl := ok.len
  have n40 := ok.n40
  generalize FF wh = x at *
  obtain ⟨n, rs, os⟩ := x
  dsimp only at h1 h2 h5 ok lms lr hl n40
  refine ⟨_, rfl, st, .ref fl, rfl, .inl ⟨_, .inr "files", .inl g.st, rfl, (valF _ _).symm⟩, _, rfl, fl, _, _, _, rfl, rfl, SqL.of g.fl, at_w hw, ?_⟩
  refine ⟨t wh, _, rfl, SqT.of h1, rfl, _, _, rfl, _, _, rfl, _, _, rfl, rfl, ?_⟩
  refine ⟨_, rfl, _, _, rfl, rfl, (by show (0 : Int) < 2; decide), rfl, _, rfl, ite2 (fun c1 => ?_) (fun c1 => ?_)⟩
  · refine ⟨_, rfl, _, _, rfl, rfl, ⟨by decide, by decide⟩, _, _, rfl, rfl, (by show (0 : Int) < 41; decide), ?_⟩
    have m0 : (0 : Int) ≤ k / 2 % 41 := by omega
    have m1 : k / 2 % 41 < 41 := by omega
    dsimp only
    generalize k / 2 % 41 = m at m0 m1
    obtain ⟨m, rfl⟩ := Int.eq_ofNat_of_zero_le m0
    refine ⟨_, rfl, _, rfl, _, rfl, ma, _, rfl, SqL.of h4, fun b hb => ?_⟩
    rw [cut_to]
    have s1 := same_new hb (HO.lst (ms.take m))
    refine ⟨(by show 1 ≤ sizeLine; decide), fun pz hpz => ?_⟩
    have s2 := same_new hpz (HO.lst [V.non])
    refine ⟨_, rfl, _, rfl, ma, _, rfl, .inl (SqL.of (s2 _ _ (s1 _ _ h4))), _, _, rfl, rfl, pz, _, _, rfl, rfl, upd_same, by omega, by omega, ?_, fun pw hpw => ?_⟩
    · show 1 * ((m : Int) - (ms.length : Int)).toNat ≤ sizeLine
      exact Nat.le_of_lt (small (by omega))
    have ek : ((m : Int) - (ms.length : Int)).toNat = m - os.length := by omega
    rw [ek, rep_non]
    have s3 := same_new hpw (HO.lst (List.replicate (m - os.length) V.non))
    refine ⟨b, pw, _, _, rfl, rfl, s3 _ _ (s2 _ _ upd_same), upd_same, ?_, fun pm hpm => ?_⟩
    · rw [List.length_take, List.length_replicate]
      exact Nat.le_of_lt (small (by omega))
    have s4 := same_new hpm (HO.lst (ms.take m ++ List.replicate (m - os.length) V.non))
    have sA := s1.trans (s2.trans (s3.trans s4))
    have em : upd (upd (upd (upd H b (HO.lst (ms.take m))) pz (HO.lst [V.non])) pw (HO.lst (List.replicate (m - os.length) V.non))) pm (HO.lst (ms.take m ++ List.replicate (m - os.length) V.non)) pm = some (.lst (ms.take m ++ List.replicate (m - os.length) V.non)) := upd_same
    revert sA em
    generalize upd (upd (upd (upd H b (HO.lst (ms.take m))) pz (HO.lst [V.non])) pw (HO.lst (List.replicate (m - os.length) V.non))) pm (HO.lst (ms.take m ++ List.replicate (m - os.length) V.non)) = H1
    intro sA em
    refine ⟨_, rfl, _, rfl, _, rfl, ra, false, rs, m, 40, rfl, h2.mono sA, by omega, fun pr H2 s5 hpr r2 => ⟨_, rfl, (by show 3 ≤ sizeLine; decide), fun tn htn => ?_⟩⟩
    have s6 := same_new htn (HO.tup [V.int (m : Int), V.ref pr, V.ref pm])
    have sB := sA.trans (s5.trans s6)
    have g1 := g.mono sB
    have fl1 : FileAt (upd H2 tn (HO.tup [V.int (m : Int), V.ref pr, V.ref pm])) tn (m, partsP rs 0 (m : Int) ++ partsP rs 40 40, os.take m ++ List.replicate (m - os.length) none) :=
      ⟨pr, pm, _, upd_same, r2.mono s6, (s5.trans s6) _ _ em, ((h5.keep fun q t e => sB _ _ e).take m).app (ModAt.nones _ _)⟩
    refine ⟨_, rfl, st, .ref fl, rfl, .inl ⟨_, .inr "files", .inl g1.st, rfl, (valF _ _).symm⟩, _, rfl, fl, _, _, _, rfl, rfl, g1.fl, ix_w hw, ?_⟩
    exact q _ N ((Same.kf sB).trans kf_fl) (fin_set hw g1 fl1 (ok.cutA (by omega))) (by omega)
  · refine ⟨_, rfl, _, _, rfl, rfl, _, rfl, ite2 (fun c2 => ?_) (fun c2 => ?_)⟩
    · have np : 0 < n := by
        have := of_decide_eq_true c2
        omega
      refine ⟨_, rfl, _, _, rfl, rfl, ⟨by decide, by decide⟩, _, rfl, _, _, rfl, rfl, (by show (0 : Int) < (n : Int); omega), ?_⟩
      have m0 := Int.emod_nonneg (k / 2) (show (n : Int) ≠ 0 by omega)
      have m1 := Int.emod_lt_of_pos (k / 2) (show 0 < (n : Int) by omega)
      dsimp only
      generalize k / 2 % (n : Int) = lo at m0 m1
      obtain ⟨lo, rfl⟩ := Int.eq_ofNat_of_zero_le m0
      refine ⟨_, rfl, _, _, rfl, rfl, _, rfl, _, _, rfl, rfl, ⟨by decide, by decide⟩, _, rfl, _, rfl, _, _, rfl, rfl, _, _, rfl, rfl, (by show (0 : Int) < (n : Int) - (lo : Int); omega), _, _, rfl, rfl, ?_⟩
      have j0 := Int.emod_nonneg (k / 128) (show (n : Int) - (lo : Int) ≠ 0 by omega)
      have j1 := Int.emod_lt_of_pos (k / 128) (show 0 < (n : Int) - (lo : Int) by omega)
      dsimp only
      generalize k / 128 % ((n : Int) - (lo : Int)) = jj at j0 j1
      obtain ⟨hi, ehi⟩ := Int.eq_ofNat_of_zero_le (show (0 : Int) ≤ (lo : Int) + 1 + jj by omega)
      have ehi : (lo : Int) + 1 + jj = (hi : Int) := ehi
      rw [ehi]
      have b1 : lo < hi := by omega
      have b2 : hi ≤ n := by omega
      refine ⟨_, rfl, _, rfl, _, rfl, ma, _, rfl, SqL.of h4, fun b hb => ?_⟩
      rw [cut_to]
      have s1 := same_new hb (HO.lst (ms.take lo))
      refine ⟨(by show 1 ≤ sizeLine; decide), fun pz hpz => ?_⟩
      have s2 := same_new hpz (HO.lst [V.non])
      refine ⟨_, rfl, _, rfl, _, _, rfl, rfl, pz, _, _, rfl, rfl, upd_same, by omega, by omega, ?_, fun pw hpw => ?_⟩
      · show 1 * ((hi : Int) - (lo : Int)).toNat ≤ sizeLine
        exact Nat.le_of_lt (small (by omega))
      have ek : ((hi : Int) - (lo : Int)).toNat = hi - lo := by omega
      rw [ek, rep_non]
      have s3 := same_new hpw (HO.lst (List.replicate (hi - lo) V.non))
      refine ⟨b, pw, _, _, rfl, rfl, s3 _ _ (s2 _ _ upd_same), upd_same, ?_, fun px hpx => ?_⟩
      · rw [List.length_take, List.length_replicate]
        exact Nat.le_of_lt (small (by omega))
      have s4 := same_new hpx (HO.lst (ms.take lo ++ List.replicate (hi - lo) V.non))
      have sA := s1.trans (s2.trans (s3.trans s4))
      have em : upd (upd (upd (upd H b (HO.lst (ms.take lo))) pz (HO.lst [V.non])) pw (HO.lst (List.replicate (hi - lo) V.non))) px (HO.lst (ms.take lo ++ List.replicate (hi - lo) V.non)) px = some (.lst (ms.take lo ++ List.replicate (hi - lo) V.non)) := upd_same
      revert sA em
      generalize upd (upd (upd (upd H b (HO.lst (ms.take lo))) pz (HO.lst [V.non])) pw (HO.lst (List.replicate (hi - lo) V.non))) px (HO.lst (ms.take lo ++ List.replicate (hi - lo) V.non)) = H1
      intro sA em
      refine ⟨_, rfl, _, rfl, _, rfl, ma, _, rfl, SqL.of (sA _ _ h4), fun py hpy => ?_⟩
      rw [cut_from]
      have s5 := same_new hpy (HO.lst (ms.drop hi))
      refine ⟨px, py, _, _, rfl, rfl, s5 _ _ em, upd_same, ?_, fun pm hpm => ?_⟩
      · rw [List.length_append, List.length_take, List.length_replicate, List.length_drop]
        exact Nat.le_of_lt (small (by omega))
      have s6 := same_new hpm (HO.lst (ms.take lo ++ List.replicate (hi - lo) V.non ++ ms.drop hi))
      have sB := sA.trans (s5.trans s6)
      have em2 : upd (upd H1 py (HO.lst (ms.drop hi))) pm (HO.lst (ms.take lo ++ List.replicate (hi - lo) V.non ++ ms.drop hi)) pm = some (.lst (ms.take lo ++ List.replicate (hi - lo) V.non ++ ms.drop hi)) := upd_same
      revert sB em2
      generalize upd (upd H1 py (HO.lst (ms.drop hi))) pm (HO.lst (ms.take lo ++ List.replicate (hi - lo) V.non ++ ms.drop hi)) = H3
      intro sB em2
      refine ⟨_, rfl, _, rfl, _, rfl, _, rfl, ra, false, rs, lo, hi, rfl, h2.mono sB, by omega, fun pr H2 s7 hpr r2 => ⟨_, rfl, (by show 3 ≤ sizeLine; decide), fun tn htn => ?_⟩⟩
      have s8 := same_new htn (HO.tup [V.int (n : Int), V.ref pr, V.ref pm])
      have sC := sB.trans (s7.trans s8)
      have g1 := g.mono sC
      have fl1 : FileAt (upd H2 tn (HO.tup [V.int (n : Int), V.ref pr, V.ref pm])) tn (n, partsP rs 0 (lo : Int) ++ partsP rs (hi : Int) 40, os.take lo ++ List.replicate (hi - lo) none ++ os.drop hi) :=
        ⟨pr, pm, _, upd_same, r2.mono s8, (s7.trans s8) _ _ em2, (((h5.keep fun q t e => sC _ _ e).take lo).app (ModAt.nones _ _)).app ((h5.keep fun q t e => sC _ _ e).drop hi)⟩
      refine ⟨_, rfl, st, .ref fl, rfl, .inl ⟨_, .inr "files", .inl g1.st, rfl, (valF _ _).symm⟩, _, rfl, fl, _, _, _, rfl, rfl, g1.fl, ix_w hw, ?_⟩
      exact q _ N ((Same.kf sC).trans kf_fl) (fin_set hw g1 fl1 (ok.cutB b1 b2)) (by omega)
    · exact q H N (fun b o _ _ _ e => e) ⟨_, _, _, g⟩ (by omega)
end
end K15
set_option maxHeartbeats 4000000
namespace K15
open PySem L2
section
variable {P : Program} {w : World} {K : PySem.W.Frag} {mg : Str → Option Value} {base : Heap} {f fPts fShi fLad : Addr} {fd dPts dShi dLad : FuncData}
def spSha (PP : Addr) : Sp := spDeed PP fun vs st => ∃ (wh : Nat) (k : Int), wh < 2 ∧ vs = [.ref st, .int (wh : Int), .int k]
theorem scSha : FnScope ["_law_state", "_law_which", "_law_number", "_law_other", "_law_size", "_law_row", "_law_model", "_law_at", "_law_long", "_law_to", "_law_new", "_law_some"] ["_law_state", "_law_which", "_law_number"] (defScope sSha) := ⟨rfl, rfl, rfl, by decide +kernel, rfl, by decide +kernel, by decide +kernel⟩
theorem ok_Sha {PP : Addr} (F : Fun K "_law_shared" "_law_shared" sSha f fd) (hPts : Has K mg "parts" sPts ["row", "low", "high"] fPts dPts) (GPts : FnOk P w K mg base CX0 1 fPts dPts ["row", "low", "high"] spPts)
    (hShi : Has K mg "shifted" sShi ["row", "by"] fShi dShi) (GShi : FnOk P w K mg base CX0 1 fShi dShi ["row", "by"] spShi)
    (hLad : Has K mg "laid" sLad ["row", "low", "high", "new"] fLad dLad) (GLad : FnOk P w K mg base CX0 4 fLad dLad ["row", "low", "high", "new"] (spLad PP)) (T : Txt mg) : FnOk P w K mg base CX0 5 f fd ["_law_state", "_law_which", "_law_number"] (spSha PP) := by
  refine F.ok scSha (fun vs H Q E h => ?_) (fun cdv A outer s H vs Q E hr h => ?_)
  · obtain ⟨st, fl, d, N, ⟨wh, k, _, rfl⟩, _⟩ := h
    rfl
  obtain ⟨st, fl, d, N, ⟨wh, k, hw, rfl⟩, ⟨pc, t, FF, g⟩, nd, hN, q⟩ := h
  have hu := hu_of hr
  refine ⟨_, (pss_cons (ps_set (i := 3) scSha.nd rfl (Or.inl rfl) (pe_ix ix_list (pe_dget hu (pv 0) pe_str (fun _ _ => rfl)) (pe_op op_mod (pv 2) pe_int) (fun _ _ => rfl)))
    (pss_cons (ps_asg (pe_ix ix_list (pe_dget hu (pv 0) pe_str (fun _ _ => rfl)) (pv 1) (fun _ _ => rfl)) (pg_tup rfl (pgs_cons (pg_name (i := 4) scSha.nd rfl (Or.inl rfl)) (pgs_cons (pg_name (i := 5) scSha.nd rfl (Or.inl rfl)) (pgs_cons (pg_name (i := 6) scSha.nd rfl (Or.inl rfl)) pgs_nil)))))
    (pss_cons (ps_if (pt_cmpR op_eq (pe_ix ix_tup (pv 3) pe_int (fun _ _ => rfl)) pe_int (nomark _))
    (pss_one ps_retN)
    pss_nil)
    (pss_cons (ps_set (i := 7) scSha.nd rfl (Or.inl rfl) (pe_op op_mod (pe_op op_fdiv (pv 2) pe_int) (pe_ix ix_tup (pv 3) pe_int (fun _ _ => rfl))))
    (pss_cons (ps_set (i := 8) scSha.nd rfl (Or.inl rfl) (pe_op op_add pe_int (pe_op op_mod (pe_op op_fdiv (pv 2) pe_int) (pe_op op_sub (pe_ix ix_tup (pv 3) pe_int (fun _ _ => rfl)) (pv 7)))))
    (pss_cons (ps_set (i := 9) scSha.nd rfl (Or.inl rfl) (pe_op op_mod (pe_op op_fdiv (pv 2) pe_int) (pe_op op_sub pe_int (pv 8))))
    (pss_cons (ps_set (i := 10) scSha.nd rfl (Or.inl rfl) (pe_call GShi (hr.mono (by decide)) rfl hShi.nm hShi.fn.kp hShi.bd .nil pass0 (pa_cons (pe_call GPts (hr.mono (by decide)) rfl hPts.nm hPts.fn.kp hPts.bd .nil pass0 (pa_cons (pe_ix ix_tup (pv 3) pe_int (fun _ _ => rfl)) (pa_cons (pv 7) (pa_cons (pe_op op_add (pv 7) (pv 8)) pa_nil)))) (pa_cons (pe_op op_sub (pv 9) (pv 7)) pa_nil))))
    (pss_cons (ps_set (i := 11) scSha.nd rfl (Or.inl rfl) (pe_slice sl_list (pe_ix ix_tup (pv 3) pe_int (fun _ _ => rfl)) (po_some (pv 7)) (po_some (pe_op op_add (pv 7) (pv 8)))))
    (pss_cons (ps_set (i := 6) scSha.nd rfl (Or.inl rfl) (pe_op op_cat (pv 6) (pe_op op_rep (pe_lst (pa_cons pe_non pa_nil)) (pe_op op_sub (pe_op op_add (pv 9) (pv 8)) (pe_callB call_len_seq rfl T.len PySem.boot_len (pa_cons (pv 6) pa_nil))))))
    (pss_cons (ps_set (i := 6) scSha.nd rfl (Or.inl rfl) (pe_op op_cat (pe_op op_cat (pe_slice sl_list (pv 6) po_none (po_some (pv 9))) (pv 11)) (pe_slice sl_list (pv 6) (po_some (pe_op op_add (pv 9) (pv 8))) po_none)))
    (pss_one (ps_asg (pe_tup (pa_cons (pe_callB (call_max2 rfl) rfl T.max PyProof.Rows.boot_max (pa_cons (pv 4) (pa_cons (pe_op op_add (pv 9) (pv 8)) pa_nil))) (pa_cons (pe_call GLad (hr.mono (by decide)) rfl hLad.nm hLad.fn.kp hLad.bd .nil pass0 (pa_cons (pv 5) (pa_cons (pv 9) (pa_cons (pe_op op_add (pv 9) (pv 8)) (pa_cons (pv 10) pa_nil))))) (pa_cons (pv 6) pa_nil)))) (pg_sub (pe_dget hu (pv 0) pe_str (fun _ _ => rfl)) (pv 1) set_list))))))))))))), ?_⟩
  obtain ⟨w2, e2, hw2⟩ : ∃ w2 : Nat, k % 2 = (w2 : Int) ∧ w2 < 2 := ⟨(k % 2).toNat, by omega, by omega⟩
  obtain ⟨ra, ma, ms, h1, h2, h4, h5⟩ := g.fi wh hw
  obtain ⟨rb, mb, mt, i1, i2, i4, i5⟩ := g.fi w2 hw2
  have ok := g.ok wh hw
  have ok2 := g.ok w2 hw2
  have lms := h5.len
  have lmt := i5.len
  have lr := len40 ok
  have lr2 := len40 ok2
  have hl := ok.len
  have hl2 := ok2.len
  have n40 := ok.n40
  have n402 := ok2.n40
  generalize FF wh = x at *
  generalize FF w2 = x2 at *
  obtain ⟨n, rs, os⟩ := x
  obtain ⟨n2, rs2, os2⟩ := x2
  dsimp only at h1 h2 h5 ok lms lr hl n40 i1 i2 i5 ok2 lmt lr2 hl2 n402
  refine ⟨_, rfl, st, .ref fl, rfl, .inl ⟨_, .inr "files", .inl g.st, rfl, (valF _ _).symm⟩, _, rfl, _, _, rfl, rfl, (by show (0 : Int) < 2; decide), ?_⟩
  dsimp only
  rw [e2]
  refine ⟨fl, _, _, _, rfl, rfl, SqL.of g.fl, at_w hw2, ?_⟩
  refine ⟨_, rfl, st, .ref fl, rfl, .inl ⟨_, .inr "files", .inl g.st, rfl, (valF _ _).symm⟩, _, rfl, fl, _, _, _, rfl, rfl, SqL.of g.fl, at_w hw, ?_⟩
  refine ⟨t wh, _, rfl, SqT.of h1, rfl, _, _, rfl, _, _, rfl, _, _, rfl, rfl, ?_⟩
  refine ⟨_, rfl, t w2, _, 0, _, rfl, rfl, SqT.of i1, rfl, rfl, _, rfl, ite2 (fun c1 => q H N (fun b o _ _ _ e => e) ⟨_, _, _, g⟩ (by omega)) (fun c1 => ?_)⟩
  have np : 0 < n2 := by
    have : ¬ (V.int (n2 : Int) = V.int 0) := fun z => c1 (decide_eq_true z)
    have : (n2 : Int) ≠ 0 := fun z => this (by rw [z])
    omega
  refine ⟨_, rfl, _, _, rfl, rfl, ⟨by decide, by decide⟩, _, rfl, t w2, _, 0, _, rfl, rfl, SqT.of i1, rfl, _, _, rfl, rfl, (by show (0 : Int) < (n2 : Int); omega), ?_⟩
  have m0 := Int.emod_nonneg (k / 2) (show (n2 : Int) ≠ 0 by omega)
  have m1 := Int.emod_lt_of_pos (k / 2) (show 0 < (n2 : Int) by omega)
  dsimp only
  generalize k / 2 % (n2 : Int) = a at m0 m1
  obtain ⟨a, rfl⟩ := Int.eq_ofNat_of_zero_le m0
  refine ⟨_, rfl, _, _, rfl, rfl, ⟨by decide, by decide⟩, _, rfl, t w2, _, 0, _, rfl, rfl, SqT.of i1, rfl, _, rfl, _, _, rfl, rfl, _, _, rfl, rfl, (by show (0 : Int) < (n2 : Int) - (a : Int); omega), _, _, rfl, rfl, ?_⟩
  have j0 := Int.emod_nonneg (k / 128) (show (n2 : Int) - (a : Int) ≠ 0 by omega)
  have j1 := Int.emod_lt_of_pos (k / 128) (show 0 < (n2 : Int) - (a : Int) by omega)
  dsimp only
  generalize k / 128 % ((n2 : Int) - (a : Int)) = jj at j0 j1
  obtain ⟨L, eL⟩ := Int.eq_ofNat_of_zero_le (show (0 : Int) ≤ 1 + jj by omega)
  have eL : (1 : Int) + jj = (L : Int) := eL
  rw [eL]
  have b1 : a + L ≤ n2 := by omega
  refine ⟨_, rfl, _, _, rfl, rfl, ⟨by decide, by decide⟩, _, rfl, _, _, rfl, rfl, _, _, rfl, rfl, (by show (0 : Int) < 41 - (L : Int); omega), ?_⟩
  have v0 := Int.emod_nonneg (k / 8192) (show (41 : Int) - (L : Int) ≠ 0 by omega)
  have v1 := Int.emod_lt_of_pos (k / 8192) (show 0 < (41 : Int) - (L : Int) by omega)
  dsimp only
  generalize k / 8192 % ((41 : Int) - (L : Int)) = to at v0 v1
  obtain ⟨to, rfl⟩ := Int.eq_ofNat_of_zero_le v0
  have b2 : to + L ≤ 40 := by omega
  refine ⟨_, rfl, t w2, _, 1, _, rfl, rfl, SqT.of i1, rfl, _, rfl, _, rfl, _, rfl, _, _, rfl, rfl, rb, false, rs2, a, (a : Int) + (L : Int), rfl, i2, by omega, fun pp H1 s1 hpp r1 => ?_⟩
  refine ⟨_, rfl, _, rfl, _, _, rfl, rfl, pp, false, _, (to : Int) - (a : Int), rfl, r1, ?_, fun pn H2 s2 hpn r2 => ?_⟩
  · have := parts_len (a : Int) ((a : Int) + (L : Int)) rs2
    omega
  have sA := s1.trans s2
  refine ⟨_, rfl, t w2, _, 2, _, rfl, rfl, SqT.of (sA _ _ i1), rfl, _, rfl, _, rfl, _, rfl, _, rfl, _, _, rfl, rfl, _, rfl, mb, _, rfl, SqL.of (sA _ _ i4), fun pm hpm => ?_⟩
  rw [cut_mid _ _ _ (by omega)]
  have s2' := same_new hpm (HO.lst ((mt.drop a).take L))
  have sB := sA.trans s2'
  have em : upd H2 pm (HO.lst ((mt.drop a).take L)) pm = some (.lst ((mt.drop a).take L)) := upd_same
  have r3 := r2.mono s2'
  revert sB em r3
  generalize upd H2 pm (HO.lst ((mt.drop a).take L)) = H3
  intro sB em r3
  have h43 := sB _ _ h4
  refine ⟨_, rfl, (by show 1 ≤ sizeLine; decide), fun pz hpz => ?_⟩
  have s3 := same_new hpz (HO.lst [V.non])
  refine ⟨_, rfl, _, rfl, _, _, rfl, rfl, _, rfl, ma, _, rfl, .inl (SqL.of (s3 _ _ h43)), _, _, rfl, rfl, pz, _, _, rfl, rfl, upd_same, by omega, by omega, ?_, fun pw hpw => ?_⟩
  · show 1 * ((to : Int) + (L : Int) - (ms.length : Int)).toNat ≤ sizeLine
    exact Nat.le_of_lt (small (by omega))
  have ek : ((to : Int) + (L : Int) - (ms.length : Int)).toNat = to + L - os.length := by omega
  rw [ek, rep_non]
  have s4 := same_new hpw (HO.lst (List.replicate (to + L - os.length) V.non))
  refine ⟨ma, pw, _, _, rfl, rfl, s4 _ _ (s3 _ _ h43), upd_same, ?_, fun px hpx => ?_⟩
  · rw [List.length_replicate]
    exact Nat.le_of_lt (small (by omega))
  have s5 := same_new hpx (HO.lst (ms ++ List.replicate (to + L - os.length) V.non))
  have sD := s3.trans (s4.trans s5)
  have ex : upd (upd (upd H3 pz (HO.lst [V.non])) pw (HO.lst (List.replicate (to + L - os.length) V.non))) px (HO.lst (ms ++ List.replicate (to + L - os.length) V.non)) px = some (.lst (ms ++ List.replicate (to + L - os.length) V.non)) := upd_same
  revert sD ex
  generalize upd (upd (upd H3 pz (HO.lst [V.non])) pw (HO.lst (List.replicate (to + L - os.length) V.non))) px (HO.lst (ms ++ List.replicate (to + L - os.length) V.non)) = H4
  intro sD ex
  have lml : ((mt.drop a).take L).length = L := by
    rw [List.length_take, List.length_drop]
    omega
  have lpx : (ms ++ List.replicate (to + L - os.length) V.non).length = max os.length (to + L) := by
    rw [List.length_append, List.length_replicate]
    omega
  refine ⟨_, rfl, _, rfl, _, rfl, px, _, rfl, SqL.of ex, fun p1 hp1 => ?_⟩
  rw [cut_to]
  have s6 := same_new hp1 (HO.lst ((ms ++ List.replicate (to + L - os.length) V.non).take to))
  refine ⟨_, rfl, p1, pm, _, _, rfl, rfl, upd_same, s6 _ _ (sD _ _ em), ?_, fun p2 hp2 => ?_⟩
  · rw [List.length_take, lml]
    exact Nat.le_of_lt (small (by omega))
  have s7 := same_new hp2 (HO.lst ((ms ++ List.replicate (to + L - os.length) V.non).take to ++ (mt.drop a).take L))
  have ecc : (to : Int) + (L : Int) = ((to + L : Nat) : Int) := by omega
  refine ⟨_, rfl, _, rfl, _, rfl, _, _, rfl, rfl, _, rfl, px, _, rfl, SqL.of (s7 _ _ (s6 _ _ ex)), fun p3 hp3 => ?_⟩
  have ec3 : cutV (ms ++ List.replicate (to + L - os.length) V.non) (some ((to : Int) + (L : Int))) none = (ms ++ List.replicate (to + L - os.length) V.non).drop (to + L) := by rw [ecc, cut_from]
  rw [ec3]
  have s8 := same_new hp3 (HO.lst ((ms ++ List.replicate (to + L - os.length) V.non).drop (to + L)))
  refine ⟨p2, p3, _, _, rfl, rfl, s8 _ _ upd_same, upd_same, ?_, fun pq hpq => ?_⟩
  · rw [List.length_append, List.length_take, lml, List.length_drop, lpx]
    exact Nat.le_of_lt (small (by omega))
  have s9 := same_new hpq (HO.lst ((ms ++ List.replicate (to + L - os.length) V.non).take to ++ ((mt.drop a).take L) ++ (ms ++ List.replicate (to + L - os.length) V.non).drop (to + L)))
  have sE := s6.trans (s7.trans (s8.trans s9))
  have eq5 : upd (upd (upd (upd H4 p1 (HO.lst ((ms ++ List.replicate (to + L - os.length) V.non).take to))) p2 (HO.lst ((ms ++ List.replicate (to + L - os.length) V.non).take to ++ ((mt.drop a).take L)))) p3 (HO.lst ((ms ++ List.replicate (to + L - os.length) V.non).drop (to + L)))) pq (HO.lst ((ms ++ List.replicate (to + L - os.length) V.non).take to ++ ((mt.drop a).take L) ++ (ms ++ List.replicate (to + L - os.length) V.non).drop (to + L))) pq = some (.lst ((ms ++ List.replicate (to + L - os.length) V.non).take to ++ ((mt.drop a).take L) ++ (ms ++ List.replicate (to + L - os.length) V.non).drop (to + L))) := upd_same
  revert sE eq5
  generalize upd (upd (upd (upd H4 p1 (HO.lst ((ms ++ List.replicate (to + L - os.length) V.non).take to))) p2 (HO.lst ((ms ++ List.replicate (to + L - os.length) V.non).take to ++ ((mt.drop a).take L)))) p3 (HO.lst ((ms ++ List.replicate (to + L - os.length) V.non).drop (to + L)))) pq (HO.lst ((ms ++ List.replicate (to + L - os.length) V.non).take to ++ ((mt.drop a).take L) ++ (ms ++ List.replicate (to + L - os.length) V.non).drop (to + L))) = H5
  intro sE eq5
  have sF := sB.trans (sD.trans sE)
  have g5 := g.mono sF
  have fx := ok.shared ok2 b1 b2
  have oN : Ord (to : Int) (shiftP (partsP rs2 (a : Int) ((a : Int) + (L : Int))) ((to : Int) - (a : Int))) ((to : Int) + (L : Int)) := by
    have o := ord_shift (d := (to : Int) - (a : Int)) (parts_ord (lo := (a : Int)) (hi := (a : Int) + (L : Int)) (e := (a : Int)) ok2.ord (by omega) (.inr (Int.le_refl _)))
    have e1 : (a : Int) + ((to : Int) - (a : Int)) = (to : Int) := by omega
    have e2 : (a : Int) + (L : Int) + ((to : Int) - (a : Int)) = (to : Int) + (L : Int) := by omega
    rw [e1, e2] at o
    exact o
  have o40 : Ord 0 rs 40 := ok.ord.up (by show (n : Int) ≤ 40; omega)
  refine ⟨_, rfl, _, rfl, _, rfl, _, _, rfl, rfl, _, _, rfl, ?_⟩
  have emax : (if (to : Int) + (L : Int) > (n : Int) then (to : Int) + (L : Int) else (n : Int)) = ((max n (to + L) : Nat) : Int) := by
    split <;> omega
  rw [emax]
  refine ⟨_, rfl, _, rfl, _, rfl, _, rfl, _, _, rfl, rfl, _, rfl, ra, pn, false, false, rs, _, (to : Int), (to : Int) + (L : Int), rfl, h2.mono sF, r3.mono (sD.trans sE), o40, by omega, by omega, oN, g5.tb, fun pL H6 sx tb6 hpL rL => ⟨_, rfl, (by show 3 ≤ sizeLine; decide), fun tn htn => ?_⟩⟩
  obtain ⟨ps, eP, _⟩ := id g5.tb
  have k6 := SxP.keepD sx eP
  have g6 := g5.keep k6 tb6
  have s10 := same_new htn (HO.tup [V.int ((max n (to + L) : Nat) : Int), V.ref pL, V.ref pq])
  have g7 := g6.mono s10
  have kt : ∀ q t, H q = some (.tup t) → upd H6 tn (HO.tup [V.int ((max n (to + L) : Nat) : Int), V.ref pL, V.ref pq]) q = some (.tup t) := fun q t e => s10 _ _ (k6 _ _ (fun _ z => by cases z) (sF _ _ e))
  have m7 := (h5.keep kt).app (ModAt.nones _ (to + L - os.length))
  have fl1 : FileAt (upd H6 tn (HO.tup [V.int ((max n (to + L) : Nat) : Int), V.ref pL, V.ref pq])) tn (max n (to + L), tidyP (laidP rs (to : Int) ((to : Int) + (L : Int)) (shiftP (partsP rs2 (a : Int) ((a : Int) + (L : Int))) ((to : Int) - (a : Int)))), spl os to L ((os2.drop a).take L)) :=
    ⟨pL, pq, _, upd_same, rL.mono s10, s10 _ _ (k6 _ _ (fun _ z => by cases z) eq5), ((m7.take to).app (((i5.keep kt).drop a).take L)).app (m7.drop (to + L))⟩
  refine ⟨_, rfl, st, .ref fl, rfl, .inl ⟨_, .inr "files", .inl g7.st, rfl, (valF _ _).symm⟩, _, rfl, fl, _, _, _, rfl, rfl, g7.fl, ix_w hw, ?_⟩
  exact q _ N ((Same.kf sF).trans ((SxP.kf sx).trans ((Same.kf s10).trans kf_fl))) (fin_set hw g7 fl1 fx) (by omega)
end
end K15
namespace L2
open PySem PySem.Spec PyProof.Rows
theorem call_len_dK {X : Cx} : CallR X (.builtin "len") (fun xs H Q => ∃ p kvs, xs = [.ref p] ∧ H p = some (.dK kvs) ∧ Q (.int (kvs.length : Int)) H) := by
  intro pins s σ H xs us Q I r h
  obtain ⟨p, kvs, rfl, e, q⟩ := h
  obtain ⟨u, rfl, rx⟩ := vals1 r
  cases rx
  obtain ⟨z, nd, vs, rk, dd⟩ := dk_of I.hok e
  have hs : sizeLine = 16777216 := sizeLine_eq
  have hl := rk.length
  exact PySem.call_len_dict nd dd (by omega) ⟨.int kvs.length, H, I.tok _, ⟨_, by rw [hl]⟩, q⟩
end L2
set_option maxHeartbeats 4000000
namespace K15
open PySem L2
theorem comp_rng {lo : Int} {n : Nat} {p : Addr} {tt : TT} {te : TE} {cs : St} {Q : VK} {H1 : Hp} (Pv : Nat → List V → Hp → Prop) (h0 : Pv 0 [] (upd H1 p (.lst [])))
    (hs : ∀ i ys H, i < n → Pv i ys H → tt (some (.int (lo + i)) :: cs) H fun b H4 => if b = true then te (some (.int (lo + i)) :: cs) H4 fun y H5 => H5 p = some (.lst ys) ∧ ys.length < sizeLine ∧ Pv (i + 1) (ys ++ [y]) (upd H5 p (.lst (ys ++ [y]))) else Pv (i + 1) ys H4)
    (hd : ∀ ys H, Pv n ys H → Q (.ref p) H) : CompW (Itr lo n) p tt te cs Q H1 := by
  refine comp_by n Pv h0 ?_ ?_
  · intro i ys H hi pv
    refine ⟨hi, fun v H3 y => ?_⟩
    obtain ⟨rfl, rfl⟩ := y
    exact hs i ys _ hi pv
  · intro ys H pv
    exact ⟨Nat.le_refl _, hd ys H pv⟩
theorem Gd.grow {H H' : Hp} {st fl d PP : Addr} {pc pc' : Int → List Int} {N N' : Nat} {t : Nat → Addr} {F : Nat → Fl} (g : Gd H st fl d PP pc N t F) (nd : d ≠ st) (k : ∀ b o, b ≠ d → H b = some o → H' b = some o) (hN : N ≤ N') (hp : ∀ p, 2 ≤ p → p < 2 + (N : Int) → pc' p = pc p) (hl : ∀ p, (pc' p).length ≤ 8) (pz : PzAt H' d pc' N') : Gd H' st fl d PP pc' N' t F := by
  obtain ⟨kvs, ed, _⟩ := id g.pz
  have kk : ∀ b o, (∀ kvs, o ≠ HO.dK kvs) → H b = some o → H' b = some o := fun b o n e => k b o (fun z => by rw [z, ed] at e; cases e; exact n _ rfl) e
  refine ⟨k _ _ (Ne.symm nd) g.st, kk _ _ (fun _ z => by cases z) g.fl, fun i hi => ?_, fun i hi => (g.ok i hi).mono hN hp, pz, hl, tabKeep g.tb fun b φ e => kk _ _ (fun _ z => by cases z) e⟩
  obtain ⟨ra, ma, ms, h1, ⟨ys, h2, h3⟩, h4, h5⟩ := g.fi i hi
  exact ⟨ra, ma, ms, kk _ _ (fun _ z => by cases z) h1, ⟨ys, kk _ _ (fun _ z => by cases z) h2, h3.keep fun q t e => kk _ _ (fun _ z => by cases z) e⟩, kk _ _ (fun _ z => by cases z) h4, h5.keep fun q t e => kk _ _ (fun _ z => by cases z) e⟩
theorem srcs_succ (N i : Nat) : srcs N (i + 1) = srcs N i ++ [some (2 + (N : Int) + ((i / 8 : Nat) : Int), ((i % 8 : Nat) : Int))] := by
  unfold srcs
  rw [List.range_succ, List.map_append]
  rfl
section
variable {P : Program} {w : World} {K : PySem.W.Frag} {mg : Str → Option Value} {base : Heap} {f fSpl fLad : Addr} {fd dSpl dLad : FuncData}
def spPut (PP : Addr) : Sp := fun vs H Q _ => ∃ (st fl d c : Addr) (N wh : Nat) (k : Int) (cs : List Int), wh < 2 ∧ vs = [.ref st, .int (wh : Int), .int k, .ref c] ∧ H c = some (.lst (cs.map V.int)) ∧ cs.length ≤ 40 ∧ GdN H st fl d PP N ∧ d ≠ st ∧ N ≤ 500 ∧
  ∀ H' N', Kf fl d PP H H' → GdN H' st fl d PP N' → N' ≤ N + 5 → Q .non H'
theorem scPut : FnScope ["_law_state", "_law_which", "_law_number", "_law_cells", "_law_size", "_law_row", "_law_model", "_law_at", "_law_new", "_law_start", "_law_some", "_law_place", "_law_sources"] ["_law_state", "_law_which", "_law_number", "_law_cells"] (defScope sPut) := ⟨rfl, rfl, rfl, by decide +kernel, rfl, by decide +kernel, by decide +kernel⟩
theorem ok_Put {PP : Addr} (F : Fun K "_law_put" "_law_put" sPut f fd) (hSpl : Has K mg "split_up" sSpl ["at", "cells"] fSpl dSpl) (GSpl : FnOk P w K mg base CX0 1 fSpl dSpl ["at", "cells"] spSpl)
    (hLad : Has K mg "laid" sLad ["row", "low", "high", "new"] fLad dLad) (GLad : FnOk P w K mg base CX0 4 fLad dLad ["row", "low", "high", "new"] (spLad PP)) (T : Txt mg) : FnOk P w K mg base CX0 5 f fd ["_law_state", "_law_which", "_law_number", "_law_cells"] (spPut PP) := by
  refine F.ok scPut (fun vs H Q E h => ?_) (fun cdv A outer s H vs Q E hr h => ?_)
  · obtain ⟨st, fl, d, c, N, wh, k, cs, _, rfl, _⟩ := h
    rfl
  obtain ⟨st, fl, d, c, N, wh, k, cs0, hw, rfl, hc, lc0, ⟨pc, t, FF, g⟩, nd, hN, q⟩ := h
  have hu := hu_of hr
  refine ⟨_, (pss_cons (ps_asg (pe_ix ix_list (pe_dget hu (pv 0) pe_str (fun _ _ => rfl)) (pv 1) (fun _ _ => rfl)) (pg_tup rfl (pgs_cons (pg_name (i := 4) scPut.nd rfl (Or.inl rfl)) (pgs_cons (pg_name (i := 5) scPut.nd rfl (Or.inl rfl)) (pgs_cons (pg_name (i := 6) scPut.nd rfl (Or.inl rfl)) pgs_nil)))))
    (pss_cons (ps_set (i := 7) scPut.nd rfl (Or.inl rfl) (pe_op op_mod (pv 2) pe_int))
    (pss_cons (ps_set (i := 3) scPut.nd rfl (Or.inl rfl) (pe_slice sl_list (pv 3) po_none (po_some (pe_op op_sub pe_int (pv 7)))))
    (pss_cons (ps_set (i := 8) scPut.nd rfl (Or.inr rfl) (pe_lst pa_nil))
    (pss_cons (ps_for PassesOwn.never rfl (pi_list (pe_call GSpl (hr.mono (by decide)) rfl hSpl.nm hSpl.fn.kp hSpl.bd .nil pass0 (pa_cons (pv 7) (pa_cons (pv 3) pa_nil)))) (pg_tup rfl (pgs_cons (pg_name (i := 9) scPut.nd rfl (Or.inl rfl)) (pgs_cons (pg_name (i := 10) scPut.nd rfl (Or.inl rfl)) pgs_nil)))
    (pss_cons (ps_set (i := 11) scPut.nd rfl (Or.inl rfl) (pe_op op_add pe_int (pe_callB call_len_dK rfl T.len PySem.boot_len (pa_cons (pe_dget hu (pv 0) pe_str (fun _ _ => rfl)) pa_nil))))
    (pss_cons (ps_dput hu (pe_dget hu (pv 0) pe_str (fun _ _ => rfl)) (pv 11) (pv 10) rfl)
    (pss_one (ps_expr (pe_bm PySem.F.plainAttrs_list PySem.F.slot_list_append PySem.F.type_list_append mt_append (pv 8) (pa_cons (pe_tup (pa_cons (pv 9) (pa_cons (pe_callB call_len_seq rfl T.len PySem.boot_len (pa_cons (pv 10) pa_nil)) (pa_cons (pv 11) (pa_cons pe_int pa_nil))))) pa_nil)))))))
    (pss_cons (ps_set (i := 6) scPut.nd rfl (Or.inl rfl) (pe_op op_cat (pv 6) (pe_op op_rep (pe_lst (pa_cons pe_non pa_nil)) (pe_op op_sub (pe_op op_add (pv 7) (pe_callB call_len_seq rfl T.len PySem.boot_len (pa_cons (pv 3) pa_nil))) (pe_callB call_len_seq rfl T.len PySem.boot_len (pa_cons (pv 6) pa_nil))))))
    (pss_cons (ps_set (i := 12) scPut.nd rfl (Or.inr rfl) (pe_comp [0, 8] ["_law_state", "_law_new"] (pi_range1 rfl T.rng (pa_cons (pe_callB call_len_seq rfl T.len PySem.boot_len (pa_cons (pv 3) pa_nil)) pa_nil)) (fun _ _ _ _ _ _ => pts_nil)
          (fun _ _ _ _ _ _ => (pe_tup (pa_cons (pe_op op_add (pe_op op_sub (pe_op op_add pe_int (pe_callB call_len_dK rfl T.len PySem.boot_len (pa_cons (pe_dget hu (pv 1) pe_str (fun _ _ => rfl)) pa_nil))) (pe_callB (call_len_seqK (K := K) rfl) rfl T.len PySem.boot_len (pa_cons (pv 2) pa_nil))) (pe_op op_fdiv (pv 0) pe_int)) (pa_cons (pe_op op_mod (pv 0) pe_int) pa_nil))))
          rfl (by decide +kernel) (by decide +kernel) rfl (by decide +kernel) (fun j y hj => by
            match j, hj with
            | 0, hj => cases hj; exact ⟨0, rfl, rfl, rfl, .inl rfl⟩ 
            | 1, hj => cases hj; exact ⟨8, rfl, rfl, rfl, .inl rfl⟩) rfl (by decide +kernel) rfl))
    (pss_cons (ps_set (i := 6) scPut.nd rfl (Or.inl rfl) (pe_op op_cat (pe_op op_cat (pe_slice sl_list (pv 6) po_none (po_some (pv 7))) (pe_comp [12] ["_law_sources"] (pi_range1 rfl T.rng (pa_cons (pe_callB call_len_seq rfl T.len PySem.boot_len (pa_cons (pv 3) pa_nil)) pa_nil)) (fun _ _ _ _ _ _ => pts_nil)
          (fun _ _ _ _ _ _ => (pe_ix (ix_listK (K := K) rfl) (pv 1) (pv 0) (fun _ _ => rfl)))
          rfl (by decide +kernel) (by decide +kernel) rfl (by decide +kernel) (fun j y hj => by
            match j, hj with
            | 0, hj => cases hj; exact ⟨12, rfl, rfl, rfl, .inl rfl⟩) rfl (by decide +kernel) rfl)) (pe_slice sl_list (pv 6) (po_some (pe_op op_add (pv 7) (pe_callB call_len_seq rfl T.len PySem.boot_len (pa_cons (pv 3) pa_nil)))) po_none)))
    (pss_one (ps_asg (pe_tup (pa_cons (pe_callB (call_max2 rfl) rfl T.max PyProof.Rows.boot_max (pa_cons (pv 4) (pa_cons (pe_op op_add (pv 7) (pe_callB call_len_seq rfl T.len PySem.boot_len (pa_cons (pv 3) pa_nil))) pa_nil))) (pa_cons (pe_call GLad (hr.mono (by decide)) rfl hLad.nm hLad.fn.kp hLad.bd .nil pass0 (pa_cons (pv 5) (pa_cons (pv 7) (pa_cons (pe_op op_add (pv 7) (pe_callB call_len_seq rfl T.len PySem.boot_len (pa_cons (pv 3) pa_nil))) (pa_cons (pv 8) pa_nil))))) (pa_cons (pv 6) pa_nil)))) (pg_sub (pe_dget hu (pv 0) pe_str (fun _ _ => rfl)) (pv 1) set_list))))))))))), ?_⟩
  obtain ⟨ra, ma, ms, h1, h2, h4, h5⟩ := g.fi wh hw
  have ok := g.ok wh hw
  have lms := h5.len
  have lr := len40 ok
  have hl := ok.len
  have n40 := ok.n40
  generalize FF wh = x at *
  obtain ⟨n, rs, os⟩ := x
  dsimp only at h1 h2 h5 ok lms lr hl n40
  refine ⟨_, rfl, st, .ref fl, rfl, .inl ⟨_, .inr "files", .inl g.st, rfl, (valF _ _).symm⟩, _, rfl, fl, _, _, _, rfl, rfl, SqL.of g.fl, at_w hw, ?_⟩
  refine ⟨t wh, _, rfl, SqT.of h1, rfl, _, _, rfl, _, _, rfl, _, _, rfl, rfl, ?_⟩
  refine ⟨_, rfl, _, _, rfl, rfl, (by show (0 : Int) < 40; decide), ?_⟩
  have m0 : (0 : Int) ≤ k % 40 := by omega
  have m1 : k % 40 < 40 := by omega
  dsimp only
  generalize k % 40 = to at m0 m1
  obtain ⟨to, rfl⟩ := Int.eq_ofNat_of_zero_le m0
  refine ⟨_, rfl, _, rfl, _, _, rfl, rfl, _, rfl, c, _, rfl, SqL.of hc, fun c2 hc2 => ?_⟩
  have ecut : cutV (cs0.map V.int) none (some ((40 : Int) - (to : Int))) = (cs0.take (40 - to)).map V.int := by
    have : (40 : Int) - (to : Int) = ((40 - to : Nat) : Int) := by omega
    rw [this, cut_to, List.map_take]
  rw [ecut]
  have lcs : (cs0.take (40 - to)).length ≤ 40 - to := by
    rw [List.length_take]
    omega
  generalize cs0.take (40 - to) = cs at lcs
  have u1 := same_new hc2 (HO.lst (cs.map V.int))
  refine ⟨by decide, fun pn hpn => ?_⟩
  have u2 := same_new hpn (HO.lst [])
  have uA := u1.trans u2
  have ec := u2 _ _ (upd_same (H := H) (a := c2) (o := HO.lst (cs.map V.int)))
  have en : upd (upd H c2 (HO.lst (cs.map V.int))) pn (HO.lst []) pn = some (.lst []) := upd_same
  have hpnH : H pn = none := u1.free hpn
  have ncn : c2 ≠ pn := fun z => by rw [← z, upd_same] at hpn; cases hpn
  revert uA ec en
  generalize upd (upd H c2 (HO.lst (cs.map V.int))) pn (HO.lst []) = H1
  intro uA ec en
  refine ⟨_, rfl, _, rfl, c2, (to : Int), cs, rfl, ec, by omega, fun p H2 zs s2 hp e2 l2 sp2 => ?_⟩
  have npn : p ≠ pn := fun z => by rw [z, en] at hp; cases hp
  have sA := uA.trans s2
  have gA := g.mono sA
  have ec2 := s2 _ _ ec
  have en2 := s2 _ _ en
  obtain ⟨kv0, ed0, _⟩ := id gA.pz
  have nnd : pn ≠ d := fun z => by rw [← z, en2] at ed0; cases ed0
  have lm : (cs.map V.int).length = cs.length := List.length_map _
  refine ⟨p, rfl, ⟨_, SqL.of e2⟩, for_list (K := K) (a := p) (xs := zs) (fun i σ H3 => ∃ (o9 o10 o11 : Option V) (ys : List V), σ = [some (.ref st), some (.int (wh : Int)), some (.int k), some (.ref c2), some (.int (n : Int)), some (.ref ra), some (.ref ma), some (.int (to : Int)), some (.ref pn), o9, o10, o11, none] ∧ (∀ b o, b ≠ d → b ≠ pn → H2 b = some o → H3 b = some o) ∧ PzAt H3 d (pcN pc N cs i) (N + i) ∧ H3 st = some (.dK [(.inr "files", .ref fl), (.inr "pieces", .ref d)]) ∧ H3 pn = some (.lst ys) ∧ TupsAt H3 ys ((rowsN (to : Int) N cs i).map tv))
    ⟨none, none, none, [], rfl, (fun b o _ _ e => e), by rw [pcN_zero]; exact gA.pz, gA.st, en2, trivial⟩ (fun i σ H3 _ h3 => ?_) ?_ ?_⟩
  · obtain ⟨_, _, _, _, _, k3, _⟩ := h3
    exact SqL.of (k3 _ _ (fun z => by rw [z, ed0] at e2; cases e2) npn e2)
  · rintro i x σ H3 hx ⟨o9, o10, o11, ys, rfl, k3, pz3, st3, en3, tr3⟩
    have hi : i < zs.length := (List.getElem?_eq_some_iff.mp hx).1
    obtain ⟨tp, qp, e1, ht, hq⟩ := sp2 i hi
    rw [hx] at e1
    cases e1
    have tk3 : ∀ b u, H2 b = some (.tup u) → H3 b = some (.tup u) := fun b u e => k3 _ _ (fun z => by rw [z, ed0] at e; cases e) (fun z => by rw [z, en2] at e; cases e) e
    refine ⟨tp, _, rfl, SqT.of (tk3 _ _ ht), rfl, _, _, rfl, _, _, rfl, rfl, ?_⟩
    obtain ⟨kvs, ed, _⟩ := id pz3
    have lk := pz3.len ed
    refine ⟨_, rfl, st, .ref d, rfl, .inl ⟨_, .inr "pieces", .inl st3, rfl, (valP _ _).symm⟩, d, kvs, rfl, ed, _, _, rfl, rfl, ?_⟩
    dsimp only
    rw [lk]
    refine ⟨_, rfl, _, rfl, st, .ref d, rfl, .inl ⟨_, .inr "pieces", .inl st3, rfl, (valP _ _).symm⟩, _, rfl, d, _, rfl, DPut.k (k := .inl (2 + ((N + i : Nat) : Int))) ed (small (by omega)), ?_⟩
    have pz4 := pz3.put (xs := chunk cs i) ed (tk3 _ _ hq)
    rw [← pcN_succ] at pz4
    have k4 : ∀ b o, b ≠ d → H3 b = some o → upd H3 d (.dK (putK kvs (.inl (2 + ((N + i : Nat) : Int))) (.ref qp))) b = some o := fun b o n e => by
      rw [upd_ne n]
      exact e
    have tk4 : ∀ b u, H3 b = some (.tup u) → upd H3 d (.dK (putK kvs (.inl (2 + ((N + i : Nat) : Int))) (.ref qp))) b = some (.tup u) := fun b u e => k4 _ _ (fun z => by rw [z, ed] at e; cases e) e
    have st4 := k4 _ _ (Ne.symm nd) st3
    have en4 := k4 _ _ nnd en3
    have hq4 := tk4 _ _ (tk3 _ _ hq)
    have tr4 := tr3.keep tk4
    have ed4 : upd H3 d (.dK (putK kvs (.inl (2 + ((N + i : Nat) : Int))) (.ref qp))) d = some (.dK (putK kvs (.inl (2 + ((N + i : Nat) : Int))) (.ref qp))) := upd_same
    revert pz4 k4 st4 en4 hq4 tr4 ed4
    clear tk4
    generalize upd H3 d (.dK (putK kvs (.inl (2 + ((N + i : Nat) : Int))) (.ref qp))) = H4
    intro pz4 k4 st4 en4 hq4 tr4 ed4
    refine ⟨_, rfl, .inl ⟨rfl, _, SqL.of en4⟩, _, rfl, _, rfl, qp, _, rfl, .inr (SqT.of hq4), ?_⟩
    rw [List.length_map]
    refine ⟨_, rfl, (by show 4 ≤ sizeLine; decide), fun q2 hq2 => ?_⟩
    have eN : 2 + ((N + i : Nat) : Int) = 2 + (N : Int) + (i : Int) := by omega
    have eR : HO.tup [V.int ((to : Int) + 8 * (i : Int)), V.int ((chunk cs i).length : Int), V.int (2 + ((N + i : Nat) : Int)), V.int 0] = HO.tup (tv (rowN (to : Int) N cs i)) := by
      rw [eN]
      rfl
    rw [eR]
    have s8 := same_new hq2 (HO.tup (tv (rowN (to : Int) N cs i)))
    have lz : ys.length = i := by
      have := tr3.len
      rw [List.length_map] at this
      rw [this]
      unfold rowsN
      simp
    have en5 := s8 _ _ en4
    refine ⟨pn, ys, _, rfl, rfl, en5, small (by omega), ?_⟩
    have tn5 : ∀ q t, upd H4 q2 (HO.tup (tv (rowN (to : Int) N cs i))) q = some (.tup t) → upd (upd H4 q2 (HO.tup (tv (rowN (to : Int) N cs i)))) pn (.lst (ys ++ [.ref q2])) q = some (.tup t) := fun q t e => by
      rw [upd_ne (fun z => by rw [z, en5] at e; cases e)]
      exact e
    refine ⟨_, _, _, _, rfl, fun b o n1 n2 e => ?_, pz4.keep (fun q t e => tn5 _ _ (s8 _ _ e)) (fun kvs e => by rw [upd_ne (Ne.symm nnd)]; exact s8 _ _ e), ?_, upd_same, ?_⟩
    · rw [upd_ne n2]
      exact s8 _ _ (k4 _ _ n1 (k3 _ _ n1 n2 e))
    · rw [upd_ne (fun z => by rw [z, en4] at st4; cases st4)]
      exact s8 _ _ st4
    · rw [rowsN_succ, List.map_append]
      exact ((tr4.mono s8).snoc upd_same).upd (lst_ne en5)
  · rintro σ H3 ⟨o9, o10, o11, ys, rfl, k3, pz3, st3, en3, tr3⟩
    rw [l2] at pz3 tr3
    have kH : ∀ b o, b ≠ d → H b = some o → H3 b = some o := fun b o n e => k3 _ _ n (fun z => by rw [z, hpnH] at e; cases e) (sA _ _ e)
    have g3 := g.grow nd kH (show N ≤ N + (cs.length + 7) / 8 by omega) (fun p h1 h2 => by unfold pcN; rw [if_neg (by omega)]) (pcN_len g.ln) pz3
    have ok3 : FI (pcN pc N cs ((cs.length + 7) / 8)) (N + (cs.length + 7) / 8) (n, rs, os) := ok.mono (by omega) (fun p h1 h2 => by unfold pcN; rw [if_neg (by omega)])
    have kfH : Kf fl d PP H H3 := fun b o n1 n2 n3 e => kH b o n2 e
    obtain ⟨kvd, edH, _⟩ := id g.pz
    have lH : ∀ b xs, H b = some (.lst xs) → H3 b = some (.lst xs) := fun b xs e => kH _ _ (fun z => by rw [z, edH] at e; cases e) e
    have tH : ∀ b xs, H b = some (.tup xs) → H3 b = some (.tup xs) := fun b xs e => kH _ _ (fun z => by rw [z, edH] at e; cases e) e
    have h43 := lH _ _ h4
    have h53 := h5.keep tH
    have c3 : H3 c2 = some (.lst (cs.map V.int)) := k3 _ _ (fun z => by rw [z, ed0] at ec2; cases ec2) ncn ec2
    have r23 : RowAt false H3 ra rs := by
      obtain ⟨zs0, e0, t0⟩ := h2
      exact ⟨zs0, lH _ _ e0, t0.keep tH⟩
    have rN : RowAt false H3 pn (rowsN (to : Int) N cs ((cs.length + 7) / 8)) := ⟨ys, en3, tr3⟩
    have ly : ys.length = (cs.length + 7) / 8 := by
      have := tr3.len
      rw [List.length_map] at this
      rw [this]
      unfold rowsN
      simp
    obtain ⟨kvs, ed3, _⟩ := id pz3
    have lk := pz3.len ed3
    have gs := gs_srcs (pc := pc) (N := N) (cs := cs)
    have cN := @cells_rowsN (to : Int) N cs
    have oN := rowsN_ord (to : Int) N cs _ (Nat.le_refl _)
    have e40 : min (8 * ((cs.length + 7) / 8)) cs.length = cs.length := by omega
    rw [e40] at oN
    clear k3 kH lH tH sp2
    generalize hL : cs.length = L at *
    refine ⟨_, rfl, (by show 1 ≤ sizeLine; decide), fun pz hpz => ?_⟩
    have s3 := same_new hpz (HO.lst [V.non])
    refine ⟨_, rfl, _, rfl, c2, _, rfl, .inl (SqL.of (s3 _ _ c3)), ?_⟩
    rw [lm]
    refine ⟨_, _, rfl, rfl, _, rfl, ma, _, rfl, .inl (SqL.of (s3 _ _ h43)), _, _, rfl, rfl, pz, _, _, rfl, rfl, upd_same, by omega, by omega, ?_, fun pw hpw => ?_⟩
    · show 1 * ((to : Int) + (L : Int) - (ms.length : Int)).toNat ≤ sizeLine
      exact Nat.le_of_lt (small (by omega))
    have ek : ((to : Int) + (L : Int) - (ms.length : Int)).toNat = to + L - os.length := by omega
    rw [ek, rep_non]
    have s4 := same_new hpw (HO.lst (List.replicate (to + L - os.length) V.non))
    refine ⟨ma, pw, _, _, rfl, rfl, s4 _ _ (s3 _ _ h43), upd_same, ?_, fun px hpx => ?_⟩
    · rw [List.length_replicate]
      exact Nat.le_of_lt (small (by omega))
    have s5 := same_new hpx (HO.lst (ms ++ List.replicate (to + L - os.length) V.non))
    have sD := s3.trans (s4.trans s5)
    have ex : upd (upd (upd H3 pz (HO.lst [V.non])) pw (HO.lst (List.replicate (to + L - os.length) V.non))) px (HO.lst (ms ++ List.replicate (to + L - os.length) V.non)) px = some (.lst (ms ++ List.replicate (to + L - os.length) V.non)) := upd_same
    revert sD ex
    generalize upd (upd (upd H3 pz (HO.lst [V.non])) pw (HO.lst (List.replicate (to + L - os.length) V.non))) px (HO.lst (ms ++ List.replicate (to + L - os.length) V.non)) = H4
    intro sD ex
    refine ⟨_, rfl, c2, _, rfl, .inl (SqL.of (sD _ _ c3)), ?_⟩
    rw [lm]
    refine ⟨(L : Int), rfl, by omega, by omega, fun pk hpk => ?_⟩
    refine comp_rng (fun i us H5 => Same H4 H5 ∧ H5 pk = some (.lst us) ∧ ModAt H5 us (srcs N i)) ⟨same_new hpk _, upd_same, rfl⟩ ?_ ?_
    · rintro i us H5 hi ⟨sK, e5, m5⟩
      have sK3 := sD.trans sK
      have lu := m5.len
      rw [srcs_len] at lu
      have hi' : i < (L : Int).toNat := hi
      refine ttT ⟨_, rfl, st, .ref d, rfl, .inl ⟨_, .inr "pieces", .inl (sK3 _ _ st3), rfl, (valP _ _).symm⟩, d, kvs, rfl, sK3 _ _ ed3, _, _, rfl, rfl, _, rfl, pn, ys, rfl, .inl (SqL.of (sK3 _ _ en3)), _, _, rfl, rfl, _, rfl, _, _, rfl, rfl, ⟨by decide, by decide⟩, _, _, rfl, rfl, _, rfl, _, _, rfl, rfl, (by show (0 : Int) < 8; decide), (by show 2 ≤ sizeLine; decide), fun tq htq => ?_⟩
      have ev : HO.tup [V.int (2 + (kvs.length : Int) - (ys.length : Int) + (0 + (i : Int)) / 8), V.int ((0 + (i : Int)) % 8)] = HO.tup [V.int (2 + (N : Int) + ((i / 8 : Nat) : Int)), V.int ((i % 8 : Nat) : Int)] := by
        have a1 : 2 + (kvs.length : Int) - (ys.length : Int) + (0 + (i : Int)) / 8 = 2 + (N : Int) + ((i / 8 : Nat) : Int) := by omega
        have a2 : (0 + (i : Int)) % 8 = ((i % 8 : Nat) : Int) := by omega
        rw [a1, a2]
      dsimp only
      rw [ev]
      have s6 := same_new htq (HO.tup [V.int (2 + (N : Int) + ((i / 8 : Nat) : Int)), V.int ((i % 8 : Nat) : Int)])
      have e6 := s6 _ _ e5
      have kt6 : ∀ q u, upd H5 tq (HO.tup [V.int (2 + (N : Int) + ((i / 8 : Nat) : Int)), V.int ((i % 8 : Nat) : Int)]) q = some (.tup u) → upd (upd H5 tq (HO.tup [V.int (2 + (N : Int) + ((i / 8 : Nat) : Int)), V.int ((i % 8 : Nat) : Int)])) pk (.lst (us ++ [.ref tq])) q = some (.tup u) := fun q u e => by
        rw [upd_ne (fun z => by rw [z, e6] at e; cases e)]
        exact e
      refine ⟨e6, small (by omega), same_over (sK.trans s6) hpk _, upd_same, ?_⟩
      rw [srcs_succ]
      refine (m5.keep fun q u e => kt6 _ _ (s6 _ _ e)).app ?_
      show [dec _ (.ref tq)] = [some _]
      rw [dec_ref (kt6 _ _ upd_same)]
    rintro us H5 ⟨sK, e5, m5⟩
    have eLt : (L : Int).toNat = L := Int.toNat_natCast L
    rw [eLt] at m5
    have lu := m5.len
    rw [srcs_len] at lu
    have lpx : (ms ++ List.replicate (to + L - os.length) V.non).length = max os.length (to + L) := by
      rw [List.length_append, List.length_replicate]
      omega
    have sK3 := sD.trans sK
    refine ⟨_, rfl, _, rfl, _, rfl, px, _, rfl, SqL.of (sK _ _ ex), fun p1 hp1 => ?_⟩
    rw [cut_to]
    have s6 := same_new hp1 (HO.lst ((ms ++ List.replicate (to + L - os.length) V.non).take to))
    have e1 : upd H5 p1 (HO.lst ((ms ++ List.replicate (to + L - os.length) V.non).take to)) p1 = some (.lst ((ms ++ List.replicate (to + L - os.length) V.non).take to)) := upd_same
    revert s6 e1
    generalize upd H5 p1 (HO.lst ((ms ++ List.replicate (to + L - os.length) V.non).take to)) = H6
    intro s6 e1
    refine ⟨_, rfl, c2, _, rfl, .inl (SqL.of (s6 _ _ (sK3 _ _ c3))), ?_⟩
    rw [lm]
    refine ⟨(L : Int), rfl, by omega, by omega, fun pg hpg => ?_⟩
    refine comp_rng (fun i vs H7 => Same H6 H7 ∧ H7 pg = some (.lst vs) ∧ vs = us.take i) ⟨same_new hpg _, upd_same, rfl⟩ ?_ ?_
    · rintro i vs H7 hi ⟨s7, e7, rfl⟩
      have hi' : i < (L : Int).toNat := hi
      obtain ⟨v, hv⟩ : ∃ v, us[i]? = some v := ⟨_, List.getElem?_eq_getElem (show i < us.length by omega)⟩
      have hat : atI us (0 + (i : Int)) = some v := by
        have z0 : (0 : Int) + (i : Int) = (i : Int) := by omega
        rw [z0]
        exact atI_nat hv
      refine ttT ⟨_, rfl, _, rfl, pk, _, _, v, rfl, rfl, SqL.of (s7 _ _ (s6 _ _ e5)), hat, e7, small (by rw [List.length_take]; omega), same_over s7 hpg _, upd_same, (take_next hv).symm⟩
    rintro vs H7 ⟨s7, e7, rfl⟩
    have etk : us.take (L : Int).toNat = us := by
      rw [eLt]
      exact List.take_of_length_le (by omega)
    rw [etk] at e7
    refine ⟨p1, pg, _, _, rfl, rfl, s7 _ _ e1, e7, ?_, fun p2 hp2 => ?_⟩
    · rw [List.length_take, lu]
      exact Nat.le_of_lt (small (by omega))
    have s8 := same_new hp2 (HO.lst ((ms ++ List.replicate (to + L - os.length) V.non).take to ++ us))
    have sG := s6.trans (s7.trans s8)
    refine ⟨_, rfl, _, rfl, _, rfl, c2, _, rfl, .inl (SqL.of (sG _ _ (sK3 _ _ c3))), ?_⟩
    rw [lm]
    have ecc : (to : Int) + (L : Int) = ((to + L : Nat) : Int) := by omega
    refine ⟨_, _, rfl, rfl, _, rfl, px, _, rfl, SqL.of (sG _ _ (sK _ _ ex)), fun p3 hp3 => ?_⟩
    have ec3 : cutV (ms ++ List.replicate (to + L - os.length) V.non) (some ((to : Int) + (L : Int))) none = (ms ++ List.replicate (to + L - os.length) V.non).drop (to + L) := by rw [ecc, cut_from]
    rw [ec3]
    have s9 := same_new hp3 (HO.lst ((ms ++ List.replicate (to + L - os.length) V.non).drop (to + L)))
    refine ⟨p2, p3, _, _, rfl, rfl, s9 _ _ upd_same, upd_same, ?_, fun pq hpq => ?_⟩
    · rw [List.length_append, List.length_take, lu, List.length_drop, lpx]
      exact Nat.le_of_lt (small (by omega))
    have s10 := same_new hpq (HO.lst ((ms ++ List.replicate (to + L - os.length) V.non).take to ++ us ++ (ms ++ List.replicate (to + L - os.length) V.non).drop (to + L)))
    have sE := (sD.trans sK).trans (sG.trans (s9.trans s10))
    have sM := sG.trans (s9.trans s10)
    have eq5 : upd (upd (upd H7 p2 (HO.lst ((ms ++ List.replicate (to + L - os.length) V.non).take to ++ us))) p3 (HO.lst ((ms ++ List.replicate (to + L - os.length) V.non).drop (to + L)))) pq (HO.lst ((ms ++ List.replicate (to + L - os.length) V.non).take to ++ us ++ (ms ++ List.replicate (to + L - os.length) V.non).drop (to + L))) pq = some (.lst ((ms ++ List.replicate (to + L - os.length) V.non).take to ++ us ++ (ms ++ List.replicate (to + L - os.length) V.non).drop (to + L))) := upd_same
    revert sE sM eq5
    generalize upd (upd (upd H7 p2 (HO.lst ((ms ++ List.replicate (to + L - os.length) V.non).take to ++ us))) p3 (HO.lst ((ms ++ List.replicate (to + L - os.length) V.non).drop (to + L)))) pq (HO.lst ((ms ++ List.replicate (to + L - os.length) V.non).take to ++ us ++ (ms ++ List.replicate (to + L - os.length) V.non).drop (to + L))) = H8
    intro sE sM eq5
    have g8 := g3.mono sE
    have o40 : Ord 0 rs 40 := ok.ord.up (by show (n : Int) ≤ 40; omega)
    have fx := ok3.laid oN (show to + L ≤ 40 by omega) (srcs_len N L) gs (fun k p s => cN)
    refine ⟨_, rfl, _, rfl, _, rfl, c2, _, rfl, .inl (SqL.of (sE _ _ c3)), ?_⟩
    rw [lm]
    refine ⟨_, _, rfl, rfl, _, _, rfl, ?_⟩
    have emax : (if (to : Int) + (L : Int) > (n : Int) then (to : Int) + (L : Int) else (n : Int)) = ((max n (to + L) : Nat) : Int) := by
      split <;> omega
    rw [emax]
    refine ⟨_, rfl, _, rfl, _, rfl, _, rfl, c2, _, rfl, .inl (SqL.of (sE _ _ c3)), ?_⟩
    rw [lm]
    refine ⟨_, _, rfl, rfl, _, rfl, ra, pn, false, false, rs, _, (to : Int), (to : Int) + (L : Int), rfl, r23.mono sE, rN.mono sE, o40, by omega, by omega, oN, g8.tb, fun pL H9 sx tb9 hpL rL => ⟨_, rfl, (by show 3 ≤ sizeLine; decide), fun tn htn => ?_⟩⟩
    obtain ⟨ps, eP, _⟩ := id g8.tb
    have k9 := SxP.keepD sx eP
    have g9 := g8.keep k9 tb9
    have s11 := same_new htn (HO.tup [V.int ((max n (to + L) : Nat) : Int), V.ref pL, V.ref pq])
    have gT := g9.mono s11
    have kt : ∀ q t, H3 q = some (.tup t) → upd H9 tn (HO.tup [V.int ((max n (to + L) : Nat) : Int), V.ref pL, V.ref pq]) q = some (.tup t) := fun q t e => s11 _ _ (k9 _ _ (fun _ z => by cases z) (sE _ _ e))
    have kt5 : ∀ q t, H5 q = some (.tup t) → upd H9 tn (HO.tup [V.int ((max n (to + L) : Nat) : Int), V.ref pL, V.ref pq]) q = some (.tup t) := fun q t e => s11 _ _ (k9 _ _ (fun _ z => by cases z) (sM _ _ e))
    have m9 := (h53.keep kt).app (ModAt.nones _ (to + L - os.length))
    have fl1 : FileAt (upd H9 tn (HO.tup [V.int ((max n (to + L) : Nat) : Int), V.ref pL, V.ref pq])) tn (max n (to + L), tidyP (laidP rs (to : Int) ((to : Int) + (L : Int)) (rowsN (to : Int) N cs ((L + 7) / 8))), spl os to L (srcs N L)) :=
      ⟨pL, pq, _, upd_same, rL.mono s11, s11 _ _ (k9 _ _ (fun _ z => by cases z) eq5), ((m9.take to).app (m5.keep kt5)).app (m9.drop (to + L))⟩
    refine ⟨_, rfl, st, .ref fl, rfl, .inl ⟨_, .inr "files", .inl gT.st, rfl, (valF _ _).symm⟩, _, rfl, fl, _, _, _, rfl, rfl, gT.fl, ix_w hw, ?_⟩
    exact q _ _ (kfH.trans ((Same.kf sE).trans ((SxP.kf sx).trans ((Same.kf s11).trans kf_fl)))) (fin_set hw gT fl1 fx) (by omega)
end
end K15
set_option maxHeartbeats 4000000
namespace K15
open PySem L2
theorem at_ns {ns : List Int} (hl : ns.length = 44) (i : Nat) (hi : i < 44) : ∃ n, atI (ns.map V.int) (i : Int) = some (.int n) := by
  refine ⟨ns[i]'(by omega), atI_nat ?_⟩
  rw [List.getElem?_map, List.getElem?_eq_getElem (by omega)]
  rfl
theorem pick2 (n : Int) : ∃ b : Int, (b = 8 ∨ b = 40) ∧ atI [V.int 8, V.int 40] (n % 2) = some (.int b) := by
  obtain e | e : n % 2 = 0 ∨ n % 2 = 1 := by omega
  · rw [e]; exact ⟨8, .inl rfl, rfl⟩
  · rw [e]; exact ⟨40, .inr rfl, rfl⟩
section
variable {P : Program} {w : World} {K : PySem.W.Frag} {mg : Str → Option Value} {base : Heap} {f fStm fPut fSha fCut : Addr} {fd dStm dPut dSha dCut : FuncData}
def spDee (PP : Addr) : Sp := fun vs H Q _ => ∃ (st fl d : Addr) (N : Nat) (cell : Int), vs = [.ref st, .int cell] ∧ GdN H st fl d PP N ∧ d ≠ st ∧ N ≤ 500 ∧ ∀ H' N' (wh : Nat), wh < 2 → Kf fl d PP H H' → GdN H' st fl d PP N' → N' ≤ N + 5 → Q (.int (wh : Int)) H'
theorem scDee : FnScope ["_law_state", "_law_cell", "_law_numbers", "_law_which", "_law_way", "_law_many"] ["_law_state", "_law_cell"] (defScope sDee) := ⟨rfl, rfl, rfl, by decide +kernel, rfl, by decide +kernel, by decide +kernel⟩
theorem ok_Dee {PP : Addr} (F : Fun K "_law_deed" "_law_deed" sDee f fd) (hStm : Has K mg "_law_stream" sStm ["_law_cell", "_law_many"] fStm dStm) (GStm : FnOk P w K mg base CX0 1 fStm dStm ["_law_cell", "_law_many"] spStm)
    (hPut : Has K mg "_law_put" sPut ["_law_state", "_law_which", "_law_number", "_law_cells"] fPut dPut) (GPut : FnOk P w K mg base CX0 5 fPut dPut ["_law_state", "_law_which", "_law_number", "_law_cells"] (spPut PP))
    (hSha : Has K mg "_law_shared" sSha ["_law_state", "_law_which", "_law_number"] fSha dSha) (GSha : FnOk P w K mg base CX0 5 fSha dSha ["_law_state", "_law_which", "_law_number"] (spSha PP))
    (hCut : Has K mg "_law_cut" sCut ["_law_state", "_law_which", "_law_number"] fCut dCut) (GCut : FnOk P w K mg base CX0 3 fCut dCut ["_law_state", "_law_which", "_law_number"] (spCut PP)) (T : Txt mg) : FnOk P w K mg base CX0 6 f fd ["_law_state", "_law_cell"] (spDee PP) := by
  refine F.ok scDee (fun vs H Q E h => ?_) (fun cdv A outer s H vs Q E hr h => ?_)
  · obtain ⟨st, fl, d, N, cell, rfl, _⟩ := h
    rfl
  obtain ⟨st, fl, d, N, cell, rfl, ⟨pc, t, FF, g⟩, nd, hN, q⟩ := h
  refine ⟨_, (pss_cons (ps_set (i := 2) scDee.nd rfl (Or.inl rfl) (pe_call GStm (hr.mono (by decide)) rfl hStm.nm hStm.fn.kp hStm.bd .nil pass0 (pa_cons (pv 1) (pa_cons pe_int pa_nil))))
    (pss_cons (ps_set (i := 3) scDee.nd rfl (Or.inl rfl) (pe_op op_mod (pe_ix ix_list (pv 2) pe_int (fun _ _ => rfl)) pe_int))
    (pss_cons (ps_set (i := 4) scDee.nd rfl (Or.inl rfl) (pe_op op_mod (pe_op op_fdiv (pe_ix ix_list (pv 2) pe_int (fun _ _ => rfl)) pe_int) pe_int))
    (pss_cons (ps_if (pt_cmpR op_lt (pv 4) pe_int (nomark _))
    (pss_cons (ps_set (i := 5) scDee.nd rfl (Or.inl rfl) (pe_op op_add pe_int (pe_op op_mod (pe_ix ix_list (pv 2) pe_int (fun _ _ => rfl)) (pe_ix ix_list (pe_lst (pa_cons pe_int (pa_cons pe_int pa_nil))) (pe_op op_mod (pe_op op_fdiv (pe_ix ix_list (pv 2) pe_int (fun _ _ => rfl)) pe_int) pe_int) (fun _ _ => rfl)))))
    (pss_one (ps_expr (pe_call GPut (hr.mono (by decide)) rfl hPut.nm hPut.fn.kp hPut.bd .nil pass0 (pa_cons (pv 0) (pa_cons (pv 3) (pa_cons (pe_ix ix_list (pv 2) pe_int (fun _ _ => rfl)) (pa_cons (pe_comp [] [] (pi_list (pe_slice sl_list (pv 2) (po_some pe_int) (po_some (pe_op op_add pe_int (pv 5))))) (fun _ _ _ _ _ _ => pts_nil)
          (fun _ _ _ _ _ _ => (pe_op op_mod (pv 0) pe_int))
          rfl (by decide +kernel) (by decide +kernel) rfl (by decide +kernel) (fun _ _ z => nomatch z) rfl (by decide +kernel) rfl) pa_nil))))))))
    (pss_one (ps_if (pt_cmpR op_lt (pv 4) pe_int (nomark _))
    (pss_one (ps_expr (pe_call GSha (hr.mono (by decide)) rfl hSha.nm hSha.fn.kp hSha.bd .nil pass0 (pa_cons (pv 0) (pa_cons (pv 3) (pa_cons (pe_ix ix_list (pv 2) pe_int (fun _ _ => rfl)) pa_nil))))))
    (pss_one (ps_expr (pe_call GCut (hr.mono (by decide)) rfl hCut.nm hCut.fn.kp hCut.bd .nil pass0 (pa_cons (pv 0) (pa_cons (pv 3) (pa_cons (pe_ix ix_list (pv 2) pe_int (fun _ _ => rfl)) pa_nil)))))))))
    (pss_one (ps_ret (pv 3))))))), ?_⟩
  refine ⟨_, rfl, cell, 44, rfl, by decide, by decide, fun p H1 ns s1 hp e1 l1 => ?_⟩
  have l44 : ns.length = 44 := l1
  have S1 : SqL K H1 p (ns.map V.int) := SqL.of e1
  have g1 := g.mono s1
  obtain ⟨n0, h0⟩ := at_ns l44 0 (by omega)
  obtain ⟨n1, h1⟩ := at_ns l44 1 (by omega)
  obtain ⟨n2, h2⟩ := at_ns l44 2 (by omega)
  refine ⟨_, rfl, p, _, 0, .int n0, rfl, rfl, S1, h0, _, _, rfl, rfl, (by show (0 : Int) < 2; decide), ?_⟩
  obtain ⟨wh, ew, hw⟩ : ∃ wh : Nat, n0 % 2 = (wh : Int) ∧ wh < 2 := ⟨(n0 % 2).toNat, by omega, by omega⟩
  dsimp only
  rw [ew]
  refine ⟨_, rfl, p, _, 0, .int n0, rfl, rfl, S1, h0, _, _, rfl, rfl, ⟨by decide, by decide⟩, _, _, rfl, rfl, (by show (0 : Int) < 8; decide), ?_⟩
  dsimp only
  refine ⟨_, rfl, _, _, rfl, rfl, _, rfl, ite2 (fun c1 => ?_) (fun c1 => ?_)⟩
  · refine ⟨_, rfl, p, _, 2, .int n2, rfl, rfl, S1, h2, (by show 2 ≤ sizeLine; decide), fun pl hpl => ?_⟩
    have s2 := same_new hpl (HO.lst [V.int 8, V.int 40])
    obtain ⟨b, hb, eb⟩ := pick2 (n2 / 64)
    refine ⟨_, rfl, p, _, 2, .int n2, rfl, rfl, s2.seq S1, h2, _, _, rfl, rfl, ⟨by decide, by decide⟩, _, _, rfl, rfl, (by show (0 : Int) < 2; decide), pl, _, _, .int b, rfl, rfl, SqL.of upd_same, eb, _, _, rfl, rfl, (by show 0 < b; omega), _, _, rfl, rfl, ?_⟩
    have m0 := Int.emod_nonneg n2 (show b ≠ 0 by omega)
    have m1 := Int.emod_lt_of_pos n2 (show 0 < b by omega)
    dsimp only
    obtain ⟨mm, em⟩ := Int.eq_ofNat_of_zero_le (show (0 : Int) ≤ 1 + n2 % b by omega)
    have em : 1 + n2 % b = (mm : Int) := em
    rw [em]
    have lmm : mm ≤ 40 := by omega
    refine ⟨_, rfl, _, rfl, _, rfl, p, _, 1, .int n1, rfl, rfl, s2.seq S1, h1, ?_⟩
    refine ⟨_, rfl, 4, rfl, _, rfl, _, _, rfl, rfl, _, rfl, p, _, rfl, s2.seq S1, fun b2 hb2 => ?_⟩
    have ecut : cutV (ns.map V.int) (some 4) (some (4 + (mm : Int))) = ((ns.drop 4).take mm).map V.int := by
      have := cut_mid (ns.map V.int) 4 mm (by rw [List.length_map]; omega)
      rw [List.map_take, List.map_drop]
      exact this
    rw [ecut]
    have lcu : ((ns.drop 4).take mm).length ≤ 40 := by
      rw [List.length_take]
      omega
    generalize (ns.drop 4).take mm = cu at lcu
    have s3 := same_new hb2 (HO.lst (cu.map V.int))
    have sB := s2.trans s3
    have e2 : upd (upd H1 pl (HO.lst [V.int 8, V.int 40])) b2 (HO.lst (cu.map V.int)) b2 = some (.lst (cu.map V.int)) := upd_same
    revert sB e2
    generalize upd (upd H1 pl (HO.lst [V.int 8, V.int 40])) b2 (HO.lst (cu.map V.int)) = H2
    intro sB e2
    refine ⟨b2, rfl, ⟨_, SqL.of e2⟩, fun p5 hp5 => ?_⟩
    refine comp_seq (K := K) (tu := false) (a := b2) (xs := cu.map V.int) (fun j zs H5 => Same H2 H5 ∧ H5 p5 = some (.lst zs) ∧ ∃ ms : List Int, zs = ms.map V.int ∧ ms.length = j) ⟨same_new hp5 _, upd_same, [], rfl, rfl⟩ (fun j zs H5 _ h5 => Sq.of (tu := false) (h5.1 _ _ e2)) ?_ ?_
    · rintro j x zs H5 hx ⟨s5, e5, ms, rfl, lm⟩
      have hj : j < cu.length := by
        have := (List.getElem?_eq_some_iff.mp hx).1
        rwa [List.length_map] at this
      rw [List.getElem?_map] at hx
      obtain ⟨n, _, rfl⟩ := Option.map_eq_some_iff.mp hx
      exact ttT ⟨_, rfl, _, _, rfl, rfl, (by show (0 : Int) < 1000000; decide), e5, small (by rw [List.length_map]; omega), same_over s5 hp5 _, upd_same, ms ++ [n % 1000000], by rw [List.map_append]; rfl, by simp [lm]⟩
    rintro zs H5 ⟨s5, e5, ms, rfl, lm⟩
    rw [List.length_map] at lm
    have sC := s1.trans (sB.trans s5)
    exact ⟨st, fl, d, p5, N, wh, n1, ms, hw, rfl, e5, by omega, ⟨_, _, _, g.mono sC⟩, nd, hN, fun H6 N' kf gd le => ⟨_, rfl, q H6 N' wh hw ((Same.kf sC).trans kf) gd le⟩⟩
  · refine ⟨_, rfl, _, _, rfl, rfl, _, rfl, ite2 (fun c2 => ?_) (fun c2 => ?_)⟩
    · exact ⟨_, rfl, _, rfl, _, rfl, p, _, 1, .int n1, rfl, rfl, S1, h1, st, fl, d, N, ⟨wh, n1, hw, rfl⟩, ⟨_, _, _, g1⟩, nd, hN, fun H2 N' kf gd le => ⟨_, rfl, q H2 N' wh hw ((Same.kf s1).trans kf) gd le⟩⟩
    · exact ⟨_, rfl, _, rfl, _, rfl, p, _, 1, .int n1, rfl, rfl, S1, h1, st, fl, d, N, ⟨wh, n1, hw, rfl⟩, ⟨_, _, _, g1⟩, nd, hN, fun H2 N' kf gd le => ⟨_, rfl, q H2 N' wh hw ((Same.kf s1).trans kf) gd le⟩⟩
end
end K15
set_option maxHeartbeats 4000000
namespace K15
open PySem L2
theorem eqVs_ints : ∀ ms : List Int, eqVs (ms.map V.int) (ms.map V.int) = true
  | [] => rfl
  | m :: ms => by
    show (eqV (.int m) (.int m) && eqVs (ms.map V.int) (ms.map V.int)) = true
    rw [eqVs_ints ms]
    simp [eqV]
theorem flat_ints (ms : List Int) : (ms.map V.int).all flatV = true := by
  rw [List.all_map]
  exact List.all_eq_true.mpr fun _ _ => rfl
theorem row_keep {tu : Bool} {H H' : Hp} {a : Addr} {rs : List S4} (h : RowAt tu H a rs) (k : KeepD H H') : RowAt tu H' a rs := by
  obtain ⟨ys, e, t⟩ := h
  exact ⟨ys, k _ _ (fun _ z => by cases tu <;> cases z) e, t.keep fun q u e => k _ _ (fun _ z => by cases z) e⟩
theorem pc_keep {H H' : Hp} {d : Addr} {pc : Int → List Int} {rs : List S4} (h : PcAt H d pc rs) (k : KeepD H H') : PcAt H' d pc rs := by
  obtain ⟨kvs, e, z⟩ := h
  refine ⟨kvs, k _ _ (fun _ z => by cases z) e, fun r hr => ?_⟩
  obtain ⟨q, tu, h1, h2, h3⟩ := z r hr
  exact ⟨q, tu, h1, k _ _ (fun _ z => by cases tu <;> cases z) h2, h3⟩
theorem rowO_map (rs : List S4) (n : Int) : rowO (rs.map some) n = isRowP rs n := by
  unfold rowO
  rw [allS_map]
def plcs : List Src → List Int
  | [] => []
  | none :: t => plcs t
  | some (p, _) :: t => p :: plcs t
theorem plcs_app : ∀ (a b : List Src), plcs (a ++ b) = plcs a ++ plcs b
  | [], b => rfl
  | none :: t, b => plcs_app t b
  | some (p, s) :: t, b => by
    show p :: plcs (t ++ b) = p :: plcs t ++ plcs b
    rw [plcs_app t b]
    rfl
theorem mem_plcs {p : Int} : ∀ {os : List Src}, p ∈ plcs os ↔ ∃ s, some (p, s) ∈ os
  | [] => by simp [plcs]
  | none :: t => by
    show p ∈ plcs t ↔ _
    rw [mem_plcs (os := t)]
    constructor
    · rintro ⟨s, h⟩
      exact ⟨s, List.mem_cons_of_mem _ h⟩
    · rintro ⟨s, h⟩
      cases h with
      | tail _ h => exact ⟨s, h⟩
  | some (p', s') :: t => by
    show p ∈ p' :: plcs t ↔ _
    rw [List.mem_cons, mem_plcs (os := t)]
    constructor
    · rintro (rfl | ⟨s, h⟩)
      · exact ⟨s', List.mem_cons_self ..⟩
      · exact ⟨s, List.mem_cons_of_mem _ h⟩
    · rintro ⟨s, h⟩
      cases h with
      | head => exact .inl rfl
      | tail _ h => exact .inr ⟨s, h⟩
theorem plcs_len : ∀ os : List Src, (plcs os).length ≤ os.length
  | [] => Nat.le_refl _
  | none :: t => by
    have := plcs_len t
    show (plcs t).length ≤ t.length + 1
    omega
  | some (p, s) :: t => by
    have := plcs_len t
    show (plcs t).length + 1 ≤ t.length + 1
    omega
section
variable {P : Program} {w : World} {K : PySem.W.Frag} {mg : Str → Option Value} {base : Heap} {f fIsr fCof fGap fHol fPla : Addr} {fd dIsr dCof dGap dHol dPla : FuncData}
def spRig (PP PR : Addr) : Sp := fun vs H Q _ => ∃ (st fl d : Addr) (N wh : Nat), wh < 2 ∧ vs = [.ref st, .int (wh : Int)] ∧ GdN H st fl d PP N ∧ N ≤ 598 ∧ TabS H PR posR lamR.qual ∧ ∀ H', SxP PR H H' → TabS H' PR posR lamR.qual → Q (.bl true) H'
theorem scRig : FnScope ["_law_state", "_law_which", "_law_size", "_law_row", "_law_model", "_law_pieces", "_law_due"] ["_law_state", "_law_which"] (defScope sRig) := ⟨rfl, rfl, rfl, by decide +kernel, rfl, by decide +kernel, by decide +kernel⟩
theorem ok_Rig {cc PP PR : Addr} (F : Fun K "_law_right" "_law_right" sRig f fd) (hcode : fd.code = .ref cc) (C : PySem.W.CodeHd base cc PR) (B : BltIn base mg)
    (hIsr : Has K mg "is_row" sIsr ["thing", "size"] fIsr dIsr) (GIsr : FnOk P w K mg base CX0 5 fIsr dIsr ["thing", "size"] spIsr)
    (hCof : Has K mg "cells_of" sCof ["row", "size", "fetch"] fCof dCof) (GCof : FnOk P w K mg base CX0 2 fCof dCof ["row", "size", "fetch"] spCof)
    (hGap : Has K mg "gaps" sGap ["row", "size"] fGap dGap) (GGap : FnOk P w K mg base CX0 2 fGap dGap ["row", "size"] spGap)
    (hHol : Has K mg "_law_holes" sHol ["_law_model"] fHol dHol) (GHol : FnOk P w K mg base CX0 1 fHol dHol ["_law_model"] spHol)
    (hPla : Has K mg "places_in" sPla ["row"] fPla dPla) (GPla : FnOk P w K mg base CX0 1 fPla dPla ["row"] spPla) (T : Txt mg) : FnOk P w K mg base CX0 6 f fd ["_law_state", "_law_which"] (spRig PP PR) := by
  refine okC F scRig (fun vs H Q E h => ?_) (fun cdv A outer s H vs Q E hcd' hr h => ?_)
  · obtain ⟨st, fl, d, N, wh, _, rfl, _⟩ := h
    rfl
  have hcd : cdv = .ref cc := hcd'.trans hcode
  subst hcd
  obtain ⟨st, fl, d, N, wh, hw, rfl, ⟨pc, t, FF, g⟩, hN, tR, q⟩ := h
  have hu := hu_of hr
  have hcd : (cxOf CX0 P w K mg base ["_law_state", "_law_which", "_law_size", "_law_row", "_law_model", "_law_pieces", "_law_due"] "_law_right" (defScope sRig) f (.ref cc) A outer s H E).nox.env.code = .ref cc := rfl
  refine ⟨_, (pss_cons (ps_asg (pe_ix ix_list (pe_dget hu (pv 0) pe_str (fun _ _ => rfl)) (pv 1) (fun _ _ => rfl)) (pg_tup rfl (pgs_cons (pg_name (i := 2) scRig.nd rfl (Or.inl rfl)) (pgs_cons (pg_name (i := 3) scRig.nd rfl (Or.inl rfl)) (pgs_cons (pg_name (i := 4) scRig.nd rfl (Or.inl rfl)) pgs_nil)))))
    (pss_cons (ps_set (i := 5) scRig.nd rfl (Or.inr rfl) (pe_dget hu (pv 0) pe_str (fun _ _ => rfl)))
    (pss_cons (ps_if (PW.pt (pw_or (pt_cmpR op_ne (pe_callB call_len_seq rfl T.len PySem.boot_len (pa_cons (pv 4) pa_nil)) (pv 2) (nomark _)) (pw_or1 (pt_not (pt_val (pe_call GIsr (hr.mono (by decide)) rfl hIsr.nm hIsr.fn.kp hIsr.bd .nil pass0 (pa_cons (pe_callTy call_tuple_of rfl T.tup PyProof.Rows.boot_tuple (pa_cons (pv 3) pa_nil)) (pa_cons (pv 2) pa_nil))))))))
    (pss_one (ps_ret pe_bl))
    pss_nil)
    (pss_cons (ps_setC1 (i := 6) scRig.nd rfl rfl [5] ["_law_pieces"] (pi_list (pv 4)) (fun _ _ _ _ _ _ => pts_nil)
          (fun _ _ _ _ _ _ => (pe_ifExp (pt_cmpR op_isN (pv 0) pe_non (nomark _)) pe_int (pe_ix (ix_tupK (K := K) rfl) (pe_dget hu (pv 1) (pe_ix (ix_tupK (K := K) rfl) (pv 0) pe_int (fun _ _ => rfl)) (fun _ _ => rfl)) (pe_ix (ix_tupK (K := K) rfl) (pv 0) pe_int (fun _ _ => rfl)) (fun _ _ => rfl))))
          rfl (by decide +kernel) (by decide +kernel) rfl (by decide +kernel) (fun j y hj => by
            match j, hj with
            | 0, hj => cases hj; exact ⟨5, rfl, rfl, rfl, .inl rfl⟩) rfl (by decide +kernel) rfl)
    (pss_cons (ps_if (PW.pt (pw_or (pt_cmpR (op_neL (hu_of hr |> Nat.lt_of_succ_lt)) (pe_callC (y := "_law_pieces") (i := 5) GCof (hr.mono (by decide)) rfl hCof.nm hCof.fn.kp hCof.bd (pa_cons (pv 3) (pa_cons (pv 2) (pa_cons (pe_lamC lamR hcd C B rfl rfl rfl) pa_nil))) rfl rfl rfl rfl (by first | exact Or.inl rfl | exact Or.inr (Or.inl rfl) | exact Or.inr (Or.inr rfl))) (pv 6) (nomark _)) (pw_or1 (pt_cmpR (op_neD (hu40 hr)) (pe_call GGap (hr.mono (by decide)) rfl hGap.nm hGap.fn.kp hGap.bd .nil pass0 (pa_cons (pv 3) (pa_cons (pv 2) pa_nil))) (pe_call GHol (hr.mono (by decide)) rfl hHol.nm hHol.fn.kp hHol.bd .nil pass0 (pa_cons (pv 4) pa_nil)) (nomark _)))))
    (pss_one (ps_ret pe_bl))
    pss_nil)
    (pss_one (ps_ret (pe_cmpR (op_eqL (hu_of hr |> Nat.lt_of_succ_lt)) (pe_call GPla (hr.mono (by decide)) rfl hPla.nm hPla.fn.kp hPla.bd .nil pass0 (pa_cons (pv 3) pa_nil)) (pe_sset rfl rfl T.srt rfl T.set (pe_comp [] [] (pi_list (pv 4)) (fun _ _ _ _ _ _ => (pts_one (pt_cmpR op_notN (pv 0) pe_non (nomark _))))
          (fun _ _ _ _ _ _ => (pe_ix (ix_tupK (K := K) rfl) (pv 0) pe_int (fun _ _ => rfl)))
          rfl (by decide +kernel) (by decide +kernel) rfl (by decide +kernel) (fun _ _ z => nomatch z) rfl (by decide +kernel) rfl)) (nomark _))))))))), ?_⟩
  obtain ⟨ra, ma, ms, h1, h2, h4, h5⟩ := g.fi wh hw
  have ok := g.ok wh hw
  have lms := h5.len
  have lr := len40 ok
  have hl := ok.len
  have n40 := ok.n40
  have okr := ok.row hN g.ln
  have okh := ok.holes
  have okp := ok.places
  have okv := ok.vals
  have pca := g.pz.pc ok
  generalize FF wh = x at *
  obtain ⟨n, rs, os⟩ := x
  dsimp only at h1 h2 h5 ok lms lr hl n40 okr okh okp okv pca
  refine ⟨_, rfl, st, .ref fl, rfl, .inl ⟨_, .inr "files", .inl g.st, rfl, (valF _ _).symm⟩, _, rfl, fl, _, _, _, rfl, rfl, SqL.of g.fl, at_w hw, ?_⟩
  refine ⟨t wh, _, rfl, SqT.of h1, rfl, _, _, rfl, _, _, rfl, _, _, rfl, rfl, ?_⟩
  refine ⟨_, rfl, st, .ref d, rfl, .inl ⟨_, .inr "pieces", .inl g.st, rfl, (valP _ _).symm⟩, ?_⟩
  refine ⟨_, rfl, ma, _, rfl, .inl (SqL.of h4), _, rfl, rfl, _, rfl, ?_⟩
  have en : decide (V.int (ms.length : Int) = V.int (n : Int)) = true := decide_eq_true (by rw [lms, hl])
  rw [en]
  refine iteF ?_
  obtain ⟨ys, ey, ty⟩ := id h2
  refine ⟨_, rfl, ra, ys, rfl, .inl ⟨SqL.of ey, fun l hl2 => ?_⟩⟩
  have s1 := same_new hl2 (HO.tup ys)
  have lys := row_len ty
  refine ⟨_, rfl, _, (n : Int), rfl, .inl ⟨l, ys, rs.map some, rfl, upd_same, (ty.mono s1).parts, by omega, fun H1 s1' => ?_⟩⟩
  rw [rowO_map, okr]
  refine ⟨_, rfl, iteF ?_⟩
  have sA := s1.trans s1'
  have gA := g.mono sA
  obtain ⟨kvs, edk, _, kk⟩ := id gA.pz
  have h4A := sA _ _ h4
  refine ⟨_, rfl, ma, rfl, ⟨_, SqL.of h4A⟩, fun pd hpd => ?_⟩
  refine comp_seq (K := K) (tu := false) (a := ma) (xs := ms) (fun j us H2 => Same H1 H2 ∧ H2 pd = some (.lst us) ∧ us = ((os.take j).map (valO pc)).map V.int) ⟨same_new hpd _, upd_same, rfl⟩ (fun j us H2 _ h2 => Sq.of (tu := false) (h2.1 _ _ h4A)) ?_ ?_
  · rintro j x us H2 hx ⟨s2, e2, rfl⟩
    have sB := sA.trans s2
    obtain ⟨o, ho, hd⟩ := (h5.keep fun q u e => sB _ _ e).get hx
    have lj : j < os.length := (List.getElem?_eq_some_iff.mp ho).1
    have sm : (((os.take j).map (valO pc)).map V.int).length < sizeLine := by
      rw [List.length_map, List.length_map, List.length_take]
      exact small (by omega)
    have nx : ∀ v, v = valO pc o → ((os.take j).map (valO pc)).map V.int ++ [V.int v] = ((os.take (j + 1)).map (valO pc)).map V.int := fun v e => by
      rw [take_next ho, List.map_append, List.map_append, e]
      rfl
    rcases dec_cases hd with ⟨rfl, rfl⟩ | ⟨q0, p0, k0, rfl, rfl, eq0⟩
    · exact ttT ⟨_, rfl, rfl, _, rfl, iteT ⟨e2, sm, same_over s2 hpd _, upd_same, nx 0 rfl⟩⟩
    · have gz := ok.gs p0 k0 (List.mem_of_getElem? ho)
      obtain ⟨qp, hv, hqp⟩ := kk (p0 - 2).toNat (by omega)
      have e2p : 2 + (((p0 - 2).toNat : Nat) : Int) = p0 := by omega
      rw [e2p] at hv hqp
      obtain ⟨v, ev⟩ : ∃ v, (pc p0)[k0.toNat]? = some v := ⟨_, List.getElem?_eq_getElem (show k0.toNat < (pc p0).length by omega)⟩
      have hat : atI ((pc p0).map V.int) k0 = some (.int v) := by
        have e : k0 = ((k0.toNat : Nat) : Int) := by omega
        rw [e]
        exact atI_nat (by rw [List.getElem?_map, ev]; rfl)
      have e0 : v = valO pc (some (p0, k0)) := by
        show v = (pc p0).getD k0.toNat 0
        rw [List.getD_eq_getElem?_getD, ev]
        rfl
      exact ttT ⟨_, rfl, rfl, _, rfl, iteF ⟨_, rfl, _, rfl, q0, _, 0, _, rfl, rfl, SqT.of eq0, rfl, d, .ref qp, rfl, .inl ⟨kvs, .inl p0, .inl (s2 _ _ edk), rfl, hv.symm⟩, _, rfl, q0, _, 1, _, rfl, rfl, SqT.of eq0, rfl, qp, _, k0, .int v, rfl, rfl, SqT.of (s2 _ _ hqp), hat, e2, sm, same_over s2 hpd _, upd_same, nx v e0⟩⟩
  rintro us H2 ⟨s2, e2, rfl⟩
  rw [lms, List.take_length] at e2
  have sB := sA.trans s2
  have tR2 := tabKeep tR fun b φ e => sB _ _ e
  obtain ⟨psR, eR, _⟩ := id tR2
  refine ⟨_, rfl, _, rfl, tR2, fun gL c' pm' ctv H4 sx4 tR4 ot hg hg' hc' => ⟨d, rfl, fun oc hcc dc => ?_⟩⟩
  have k4 := SxP.keepD sx4 eR
  have uc := fun o => same_new hcc o
  refine ⟨ra, gL, d, false, rs, n, pc, rfl, (row_keep (h2.mono sB) k4).mono (uc _), by omega, by omega, GetsOf.mk okR hcc hg' hc' dc, (pc_keep (pca.mono sB) k4).mono (uc _), fun p8 H8 s8 hp8 e8 => ⟨s8 _ _ upd_same, ?_⟩⟩
  have pc0 : p8 ≠ s.heap.objs.size + 1 := fun z => by
    rw [z] at hp8
    rw [upd_same] at hp8
    cases hp8
  have s9 := same_del hcc s8
  have e9 : del H8 (s.heap.objs.size + 1) p8 = some (.lst ((os.map (valO pc)).map V.int)) := by
    rw [del_ne pc0, e8, okv]
  revert s9 e9
  generalize del H8 (s.heap.objs.size + 1) = H9
  intro s9 e9
  have k9 : KeepD H H9 := fun b o n e => s9 _ _ (k4 _ _ n (sB _ _ e))
  have due9 : H9 pd = some (.lst ((os.map (valO pc)).map V.int)) := s9 _ _ (k4 _ _ (fun _ z => by cases z) e2)
  have sx9 : SxP PR H H9 := (sB.sxP.trans sx4).trans s9.sxP
  have tR9 := tabKeep tR4 fun b φ e => s9 _ _ e
  have h29 := row_keep h2 k9
  have h49 := k9 _ _ (fun _ z => by cases z) h4
  have h59 := h5.keep fun q u e => k9 _ _ (fun _ z => by cases z) e
  refine ⟨_, rfl, p8, pd, _, _, rfl, rfl, SqL.of e9, SqL.of due9, flat_ints _, flat_ints _, _, rfl, ?_⟩
  rw [eqVs_ints]
  refine iteF ?_
  refine ⟨_, rfl, _, rfl, ra, false, rs, (n : Int), rfl, h29, by omega, fun pg H10 s10 hpg GA => ?_⟩
  refine ⟨_, rfl, ma, ms, os, rfl, s10 _ _ h49, h59.keep (fun q u e => s10 _ _ e), by omega, fun ph H11 s11 hph GB => ?_⟩
  obtain ⟨ga, ea, ta⟩ := GA
  obtain ⟨gb, eb, tb⟩ := GB
  rw [okh] at ta
  rw [hl] at tb
  refine ⟨1, TupsAt.eqvS (s11 _ _ ea) eb (ta.mono s11) tb (tp_flat _), by decide, _, rfl, iteF ?_⟩
  have s12 := s10.trans s11
  refine ⟨_, rfl, ra, false, rs, rfl, h29.mono s12, by omega, fun pp H12 mp s13 hpp e12 w12 m12 => ?_⟩
  have sC := s12.trans s13
  have h4C := sC _ _ h49
  refine ⟨_, rfl, ma, rfl, ⟨_, SqL.of h4C⟩, fun pu hpu => ?_⟩
  refine comp_seq (K := K) (tu := false) (a := ma) (xs := ms) (fun j us H2 => Same H12 H2 ∧ H2 pu = some (.lst us) ∧ us = (plcs (os.take j)).map V.int) ⟨same_new hpu _, upd_same, rfl⟩ (fun j us H2 _ h2 => Sq.of (tu := false) (h2.1 _ _ h4C)) ?_ ?_
  · rintro j x us H13 hx ⟨s14, e14, rfl⟩
    have sD := sC.trans s14
    obtain ⟨o, ho, hd⟩ := (h59.keep fun q u e => sD _ _ e).get hx
    have lj : j < os.length := (List.getElem?_eq_some_iff.mp ho).1
    have sm : ((plcs (os.take j)).map V.int).length < sizeLine := by
      have := plcs_len (os.take j)
      rw [List.length_take] at this
      rw [List.length_map]
      exact small (by omega)
    rcases dec_cases hd with ⟨rfl, rfl⟩ | ⟨q0, p0, k0, rfl, rfl, eq0⟩
    · refine ⟨_, rfl, rfl, _, rfl, iteF ⟨s14, e14, ?_⟩⟩
      rw [take_next ho, plcs_app]
      show _ = (plcs (os.take j) ++ []).map V.int
      rw [List.append_nil]
    · refine ⟨_, rfl, rfl, _, rfl, iteT ⟨_, rfl, q0, _, 0, .int p0, rfl, rfl, SqT.of eq0, rfl, e14, sm, same_over s14 hpu _, upd_same, ?_⟩⟩
      rw [take_next ho, plcs_app, List.map_append]
      rfl
  rintro us H13 ⟨s14, e14, rfl⟩
  rw [lms, List.take_length] at e14
  have lp := plcs_len os
  refine ⟨pu, _, rfl, SqL.of e14, by omega, fun l mq w2 m2 hl3 => ?_⟩
  have s15 := same_new hl3 (HO.lst (mq.map V.int))
  have emp : mp = mq := rise_eq w12 w2 fun k => by
    rw [m12, m2, okp, mem_plcs]
  subst emp
  refine ⟨pp, l, _, _, rfl, rfl, SqL.of (s15 _ _ (s14 _ _ e12)), SqL.of upd_same, flat_ints _, flat_ints _, ?_⟩
  have e20 := eqVs_ints mp
  show Q (.bl (eqVs (mp.map V.int) (mp.map V.int))) _
  rw [e20]
  have sE := sC.trans (s14.trans s15)
  exact q _ (sx9.trans sE.sxP) (tabKeep tR9 fun b φ e => sE _ _ e)
end
end K15
set_option maxHeartbeats 400000
namespace K15
open PySem L2
theorem pe_disp2 {X : Cx} {pos : Pos} {e k1 v1 k2 v2 : Expr} {t1 u1 t2 u2 : TE} (he : e = .Dict [some k1, some k2] [v1, v2] pos) (a1 : PE X k1 t1) (b1 : PE X v1 u1) (a2 : PE X k2 t2) (b2 : PE X v2 u2) :
    PE X e (tDisp [(t1, u1), (t2, u2)]) := by
  have h : PPs X pos [some k1, some k2] [v1, v2] [(t1, u1), (t2, u2)] := (pps_cons a1 b1 (pps_cons a2 b2 pps_nil))
  rw [he]
  exact pe_disp h rfl rfl (by simp) (by simp)
theorem FI0 (pc : Int → List Int) (N : Nat) : FI pc N (0, [], []) := by
  refine FI.of rfl (by omega) (show (0 : Int) ≤ 40 by decide) rfl (fun p s h => by cases h) fun k p s => ⟨(fun h => by cases h), fun h => ?_⟩
  unfold src at h
  split at h <;> cases h
theorem merge2 (a b : V) : mergeK [] [((.inr "files" : Key), a), (.inr "pieces", b)] = [((.inr "files" : Key), a), (.inr "pieces", b)] := by
  rw [merge_app (fun p _ => rfl) (by
    show ([Sum.inr (Str.ofString "files"), Sum.inr (Str.ofString "pieces")] : List Key).Nodup
    decide +kernel)]
  rfl
theorem GdN.sx {H H' : Hp} {st fl d PP PR : Addr} {N : Nat} {pos : Pos} {qq : Str} (g : GdN H st fl d PP N) (tR : TabS H PR pos qq) (n : PR ≠ PP) (s : SxP PR H H') : GdN H' st fl d PP N := by
  obtain ⟨pc, t, F, g⟩ := g
  obtain ⟨ps, e, _⟩ := tR
  exact ⟨pc, t, F, g.keep (SxP.keepD s e) (tabOther g.tb e (Ne.symm n) fun b φ nb e => s _ _ nb e)⟩
theorem tab_kf {H H' : Hp} {st fl d PP PR : Addr} {N : Nat} {pos : Pos} {qq : Str} (g : GdN H st fl d PP N) (tR : TabS H PR pos qq) (n : PR ≠ PP) (k : Kf fl d PP H H') : TabS H' PR pos qq := by
  obtain ⟨pc, t, F, g⟩ := g
  obtain ⟨ps, e, _⟩ := id g.tb
  obtain ⟨kvs, ed, _⟩ := g.pz
  exact tabOther tR e n fun b φ nb e2 => k _ _ (fun z => by rw [z, g.fl] at e2; cases e2) (fun z => by rw [z, ed] at e2; cases e2) nb e2
theorem lst_kf {H H' : Hp} {st fl d PP a : Addr} {N : Nat} {xs : List V} (g : GdN H st fl d PP N) (nf : a ≠ fl) (e : H a = some (.lst xs)) (k : Kf fl d PP H H') : H' a = some (.lst xs) := by
  obtain ⟨pc, t, F, g⟩ := g
  obtain ⟨ps, eP, _⟩ := id g.tb
  obtain ⟨kvs, ed, _⟩ := g.pz
  exact k _ _ nf (fun z => by rw [z, ed] at e; cases e) (fun z => by rw [z, eP] at e; cases e) e
section
variable {P : Program} {w : World} {K : PySem.W.Frag} {mg : Str → Option Value} {base : Heap} {f fDee fRig : Addr} {fd dDee dRig : FuncData}
def spLaw (PP PR : Addr) (K : PySem.W.Frag) : Sp := fun vs H Q _ => ∃ (a : Addr) (ns : List Int), vs = [.ref a] ∧ SqL K H a (ns.map V.int) ∧ ns.length ≤ 63 ∧ H PP = some (.ext (tabφ PP #[])) ∧ H PR = some (.ext (tabφ PR #[])) ∧ PR ≠ PP ∧ ∀ H' ps ps', H' PP = some (.ext (tabφ PP ps)) → H' PR = some (.ext (tabφ PR ps')) → Q (.bl true) H'
theorem scLaw : FnScope ["_law_script", "_law_state", "_law_cell", "_law_which"] ["_law_script"] (defScope sLaw) := ⟨rfl, rfl, rfl, by decide +kernel, rfl, by decide +kernel, by decide +kernel⟩
theorem ok_law {PP PR : Addr} (F : Fun K "law" "law" sLaw f fd)
    (hDee : Has K mg "_law_deed" sDee ["_law_state", "_law_cell"] fDee dDee) (GDee : FnOk P w K mg base CX0 6 fDee dDee ["_law_state", "_law_cell"] (spDee PP))
    (hRig : Has K mg "_law_right" sRig ["_law_state", "_law_which"] fRig dRig) (GRig : FnOk P w K mg base CX0 6 fRig dRig ["_law_state", "_law_which"] (spRig PP PR)) (T : Txt mg) : FnOk P w K mg base CX0 7 f fd ["_law_script"] (spLaw PP PR K) := by
  refine F.ok scLaw (fun vs H Q E h => ?_) (fun cdv A outer s H vs Q E hr h => ?_)
  · obtain ⟨a, ns, rfl, _⟩ := h
    rfl
  obtain ⟨a, ns, rfl, hS, h63, hPP, hPR, nPR, q⟩ := h
  have hu := hu_of hr
  refine ⟨_, (@pss_cons _ _ _ _ _ (@ps_set _ _ 1 _ _ _ _ scLaw.nd rfl (Or.inl rfl) (@pe_disp2 _ _ _ _ _ _ _ _ _ _ _ rfl pe_str (pe_lst (pa_cons (pe_tup (pa_cons pe_int (pa_cons (pe_lst pa_nil) (pa_cons (pe_lst pa_nil) pa_nil)))) (pa_cons (pe_tup (pa_cons pe_int (pa_cons (pe_lst pa_nil) (pa_cons (pe_lst pa_nil) pa_nil)))) pa_nil))) pe_str pe_dnewK) (by rfl) (.inl rfl))
    (pss_cons (ps_for PassesOwn.never rfl (pi_list (pe_slice sl_list (pv 0) po_none (po_some pe_int))) (pg_name (i := 2) scLaw.nd rfl (Or.inl rfl))
    (pss_cons (ps_set (i := 3) scLaw.nd rfl (Or.inl rfl) (pe_call GDee (hr.mono (by decide)) rfl hDee.nm hDee.fn.kp hDee.bd .nil pass0 (pa_cons (pv 1) (pa_cons (pv 2) pa_nil))))
    (pss_one (ps_if (pt_not (pt_val (pe_call GRig (hr.mono (by decide)) rfl hRig.nm hRig.fn.kp hRig.bd .nil pass0 (pa_cons (pv 1) (pa_cons (pv 3) pa_nil)))))
    (pss_one (ps_ret pe_bl))
    pss_nil))))
    (pss_one (ps_ret (pe_and (pe_call GRig (hr.mono (by decide)) rfl hRig.nm hRig.fn.kp hRig.bd .nil pass0 (pa_cons (pv 1) (pa_cons pe_int pa_nil))) (pe_one (pe_call GRig (hr.mono (by decide)) rfl hRig.nm hRig.fn.kp hRig.bd .nil pass0 (pa_cons (pv 1) (pa_cons pe_int pa_nil))))))))), ?_⟩
  intro st hst
  have u1 := same_new hst (HO.dK [])
  refine ⟨by decide, fun r0 hr0 => ⟨by decide, fun m0 hm0 => ⟨(by show 3 ≤ sizeLine; decide), fun t0 ht0 => ⟨by decide, fun r1 hr1 => ⟨by decide, fun m1 hm1 => ⟨(by show 3 ≤ sizeLine; decide), fun t1 ht1 => ⟨(by show 2 ≤ sizeLine; decide), fun fl hfl => fun d hd => ?_⟩⟩⟩⟩⟩⟩⟩
  have u2 := same_new hr0 (HO.lst [])
  have u3 := same_new hm0 (HO.lst [])
  have u4 := same_new ht0 (HO.tup [V.int 0, V.ref r0, V.ref m0])
  have u5 := same_new hr1 (HO.lst [])
  have u6 := same_new hm1 (HO.lst [])
  have u7 := same_new ht1 (HO.tup [V.int 0, V.ref r1, V.ref m1])
  have u8 := same_new hfl (HO.lst [V.ref t0, V.ref t1])
  have u9 := same_new hd (HO.dK [])
  have v9 := u9
  have v8 := u8.trans v9
  have v7 := u7.trans v8
  have v6 := u6.trans v7
  have v5 := u5.trans v6
  have v4 := u4.trans v5
  have v3 := u3.trans v4
  have v2 := u2.trans v3
  have v1 := u1.trans v2
  have f1 := v2 _ _ (upd_same (H := H) (a := st) (o := HO.dK []))
  have f2 := v3 _ _ (upd_same (a := r0) (o := HO.lst []))
  have f3 := v4 _ _ (upd_same (a := m0) (o := HO.lst []))
  have f4 := v5 _ _ (upd_same (a := t0) (o := HO.tup [V.int 0, V.ref r0, V.ref m0]))
  have f5 := v6 _ _ (upd_same (a := r1) (o := HO.lst []))
  have f6 := v7 _ _ (upd_same (a := m1) (o := HO.lst []))
  have f7 := v8 _ _ (upd_same (a := t1) (o := HO.tup [V.int 0, V.ref r1, V.ref m1]))
  have f8 := v9 _ _ (upd_same (a := fl) (o := HO.lst [V.ref t0, V.ref t1]))
  have nd : d ≠ st := fun z => by
    have := (u2.trans (u3.trans (u4.trans (u5.trans (u6.trans (u7.trans u8)))))) _ _ (upd_same (H := H) (a := st) (o := HO.dK []))
    rw [z, this] at hd
    cases hd
  have f9 := upd_same (H := upd (upd (upd (upd (upd (upd (upd (upd H st (HO.dK [])) r0 (HO.lst [])) m0 (HO.lst [])) t0 (HO.tup [V.int 0, V.ref r0, V.ref m0])) r1 (HO.lst [])) m1 (HO.lst [])) t1 (HO.tup [V.int 0, V.ref r1, V.ref m1])) fl (HO.lst [V.ref t0, V.ref t1])) (a := d) (o := HO.dK [])
  revert v1 f1 f2 f3 f4 f5 f6 f7 f8 f9
  clear u1 u2 u3 u4 u5 u6 u7 u8 u9 v2 v3 v4 v5 v6 v7 v8 v9
  generalize upd (upd (upd (upd (upd (upd (upd (upd (upd H st (HO.dK [])) r0 (HO.lst [])) m0 (HO.lst [])) t0 (HO.tup [V.int 0, V.ref r0, V.ref m0])) r1 (HO.lst [])) m1 (HO.lst [])) t1 (HO.tup [V.int 0, V.ref r1, V.ref m1])) fl (HO.lst [V.ref t0, V.ref t1])) d (HO.dK []) = Hd
  intro v1 f1 f2 f3 f4 f5 f6 f7 f8 f9
  refine ⟨f1, [(.inr "files", .ref fl), (.inr "pieces", .ref d)], rfl, by show 2 ≤ 15; decide, ?_⟩
  rw [merge2]
  have kp : ∀ b o, (∀ kvs, o ≠ HO.dK kvs) → Hd b = some o → upd Hd st (.dK [(.inr "files", .ref fl), (.inr "pieces", .ref d)]) b = some o := fun b o n e => by
    rw [upd_ne (fun z => by rw [z, f1] at e; cases e; exact n _ rfl)]
    exact e
  have s0 : Same H (upd Hd st (.dK [(.inr "files", .ref fl), (.inr "pieces", .ref d)])) := same_over v1 hst _
  have g0 : GdN (upd Hd st (.dK [(.inr "files", .ref fl), (.inr "pieces", .ref d)])) st fl d PP 0 := by
    refine ⟨fun _ => [], fun i => if i = 0 then t0 else t1, fun _ => (0, [], []), upd_same, kp _ _ (fun _ z => by cases z) f8, fun i hi => ?_, fun i hi => FI0 _ _, ⟨[], by rw [upd_ne nd]; exact f9, rfl, fun j hj => absurd hj (by omega)⟩, fun p => by simp, ⟨#[], s0 _ _ hPP, trivial, .inl rfl⟩⟩
    by_cases z : i = 0
    · rw [if_pos z]
      exact ⟨r0, m0, [], kp _ _ (fun _ z => by cases z) f4, ⟨[], kp _ _ (fun _ z => by cases z) f2, trivial⟩, kp _ _ (fun _ z => by cases z) f3, rfl⟩
    · rw [if_neg z]
      exact ⟨r1, m1, [], kp _ _ (fun _ z => by cases z) f7, ⟨[], kp _ _ (fun _ z => by cases z) f5, trivial⟩, kp _ _ (fun _ z => by cases z) f6, rfl⟩
  have tR0 : TabS (upd Hd st (.dK [(.inr "files", .ref fl), (.inr "pieces", .ref d)])) PR posR lamR.qual := ⟨#[], s0 _ _ hPR, trivial, .inl rfl⟩
  have fl0 := kp _ _ (fun _ z => by cases z) f8
  revert s0 g0 tR0 fl0
  clear kp
  generalize upd Hd st (.dK [(.inr "files", .ref fl), (.inr "pieces", .ref d)]) = H0
  intro s0 g0 tR0 fl0
  refine ⟨_, rfl, _, rfl, a, _, rfl, s0.seq hS, fun sl hsl => ?_⟩
  have ecut : cutV (ns.map V.int) none (some 60) = (ns.take 60).map V.int := by
    rw [show (60 : Int) = ((60 : Nat) : Int) from rfl, cut_to, List.map_take]
  rw [ecut]
  have l60 : (ns.take 60).length ≤ 60 := List.length_take_le ..
  generalize ns.take 60 = cs at l60
  have s1 := same_new hsl (HO.lst (cs.map V.int))
  have nsf : sl ≠ fl := fun z => by rw [z, fl0] at hsl; cases hsl
  have es : upd H0 sl (HO.lst (cs.map V.int)) sl = some (.lst (cs.map V.int)) := upd_same
  have g1 : GdN (upd H0 sl (HO.lst (cs.map V.int))) st fl d PP 0 := by
    obtain ⟨pc, t, FF, g⟩ := g0
    exact ⟨pc, t, FF, g.mono s1⟩
  have tR1 := tabKeep tR0 fun b φ e => s1 _ _ e
  refine ⟨sl, rfl, ⟨_, SqL.of es⟩, for_list (K := K) (a := sl) (xs := cs.map V.int) (fun i σ H3 => ∃ (o2 o3 : Option V) (N : Nat), σ = [some (.ref a), some (.ref st), o2, o3] ∧ GdN H3 st fl d PP N ∧ N ≤ 5 * i ∧ i ≤ 60 ∧ TabS H3 PR posR lamR.qual ∧ H3 sl = some (.lst (cs.map V.int))) ⟨none, none, 0, rfl, g1, by omega, by omega, tR1, es⟩ (fun i σ H3 _ h3 => ?_) ?_ ?_⟩
  · obtain ⟨_, _, _, _, _, _, _, _, e3⟩ := h3
    exact SqL.of e3
  · rintro i x σ H3 hx ⟨o2, o3, N, rfl, g3, lN, li, tR3, e3⟩
    have hi : i < cs.length := by
      have := (List.getElem?_eq_some_iff.mp hx).1
      rwa [List.length_map] at this
    rw [List.getElem?_map] at hx
    obtain ⟨cell, _, rfl⟩ := Option.map_eq_some_iff.mp hx
    refine ⟨_, rfl, _, rfl, st, fl, d, N, cell, rfl, g3, nd, by omega, fun H4 N' wh hw kf gd le => ?_⟩
    have tR4 := tab_kf g3 tR3 nPR kf
    have e4 := lst_kf g3 nsf e3 kf
    refine ⟨_, rfl, _, rfl, st, fl, d, N', wh, hw, rfl, gd, by omega, tR4, fun H5 sx tR5 => ⟨_, rfl, iteF ?_⟩⟩
    obtain ⟨psR, eR, _⟩ := id tR4
    exact ⟨_, _, N', rfl, gd.sx tR4 nPR sx, by omega, by omega, tR5, sx _ _ (fun z => by rw [z, eR] at e4; cases e4) e4⟩
  · rintro σ H3 ⟨o2, o3, N, rfl, g3, lN, li, tR3, e3⟩
    refine ⟨_, rfl, st, fl, d, N, 0, by omega, rfl, g3, by omega, tR3, fun H4 sx tR4 => ?_⟩
    have g4 := g3.sx tR3 nPR sx
    refine ⟨true, rfl, iteT ⟨_, rfl, st, fl, d, N, 1, by omega, rfl, g4, by omega, tR4, fun H5 sx5 tR5 => ?_⟩⟩
    obtain ⟨_, _, _, g5⟩ := g4.sx tR4 nPR sx5
    obtain ⟨ps, eP, _⟩ := g5.tb
    obtain ⟨ps', eR, _⟩ := tR5
    exact q H5 ps ps' eP eR
end
end K15
set_option maxHeartbeats 8000000
namespace K15
open PySem L2

theorem all_mk {l : PySem.W.OpenLaw} {w : World} {K : PySem.W.Frag} {h : Heap} {mg : Str → Option Value} {fa fWho fWth fTof fEnd fEip fPts fWo fShi fGoe fJoi fTid fLad fGap fPla fCof fSpl fItp fIst fIsr fStm fPut fSha fCut fDee fHol fRig fLaw : Addr} (X : K.In h) (G : h.Ns mainGlobals mg) (hfa : mg "law" = some (.ref fa))
    {odWho anWho odWth anWth odTof anTof odEnd anEnd odEip anEip odPts anPts odWo anWo odShi anShi odGoe anGoe odJoi anJoi odTid anTid odLad anLad odGap anGap odPla anPla odCof anCof odSpl anSpl odItp anItp odIst anIst odIsr anIsr odStm anStm odPut anPut odSha anSha odCut anCut odDee anDee odHol anHol odRig anRig odLaw anLaw  : Option Addr} {slWho slWth slTof slEnd slEip slPts slWo slShi slGoe slJoi slTid slLad slGap slPla slCof slSpl slItp slIst slIsr slStm slPut slSha slCut slDee slHol slRig slLaw  : Array (Option Value)} {ocWho kVWho dcWho pmWho cdWho ctWho ocWth kVWth dcWth pmWth cdWth ctWth ocTof kVTof dcTof pmTof cdTof ctTof ocEnd kVEnd dcEnd pmEnd cdEnd ctEnd ocEip kVEip dcEip pmEip cdEip ctEip ocPts kVPts dcPts pmPts cdPts ctPts ocWo kVWo dcWo pmWo cdWo ctWo ocShi kVShi dcShi pmShi cdShi ctShi ocGoe kVGoe dcGoe pmGoe cdGoe ctGoe ocJoi kVJoi dcJoi pmJoi cdJoi ctJoi ocTid kVTid dcTid pmTid cdTid ctTid ocLad kVLad dcLad pmLad cdLad ctLad ocGap kVGap dcGap pmGap cdGap ctGap ocPla kVPla dcPla pmPla cdPla ctPla ocCof kVCof dcCof pmCof cdCof ctCof ocSpl kVSpl dcSpl pmSpl cdSpl ctSpl ocItp kVItp dcItp pmItp cdItp ctItp ocIst kVIst dcIst pmIst cdIst ctIst ocIsr kVIsr dcIsr pmIsr cdIsr ctIsr ocStm kVStm dcStm pmStm cdStm ctStm ocPut kVPut dcPut pmPut cdPut ctPut ocSha kVSha dcSha pmSha cdSha ctSha ocCut kVCut dcCut pmCut cdCut ctCut ocDee kVDee dcDee pmDee cdDee ctDee ocHol kVHol dcHol pmHol cdHol ctHol ocRig kVRig dcRig pmRig cdRig ctRig ocLaw kVLaw dcLaw pmLaw cdLaw ctLaw  : Value} {gt0 gt1 gt2 gt3 gt4 gt5 gt6 gt7 : Tok}
   
    (aWho : PySem.W.nsIn K mainGlobals "is_whole" = some (some (.ref fWho)))
    (lWho : K.lookup fWho = some ⟨ocWho, odWho, .func (PySem.W.fnOf "is_whole" "is_whole" (defArgs sWho) (defBody sWho) (defScope sWho) .none kVWho dcWho pmWho anWho cdWho ctWho), slWho⟩)
    (cWho : PySem.W.codeIn K cdWho "is_whole" = true)
    (kWho : PySem.W.keepIn K (.ref fWho) = true)
    (aWth : PySem.W.nsIn K mainGlobals "is_within" = some (some (.ref fWth)))
    (lWth : K.lookup fWth = some ⟨ocWth, odWth, .func (PySem.W.fnOf "is_within" "is_within" (defArgs sWth) (defBody sWth) (defScope sWth) .none kVWth dcWth pmWth anWth cdWth ctWth), slWth⟩)
    (cWth : PySem.W.codeIn K cdWth "is_within" = true)
    (kWth : PySem.W.keepIn K (.ref fWth) = true)
    (aTof : PySem.W.nsIn K mainGlobals "is_tuple_of" = some (some (.ref fTof)))
    (lTof : K.lookup fTof = some ⟨ocTof, odTof, .func (PySem.W.fnOf "is_tuple_of" "is_tuple_of" (defArgs sTof) (defBody sTof) (defScope sTof) .none kVTof dcTof pmTof anTof cdTof ctTof), slTof⟩)
    (cTof : PySem.W.codeIn K cdTof "is_tuple_of" = true)
    (kTof : PySem.W.keepIn K (.ref fTof) = true)
    (aEnd : PySem.W.nsIn K mainGlobals "end_of" = some (some (.ref fEnd)))
    (lEnd : K.lookup fEnd = some ⟨ocEnd, odEnd, .func (PySem.W.fnOf "end_of" "end_of" (defArgs sEnd) (defBody sEnd) (defScope sEnd) .none kVEnd dcEnd pmEnd anEnd cdEnd ctEnd), slEnd⟩)
    (cEnd : PySem.W.codeIn K cdEnd "end_of" = true)
    (kEnd : PySem.W.keepIn K (.ref fEnd) = true)
    (aEip : PySem.W.nsIn K mainGlobals "end_in_piece" = some (some (.ref fEip)))
    (lEip : K.lookup fEip = some ⟨ocEip, odEip, .func (PySem.W.fnOf "end_in_piece" "end_in_piece" (defArgs sEip) (defBody sEip) (defScope sEip) .none kVEip dcEip pmEip anEip cdEip ctEip), slEip⟩)
    (cEip : PySem.W.codeIn K cdEip "end_in_piece" = true)
    (kEip : PySem.W.keepIn K (.ref fEip) = true)
    (aPts : PySem.W.nsIn K mainGlobals "parts" = some (some (.ref fPts)))
    (lPts : K.lookup fPts = some ⟨ocPts, odPts, .func (PySem.W.fnOf "parts" "parts" (defArgs sPts) (defBody sPts) (defScope sPts) .none kVPts dcPts pmPts anPts cdPts ctPts), slPts⟩)
    (cPts : PySem.W.codeIn K cdPts "parts" = true)
    (kPts : PySem.W.keepIn K (.ref fPts) = true)
    (aWo : PySem.W.nsIn K mainGlobals "without" = some (some (.ref fWo)))
    (lWo : K.lookup fWo = some ⟨ocWo, odWo, .func (PySem.W.fnOf "without" "without" (defArgs sWo) (defBody sWo) (defScope sWo) .none kVWo dcWo pmWo anWo cdWo ctWo), slWo⟩)
    (cWo : PySem.W.codeIn K cdWo "without" = true)
    (kWo : PySem.W.keepIn K (.ref fWo) = true)
    (aShi : PySem.W.nsIn K mainGlobals "shifted" = some (some (.ref fShi)))
    (lShi : K.lookup fShi = some ⟨ocShi, odShi, .func (PySem.W.fnOf "shifted" "shifted" (defArgs sShi) (defBody sShi) (defScope sShi) .none kVShi dcShi pmShi anShi cdShi ctShi), slShi⟩)
    (cShi : PySem.W.codeIn K cdShi "shifted" = true)
    (kShi : PySem.W.keepIn K (.ref fShi) = true)
    (aGoe : PySem.W.nsIn K mainGlobals "goes_on" = some (some (.ref fGoe)))
    (lGoe : K.lookup fGoe = some ⟨ocGoe, odGoe, .func (PySem.W.fnOf "goes_on" "goes_on" (defArgs sGoe) (defBody sGoe) (defScope sGoe) .none kVGoe dcGoe pmGoe anGoe cdGoe ctGoe), slGoe⟩)
    (cGoe : PySem.W.codeIn K cdGoe "goes_on" = true)
    (kGoe : PySem.W.keepIn K (.ref fGoe) = true)
    (aJoi : PySem.W.nsIn K mainGlobals "joined" = some (some (.ref fJoi)))
    (lJoi : K.lookup fJoi = some ⟨ocJoi, odJoi, .func (PySem.W.fnOf "joined" "joined" (defArgs sJoi) (defBody sJoi) (defScope sJoi) .none kVJoi dcJoi pmJoi anJoi cdJoi ctJoi), slJoi⟩)
    (cJoi : PySem.W.codeIn K cdJoi "joined" = true)
    (kJoi : PySem.W.keepIn K (.ref fJoi) = true)
    (aTid : PySem.W.nsIn K mainGlobals "tidied" = some (some (.ref fTid)))
    (lTid : K.lookup fTid = some ⟨ocTid, odTid, .func (PySem.W.fnOf "tidied" "tidied" (defArgs sTid) (defBody sTid) (defScope sTid) .none kVTid dcTid pmTid anTid cdTid ctTid), slTid⟩)
    (cTid : PySem.W.codeIn K cdTid "tidied" = true)
    (kTid : PySem.W.keepIn K (.ref fTid) = true)
    (aLad : PySem.W.nsIn K mainGlobals "laid" = some (some (.ref fLad)))
    (lLad : K.lookup fLad = some ⟨ocLad, odLad, .func (PySem.W.fnOf "laid" "laid" (defArgs sLad) (defBody sLad) (defScope sLad) .none kVLad dcLad pmLad anLad cdLad ctLad), slLad⟩)
    (cLad : PySem.W.codeIn K cdLad "laid" = true)
    (kLad : PySem.W.keepIn K (.ref fLad) = true)
    (aGap : PySem.W.nsIn K mainGlobals "gaps" = some (some (.ref fGap)))
    (lGap : K.lookup fGap = some ⟨ocGap, odGap, .func (PySem.W.fnOf "gaps" "gaps" (defArgs sGap) (defBody sGap) (defScope sGap) .none kVGap dcGap pmGap anGap cdGap ctGap), slGap⟩)
    (cGap : PySem.W.codeIn K cdGap "gaps" = true)
    (kGap : PySem.W.keepIn K (.ref fGap) = true)
    (aPla : PySem.W.nsIn K mainGlobals "places_in" = some (some (.ref fPla)))
    (lPla : K.lookup fPla = some ⟨ocPla, odPla, .func (PySem.W.fnOf "places_in" "places_in" (defArgs sPla) (defBody sPla) (defScope sPla) .none kVPla dcPla pmPla anPla cdPla ctPla), slPla⟩)
    (cPla : PySem.W.codeIn K cdPla "places_in" = true)
    (kPla : PySem.W.keepIn K (.ref fPla) = true)
    (aCof : PySem.W.nsIn K mainGlobals "cells_of" = some (some (.ref fCof)))
    (lCof : K.lookup fCof = some ⟨ocCof, odCof, .func (PySem.W.fnOf "cells_of" "cells_of" (defArgs sCof) (defBody sCof) (defScope sCof) .none kVCof dcCof pmCof anCof cdCof ctCof), slCof⟩)
    (cCof : PySem.W.codeIn K cdCof "cells_of" = true)
    (kCof : PySem.W.keepIn K (.ref fCof) = true)
    (aSpl : PySem.W.nsIn K mainGlobals "split_up" = some (some (.ref fSpl)))
    (lSpl : K.lookup fSpl = some ⟨ocSpl, odSpl, .func (PySem.W.fnOf "split_up" "split_up" (defArgs sSpl) (defBody sSpl) (defScope sSpl) .none kVSpl dcSpl pmSpl anSpl cdSpl ctSpl), slSpl⟩)
    (cSpl : PySem.W.codeIn K cdSpl "split_up" = true)
    (kSpl : PySem.W.keepIn K (.ref fSpl) = true)
    (aItp : PySem.W.nsIn K mainGlobals "is_tree_place" = some (some (.ref fItp)))
    (lItp : K.lookup fItp = some ⟨ocItp, odItp, .func (PySem.W.fnOf "is_tree_place" "is_tree_place" (defArgs sItp) (defBody sItp) (defScope sItp) .none kVItp dcItp pmItp anItp cdItp ctItp), slItp⟩)
    (cItp : PySem.W.codeIn K cdItp "is_tree_place" = true)
    (kItp : PySem.W.keepIn K (.ref fItp) = true)
    (aIst : PySem.W.nsIn K mainGlobals "is_stretch" = some (some (.ref fIst)))
    (lIst : K.lookup fIst = some ⟨ocIst, odIst, .func (PySem.W.fnOf "is_stretch" "is_stretch" (defArgs sIst) (defBody sIst) (defScope sIst) .none kVIst dcIst pmIst anIst cdIst ctIst), slIst⟩)
    (cIst : PySem.W.codeIn K cdIst "is_stretch" = true)
    (kIst : PySem.W.keepIn K (.ref fIst) = true)
    (aIsr : PySem.W.nsIn K mainGlobals "is_row" = some (some (.ref fIsr)))
    (lIsr : K.lookup fIsr = some ⟨ocIsr, odIsr, .func (PySem.W.fnOf "is_row" "is_row" (defArgs sIsr) (defBody sIsr) (defScope sIsr) .none kVIsr dcIsr pmIsr anIsr cdIsr ctIsr), slIsr⟩)
    (cIsr : PySem.W.codeIn K cdIsr "is_row" = true)
    (kIsr : PySem.W.keepIn K (.ref fIsr) = true)
    (aStm : PySem.W.nsIn K mainGlobals "_law_stream" = some (some (.ref fStm)))
    (lStm : K.lookup fStm = some ⟨ocStm, odStm, .func (PySem.W.fnOf "_law_stream" "_law_stream" (defArgs sStm) (defBody sStm) (defScope sStm) .none kVStm dcStm pmStm anStm cdStm ctStm), slStm⟩)
    (cStm : PySem.W.codeIn K cdStm "_law_stream" = true)
    (kStm : PySem.W.keepIn K (.ref fStm) = true)
    (aPut : PySem.W.nsIn K mainGlobals "_law_put" = some (some (.ref fPut)))
    (lPut : K.lookup fPut = some ⟨ocPut, odPut, .func (PySem.W.fnOf "_law_put" "_law_put" (defArgs sPut) (defBody sPut) (defScope sPut) .none kVPut dcPut pmPut anPut cdPut ctPut), slPut⟩)
    (cPut : PySem.W.codeIn K cdPut "_law_put" = true)
    (kPut : PySem.W.keepIn K (.ref fPut) = true)
    (aSha : PySem.W.nsIn K mainGlobals "_law_shared" = some (some (.ref fSha)))
    (lSha : K.lookup fSha = some ⟨ocSha, odSha, .func (PySem.W.fnOf "_law_shared" "_law_shared" (defArgs sSha) (defBody sSha) (defScope sSha) .none kVSha dcSha pmSha anSha cdSha ctSha), slSha⟩)
    (cSha : PySem.W.codeIn K cdSha "_law_shared" = true)
    (kSha : PySem.W.keepIn K (.ref fSha) = true)
    (aCut : PySem.W.nsIn K mainGlobals "_law_cut" = some (some (.ref fCut)))
    (lCut : K.lookup fCut = some ⟨ocCut, odCut, .func (PySem.W.fnOf "_law_cut" "_law_cut" (defArgs sCut) (defBody sCut) (defScope sCut) .none kVCut dcCut pmCut anCut cdCut ctCut), slCut⟩)
    (cCut : PySem.W.codeIn K cdCut "_law_cut" = true)
    (kCut : PySem.W.keepIn K (.ref fCut) = true)
    (aDee : PySem.W.nsIn K mainGlobals "_law_deed" = some (some (.ref fDee)))
    (lDee : K.lookup fDee = some ⟨ocDee, odDee, .func (PySem.W.fnOf "_law_deed" "_law_deed" (defArgs sDee) (defBody sDee) (defScope sDee) .none kVDee dcDee pmDee anDee cdDee ctDee), slDee⟩)
    (cDee : PySem.W.codeIn K cdDee "_law_deed" = true)
    (kDee : PySem.W.keepIn K (.ref fDee) = true)
    (aHol : PySem.W.nsIn K mainGlobals "_law_holes" = some (some (.ref fHol)))
    (lHol : K.lookup fHol = some ⟨ocHol, odHol, .func (PySem.W.fnOf "_law_holes" "_law_holes" (defArgs sHol) (defBody sHol) (defScope sHol) .none kVHol dcHol pmHol anHol cdHol ctHol), slHol⟩)
    (cHol : PySem.W.codeIn K cdHol "_law_holes" = true)
    (kHol : PySem.W.keepIn K (.ref fHol) = true)
    (aRig : PySem.W.nsIn K mainGlobals "_law_right" = some (some (.ref fRig)))
    (lRig : K.lookup fRig = some ⟨ocRig, odRig, .func (PySem.W.fnOf "_law_right" "_law_right" (defArgs sRig) (defBody sRig) (defScope sRig) .none kVRig dcRig pmRig anRig cdRig ctRig), slRig⟩)
    (cRig : PySem.W.codeIn K cdRig "_law_right" = true)
    (kRig : PySem.W.keepIn K (.ref fRig) = true)
    (aLaw : PySem.W.nsIn K mainGlobals "law" = some (some (.ref fLaw)))
    (lLaw : K.lookup fLaw = some ⟨ocLaw, odLaw, .func (PySem.W.fnOf "law" "law" (defArgs sLaw) (defBody sLaw) (defScope sLaw) .none kVLaw dcLaw pmLaw anLaw cdLaw ctLaw), slLaw⟩)
    (cLaw : PySem.W.codeIn K cdLaw "law" = true)
    (kLaw : PySem.W.keepIn K (.ref fLaw) = true)
    (z0 : PySem.W.nsIn K mainGlobals "isinstance" = some none)
    (z1 : PySem.W.nsIn K mainGlobals "int" = some none)
    (z2 : PySem.W.nsIn K mainGlobals "bool" = some none)
    (z3 : PySem.W.nsIn K mainGlobals "len" = some none)
    (z4 : PySem.W.nsIn K mainGlobals "range" = some none)
    (z5 : PySem.W.nsIn K mainGlobals "list" = some none)
    (z6 : PySem.W.nsIn K mainGlobals "tuple" = some none)
    (z7 : PySem.W.nsIn K mainGlobals "min" = some none)
    (z8 : PySem.W.nsIn K mainGlobals "max" = some none)
    (z9 : PySem.W.nsIn K mainGlobals "sorted" = some none)
    (z10 : PySem.W.nsIn K mainGlobals "set" = some none)
    (z11 : PySem.W.nsIn K mainGlobals "all" = some none)
    (z12 : PySem.W.nsIn K mainGlobals "zip" = some none)
    (z13 : PySem.W.nsIn K mainGlobals "enumerate" = some none)
    (gl0 : PySem.W.nsIn K mainGlobals "MOST_CELLS" = some (some (.int 40 gt0)))
    (gl1 : PySem.W.nsIn K mainGlobals "PIECE_CELLS" = some (some (.int 8 gt1)))
    (gl2 : PySem.W.nsIn K mainGlobals "FIRST_PLACE" = some (some (.int 2 gt2)))
    (gl3 : PySem.W.nsIn K mainGlobals "LAST_PLACE" = some (some (.int 599 gt3)))
    (gl4 : PySem.W.nsIn K mainGlobals "AT" = some (some (.int 0 gt4)))
    (gl5 : PySem.W.nsIn K mainGlobals "LONG" = some (some (.int 1 gt5)))
    (gl6 : PySem.W.nsIn K mainGlobals "PLACE" = some (some (.int 2 gt6)))
    (gl7 : PySem.W.nsIn K mainGlobals "SKIP" = some (some (.int 3 gt7)))
    (eLad : cdLad = .ref 95) (eRig : cdRig = .ref 186) :
    ∃ fd : FuncData, (∀ (s : Shared) (v : Value), BindsTo s fd ⟨[v], []⟩ [("_law_script", v)]) ∧ ∀ base : Heap, K.In base → base.Ns mainGlobals mg → (∀ t ∈ ([(95, 91), (186, 184)] : List (Addr × Addr)), PySem.W.CodeHd base t.1 t.2) → BltIn base mg → FnOk l.prog w K mg base CX0 7 fa fd ["_law_script"] (spLaw 91 184 K) := by
  have e := hfa.symm.trans (PySem.W.mg_of X G aLaw)
  cases e
  have T : Txt mg := ⟨PySem.W.mg_none_of X G z0, PySem.W.mg_none_of X G z1, PySem.W.mg_none_of X G z2, PySem.W.mg_none_of X G z3, PySem.W.mg_none_of X G z4, PySem.W.mg_none_of X G z5, PySem.W.mg_none_of X G z6, PySem.W.mg_none_of X G z7, PySem.W.mg_none_of X G z8, PySem.W.mg_none_of X G z9, PySem.W.mg_none_of X G z10, PySem.W.mg_none_of X G z11, PySem.W.mg_none_of X G z12, PySem.W.mg_none_of X G z13, ⟨_, PySem.W.mg_of X G gl0⟩, ⟨_, PySem.W.mg_of X G gl1⟩, ⟨_, PySem.W.mg_of X G gl2⟩, ⟨_, PySem.W.mg_of X G gl3⟩, ⟨_, PySem.W.mg_of X G gl4⟩, ⟨_, PySem.W.mg_of X G gl5⟩, ⟨_, PySem.W.mg_of X G gl6⟩, ⟨_, PySem.W.mg_of X G gl7⟩⟩
  have FWho := fun_mk (st := sWho) lWho cWho kWho
  have hWho : Has K mg "is_whole" sWho ["thing"] fWho _ := ⟨FWho, FWho.binds (ps := ["thing"]) fun _ _ _ _ _ _ us hl => match us, hl with | [_], _ => rfl, PySem.W.mg_of X G aWho⟩
  have FWth := fun_mk (st := sWth) lWth cWth kWth
  have hWth : Has K mg "is_within" sWth ["thing", "low", "high"] fWth _ := ⟨FWth, FWth.binds (ps := ["thing", "low", "high"]) fun _ _ _ _ _ _ us hl => match us, hl with | [_, _, _], _ => rfl, PySem.W.mg_of X G aWth⟩
  have FTof := fun_mk (st := sTof) lTof cTof kTof
  have hTof : Has K mg "is_tuple_of" sTof ["thing", "many"] fTof _ := ⟨FTof, FTof.binds (ps := ["thing", "many"]) fun _ _ _ _ _ _ us hl => match us, hl with | [_, _], _ => rfl, PySem.W.mg_of X G aTof⟩
  have FEnd := fun_mk (st := sEnd) lEnd cEnd kEnd
  have hEnd : Has K mg "end_of" sEnd ["stretch"] fEnd _ := ⟨FEnd, FEnd.binds (ps := ["stretch"]) fun _ _ _ _ _ _ us hl => match us, hl with | [_], _ => rfl, PySem.W.mg_of X G aEnd⟩
  have FEip := fun_mk (st := sEip) lEip cEip kEip
  have hEip : Has K mg "end_in_piece" sEip ["stretch"] fEip _ := ⟨FEip, FEip.binds (ps := ["stretch"]) fun _ _ _ _ _ _ us hl => match us, hl with | [_], _ => rfl, PySem.W.mg_of X G aEip⟩
  have FPts := fun_mk (st := sPts) lPts cPts kPts
  have hPts : Has K mg "parts" sPts ["row", "low", "high"] fPts _ := ⟨FPts, FPts.binds (ps := ["row", "low", "high"]) fun _ _ _ _ _ _ us hl => match us, hl with | [_, _, _], _ => rfl, PySem.W.mg_of X G aPts⟩
  have FWo := fun_mk (st := sWo) lWo cWo kWo
  have hWo : Has K mg "without" sWo ["row", "low", "high"] fWo _ := ⟨FWo, FWo.binds (ps := ["row", "low", "high"]) fun _ _ _ _ _ _ us hl => match us, hl with | [_, _, _], _ => rfl, PySem.W.mg_of X G aWo⟩
  have FShi := fun_mk (st := sShi) lShi cShi kShi
  have hShi : Has K mg "shifted" sShi ["row", "by"] fShi _ := ⟨FShi, FShi.binds (ps := ["row", "by"]) fun _ _ _ _ _ _ us hl => match us, hl with | [_, _], _ => rfl, PySem.W.mg_of X G aShi⟩
  have FGoe := fun_mk (st := sGoe) lGoe cGoe kGoe
  have hGoe : Has K mg "goes_on" sGoe ["ahead", "stretch"] fGoe _ := ⟨FGoe, FGoe.binds (ps := ["ahead", "stretch"]) fun _ _ _ _ _ _ us hl => match us, hl with | [_, _], _ => rfl, PySem.W.mg_of X G aGoe⟩
  have FJoi := fun_mk (st := sJoi) lJoi cJoi kJoi
  have hJoi : Has K mg "joined" sJoi ["ahead", "stretch"] fJoi _ := ⟨FJoi, FJoi.binds (ps := ["ahead", "stretch"]) fun _ _ _ _ _ _ us hl => match us, hl with | [_, _], _ => rfl, PySem.W.mg_of X G aJoi⟩
  have FTid := fun_mk (st := sTid) lTid cTid kTid
  have hTid : Has K mg "tidied" sTid ["row"] fTid _ := ⟨FTid, FTid.binds (ps := ["row"]) fun _ _ _ _ _ _ us hl => match us, hl with | [_], _ => rfl, PySem.W.mg_of X G aTid⟩
  have FLad := fun_mk (st := sLad) lLad cLad kLad
  have hLad : Has K mg "laid" sLad ["row", "low", "high", "new"] fLad _ := ⟨FLad, FLad.binds (ps := ["row", "low", "high", "new"]) fun _ _ _ _ _ _ us hl => match us, hl with | [_, _, _, _], _ => rfl, PySem.W.mg_of X G aLad⟩
  have FGap := fun_mk (st := sGap) lGap cGap kGap
  have hGap : Has K mg "gaps" sGap ["row", "size"] fGap _ := ⟨FGap, FGap.binds (ps := ["row", "size"]) fun _ _ _ _ _ _ us hl => match us, hl with | [_, _], _ => rfl, PySem.W.mg_of X G aGap⟩
  have FPla := fun_mk (st := sPla) lPla cPla kPla
  have hPla : Has K mg "places_in" sPla ["row"] fPla _ := ⟨FPla, FPla.binds (ps := ["row"]) fun _ _ _ _ _ _ us hl => match us, hl with | [_], _ => rfl, PySem.W.mg_of X G aPla⟩
  have FCof := fun_mk (st := sCof) lCof cCof kCof
  have hCof : Has K mg "cells_of" sCof ["row", "size", "fetch"] fCof _ := ⟨FCof, FCof.binds (ps := ["row", "size", "fetch"]) fun _ _ _ _ _ _ us hl => match us, hl with | [_, _, _], _ => rfl, PySem.W.mg_of X G aCof⟩
  have FSpl := fun_mk (st := sSpl) lSpl cSpl kSpl
  have hSpl : Has K mg "split_up" sSpl ["at", "cells"] fSpl _ := ⟨FSpl, FSpl.binds (ps := ["at", "cells"]) fun _ _ _ _ _ _ us hl => match us, hl with | [_, _], _ => rfl, PySem.W.mg_of X G aSpl⟩
  have FItp := fun_mk (st := sItp) lItp cItp kItp
  have hItp : Has K mg "is_tree_place" sItp ["thing"] fItp _ := ⟨FItp, FItp.binds (ps := ["thing"]) fun _ _ _ _ _ _ us hl => match us, hl with | [_], _ => rfl, PySem.W.mg_of X G aItp⟩
  have FIst := fun_mk (st := sIst) lIst cIst kIst
  have hIst : Has K mg "is_stretch" sIst ["thing"] fIst _ := ⟨FIst, FIst.binds (ps := ["thing"]) fun _ _ _ _ _ _ us hl => match us, hl with | [_], _ => rfl, PySem.W.mg_of X G aIst⟩
  have FIsr := fun_mk (st := sIsr) lIsr cIsr kIsr
  have hIsr : Has K mg "is_row" sIsr ["thing", "size"] fIsr _ := ⟨FIsr, FIsr.binds (ps := ["thing", "size"]) fun _ _ _ _ _ _ us hl => match us, hl with | [_, _], _ => rfl, PySem.W.mg_of X G aIsr⟩
  have FStm := fun_mk (st := sStm) lStm cStm kStm
  have hStm : Has K mg "_law_stream" sStm ["_law_cell", "_law_many"] fStm _ := ⟨FStm, FStm.binds (ps := ["_law_cell", "_law_many"]) fun _ _ _ _ _ _ us hl => match us, hl with | [_, _], _ => rfl, PySem.W.mg_of X G aStm⟩
  have FPut := fun_mk (st := sPut) lPut cPut kPut
  have hPut : Has K mg "_law_put" sPut ["_law_state", "_law_which", "_law_number", "_law_cells"] fPut _ := ⟨FPut, FPut.binds (ps := ["_law_state", "_law_which", "_law_number", "_law_cells"]) fun _ _ _ _ _ _ us hl => match us, hl with | [_, _, _, _], _ => rfl, PySem.W.mg_of X G aPut⟩
  have FSha := fun_mk (st := sSha) lSha cSha kSha
  have hSha : Has K mg "_law_shared" sSha ["_law_state", "_law_which", "_law_number"] fSha _ := ⟨FSha, FSha.binds (ps := ["_law_state", "_law_which", "_law_number"]) fun _ _ _ _ _ _ us hl => match us, hl with | [_, _, _], _ => rfl, PySem.W.mg_of X G aSha⟩
  have FCut := fun_mk (st := sCut) lCut cCut kCut
  have hCut : Has K mg "_law_cut" sCut ["_law_state", "_law_which", "_law_number"] fCut _ := ⟨FCut, FCut.binds (ps := ["_law_state", "_law_which", "_law_number"]) fun _ _ _ _ _ _ us hl => match us, hl with | [_, _, _], _ => rfl, PySem.W.mg_of X G aCut⟩
  have FDee := fun_mk (st := sDee) lDee cDee kDee
  have hDee : Has K mg "_law_deed" sDee ["_law_state", "_law_cell"] fDee _ := ⟨FDee, FDee.binds (ps := ["_law_state", "_law_cell"]) fun _ _ _ _ _ _ us hl => match us, hl with | [_, _], _ => rfl, PySem.W.mg_of X G aDee⟩
  have FHol := fun_mk (st := sHol) lHol cHol kHol
  have hHol : Has K mg "_law_holes" sHol ["_law_model"] fHol _ := ⟨FHol, FHol.binds (ps := ["_law_model"]) fun _ _ _ _ _ _ us hl => match us, hl with | [_], _ => rfl, PySem.W.mg_of X G aHol⟩
  have FRig := fun_mk (st := sRig) lRig cRig kRig
  have hRig : Has K mg "_law_right" sRig ["_law_state", "_law_which"] fRig _ := ⟨FRig, FRig.binds (ps := ["_law_state", "_law_which"]) fun _ _ _ _ _ _ us hl => match us, hl with | [_, _], _ => rfl, PySem.W.mg_of X G aRig⟩
  have FLaw := fun_mk (st := sLaw) lLaw cLaw kLaw
  refine ⟨PySem.W.fnOf "law" "law" (defArgs sLaw) (defBody sLaw) (defScope sLaw) .none kVLaw dcLaw pmLaw anLaw cdLaw ctLaw, fun s v => .of_eq rfl, fun base _ _ hC B => ?_⟩
  have GWho : FnOk l.prog w K mg base CX0 1 fWho _ ["thing"] spWho0 := ok_Who FWho T
  have GWth : FnOk l.prog w K mg base CX0 2 fWth _ ["thing", "low", "high"] spWth0 := ok_Wth FWth hWho GWho
  have GTof : FnOk l.prog w K mg base CX0 1 fTof _ ["thing", "many"] spTof := ok_Tof FTof T
  have GEnd : FnOk l.prog w K mg base CX0 1 fEnd _ ["stretch"] spEnd := ok_End FEnd T
  have GEip : FnOk l.prog w K mg base CX0 1 fEip _ ["stretch"] spEip := ok_Eip FEip T
  have GGoe : FnOk l.prog w K mg base CX0 2 fGoe _ ["ahead", "stretch"] spGoe := ok_Goe FGoe hEnd GEnd hEip GEip T
  have GPts : FnOk l.prog w K mg base CX0 1 fPts _ ["row", "low", "high"] spPts := ok_Pts FPts T
  have GWo : FnOk l.prog w K mg base CX0 2 fWo _ ["row", "low", "high"] spWo := ok_Wo FWo hPts GPts T
  have GShi : FnOk l.prog w K mg base CX0 1 fShi _ ["row", "by"] spShi := ok_Shi FShi T
  have GJoi : FnOk l.prog w K mg base CX0 1 fJoi _ ["ahead", "stretch"] spJoi := ok_Joi FJoi T
  have GTid : FnOk l.prog w K mg base CX0 3 fTid _ ["row"] spTid := ok_Tid FTid hGoe GGoe hJoi GJoi T
  have GLad : FnOk l.prog w K mg base CX0 4 fLad _ ["row", "low", "high", "new"] (spLad 91) := ok_Lad FLad eLad (hC _ (List.mem_cons_self ..)) B hWo GWo hTid GTid T
  have GGap : FnOk l.prog w K mg base CX0 2 fGap _ ["row", "size"] spGap := ok_Gap FGap hPts GPts hEnd GEnd T
  have GPla : FnOk l.prog w K mg base CX0 1 fPla _ ["row"] spPla := ok_Pla FPla T
  have GCof : FnOk l.prog w K mg base CX0 2 fCof _ ["row", "size", "fetch"] spCof := ok_Cof FCof hPts GPts T
  have GSpl : FnOk l.prog w K mg base CX0 1 fSpl _ ["at", "cells"] spSpl := ok_Spl FSpl T
  have GItp : FnOk l.prog w K mg base CX0 3 fItp _ ["thing"] spItp := ok_Itp FItp hWth GWth T
  have GIst : FnOk l.prog w K mg base CX0 4 fIst _ ["thing"] spIst := ok_Ist FIst hTof GTof hWho GWho hEnd GEnd hEip GEip hItp GItp T
  have GIsr : FnOk l.prog w K mg base CX0 5 fIsr _ ["thing", "size"] spIsr := ok_Isr FIsr hIst GIst hEnd GEnd hGoe GGoe T
  have GStm : FnOk l.prog w K mg base CX0 1 fStm _ ["_law_cell", "_law_many"] spStm := ok_Stm FStm T
  have GPut : FnOk l.prog w K mg base CX0 5 fPut _ ["_law_state", "_law_which", "_law_number", "_law_cells"] (spPut 91) := ok_Put FPut hSpl GSpl hLad GLad T
  have GSha : FnOk l.prog w K mg base CX0 5 fSha _ ["_law_state", "_law_which", "_law_number"] (spSha 91) := ok_Sha FSha hPts GPts hShi GShi hLad GLad T
  have GCut : FnOk l.prog w K mg base CX0 3 fCut _ ["_law_state", "_law_which", "_law_number"] (spCut 91) := ok_Cut FCut hWo GWo T
  have GDee : FnOk l.prog w K mg base CX0 6 fDee _ ["_law_state", "_law_cell"] (spDee 91) := ok_Dee FDee hStm GStm hPut GPut hSha GSha hCut GCut T
  have GHol : FnOk l.prog w K mg base CX0 1 fHol _ ["_law_model"] spHol := ok_Hol FHol T
  have GRig : FnOk l.prog w K mg base CX0 6 fRig _ ["_law_state", "_law_which"] (spRig 91 184) := ok_Rig FRig eRig (hC _ (List.mem_cons_of_mem _ (List.mem_cons_self ..))) B hIsr GIsr hCof GCof hGap GGap hHol GHol hPla GPla T
  exact ok_law FLaw hDee GDee hRig GRig T
theorem walk {l : PySem.W.OpenLaw} {q : Program} {loose : List Str} {XP : (Str → Option Value) → Heap → Prop} {YP : World → Heap → Prop} {d : DefRec} {K : Params → PySem.W.Frag} (hn : l.most = some 63) (hdf : d.params.defaults = [])
    (hY : ∀ (w : World) (h : Heap), YP w h → (K w.params).In h ∧ PySem.W.TabsAt [(95, 91), (186, 184)] h) (hTK : ∀ (w : World), ∀ t ∈ ([(95, 91), (186, 184)] : List (Addr × Addr)), (K w.params).lookup t.2 = none)
    (F : ∀ (w : World) (mg : Str → Option Value) (fa : Addr) (h : Heap), (K w.params).In h → h.Ns mainGlobals mg → mg d.name = some (.ref fa) →
      ∃ fd : FuncData, (∀ (s : Shared) (u : Value), BindsTo s fd ⟨[u], []⟩ [("_law_script", u)]) ∧ ∀ base : Heap, (K w.params).In base → base.Ns mainGlobals mg → (∀ t ∈ ([(95, 91), (186, 184)] : List (Addr × Addr)), PySem.W.CodeHd base t.1 t.2) → BltIn base mg → FnOk l.prog w (K w.params) mg base CX0 7 fa fd ["_law_script"] (spLaw 91 184 (K w.params))) :
    PySem.W.WalkO q loose XP YP l.row.toRowW d [] (fun f vs => PySem.call f vs) :=
  L2.walk_tab (n := 63) (k := 7) (x := "_law_script") (CX := fun _ => CX0) (sp := fun w => spLaw 91 184 (K w.params)) (tabs := [(95, 91), (186, 184)]) hn (by decide) hdf ⟨fun _ => rfl, by decide, by decide⟩ hY hTK F
    (fun _ _ a ns hl hS hT => ⟨a, ns, rfl, hS, hl, hT _ (List.mem_cons_self ..), hT _ (List.mem_cons_of_mem _ (List.mem_cons_self ..)), by decide, fun _ ps ps' e e' => ⟨rfl, List.forall_mem_cons.mpr ⟨⟨ps, e⟩, List.forall_mem_cons.mpr ⟨⟨ps', e'⟩, fun _ h => nomatch h⟩⟩⟩⟩) fun _ _ _ _ _ z => z
end K15
open PySem PySem.W PyProof.Rows
set_option maxRecDepth 100000 in
set_option maxHeartbeats 0 in
theorem PySem.Challenge.cw_clonewood_k15_whole_life_of_a_file_holds : PySem.Challenge.rw_clonewood_k15_whole_life_of_a_file.Holds := by
  w_on; o_law; k_head; (case hw => w_witness2)
  k_fill
  refine K15.walk (l := PySem.Challenge.rw_clonewood_k15_whole_life_of_a_file) rfl rfl (fun w h Y => ⟨PySem.W.km_in_of Y, List.forall_mem_cons.mpr ⟨⟨PySem.W.codeHd_of_K (c := 95) (P := 91) (PySem.W.km_in_of Y) (by kernel_rfl), PySem.W.km_tabs_of Y 91 (List.mem_cons_of_mem _ (List.mem_cons_self ..))⟩, List.forall_mem_cons.mpr ⟨⟨PySem.W.codeHd_of_K (c := 186) (P := 184) (PySem.W.km_in_of Y) (by kernel_rfl), PySem.W.km_tabs_of Y 184 (List.mem_cons_self ..)⟩, fun _ h => nomatch h⟩⟩⟩) (fun w => List.forall_mem_cons.mpr ⟨by kernel_rfl, List.forall_mem_cons.mpr ⟨by kernel_rfl, fun _ h => nomatch h⟩⟩) ?F
  case F =>
    intro w mg fa h KX G hmg
    refine' K15.all_mk KX G hmg ?aWho ?lWho ?cWho ?kWho ?aWth ?lWth ?cWth ?kWth ?aTof ?lTof ?cTof ?kTof ?aEnd ?lEnd ?cEnd ?kEnd ?aEip ?lEip ?cEip ?kEip ?aPts ?lPts ?cPts ?kPts ?aWo ?lWo ?cWo ?kWo ?aShi ?lShi ?cShi ?kShi ?aGoe ?lGoe ?cGoe ?kGoe ?aJoi ?lJoi ?cJoi ?kJoi ?aTid ?lTid ?cTid ?kTid ?aLad ?lLad ?cLad ?kLad ?aGap ?lGap ?cGap ?kGap ?aPla ?lPla ?cPla ?kPla ?aCof ?lCof ?cCof ?kCof ?aSpl ?lSpl ?cSpl ?kSpl ?aItp ?lItp ?cItp ?kItp ?aIst ?lIst ?cIst ?kIst ?aIsr ?lIsr ?cIsr ?kIsr ?aStm ?lStm ?cStm ?kStm ?aPut ?lPut ?cPut ?kPut ?aSha ?lSha ?cSha ?kSha ?aCut ?lCut ?cCut ?kCut ?aDee ?lDee ?cDee ?kDee ?aHol ?lHol ?cHol ?kHol ?aRig ?lRig ?cRig ?kRig ?aLaw ?lLaw ?cLaw ?kLaw ?z0 ?z1 ?z2 ?z3 ?z4 ?z5 ?z6 ?z7 ?z8 ?z9 ?z10 ?z11 ?z12 ?z13 ?gl0 ?gl1 ?gl2 ?gl3 ?gl4 ?gl5 ?gl6 ?gl7 ?eLad ?eRig
    (case aWho => k_is)
    (case lWho => k_is)
    (case cWho => k_is)
    (case kWho => k_is)
    (case aWth => k_is)
    (case lWth => k_is)
    (case cWth => k_is)
    (case kWth => k_is)
    (case aTof => k_is)
    (case lTof => k_is)
    (case cTof => k_is)
    (case kTof => k_is)
    (case aEnd => k_is)
    (case lEnd => k_is)
    (case cEnd => k_is)
    (case kEnd => k_is)
    (case aEip => k_is)
    (case lEip => k_is)
    (case cEip => k_is)
    (case kEip => k_is)
    (case aPts => k_is)
    (case lPts => k_is)
    (case cPts => k_is)
    (case kPts => k_is)
    (case aWo => k_is)
    (case lWo => k_is)
    (case cWo => k_is)
    (case kWo => k_is)
    (case aShi => k_is)
    (case lShi => k_is)
    (case cShi => k_is)
    (case kShi => k_is)
    (case aGoe => k_is)
    (case lGoe => k_is)
    (case cGoe => k_is)
    (case kGoe => k_is)
    (case aJoi => k_is)
    (case lJoi => k_is)
    (case cJoi => k_is)
    (case kJoi => k_is)
    (case aTid => k_is)
    (case lTid => k_is)
    (case cTid => k_is)
    (case kTid => k_is)
    (case aLad => k_is)
    (case lLad => k_is)
    (case cLad => k_is)
    (case kLad => k_is)
    (case aGap => k_is)
    (case lGap => k_is)
    (case cGap => k_is)
    (case kGap => k_is)
    (case aPla => k_is)
    (case lPla => k_is)
    (case cPla => k_is)
    (case kPla => k_is)
    (case aCof => k_is)
    (case lCof => k_is)
    (case cCof => k_is)
    (case kCof => k_is)
    (case aSpl => k_is)
    (case lSpl => k_is)
    (case cSpl => k_is)
    (case kSpl => k_is)
    (case aItp => k_is)
    (case lItp => k_is)
    (case cItp => k_is)
    (case kItp => k_is)
    (case aIst => k_is)
    (case lIst => k_is)
    (case cIst => k_is)
    (case kIst => k_is)
    (case aIsr => k_is)
    (case lIsr => k_is)
    (case cIsr => k_is)
    (case kIsr => k_is)
    (case aStm => k_is)
    (case lStm => k_is)
    (case cStm => k_is)
    (case kStm => k_is)
    (case aPut => k_is)
    (case lPut => k_is)
    (case cPut => k_is)
    (case kPut => k_is)
    (case aSha => k_is)
    (case lSha => k_is)
    (case cSha => k_is)
    (case kSha => k_is)
    (case aCut => k_is)
    (case lCut => k_is)
    (case cCut => k_is)
    (case kCut => k_is)
    (case aDee => k_is)
    (case lDee => k_is)
    (case cDee => k_is)
    (case kDee => k_is)
    (case aHol => k_is)
    (case lHol => k_is)
    (case cHol => k_is)
    (case kHol => k_is)
    (case aRig => k_is)
    (case lRig => k_is)
    (case cRig => k_is)
    (case kRig => k_is)
    (case aLaw => k_is)
    (case lLaw => k_is)
    (case cLaw => k_is)
    (case kLaw => k_is)
    (case z0 => k_is)
    (case z1 => k_is)
    (case z2 => k_is)
    (case z3 => k_is)
    (case z4 => k_is)
    (case z5 => k_is)
    (case z6 => k_is)
    (case z7 => k_is)
    (case z8 => k_is)
    (case z9 => k_is)
    (case z10 => k_is)
    (case z11 => k_is)
    (case z12 => k_is)
    (case z13 => k_is)
    (case gl0 => k_is)
    (case gl1 => k_is)
    (case gl2 => k_is)
    (case gl3 => k_is)
    (case gl4 => k_is)
    (case gl5 => k_is)
    (case gl6 => k_is)
    (case gl7 => k_is)
    (case eLad => rfl)
    (case eRig => rfl)
#print axioms PySem.Challenge.cw_clonewood_k15_whole_life_of_a_file_holds
