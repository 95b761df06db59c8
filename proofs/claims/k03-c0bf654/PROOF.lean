import PyProof.Rows.All
import Wide.All
import OpenK.AllK
import Wide.FinOn
import Lean
import PyProof.EqAt
import PyProof.EqKinds
import PyProof.NeKinds
import PyProof.TupleCall
import PySem.Challenge.RW_clonewood_k03_a_floor
set_option Elab.async false
set_option linter.all false
set_option maxRecDepth 100000
/-! THE HAND LAYER, for ints, bools, texts, own classes, LISTS and tuples (index, slices, in, append, pop ..), calls, loops. Paste it whole ahead of your own text; what your proof does not reach may be deleted. -/
namespace L2
open PySem PySem.Spec PyProof.Rows

/-- a key: an int or a str -/
abbrev Key := Sum Int Str
def keyIs : Key → Value → Bool
  | .inl k, v => Value.isInt k v
  | .inr x, v => Value.isStrOf x v
def keyH (w : World) : Key → Int
  | .inl k => hashInt k
  | .inr x => hashStr w x
theorem keyIs_shape : ∀ {k : Key} {v : Value}, keyIs k v = true → (∃ i t, k = Sum.inl i ∧ v = Value.int i t) ∨ (∃ x t, k = Sum.inr x ∧ v = Value.str x t)
  | .inl i, v, h => by
    obtain ⟨t, e⟩ := Value.isInt_shape (k := i) (v := v) h
    exact .inl ⟨i, t, rfl, e⟩
  | .inr x, v, h => by
    obtain ⟨t, e⟩ := Value.isStrOf_shape (x := x) (v := v) h
    exact .inr ⟨x, t, rfl, e⟩
theorem keyIs_int (i : Int) (t : Tok) : keyIs (.inl i) (.int i t) = true := by simp [keyIs, Value.isInt]
theorem keyIs_str (x : Str) (t : Tok) : keyIs (.inr x) (.str x t) = true := by simp [keyIs, Value.isStrOf]
theorem key_ll (a b : Int) : decide ((Sum.inl a : Key) = Sum.inl b) = (a == b) := by
  by_cases e : a = b
  · subst e; simp
  · have h : ¬ (Sum.inl a : Key) = Sum.inl b := fun q => e (Sum.inl.inj q)
    rw [decide_eq_false h]
    exact (beq_eq_false_iff_ne.mpr e).symm
theorem key_rr (a b : Str) : decide ((Sum.inr a : Key) = Sum.inr b) = decide (a = b) := by
  by_cases e : a = b
  · subst e; simp
  · have h : ¬ (Sum.inr a : Key) = Sum.inr b := fun q => e (Sum.inr.inj q)
    rw [decide_eq_false h, decide_eq_false e]
theorem key_lr (a : Int) (b : Str) : decide ((Sum.inl a : Key) = Sum.inr b) = false := decide_eq_false (fun q => nomatch q)
theorem key_rl (a : Str) (b : Int) : decide ((Sum.inr a : Key) = Sum.inl b) = false := decide_eq_false (fun q => nomatch q)

def mixKind (prog : Program) (w : World) : PySem.KeyKind prog w Key where
  is := keyIs
  hash := keyH w
  inj := fun v a b ha hb => by
    rcases keyIs_shape ha with ⟨i, t, rfl, rfl⟩ | ⟨x, t, rfl, rfl⟩
    · rcases keyIs_shape hb with ⟨j, u, rfl, e⟩ | ⟨y, u, rfl, e⟩
      · injection e with e1 _; rw [e1]
      · exact nomatch e
    · rcases keyIs_shape hb with ⟨j, u, rfl, e⟩ | ⟨y, u, rfl, e⟩
      · exact nomatch e
      · injection e with e1 _; rw [e1]
  byValue := fun k v h => by
    rcases keyIs_shape h with ⟨i, t, rfl, rfl⟩ | ⟨x, t, rfl, rfl⟩ <;> rfl
  pyHash := fun hv h => by
    rcases keyIs_shape hv with ⟨i, t, rfl, rfl⟩ | ⟨x, t, rfl, rfl⟩
    · exact wpAny_pyHash_int h
    · exact wpAny_pyHash_str h
  eqBool := fun hu hv h => by
    rcases keyIs_shape hu with ⟨i, t, rfl, rfl⟩ | ⟨x, t, rfl, rfl⟩
    · rcases keyIs_shape hv with ⟨j, u, rfl, rfl⟩ | ⟨y, u, rfl, rfl⟩
      · rw [key_ll] at h; exact wpAny_eqBool_int h
      · rw [key_lr] at h; exact SeqAt.EqAt.int_str i t y u _ _ _ _ h
    · rcases keyIs_shape hv with ⟨j, u, rfl, rfl⟩ | ⟨y, u, rfl, rfl⟩
      · rw [key_rl] at h; exact SeqAt.EqAt.str_int x t j u _ _ _ _ h
      · rw [key_rr] at h; exact wpAny_eqBool_str h
  «strs» := fun k x t v h => by
    rcases keyIs_shape h with ⟨i, u, rfl, e⟩ | ⟨y, u, rfl, e⟩
    · exact nomatch e
    · injection e with e1 _
      subst e1
      cases v <;> rfl

theorem mixKind_int (prog : Program) (w : World) (i : Int) (t : Tok) : (mixKind prog w).is (.inl i) (.int i t) = true := keyIs_int i t
theorem mixKind_str (prog : Program) (w : World) (x : Str) (t : Tok) : (mixKind prog w).is (.inr x) (.str x t) = true := keyIs_str x t
end L2

namespace L2
open PySem PySem.Spec PyProof.Rows

/-- a value, without the heap -/
inductive V where
  | non | bl (b : Bool) | int (i : Int) | str (x : Str) | byt (b : Array UInt8) | flt (b : UInt64) | ref (a : Addr) | ty (n : String)
  deriving DecidableEq

def RelV : V → Value → Prop
  | .non, u => u = Value.none
  | .bl b, u => u = Value.bool b
  | .int i, u => ∃ t, u = Value.int i t
  | .str x, u => ∃ t, u = Value.str x t
  | .byt b, u => ∃ t, u = Value.bytes b t
  | .flt b, u => ∃ t, u = Value.float b t
  | .ref a, u => u = Value.ref a
  | .ty n, u => u = Value.type n

abbrev Vals : List V → List Value → Prop := Paired RelV
theorem Vals.length {xs : List V} {us : List Value} (r : Vals xs us) : xs.length = us.length := Paired.length r
theorem Vals.get : ∀ {xs : List V} {us : List Value} {i : Nat} {x : V}, Vals xs us → xs[i]? = some x → ∃ u, us[i]? = some u ∧ RelV x u
  | _, _, _, _, .nil, e => by simp at e
  | _, _, 0, _, .cons r _, e => by simp at e; subst e; exact ⟨_, rfl, r⟩
  | _, _, i + 1, x, .cons _ t, e => by
    obtain ⟨u, h1, h2⟩ := Vals.get (i := i) (x := x) t (by simpa using e)
    exact ⟨u, by simpa using h1, h2⟩
theorem Vals.append : ∀ {xs ys : List V} {us ws : List Value}, Vals xs us → Vals ys ws → Vals (xs ++ ys) (us ++ ws)
  | _, _, _, _, .nil, s => s
  | _, _, _, _, .cons r t, s => .cons r (Vals.append t s)
theorem Vals.take : ∀ {xs : List V} {us : List Value} (n : Nat), Vals xs us → Vals (xs.take n) (us.take n)
  | _, _, 0, _ => .nil
  | _, _, _ + 1, .nil => .nil
  | _, _, n + 1, .cons r t => .cons r (Vals.take n t)
theorem Vals.drop : ∀ {xs : List V} {us : List Value} (n : Nat), Vals xs us → Vals (xs.drop n) (us.drop n)
  | _, _, 0, r => r
  | _, _, _ + 1, .nil => .nil
  | _, _, n + 1, .cons _ t => Vals.drop n t
def RelO : Option V → Option Value → Prop
  | some v, some u => RelV v u
  | none, none => True
  | _, _ => False
def KV {κ : Type} : List (κ × V) → List (κ × Value) → Prop := Paired fun (p : κ × V) (q : κ × Value) => p.1 = q.1 ∧ RelV p.2 q.2

/-- a key of a dict (00_mix): an int or a text -/
def kV : Key → V
  | .inl i => .int i
  | .inr x => .str x

/-- what stands at a tracked address -/
inductive HO where
  /-- a list -/
  | lst (xs : List V)
  /-- a tuple (never changes) -/
  | tup (xs : List V)
  /-- a dict whose keys are ints and texts; one whose keys are tuples of ints and texts (the empty one is both) -/
  | dK (kvs : List (Key × V)) | dT (kvs : List (List Key × V))
  /-- a set of ints: its members, its size -/
  | set (S : Int → Bool) (n : Nat)
  /-- an instance of the class at C, its dict at dx, its attributes -/
  | ins (C dx : Addr) (fs : List (Str × V))
  /-- the dict of the instance at x -/
  | own (x : Addr)
  /-- the dict of an exception -/
  | xd (fs : List (Str × V))
  /-- a bound method, f of x -/
  | met (f x : Addr)
  /-- a range object lo, lo + 1, .. below hi -/
  | rng (lo hi : Int)
  /-- a thing that is known to the object (the script; a dict while a loop walks it): read, never written while it is so -/
  | frz (o : Obj) (u : HO)
  /-- a code object's table -/
  | tbl (ps : Array Value)
  /-- any other thing, by what is true of its one object (a def of one's own: SetO a S n := HO.ext fun h => ..) -/
  | ext (φ : Heap → Prop)

abbrev Hp := Addr → Option HO
def upd (H : Hp) (a : Addr) (o : HO) : Hp := fun b => if b = a then some o else H b
theorem upd_same {H : Hp} {a : Addr} {o : HO} : upd H a o a = some o := by unfold upd; rw [if_pos rfl]
theorem upd_ne {H : Hp} {a b : Addr} {o : HO} (h : b ≠ a) : upd H a o b = H b := by unfold upd; rw [if_neg h]
theorem upd_upd {H : Hp} {a : Addr} {o u : HO} : upd (upd H a o) a u = upd H a u := by
  funext b; unfold upd; split <;> rfl
/-- two objects of different content stand apart -/
theorem ne_of {H : Hp} {a b : Addr} {o u : HO} (h : H a = some o) (h' : H b = some u) (d : o ≠ u) : a ≠ b := by
  intro e; subst e; rw [h] at h'; exact d (Option.some.inj h')
theorem ne_of_none {H : Hp} {a b : Addr} {o : HO} (h : H a = some o) (h' : H b = none) : a ≠ b := by
  intro e; subst e; rw [h] at h'; cases h'

section
variable (P : Program) (w : World)
def ObjOk (H : Hp) (h : Heap) (a : Addr) : HO → Prop
  | .lst xs => xs.length ≤ sizeLine ∧ ∃ (its : List Value) (n : Nat), Vals xs its ∧ h.get? a = some { cls := .type "list", data := .seq its.toArray n }
  | .tup xs => xs.length ≤ sizeLine ∧ ∃ its : List Value, Vals xs its ∧ IsTup h a its.toArray
  | .dK kvs => kvs.length ≤ sizeLine ∧ (a == sysModules) = false ∧ ∃ vs, KV kvs vs ∧ h.DictOf (mixKind P w) a vs
  | .dT kvs => kvs.length ≤ sizeLine ∧ (a == sysModules) = false ∧ ∃ xs : List (List Key × Addr × Value),
      Paired (fun (p : List Key × V) (q : List Key × Addr × Value) => p.1 = q.1 ∧ H q.2.1 = some (.tup (p.1.map kV)) ∧ RelV p.2 q.2.2) kvs xs ∧
      ∃ o es ep, h.get? a = some o ∧ o.ExactDict ∧ o.data = .dict es ep ∧ es.toList = xs.map (entryOfKey (tupleKind (mixKind P w))) ∧ (xs.map (·.1)).Nodup
  | .set S n => h.SetOf (intKind P w) a S n
  | .ins C dx fs => H dx = some (.own a) ∧ fs.length ≤ 1000 ∧ dx ≠ a ∧ h.get? a = some (PySem.W.instObj C dx) ∧
      ∃ mA, h.Ns1 dx mA ∧ (∀ f, RelO (fs.lookup f) (mA f)) ∧ PySem.Within mA (fs.map (·.1))
  | .own _ => ∃ o, h.get? a = some o
  | .xd fs => ∃ mA, h.Ns1 a mA ∧ ∀ f, RelO (fs.lookup f) (mA f)
  | .rng lo hi => ∃ t u v, h.get? a = some { cls := .type "range", data := .fields #[.int lo t, .int hi u, .int 1 v] }
  | .frz o u => h.get? a = some o ∧ ObjOk H h a u
  | .tbl ps => h.get? a = some { cls := .none, data := .fields ps }
  | .met f x => h.get? a = some (PySem.W.methodObj (.ref f) (.ref x))
  | .ext φ => φ h ∧ (∃ o, h.get? a = some o) ∧ ∀ h1 h2 : Heap, φ h1 → (∀ o, h1.get? a = some o → h2.get? a = some o) → φ h2
/-- the abstract heap is held -/
def HOk (H : Hp) (h : Heap) : Prop := ∀ a o, H a = some o → ObjOk P w H h a o
end

section
variable {P : Program} {w : World} {H H' : Hp} {h h' : Heap} {a : Addr} {o : HO}
theorem ObjOk.lt (x : ObjOk P w H h a o) : a < h.objs.size := by
  cases o with
  | lst xs => obtain ⟨_, _, _, _, e⟩ := x; exact Heap.lt_size e
  | tup xs => obtain ⟨_, _, _, p⟩ := x; exact p.lt
  | dK kvs => obtain ⟨_, _, _, _, o, _, _, e, _⟩ := x; exact Heap.lt_size e
  | dT kvs => obtain ⟨_, _, _, _, o, _, _, e, _⟩ := x; exact Heap.lt_size e
  | set S n => obtain ⟨o, _, _, _, e, _⟩ := x; exact Heap.lt_size e
  | ins C dx fs => obtain ⟨_, _, _, e, _⟩ := x; exact Heap.lt_size e
  | own y => obtain ⟨_, e⟩ := x; exact Heap.lt_size e
  | xd fs => obtain ⟨_, ⟨_, _, _, e, _⟩, _⟩ := x; exact Heap.lt_size e
  | rng lo hi => obtain ⟨_, _, _, e⟩ := x; exact Heap.lt_size e
  | frz ob u => obtain ⟨e, _⟩ := x; exact Heap.lt_size e
  | tbl ps => exact Heap.lt_size (show h.get? a = some _ from x)
  | met f y => exact Heap.lt_size (show h.get? a = some _ from x)
  | ext φ => obtain ⟨_, ⟨_, e⟩, _⟩ := x; exact Heap.lt_size e
theorem Paired.mapP {α β : Type} {F G : α → β → Prop} : ∀ {l₁ : List α} {l₂ : List β}, Paired F l₁ l₂ → (∀ a b, F a b → G a b) → Paired G l₁ l₂
  | _, _, .nil, _ => .nil
  | _, _, .cons r t, f => .cons (f _ _ r) (Paired.mapP t f)
/-- what an object's description leans on: its own object, its own dict, the tuples -/
theorem ObjOk.stay (x : ObjOk P w H h a o) (k : ∀ b u, (b = a ∨ H b = some (.own a)) → h.get? b = some u → h'.get? b = some u)
    (ho : ∀ b, H b = some (.own a) → H' b = some (.own a)) (ht : ∀ b xs, H b = some (.tup xs) → H' b = some (.tup xs)) : ObjOk P w H' h' a o := by
  induction o with
  | lst xs => obtain ⟨z, its, n, r, e⟩ := x; exact ⟨z, its, n, r, k _ _ (.inl rfl) e⟩
  | tup xs => obtain ⟨z, its, r, ob, e, c⟩ := x; exact ⟨z, its, r, ob, k _ _ (.inl rfl) e, c⟩
  | dK kvs => obtain ⟨z, y, vs, r, ob, es, ep, e, c⟩ := x; exact ⟨z, y, vs, r, ob, es, ep, k _ _ (.inl rfl) e, c⟩
  | dT kvs =>
    obtain ⟨z, y, xs, r, ob, es, ep, e, c⟩ := x
    exact ⟨z, y, xs, Paired.mapP r fun p q z => ⟨z.1, ht _ _ z.2.1, z.2.2⟩, ob, es, ep, k _ _ (.inl rfl) e, c⟩
  | set S n => obtain ⟨ob, es, ep, t, e, c⟩ := x; exact ⟨ob, es, ep, t, k _ _ (.inl rfl) e, c⟩
  | ins C dx fs =>
    obtain ⟨d, z, ne, e, mA, ⟨od, es, ep, e2, c⟩, r⟩ := x
    exact ⟨ho _ d, z, ne, k _ _ (.inl rfl) e, mA, ⟨od, es, ep, k _ _ (.inr d) e2, c⟩, r⟩
  | own y => obtain ⟨ob, e⟩ := x; exact ⟨ob, k _ _ (.inl rfl) e⟩
  | xd fs => obtain ⟨mA, ⟨od, es, ep, e, c⟩, r⟩ := x; exact ⟨mA, ⟨od, es, ep, k _ _ (.inl rfl) e, c⟩, r⟩
  | rng lo hi => obtain ⟨t, u, v, e⟩ := x; exact ⟨t, u, v, k _ _ (.inl rfl) e⟩
  | frz ob u ih => obtain ⟨e, q⟩ := x; exact ⟨k _ _ (.inl rfl) e, ih q⟩
  | tbl ps =>
    have e : h.get? a = some { cls := .none, data := .fields ps } := x
    show h'.get? a = some { cls := .none, data := .fields ps }
    exact k a _ (.inl rfl) e
  | met f y =>
    have e : h.get? a = some (PySem.W.methodObj (.ref f) (.ref y)) := x
    show h'.get? a = some (PySem.W.methodObj (.ref f) (.ref y))
    exact k a _ (.inl rfl) e
  | ext φ => obtain ⟨p, ⟨o, e⟩, st⟩ := x; exact ⟨st _ _ p fun o q => k _ _ (.inl rfl) q, ⟨o, k _ _ (.inl rfl) e⟩, st⟩
theorem HOk.lt (x : HOk P w H h) (e : H a = some o) : a < h.objs.size := (x a o e).lt
theorem HOk.fresh (x : HOk P w H h) (e : h.objs.size ≤ a) : H a = none := by
  cases q : H a with
  | none => rfl
  | some u => exact absurd (Nat.lt_of_lt_of_le (x.lt q) e) (Nat.lt_irrefl _)
/-- every object of the heap is kept -/
theorem HOk.kept (x : HOk P w H h) (k : ∀ b u, h.get? b = some u → h'.get? b = some u) : HOk P w H h' := fun a o e =>
  (x a o e).stay (fun b u _ q => k b u q) (fun _ q => q) fun _ _ q => q
/-- a new object is laid and tracked -/
theorem HOk.laid (x : HOk P w H h) (k : ∀ b u, h.get? b = some u → h'.get? b = some u) (hp : h.objs.size ≤ a) (new : ObjOk P w (upd H a o) h' a o) : HOk P w (upd H a o) h' := fun b u e => by
  have hn := x.fresh hp
  by_cases hb : b = a
  · subst hb; rw [upd_same] at e; cases e; exact new
  · rw [upd_ne hb] at e
    exact (x b u e).stay (fun c v _ q => k c v q) (fun c q => by rw [upd_ne (ne_of_none q hn)]; exact q) fun c xs q => by rw [upd_ne (ne_of_none q hn)]; exact q
end

/-- what may be read as u: it is u, or a known u -/
def Rd (H : Hp) (a : Addr) (u : HO) : Prop := H a = some u ∨ ∃ o, H a = some (.frz o u)
theorem Rd.ok {P : Program} {w : World} {H : Hp} {h : Heap} {a : Addr} {u : HO} (r : Rd H a u) (x : HOk P w H h) : ObjOk P w H h a u := by
  rcases r with r | ⟨o, r⟩
  · exact x a u r
  · obtain ⟨_, q⟩ := x a _ r
    exact q
/-- what may be written -/
def Mut : Option HO → Prop
  | some (.lst _) => True
  | some (.dK _) => True
  | some (.dT _) => True
  | some (.set _ _) => True
  | some (.ins _ _ _) => True
  | some (.ext _) => True
  | _ => False
section
variable {P : Program} {w : World} {H : Hp} {h h' : Heap} {x e : Addr} {o' : HO}
/-- the object at e is changed: x itself, or the dict of the instance x -/
theorem HOk.write (ok : HOk P w H h) (mu : Mut (H x)) (he : e = x ∨ H e = some (.own x)) (k : ∀ b u, b ≠ e → h.get? b = some u → h'.get? b = some u) (heo : ∃ u, h'.get? e = some u)
    (new : ObjOk P w (upd H x o') h' x o') : HOk P w (upd H x o') h' := fun b u q => by
  have nown : ∀ c y, H c = some (.own y) → c ≠ x := fun c y r z => by subst z; rw [r] at mu; exact mu
  have ntup : ∀ c xs, H c = some (.tup xs) → c ≠ x := fun c xs r z => by subst z; rw [r] at mu; exact mu
  by_cases hb : b = x
  · subst hb; rw [upd_same] at q; cases q; exact new
  · rw [upd_ne hb] at q
    by_cases hbe : b = e
    · have q' : H b = some (.own x) := by
        rcases he with z | z
        · exact absurd (hbe.trans z) hb
        · rw [hbe]; exact z
      rw [q] at q'; cases q'
      obtain ⟨v, hv⟩ := heo
      exact ⟨v, by rw [hbe]; exact hv⟩
    · refine (ok b u q).stay (fun c v hc r => k c v ?_ r) (fun c r => by rw [upd_ne (nown c b r)]; exact r) fun c xs r => by rw [upd_ne (ntup c xs r)]; exact r
      rcases hc with rfl | hc
      · exact hbe
      · rintro rfl
        rcases he with z | z
        · exact nown c b hc z
        · rw [hc] at z; cases z; exact hb rfl
end

/-! ### kept unless tracked; of the frames at fs (the callers') the slots may change (an exception that passes writes there); of the records at ex (iterators) nothing is said -/
structure Un (fs ex : List Addr) (H H' : Hp) (h h' : Heap) : Prop where
  keep : ∀ b o, h.get? b = some o → H b = none → b ∉ fs → b ∉ ex → h'.get? b = some o
  slot : ∀ b o, h.get? b = some o → H b = none → b ∈ fs → b ∉ ex → ∃ sl, h'.get? b = some { o with slots := sl }
  free : ∀ b o, h.get? b = some o → H b = none → b ∉ ex → H' b = none
  there : ∀ b o, h.get? b = some o → b ∉ ex → ∃ o', h'.get? b = some o'
  tups : ∀ b xs, H b = some (.tup xs) → H' b = some (.tup xs)
  frzs : ∀ b o u, H b = some (.frz o u) → H' b = some (.frz o u)
  tbls : ∀ b ps, H b = some (.tbl ps) → ∃ more, H' b = some (.tbl (ps ++ more))
section
variable {fs fs' ex ex' : List Addr} {H H1 H2 : Hp} {h h1 h2 h' : Heap} {a x e : Addr} {o : HO}
theorem Un.any (u : Un fs ex H H1 h h1) {b : Addr} {ob : Obj} (q : h.get? b = some ob) (n : H b = none) (hx : b ∉ ex) : ∃ sl, h1.get? b = some { ob with slots := sl } := by
  by_cases hb : b ∈ fs
  · exact u.slot b ob q n hb hx
  · exact ⟨ob.slots, u.keep b ob q n hb hx⟩
theorem Un.kept (k : ∀ b u, h.get? b = some u → h'.get? b = some u) : Un fs ex H H h h' :=
  ⟨fun b ob q _ _ _ => k b ob q, fun b ob q _ _ _ => ⟨ob.slots, k b ob q⟩, fun _ _ _ n _ => n, fun b ob q _ => ⟨ob, k b ob q⟩, fun _ _ q => q, fun _ _ _ q => q, fun _ ps q => ⟨#[], by rw [q]; simp⟩⟩
theorem Un.refl : Un fs ex H H h h := Un.kept fun _ _ q => q
theorem Un.laid (k : ∀ b u, h.get? b = some u → h'.get? b = some u) (hp : h.objs.size ≤ a) (hn : H a = none) : Un fs ex H (upd H a o) h h' where
  keep := fun b u q _ _ _ => k b u q
  slot := fun b u q _ _ _ => ⟨u.slots, k b u q⟩
  free := fun b u q n _ => by rw [upd_ne (Nat.ne_of_lt (Nat.lt_of_lt_of_le (Heap.lt_size q) hp))]; exact n
  there := fun b u q _ => ⟨u, k b u q⟩
  tups := fun b xs q => by rw [upd_ne (ne_of_none q hn)]; exact q
  frzs := fun b u xs q => by rw [upd_ne (ne_of_none q hn)]; exact q
  tbls := fun b ps q => ⟨#[], by rw [upd_ne (ne_of_none q hn), q]; simp⟩
theorem Un.write (mu : Mut (H x)) (he : e = x ∨ H e = some (.own x)) (k : ∀ b u, b ≠ e → h.get? b = some u → h'.get? b = some u) (heo : ∃ u, h'.get? e = some u) : Un fs ex H (upd H x o) h h' := by
  have hx : ∀ b, H b = none → b ≠ x := fun b n z => by subst z; rw [n] at mu; exact mu
  have hb : ∀ b, H b = none → b ≠ e := fun b n z => by
    subst z
    rcases he with r | r
    · exact hx b n r
    · rw [n] at r; cases r
  have hm : ∀ b u, H b = some u → ¬ Mut (some u) → b ≠ x := fun b u q nm z => by subst z; rw [q] at mu; exact nm mu
  refine ⟨fun b u q n _ _ => k b u (hb b n) q, fun b u q n _ _ => ⟨u.slots, k b u (hb b n) q⟩, fun b u q n _ => by rw [upd_ne (hx b n)]; exact n, fun b u q _ => ?_,
    fun b xs q => by rw [upd_ne (hm b _ q fun z => z)]; exact q, fun b u xs q => by rw [upd_ne (hm b _ q fun z => z)]; exact q, fun b ps q => ⟨#[], by rw [upd_ne (hm b _ q fun z => z), q]; simp⟩⟩
  by_cases hbe : b = e
  · subst hbe; exact heo
  · exact ⟨u, k b u hbe q⟩
end

/-! ### the heap without what is tracked -/
def trk (h : Heap) (H : Hp) : List Addr := (List.range h.objs.size).filter fun a => (H a).isSome
def hidT (h : Heap) (H : Hp) : Heap := PySem.W.hideAll h (trk h H)
theorem hidT_size (h : Heap) (H : Hp) : (hidT h H).objs.size = h.objs.size := PySem.W.hideAll_size _ _
theorem hidT_get {h : Heap} {H : Hp} {b : Addr} {o : Obj} (e : h.get? b = some o) (n : H b = none) : (hidT h H).get? b = some o :=
  PySem.W.hideAll_get _ e fun hm => by
    have q : (H b).isSome = true := (List.mem_filter.mp hm).2
    rw [n] at q; simp at q
theorem of_hidT {h : Heap} {H : Hp} {b : Addr} {o : Obj} (e : (hidT h H).get? b = some o) : h.get? b = some o ∧ H b = none := by
  have e' : h.get? b = some o := PySem.W.of_hideAll (trk h H) e
  refine ⟨e', ?_⟩
  cases q : H b with
  | none => rfl
  | some x =>
    have hm : b ∈ trk h H := List.mem_filter.mpr ⟨List.mem_range.mpr (Heap.lt_size e'), by simp [q]⟩
    have z : (hidT h H).get? b = none := PySem.W.hideAll_none (trk h H) hm
    rw [z] at e; cases e

/-! ### OpenK's ledger, filled with every new object but one -/
end L2

namespace L2
open PySem PySem.Spec PyProof.Rows

/-- the module's facts, over the base: the heap at the law's entry without what is tracked there -/
structure Mod (K : PySem.W.Frag) (mg : Str → Option Value) (base : Heap) : Prop where
  kin : K.In base
  glob : base.Ns mainGlobals mg
  blt : ∃ mb, base.Ns builtinsNs mb ∧ ∀ x : Str, x ≠ "__name__" → mb x = bootBuiltins x
  nolimit : base.NoLimit

/-- the context: a def's body (or a comprehension's block) running. base: fixed through the whole law; s₀, H₀: the entry; outer: the frames whose slots others may change (a def's callers); stack: all frames that run;
   ex: iterators that were made ahead of the entry and are walked here (a comprehension's); fn: the names whose cells were made at the entry (a def: all; a comprehension's block: its own); calm: not within an except suite; pn: pins that every state bears; xe: what is wanted of an exception that leaves the code -/
structure Cx where
  prog : Program
  w : World
  K : PySem.W.Frag
  mg : Str → Option Value
  base : Heap
  A : Around
  N : List Str
  s₀ : Shared
  H₀ : Hp
  env : Env
  outer : List Env
  stack : List Env
  ex : List Addr
  fn : Str → Bool
  calm : Bool
  pn : List (Addr × Obj)
  xe : Value → Shared → Prop
/-- the callers' frames -/
def frs (l : List Env) : List Addr := l.filterMap (·.frame)
abbrev Cx.fs (X : Cx) : List Addr := frs X.outer

def Vis (sc : Scope) (x : Str) : Prop := sc.names.lookup x = some .local ∨ sc.names.lookup x = some .cell ∨ sc.names.lookup x = some .free
def Loc (sc : Scope) (x : Str) : Prop := sc.names.lookup x = some .local ∨ sc.names.lookup x = some .cell
def Look (env : Env) (h : Heap) (m : Str → Option Value) (x : Str) (u : Value) : Prop :=
  (env.kindOf x = some .local ∧ m x = some u) ∨ ((env.kindOf x = some .cell ∨ env.kindOf x = some .free) ∧ ∃ c, env.cells.lookup x = some c ∧ h.IsCell c (some u))

structure Cx.Ok (X : Cx) : Prop where
  mod : Mod X.K X.mg X.base
  kind : X.env.scope.kind = .function
  glob : X.env.globals = mainGlobals
  blt : X.env.builtins = builtinsNs
  above : X.s₀.heap.objs.size ≤ X.env.locals
  inj : ∀ x y c, X.env.cells.lookup x = some c → X.env.cells.lookup y = some c → x = y
  has : ∀ x, (X.env.kindOf x = some .cell ∨ X.env.kindOf x = some .free) → ∃ c, X.env.cells.lookup x = some c
  cab : ∀ x c, X.fn x = true → X.env.cells.lookup x = some c → X.s₀.heap.objs.size ≤ c
  hd : X.calm = true → X.A.handled = none
  frames : X.A.frames = some X.stack
  stk : X.stack = X.outer ∨ (X.stack = X.env :: X.outer ∧ X.env.frame = some X.env.locals)
  exf : ∀ b ∈ X.ex, b ≠ X.env.locals ∧ ∀ x c, X.env.cells.lookup x = some c → c ≠ b
  bs : ∀ b o, X.base.get? b = some o → X.s₀.heap.get? b = some o ∧ X.H₀ b = none
  bsz : X.base.objs.size ≤ X.s₀.heap.objs.size
  noex : ∀ b o, X.base.get? b = some o → b ∉ X.ex
  exfs : ∀ b ∈ X.ex, b ∉ X.fs
  funs : X.s₀.heap.FunFrames X.base X.outer
  frf : ∀ b ∈ X.fs, X.H₀ b = none

structure Inv (X : Cx) (pins : List (Addr × Obj)) (σ : List (Option V)) (H : Hp) (s : Shared) : Prop where
  ok : X.Ok
  os : s.os = X.s₀.os
  bare : AllBare s.gens
  base : Un X.fs X.ex X.H₀ H X.s₀.heap s.heap
  loc : ∃ m, s.heap.Ns X.env.locals m ∧ ∀ (i : Nat) (x : Str) (v : V), X.N[i]? = some x → σ[i]? = some (some v) → Vis X.env.scope x → ∃ u, RelV v u ∧ Look X.env s.heap m x u
  cell : ∀ x c, X.env.cells.lookup x = some c → ∃ v, s.heap.IsCell c v
  free : H X.env.locals = none
  freeC : ∀ x c, X.env.cells.lookup x = some c → H c = none
  pin : ∀ p ∈ X.pn ++ pins, s.heap.get? p.1 = some p.2 ∧ H p.1 = none ∧ p.1 ≠ X.env.locals ∧ p.1 ∉ X.fs ∧ ∀ v, p.2.data ≠ .cell v
  hok : HOk X.prog X.w H s.heap
  len : σ.length = X.N.length

section
variable {X : Cx} {pins : List (Addr × Obj)} {σ : List (Option V)} {H H' : Hp} {s : Shared} {h' : Heap}

theorem Cx.Ok.nofr (ok : X.Ok) {b : Addr} {o : Obj} (e : X.base.get? b = some o) : b ∉ X.fs := fun hb => by
  have := (ok.funs.mem hb).1
  rw [e] at this; cases this
theorem Inv.bs (I : Inv X pins σ H s) : ∀ b o, X.base.get? b = some o → s.heap.get? b = some o ∧ H b = none := fun b o e =>
  ⟨I.base.keep b o (I.ok.bs b o e).1 (I.ok.bs b o e).2 (I.ok.nofr e) (I.ok.noex b o e), I.base.free b o (I.ok.bs b o e).1 (I.ok.bs b o e).2 (I.ok.noex b o e)⟩
theorem Inv.bk (I : Inv X pins σ H s) : ∀ b o, X.base.get? b = some o → s.heap.get? b = some o := fun b o e => (I.bs b o e).1
theorem Inv.mod (I : Inv X pins σ H s) : Mod X.K X.mg X.base := I.ok.mod
theorem Inv.kIn (I : Inv X pins σ H s) : X.K.In s.heap := I.ok.mod.kin.keeps I.bk
theorem Inv.lt (I : Inv X pins σ H s) : X.env.locals < s.heap.objs.size := let ⟨_, hn, _⟩ := I.loc; hn.lt
theorem Inv.sz (I : Inv X pins σ H s) : X.s₀.heap.objs.size ≤ s.heap.objs.size := Nat.le_trans I.ok.above (Nat.le_of_lt I.lt)
theorem Inv.nofs (I : Inv X pins σ H s) {a : Addr} (h : s.heap.objs.size ≤ a) : a ∉ X.fs := fun hb => by
  obtain ⟨_, o, ho, _⟩ := I.ok.funs.mem hb
  exact absurd (Nat.lt_of_lt_of_le (Heap.lt_size ho) (Nat.le_trans I.sz h)) (Nat.lt_irrefl _)
theorem Inv.cne (I : Inv X pins σ H s) : ∀ x c, X.env.cells.lookup x = some c → c ≠ X.env.locals := fun x c e z => by
  obtain ⟨v, o, ho, hd⟩ := I.cell x c e
  obtain ⟨m, ⟨o', es, ep, ho', hd', _⟩, _⟩ := I.loc
  rw [z, ho'] at ho; cases ho; rw [hd'] at hd; cases hd
theorem Inv.funs (I : Inv X pins σ H s) : s.heap.FunFrames X.base X.outer := by
  have all : ∀ (l : List Env), (∀ b ∈ frs l, b ∈ X.fs) → X.s₀.heap.FunFrames X.base l → s.heap.FunFrames X.base l := by
    intro l
    induction l with
    | nil => intro _ _; trivial
    | cons env r ih =>
      intro hs hl
      obtain ⟨hk, ⟨L, o, hf, hn, ho, hd⟩, hr⟩ := hl
      have hL : L ∈ X.fs := hs L (by unfold frs; rw [List.filterMap_cons, hf]; exact List.mem_cons_self)
      obtain ⟨sl, e⟩ := I.base.slot L o ho (I.ok.frf L hL) hL fun z => I.ok.exfs L z hL
      exact ⟨hk, ⟨L, _, hf, hn, e, hd⟩, ih (fun b hb => hs b (by unfold frs; rw [List.filterMap_cons, hf]; exact List.mem_cons_of_mem _ hb)) hr⟩
  exact all X.outer (fun _ hb => hb) I.ok.funs

/-- the frames that run, for a call -/
theorem Inv.stack (I : Inv X pins σ H s) : s.heap.FunFrames X.base X.stack := by
  rcases I.ok.stk with e | ⟨e, hf⟩
  · rw [e]; exact I.funs
  · rw [e]
    obtain ⟨m, hn, _⟩ := I.loc
    refine .cons (by rw [I.ok.kind]; decide) hf hn ?_ I.funs
    exact Heap.get?_none_of_le (Nat.le_trans I.ok.bsz I.ok.above)
theorem Inv.stkSub (I : Inv X pins σ H s) : ∀ b ∈ frs X.stack, b ∈ X.env.locals :: X.fs := fun b hb => by
  rcases I.ok.stk with e | ⟨e, hf⟩
  · rw [e] at hb; exact List.mem_cons_of_mem _ hb
  · rw [e] at hb
    unfold frs at hb
    rw [List.filterMap_cons, hf] at hb
    exact hb
theorem Inv.stkFree (I : Inv X pins σ H s) : ∀ b ∈ frs X.stack, H b = none := fun b hb => by
  rcases List.mem_cons.mp (I.stkSub b hb) with e | hb
  · rw [e]; exact I.free
  · obtain ⟨_, o, ho, _⟩ := I.ok.funs.mem hb
    exact I.base.free b o ho (I.ok.frf b hb) fun z => I.ok.exfs b z hb

/-- THE STEP: the untracked objects but the frame and the records at ch are kept (the callers' frames up to slots), the frame's map is kept, the new abstract heap is held -/
theorem Inv.step {g' : Array GenState} {t' : Nat} {d' : Drawn} {ch : List Addr} (I : Inv X pins σ H s)
    (hch : ∀ b ∈ ch, (b ∈ X.ex ∨ X.s₀.heap.objs.size ≤ b) ∧ b ≠ X.env.locals ∧ (∀ x c, X.env.cells.lookup x = some c → c ≠ b) ∧ ∀ p ∈ X.pn ++ pins, p.1 ≠ b)
    (keep : ∀ b o, b ≠ X.env.locals → b ∉ X.fs → b ∉ ch → s.heap.get? b = some o → H b = none → h'.get? b = some o)
    (slot : ∀ b o, b ≠ X.env.locals → b ∈ X.fs → b ∉ ch → s.heap.get? b = some o → H b = none → ∃ sl, h'.get? b = some { o with slots := sl }) (free : ∀ b o, b ∉ ch → s.heap.get? b = some o → H b = none → H' b = none)
    (there : ∀ b o, b ∉ ch → s.heap.get? b = some o → ∃ o', h'.get? b = some o')
    (tups : ∀ b xs, H b = some (.tup xs) → H' b = some (.tup xs)) (frzs : ∀ b o u, H b = some (.frz o u) → H' b = some (.frz o u)) (tbls : ∀ b ps, H b = some (.tbl ps) → ∃ more, H' b = some (.tbl (ps ++ more)))
    (ns : ∀ m, s.heap.Ns X.env.locals m → h'.Ns X.env.locals m) (hok : HOk X.prog X.w H' h') (hg : AllBare g') :
    Inv X pins σ H' { s with heap := h', gens := g', drawn := d', toks := t' } := by
  have neL : ∀ b o, X.s₀.heap.get? b = some o → b ≠ X.env.locals := fun b o e => Nat.ne_of_lt (Nat.lt_of_lt_of_le (Heap.lt_size e) I.ok.above)
  have neC : ∀ b o, X.s₀.heap.get? b = some o → b ∉ X.ex → b ∉ ch := fun b o e hx hb => by
    rcases (hch b hb).1 with z | z
    · exact hx z
    · exact absurd (Nat.lt_of_lt_of_le (Heap.lt_size e) z) (Nat.lt_irrefl _)
  have cellK : ∀ x c, X.env.cells.lookup x = some c → ∀ v, s.heap.IsCell c v → h'.IsCell c v := fun x c e v ⟨o, ho, hd⟩ => by
    have nch : c ∉ ch := fun z => (hch c z).2.2.1 x c e rfl
    by_cases hc : c ∈ X.fs
    · obtain ⟨sl, q⟩ := slot c o (I.cne x c e) hc nch ho (I.freeC x c e)
      exact ⟨_, q, hd⟩
    · exact ⟨o, keep c o (I.cne x c e) hc nch ho (I.freeC x c e), hd⟩
  refine ⟨I.ok, I.os, hg, ⟨fun b o e n hb hx => ?_, fun b o e n hb hx => ?_, fun b o e n hx => ?_, fun b o e hx => ?_, fun b xs e => tups b xs (I.base.tups b xs e), fun b o xs e => frzs b o xs (I.base.frzs b o xs e), fun b ps e => ?_⟩, ?_, fun x c e => ?_, ?_, fun x c e => ?_, fun p hp => ?_, hok, I.len⟩
  · exact keep b o (neL b o e) hb (neC b o e hx) (I.base.keep b o e n hb hx) (I.base.free b o e n hx)
  · obtain ⟨sl, e1⟩ := I.base.slot b o e n hb hx
    obtain ⟨sl', e2⟩ := slot b _ (neL b o e) hb (neC b o e hx) e1 (I.base.free b o e n hx)
    exact ⟨sl', e2⟩
  · obtain ⟨o', e1⟩ := I.base.there b o e hx
    exact free b o' (neC b o e hx) e1 (I.base.free b o e n hx)
  · obtain ⟨o', e1⟩ := I.base.there b o e hx
    exact there b o' (neC b o e hx) e1
  · obtain ⟨m1, e1⟩ := I.base.tbls b ps e
    obtain ⟨m2, e2⟩ := tbls b _ e1
    exact ⟨m1 ++ m2, by rw [e2, Array.append_assoc]⟩
  · obtain ⟨m, hn, hl⟩ := I.loc
    refine ⟨m, ns m hn, fun i x v e1 e2 e3 => ?_⟩
    obtain ⟨u, r, l⟩ := hl i x v e1 e2 e3
    refine ⟨u, r, ?_⟩
    rcases l with l | ⟨k, c, e, z⟩
    · exact .inl l
    · exact .inr ⟨k, c, e, cellK x c e _ z⟩
  · obtain ⟨v, z⟩ := I.cell x c e
    exact ⟨v, cellK x c e v z⟩
  · obtain ⟨m, ⟨o, _, _, ho, _⟩, _⟩ := I.loc
    exact free _ o (fun z => (hch _ z).2.1 rfl) ho I.free
  · obtain ⟨v, o, ho, hd⟩ := I.cell x c e
    exact free c o (fun z => (hch c z).2.2.1 x c e rfl) ho (I.freeC x c e)
  · obtain ⟨e, n, ne, nf, d⟩ := I.pin p hp
    have nch : p.1 ∉ ch := fun z => (hch p.1 z).2.2.2 p hp rfl
    exact ⟨keep p.1 p.2 ne nf nch e n, free p.1 p.2 nch e n, ne, nf, d⟩
/-- .. where the frame's own object is kept too -/
theorem Inv.un {t' : Nat} (I : Inv X pins σ H s) (u : Un X.fs [] H H' s.heap h') (hok : HOk X.prog X.w H' h') : Inv X pins σ H' { s with heap := h', toks := t' } := by
  obtain ⟨m, ⟨o, es, ep, ho, r⟩, _⟩ := id I.loc
  obtain ⟨sl, hL⟩ := u.any ho I.free (by simp)
  exact I.step (g' := s.gens) (d' := s.drawn) (ch := []) (fun _ z => nomatch z) (fun b o _ hb _ e n => u.keep b o e n hb (by simp)) (fun b o _ hb _ e n => u.slot b o e n hb (by simp)) (fun b o _ e n => u.free b o e n (by simp)) (fun b o _ e => u.there b o e (by simp)) u.tups u.frzs u.tbls (fun m' hm => by
    obtain ⟨o', es', ep', ho', r'⟩ := hm
    rw [ho] at ho'; cases ho'
    exact ⟨_, es', ep', hL, r'⟩) hok I.bare
/-- behind a call (or a comprehension's block): the slots of this frame may have changed too, the records at ch may have turned -/
theorem Inv.call {g' : Array GenState} {t' : Nat} {d' : Drawn} {ch : List Addr} (I : Inv X pins σ H s) (u : Un (frs X.stack) ch H H' s.heap h') (hok : HOk X.prog X.w H' h') (hg : AllBare g')
    (hch : ∀ b ∈ ch, (b ∈ X.ex ∨ X.s₀.heap.objs.size ≤ b) ∧ b ≠ X.env.locals ∧ (∀ x c, X.env.cells.lookup x = some c → c ≠ b) ∧ ∀ p ∈ X.pn ++ pins, p.1 ≠ b) :
    Inv X pins σ H' { s with heap := h', gens := g', drawn := d', toks := t' } := by
  obtain ⟨m, ⟨o, es, ep, ho, r⟩, _⟩ := id I.loc
  obtain ⟨sl, hL⟩ := u.any ho I.free fun z => (hch _ z).2.1 rfl
  exact I.step (ch := ch) hch (fun b o hL hb hc e n => u.keep b o e n (fun z => (List.mem_cons.mp (I.stkSub b z)).elim hL hb) hc) (fun b o _ _ hc e n => u.any e n hc) (fun b o hc e n => u.free b o e n hc) (fun b o hc e => u.there b o e hc) u.tups u.frzs u.tbls (fun m' hm => by
    obtain ⟨o', es', ep', ho', r'⟩ := hm
    rw [ho] at ho'; cases ho'
    exact ⟨_, es', ep', hL, r'⟩) hok hg
/-- an untracked record of ours (an iterator) has turned -/
theorem Inv.turned {t' : Nat} {it : Addr} (I : Inv X pins σ H s) (k : ∀ b o, b ≠ it → s.heap.get? b = some o → h'.get? b = some o) (hn : H it = none) (hL : it ≠ X.env.locals)
    (h1 : it ∈ X.ex ∨ X.s₀.heap.objs.size ≤ it) (h2 : ∀ x c, X.env.cells.lookup x = some c → c ≠ it) (h3 : ∀ p ∈ X.pn ++ pins, p.1 ≠ it) : Inv X pins σ H { s with heap := h', toks := t' } := by
  have nit : ∀ b u, H b = some u → b ≠ it := fun b u e z => by rw [z, hn] at e; cases e
  refine I.step (g' := s.gens) (d' := s.drawn) (ch := [it]) (fun b hb => ?_) (fun b o _ _ hc e _ => k b o (fun z => hc (by simp [z])) e) (fun b o _ _ hc e _ => ⟨o.slots, k b o (fun z => hc (by simp [z])) e⟩) (fun _ _ _ _ n => n)
    (fun b o hc e => ⟨o, k b o (fun z => hc (by simp [z])) e⟩) (fun _ _ e => e) (fun _ _ _ e => e) (fun b ps e => ⟨#[], by rw [e]; simp⟩) (fun m hm => ?_) (fun b u e => ?_) I.bare
  · have e : b = it := by simpa using hb
    subst e
    exact ⟨h1, hL, h2, h3⟩
  · obtain ⟨o, es, ep, ho, r⟩ := hm
    exact ⟨o, es, ep, k _ o (Ne.symm hL) ho, r⟩
  · refine (I.hok b u e).stay (fun c v hc q => k c v ?_ q) (fun _ q => q) fun _ _ q => q
    rcases hc with z | z
    · rw [z]; exact nit b u e
    · exact nit c _ z
theorem Inv.tok (I : Inv X pins σ H s) (t : Nat) : Inv X pins σ H { s with toks := t } := I.un (h' := s.heap) (t' := t) Un.refl I.hok
/-- all objects kept -/
theorem Inv.kept {t' : Nat} (I : Inv X pins σ H s) (k : ∀ b u, s.heap.get? b = some u → h'.get? b = some u) : Inv X pins σ H { s with heap := h', toks := t' } := I.un (Un.kept k) (I.hok.kept k)
/-- a new object laid and tracked -/
theorem Inv.laid {a : Addr} {o : HO} {t' : Nat} (I : Inv X pins σ H s) (k : ∀ b u, s.heap.get? b = some u → h'.get? b = some u) (hp : s.heap.objs.size ≤ a) (new : ObjOk X.prog X.w (upd H a o) h' a o) :
    Inv X pins σ (upd H a o) { s with heap := h', toks := t' } := I.un (Un.laid k hp (I.hok.fresh hp)) (I.hok.laid k hp new)
/-- an object written -/
theorem Inv.write {x e : Addr} {o : HO} {t' : Nat} (I : Inv X pins σ H s) (mu : Mut (H x)) (he : e = x ∨ H e = some (.own x)) (k : ∀ b u, b ≠ e → s.heap.get? b = some u → h'.get? b = some u) (heo : ∃ u, h'.get? e = some u)
    (new : ObjOk X.prog X.w (upd H x o) h' x o) : Inv X pins σ (upd H x o) { s with heap := h', toks := t' } := I.un (Un.write mu he k heo) (I.hok.write mu he k heo new)
theorem Inv.pins_of {pins' : List (Addr × Obj)} (I : Inv X pins σ H s) (h : ∀ p ∈ pins', s.heap.get? p.1 = some p.2 ∧ H p.1 = none ∧ p.1 ≠ X.env.locals ∧ p.1 ∉ X.fs ∧ ∀ v, p.2.data ≠ .cell v) : Inv X pins' σ H s :=
  ⟨I.ok, I.os, I.bare, I.base, I.loc, I.cell, I.free, I.freeC, fun p hp => (List.mem_append.mp hp).elim (fun z => I.pin p (List.mem_append_left _ z)) (h p), I.hok, I.len⟩

theorem nodup_ix {N : List Str} (hN : N.Nodup) {i j : Nat} {x : Str} (a : N[i]? = some x) (b : N[j]? = some x) : i = j := by
  obtain ⟨h1, e1⟩ := List.getElem?_eq_some_iff.mp a
  obtain ⟨h2, e2⟩ := List.getElem?_eq_some_iff.mp b
  exact (List.getElem_inj hN).mp (e1.trans e2.symm)

/-- a name is stored; what changed -/
theorem store_ok2 {M : Model} {A : Around} {E : Value → Shared → Prop} {i : Nat} {x : Str} {v : V} {u : Value} {Q : Unit → Shared → Prop} (I : Inv X pins σ H s) (hN : X.N.Nodup) (hi : X.N[i]? = some x) (hx : Loc X.env.scope x) (r : RelV v u)
    (h : ∀ s', Inv X pins (σ.set i (some v)) H s' → (∃ a, Heap.SameBut a s.heap s'.heap ∧ (a = X.env.locals ∨ X.env.cells.lookup x = some a)) → Q () s') (hf : X.fn x = true ∨ X.env.scope.names.lookup x = some .local := by first | exact .inl rfl | exact .inr rfl | assumption) : wpAny M A (storeName X.env x u) Q E s := by
  obtain ⟨m, hn, hl⟩ := id I.loc
  have hcls : (X.env.scope.kind == .class || (X.env.scope.kind == .module && X.env.locals != X.env.globals)) = false := by rw [I.ok.kind]; rfl
  have hiσ : i < σ.length := by rw [I.len]; exact (List.getElem?_eq_some_iff.mp hi).1
  have cne := I.cne
  have tracked : ∀ {a : Addr} {h' : Heap}, (∃ o, s.heap.get? a = some o ∧ H a = none) → Heap.SameBut a s.heap h' → HOk X.prog X.w H h' := fun {a h'} ha hs b ob e => by
    obtain ⟨_, _, hfree⟩ := ha
    refine (I.hok b ob e).stay (fun c w' hc q => (hs.2 c ?_).trans q) (fun _ q => q) fun _ _ q => q
    rintro rfl
    rcases hc with rfl | hc
    · rw [hfree] at e; cases e
    · rw [hfree] at hc; cases hc
  rcases hx with hk | hk
  · refine wpAny_storeName_local hk hn (fun h' hn' hs => ?_) hcls
    obtain ⟨oL, _, _, hoL, _⟩ := id hn
    refine h _ ⟨I.ok, I.os, I.bare, ⟨fun b o e n hb hx => ?_, fun b o e n hb hx => ?_, I.base.free, fun b o e hx => ?_, I.base.tups, I.base.frzs, I.base.tbls⟩, ⟨_, hn', fun j y v' e1 e2 e3 => ?_⟩, fun y c e => ?_, I.free, I.freeC, fun p hp => ?_, tracked ⟨oL, hoL, I.free⟩ hs, by simpa using I.len⟩ ⟨_, hs, .inl rfl⟩
    · exact (hs.2 b (Nat.ne_of_lt (Nat.lt_of_lt_of_le (Heap.lt_size e) I.ok.above))).trans (I.base.keep b o e n hb hx)
    · obtain ⟨sl, e1⟩ := I.base.slot b o e n hb hx
      exact ⟨sl, (hs.2 b (Nat.ne_of_lt (Nat.lt_of_lt_of_le (Heap.lt_size e) I.ok.above))).trans e1⟩
    · obtain ⟨o', e1⟩ := I.base.there b o e hx
      exact ⟨o', (hs.2 b (Nat.ne_of_lt (Nat.lt_of_lt_of_le (Heap.lt_size e) I.ok.above))).trans e1⟩
    · by_cases hj : j = i
      · subst hj
        rw [hi] at e1; cases e1
        rw [List.getElem?_set_self hiσ] at e2
        cases e2
        exact ⟨u, r, .inl ⟨hk, by simp⟩⟩
      · rw [List.getElem?_set_ne (Ne.symm hj)] at e2
        obtain ⟨u', r', q⟩ := hl j y v' e1 e2 e3
        refine ⟨u', r', ?_⟩
        rcases q with ⟨k, e⟩ | ⟨k, c, e, z⟩
        · refine .inl ⟨k, ?_⟩
          have : y ≠ x := fun e => hj (nodup_ix hN e1 (e ▸ hi))
          simp [this, e]
        · exact .inr ⟨k, c, e, z.sameBut hs (cne y c e)⟩
    · obtain ⟨w', z⟩ := I.cell y c e
      exact ⟨w', z.sameBut hs (cne y c e)⟩
    · obtain ⟨e, n, ne, nf, d⟩ := I.pin p hp
      exact ⟨(hs.2 p.1 ne).trans e, n, ne, nf, d⟩
  · have hfn : X.fn x = true := by
      rcases hf with z | z
      · exact z
      · rw [z] at hk; cases hk
    obtain ⟨c, hc⟩ := I.ok.has x (.inl hk)
    obtain ⟨w', z⟩ := I.cell x c hc
    refine wpAny_storeName_cell I.ok.kind hk hc z (fun h' hc' hs => ?_)
    obtain ⟨oc, hoc, hocd⟩ := id z
    refine h { s with heap := h' } ⟨I.ok, I.os, I.bare, ⟨fun b o e n hb hx => ?_, fun b o e n hb hx => ?_, I.base.free, fun b o e hx => ?_, I.base.tups, I.base.frzs, I.base.tbls⟩, ⟨m, hn.sameBut hs (Ne.symm (cne x c hc)), fun j y v' e1 e2 e3 => ?_⟩, fun y c' e => ?_, I.free, I.freeC, fun p hp => ?_, tracked ⟨oc, hoc, I.freeC x c hc⟩ hs, by simpa using I.len⟩ ⟨c, hs, .inr hc⟩
    · exact (hs.2 b (Nat.ne_of_lt (Nat.lt_of_lt_of_le (Heap.lt_size e) (I.ok.cab x c hfn hc)))).trans (I.base.keep b o e n hb hx)
    · obtain ⟨sl, e1⟩ := I.base.slot b o e n hb hx
      exact ⟨sl, (hs.2 b (Nat.ne_of_lt (Nat.lt_of_lt_of_le (Heap.lt_size e) (I.ok.cab x c hfn hc)))).trans e1⟩
    · obtain ⟨o', e1⟩ := I.base.there b o e hx
      exact ⟨o', (hs.2 b (Nat.ne_of_lt (Nat.lt_of_lt_of_le (Heap.lt_size e) (I.ok.cab x c hfn hc)))).trans e1⟩
    · by_cases hj : j = i
      · subst hj
        rw [hi] at e1; cases e1
        rw [List.getElem?_set_self hiσ] at e2
        cases e2
        exact ⟨u, r, .inr ⟨.inl hk, c, hc, hc'⟩⟩
      · rw [List.getElem?_set_ne (Ne.symm hj)] at e2
        obtain ⟨u', r', q⟩ := hl j y v' e1 e2 e3
        refine ⟨u', r', ?_⟩
        rcases q with q | ⟨k, c', e, z'⟩
        · exact .inl q
        · refine .inr ⟨k, c', e, z'.sameBut hs ?_⟩
          rintro rfl
          exact hj (nodup_ix hN e1 (I.ok.inj _ _ _ e hc ▸ hi))
    · by_cases hcc : c' = c
      · subst hcc; exact ⟨_, hc'⟩
      · obtain ⟨w2, z2⟩ := I.cell y c' e
        exact ⟨w2, z2.sameBut hs hcc⟩
    · obtain ⟨e, n, ne, nf, d⟩ := I.pin p hp
      refine ⟨(hs.2 p.1 ?_).trans e, n, ne, nf, d⟩
      intro q
      rw [q, hoc] at e
      have q' : oc = p.2 := Option.some.inj e
      exact d w' (by rw [← q']; exact hocd)
theorem store_ok {M : Model} {A : Around} {E : Value → Shared → Prop} {i : Nat} {x : Str} {v : V} {u : Value} {Q : Unit → Shared → Prop} (I : Inv X pins σ H s) (hN : X.N.Nodup) (hi : X.N[i]? = some x) (hx : Loc X.env.scope x) (r : RelV v u)
    (h : ∀ s', Inv X pins (σ.set i (some v)) H s' → Q () s') (hf : X.fn x = true ∨ X.env.scope.names.lookup x = some .local := by first | exact .inl rfl | exact .inr rfl | assumption) : wpAny M A (storeName X.env x u) Q E s :=
  store_ok2 I hN hi hx r (fun s' I' _ => h s' I') hf
/-- behind a call or a block, the state as it is -/
theorem Inv.call' {s' : Shared} {ch : List Addr} (I : Inv X pins σ H s) (ho : s'.os = s.os) (u : Un (frs X.stack) ch H H' s.heap s'.heap) (hok : HOk X.prog X.w H' s'.heap) (hg : AllBare s'.gens)
    (hch : ∀ b ∈ ch, (b ∈ X.ex ∨ X.s₀.heap.objs.size ≤ b) ∧ b ≠ X.env.locals ∧ (∀ x c, X.env.cells.lookup x = some c → c ≠ b) ∧ ∀ p ∈ X.pn ++ pins, p.1 ≠ b) : Inv X pins σ H' s' := by
  obtain ⟨h', g', d', t', o'⟩ := s'
  have e : o' = s.os := ho
  subst e
  exact I.call (g' := g') (t' := t') (d' := d') u hok hg hch
end

/-! ### the judgements -/
/-- an exception: its class, its own dict's address (where it has one), the abstract heap behind it -/
abbrev XK := Value → Option Addr → Hp → Prop
abbrev St := List (Option V)
abbrev VK := V → Hp → Prop
/-- an expression's reading; a test's; an argument list's -/
abbrev TE := St → Hp → VK → Prop
abbrev TT := St → Hp → (Bool → Hp → Prop) → Prop
abbrev TA := St → Hp → (List V → Hp → Prop) → Prop
/-- what is wanted behind a statement -/
structure Ends where
  nx : St → Hp → Prop
  rt : VK
  bk : St → Hp → Prop := fun _ _ => False
  ct : St → Hp → Prop := fun _ _ => False
abbrev TS := Ends → St → Hp → Prop

def EP (X : Cx) (pins : List (Addr × Obj)) (σ : St) (Q : VK) (u : Value) (s' : Shared) : Prop := ∃ v H', Inv X pins σ H' s' ∧ RelV v u ∧ Q v H'
def TP (X : Cx) (pins : List (Addr × Obj)) (σ : St) (Q : Bool → Hp → Prop) (b : Bool) (s' : Shared) : Prop := ∃ H', Inv X pins σ H' s' ∧ Q b H'
def AP (X : Cx) (pins : List (Addr × Obj)) (σ : St) (Q : List V → Hp → Prop) (us : List Value) (s' : Shared) : Prop := ∃ vs H', Inv X pins σ H' s' ∧ Vals vs us ∧ Q vs H'
def SP (X : Cx) (pins : List (Addr × Obj)) (D : Ends) (f : Flow) (s' : Shared) : Prop :=
  match f with
  | .next => ∃ σ' H', Inv X pins σ' H' s' ∧ D.nx σ' H'
  | .brk => ∃ σ' H', Inv X pins σ' H' s' ∧ D.bk σ' H'
  | .cont => ∃ σ' H', Inv X pins σ' H' s' ∧ D.ct σ' H'
  | .ret u => ∃ v σ' H', Inv X pins σ' H' s' ∧ RelV v u ∧ D.rt v H'

def PE (X : Cx) (e : Expr) (t : TE) : Prop :=
  ∀ (pins : List (Addr × Obj)) (s : Shared) (σ : St) (H : Hp) (Q : VK), Inv X pins σ H s → t σ H Q → wpAny (model X.prog X.w) X.A (eval e X.env) (EP X pins σ Q) X.xe s
def PT (X : Cx) (e : Expr) (t : TT) : Prop :=
  ∀ (pins : List (Addr × Obj)) (s : Shared) (σ : St) (H : Hp) (Q : Bool → Hp → Prop), Inv X pins σ H s → t σ H Q → wpAny (model X.prog X.w) X.A (isTrue e X.env (eval e X.env)) (TP X pins σ Q) X.xe s
/-- a test whatever its 'whole' is (and, or) -/
def PW (X : Cx) (e : Expr) (t : TT) : Prop :=
  ∀ (whole : Sem Value) (pins : List (Addr × Obj)) (s : Shared) (σ : St) (H : Hp) (Q : Bool → Hp → Prop), Inv X pins σ H s → t σ H Q → wpAny (model X.prog X.w) X.A (isTrue e X.env whole) (TP X pins σ Q) X.xe s
theorem PW.pt {X : Cx} {e : Expr} {t : TT} (h : PW X e t) : PT X e t := h _
/-- an argument list (no star), from the left -/
def PA (X : Cx) (es : List Expr) (t : TA) : Prop :=
  ∀ (pos : Pos) (pins : List (Addr × Obj)) (s : Shared) (σ : St) (H : Hp) (Q : List V → Hp → Prop), Inv X pins σ H s → t σ H Q → wpAny (model X.prog X.w) X.A (spliced (backTo pos (starEach es X.env))) (AP X pins σ Q) X.xe s
def PS (X : Cx) (st : Stmt) (t : TS) : Prop :=
  ∀ (pins : List (Addr × Obj)) (s : Shared) (σ : St) (H : Hp) (D : Ends), Inv X pins σ H s → t D σ H → wpAny (model X.prog X.w) X.A (exec st X.env) (SP X pins D) X.xe s
def PSs (X : Cx) (st : List Stmt) (t : TS) : Prop :=
  ∀ (pins : List (Addr × Obj)) (s : Shared) (σ : St) (H : Hp) (D : Ends), Inv X pins σ H s → t D σ H → wpAny (model X.prog X.w) X.A (execs st X.env) (SP X pins D) X.xe s
/-- weaken the end -/
theorem thn {α : Type} {t : Sem α} {Q Q' : α → Shared → Prop} {M : Model} {A : Around} {E : Value → Shared → Prop} {s : Shared} (h : wpAny M A t Q E s) (hQ : ∀ a s, Q a s → Q' a s) : wpAny M A t Q' E s := wpAny_mono h hQ fun _ _ x => x
end L2

namespace L2
open PySem PySem.Spec PyProof.Rows
section
variable {X : Cx}

/-- two expressions in a row -/
theorem bin {a b : Expr} {ta tb : TE} (ha : PE X a ta) (hb : PE X b tb) {pins : List (Addr × Obj)} {s : Shared} {σ : St} {H : Hp} {R : V → V → Hp → Prop} (I : Inv X pins σ H s) (h : ta σ H fun x H1 => tb σ H1 fun y H2 => R x y H2)
    {α : Type} {Q : α → Shared → Prop} {f : Value → Value → Sem α}
    (hf : ∀ v u s2 x y H2, Inv X pins σ H2 s2 → RelV x v → RelV y u → R x y H2 → wpAny (model X.prog X.w) X.A (f v u) Q X.xe s2) :
    wpAny (model X.prog X.w) X.A (eval a X.env) (fun v s₁ => wpAny (model X.prog X.w) X.A (eval b X.env) (fun u s₂ => wpAny (model X.prog X.w) X.A (f v u) Q X.xe s₂) X.xe s₁) X.xe s := by
  refine thn (ha pins s σ H _ I h) fun v s1 ⟨x, H1, I1, r1, q1⟩ => ?_
  refine thn (hb pins s1 σ H1 _ I1 q1) fun u s2 ⟨y, H2, I2, r2, q2⟩ => ?_
  exact hf v u s2 x y H2 I2 r1 r2 q2

/-! ### names and constants -/
def tVar (i : Nat) : TE := fun σ H Q => ∃ v, σ[i]? = some (some v) ∧ Q v H
def tC (v : V) : TE := fun _ H Q => Q v H
theorem pe_var {i : Nat} {x : Str} {pos : Pos} (hN : X.N[i]? = some x) (hv : Vis X.env.scope x) (hd : (x == ("__debug__" : Str)) = false := by decide) (hcd : (x == ("__classdict__" : Str)) = false := by decide) : PE X (.Name x pos) (tVar i) := by
  intro pins s σ H Q I h
  obtain ⟨v, e, h⟩ := h
  obtain ⟨m, hn, hl⟩ := I.loc
  obtain ⟨u, r, l⟩ := hl i x v hN e hv
  have fin : EP X pins σ Q u s := ⟨v, H, I, r, h⟩
  rcases l with ⟨hk, hm⟩ | ⟨hk, c, hc, hcell⟩
  · exact wpAny_Name (wpAny_loadName_local I.ok.kind hk hn hm fin) hd
  · rcases hk with hk | hk
    · exact wpAny_Name (wpAny_loadName_cell I.ok.kind hk hc hcell fin) hd
    · exact wpAny_Name (wpAny_loadName_free I.ok.kind hk hc hcell fin hcd) hd
theorem pe_int {i j pos} : PE X (.Constant (.int i) j pos) (tC (.int i)) := fun _ _ _ H _ I h => wpAny_Constant_int ⟨.int i, H, I.tok _, ⟨_, rfl⟩, h⟩
theorem pe_bl {b j pos} : PE X (.Constant (.bool b) j pos) (tC (.bl b)) := fun _ _ _ H _ I h => Constant_bool ⟨.bl b, H, I, rfl, h⟩
theorem pe_non {j pos} : PE X (.Constant .none j pos) (tC .non) := fun _ _ _ H _ I h => Constant_none ⟨.non, H, I, rfl, h⟩
theorem pe_str {x j pos} : PE X (.Constant (.str x) j pos) (tC (.str x)) := fun _ _ _ H _ I h => Calls.Constant_str ⟨.str x, H, I.tok _, ⟨_, rfl⟩, h⟩

/-- a global name of the def -/
def Gl (X : Cx) (x : Str) : Prop := X.env.kindOf x = some .globalImplicit
theorem ld_glob {E : Value → Shared → Prop} {pins : List (Addr × Obj)} {s : Shared} {σ : St} {H : Hp} {x : Str} {u : Value} {pos : Pos} {Q : Value → Shared → Prop} (I : Inv X pins σ H s) (hg : Gl X x) (hm : X.mg x = some u) (h : Q u s)
    (hd : (x == ("__debug__" : Str)) = false := by decide) : wpAny (model X.prog X.w) X.A (eval (.Name x pos) X.env) Q E s :=
  Calls.Name_function_global I.ok.kind hg (Calls.loadGlobal_global (by rw [I.ok.glob]; exact I.mod.glob.keeps I.bk) hm h) hd
theorem ld_blt {E : Value → Shared → Prop} {pins : List (Addr × Obj)} {s : Shared} {σ : St} {H : Hp} {x : Str} {u : Value} {pos : Pos} {Q : Value → Shared → Prop} (I : Inv X pins σ H s) (hg : Gl X x) (hm : X.mg x = none) (hv : bootBuiltins x = some u) (h : Q u s)
    (hn : x ≠ "__name__" := by decide) (hd : (x == ("__debug__" : Str)) = false := by decide) : wpAny (model X.prog X.w) X.A (eval (.Name x pos) X.env) Q E s := by
  obtain ⟨mb, h1, h2⟩ := I.mod.blt
  exact Calls.Name_function_global I.ok.kind hg (Calls.loadGlobal_builtin (by rw [I.ok.glob]; exact I.mod.glob.keeps I.bk) hm (by rw [I.ok.blt]; exact h1.keeps I.bk) ((h2 x hn).trans hv) h) hd
/-- a module's constant, a class, a function, as a value -/
theorem pe_glob {x : Str} {v : V} {u : Value} {pos : Pos} (hg : Gl X x) (hm : X.mg x = some u) (r : RelV v u) (hd : (x == ("__debug__" : Str)) = false := by decide) : PE X (.Name x pos) (tC v) :=
  fun _ _ _ H _ I h => ld_glob I hg hm ⟨v, H, I, r, h⟩ hd
theorem pe_bltn {x : Str} {v : V} {u : Value} {pos : Pos} (hg : Gl X x) (hm : X.mg x = none) (hv : bootBuiltins x = some u) (r : RelV v u) (hn : x ≠ "__name__" := by decide) (hd : (x == ("__debug__" : Str)) = false := by decide) : PE X (.Name x pos) (tC v) :=
  fun _ _ _ H _ I h => ld_blt I hg hm hv ⟨v, H, I, r, h⟩ hn hd

/-! ### arithmetic -/
variable {a b : Expr} {ta tb : TE} {pos : Pos}
/-! ### comparisons -/
def PC (X : Cx) (op : CmpOp) (a b : Expr) (t : TE) : Prop :=
  ∀ (pins : List (Addr × Obj)) (s : Shared) (σ : St) (H : Hp) (Q : VK), Inv X pins σ H s → t σ H Q →
    wpAny (model X.prog X.w) X.A (eval a X.env) (fun v s₁ => wpAny (model X.prog X.w) X.A (eval b X.env) (fun u s₂ => wpAny (model X.prog X.w) X.A (compareOp op v u) (EP X pins σ Q) X.xe s₂) X.xe s₁) X.xe s
/-- a comparison as a value, as a test -/
def tB (t : TE) : TT := fun σ H Q => t σ H fun x H1 => ∃ c, x = .bl c ∧ Q c H1
theorem pt_cmp {op : CmpOp} {t : TE} (h : PC X op a b t) (h1 : behindInMarks op b = false := by first | exact nobehind _ (by decide) (by decide) | rfl) : PT X (.Compare a [op] [b] pos) (tB t) := by
  intro pins s σ H Q I hw
  refine wpAny_isTrue_Compare1 (thn (h pins s σ H _ I hw) fun v s1 h1 => thn h1 fun u s2 h2 => thn h2 fun c s3 ⟨x, H1, I1, r1, q1⟩ => ?_) h1
  obtain ⟨d, rfl, q⟩ := q1
  cases r1
  exact wpAny_truthy_bool ⟨H1, I1, q⟩
/-- an expression whose value is a bool, as a test -/
theorem pt_val {e : Expr} {t : TE} (h : PE X e t) (he : ∀ whole, isTrue e X.env whole = (do let v ← whole; standAt e.pos; holding [v] (truthy v)) := by intro _; rfl) : PT X e (tB t) := by
  intro pins s σ H Q I hw
  refine isTrue_plain (thn (h pins s σ H _ I hw) fun v s1 ⟨x, H1, I1, r1, q1⟩ => ?_) (he _)
  obtain ⟨d, rfl, q⟩ := q1
  cases r1
  exact wpAny_truthy_bool ⟨H1, I1, q⟩

/-! ### and, or, not -/
variable {tA tB' : TT} {rest : List Expr}
def tAnd (t u : TT) : TT := fun σ H Q => t σ H fun c H1 => if c = true then u σ H1 Q else Q false H1
def tOr (t u : TT) : TT := fun σ H Q => t σ H fun c H1 => if c = true then Q true H1 else u σ H1 Q
def tNot (t : TT) : TT := fun σ H Q => t σ H fun c H1 => Q (!c) H1
theorem pw_and1 (ha : PT X a tA) : PW X (.BoolOp .And [a] pos) tA := by
  intro wh pins s σ H Q I h
  refine isTrue_and (thn (ha pins s σ H Q I h) fun c s1 e => ?_)
  cases c with
  | true => exact isTrue_and_nil e
  | false => exact e
theorem pw_or1 (ha : PT X a tA) : PW X (.BoolOp .Or [a] pos) tA := by
  intro wh pins s σ H Q I h
  refine isTrue_or (thn (ha pins s σ H Q I h) fun c s1 e => ?_)
  cases c with
  | false => exact isTrue_or_nil e
  | true => exact e
theorem pw_and (ha : PT X a tA) (hb : PW X (.BoolOp .And (b :: rest) pos) tB') : PW X (.BoolOp .And (a :: b :: rest) pos) (tAnd tA tB') := by
  intro wh pins s σ H Q I h
  refine isTrue_and (thn (ha pins s σ H _ I h) fun c s1 ⟨H1, I1, q1⟩ => ?_)
  cases c with
  | true => exact hb wh pins s1 σ H1 Q I1 q1
  | false => exact ⟨H1, I1, q1⟩
theorem pw_or (ha : PT X a tA) (hb : PW X (.BoolOp .Or (b :: rest) pos) tB') : PW X (.BoolOp .Or (a :: b :: rest) pos) (tOr tA tB') := by
  intro wh pins s σ H Q I h
  refine isTrue_or (thn (ha pins s σ H _ I h) fun c s1 ⟨H1, I1, q1⟩ => ?_)
  cases c with
  | true => exact ⟨H1, I1, q1⟩
  | false => exact hb wh pins s1 σ H1 Q I1 q1
theorem pt_not (ha : PT X a tA) : PT X (.UnaryOp .Not a pos) (tNot tA) := by
  intro pins s σ H Q I h
  exact isTrue_not (ha pins s σ H (fun c H1 => Q (!c) H1) I h)
/-- .. as values (bools) -/
def tAndV (ta tb : TE) : TE := fun σ H Q => ta σ H fun x H1 => ∃ c, x = .bl c ∧ if c = true then tb σ H1 Q else Q (.bl false) H1
def tNotV (ta : TE) : TE := fun σ H Q => ta σ H fun x H1 => ∃ c, x = .bl c ∧ Q (.bl (!c)) H1
theorem pe_one {op} {t : TE} (h : PE X a t) : PE X (.BoolOp op [a] pos) t := fun pins s σ H Q I hw => BoolOp_one (h pins s σ H Q I hw)
theorem pe_and (ha : PE X a ta) (hb : PE X (.BoolOp .And (b :: rest) pos) tb) : PE X (.BoolOp .And (a :: b :: rest) pos) (tAndV ta tb) := by
  intro pins s σ H Q I h
  refine BoolOp_and (thn (ha pins s σ H _ I h) fun v s1 ⟨x, H1, I1, r1, q1⟩ => ?_)
  obtain ⟨c, rfl, q1⟩ := q1
  cases r1
  refine wpAny_truthy_bool ?_
  cases c with
  | true => exact hb pins s1 σ H1 Q I1 q1
  | false => exact ⟨.bl false, H1, I1, rfl, q1⟩
theorem pe_not (ha : PE X a ta) : PE X (.UnaryOp .Not a pos) (tNotV ta) := by
  intro pins s σ H Q I h
  refine UnaryOp_ (thn (ha pins s σ H _ I h) fun v s1 ⟨x, H1, I1, r1, q1⟩ => ?_)
  obtain ⟨c, rfl, q1⟩ := q1
  cases r1
  exact not_of (wpAny_truthy_bool ⟨.bl (!c), H1, I1, rfl, q1⟩)
end
end L2

namespace L2
open PySem PySem.Spec PyProof.Rows

/-! ### a list, a tuple that is read: tracked, frozen, or an object of the module -/
def SqL (K : PySem.W.Frag) (H : Hp) (a : Addr) (xs : List V) : Prop :=
  Rd H a (.lst xs) ∨
    ∃ (o : Obj) (its : Array Value) (n : Nat), K.lookup a = some o ∧ o.cls = .type "list" ∧ o.dict = none ∧ o.data = .seq its n ∧ its.size ≤ sizeLine ∧ Vals xs its.toList
def SqT (K : PySem.W.Frag) (H : Hp) (a : Addr) (xs : List V) : Prop :=
  Rd H a (.tup xs) ∨
    ∃ (o : Obj) (its : Array Value) (n : Nat), K.lookup a = some o ∧ o.cls = .type "tuple" ∧ o.data = .seq its n ∧ its.size ≤ sizeLine ∧ Vals xs its.toList
def absV : Value → Option V
  | .none => some .non
  | .bool b => some (.bl b)
  | .int i _ => some (.int i)
  | .str x _ => some (.str x)
  | .bytes b _ => some (.byt b)
  | .float b _ => some (.flt b)
  | .ref a => some (.ref a)
  | .type n => some (.ty n)
  | _ => none
theorem RelV.abs {x : V} {u : Value} (r : RelV x u) : absV u = some x := by
  cases x with
  | non => cases r; rfl
  | bl _ => cases r; rfl
  | int _ => obtain ⟨t, rfl⟩ := r; rfl
  | str _ => obtain ⟨t, rfl⟩ := r; rfl
  | byt _ => obtain ⟨t, rfl⟩ := r; rfl
  | flt _ => obtain ⟨t, rfl⟩ := r; rfl
  | ref _ => cases r; rfl
  | ty _ => cases r; rfl
theorem RelV.inj {x y : V} {u : Value} (r : RelV x u) (q : RelV y u) : x = y := Option.some.inj (r.abs.symm.trans q.abs)
theorem Vals.inj : ∀ {xs ys : List V} {us : List Value}, Vals xs us → Vals ys us → xs = ys
  | _, _, _, .nil, .nil => rfl
  | _, _, _, .cons r t, .cons r' t' => by rw [r.inj r', Vals.inj t t']
section
variable {X : Cx} {pins : List (Addr × Obj)} {σ : St} {H : Hp} {s : Shared} {a : Addr} {xs ys : List V}
theorem SqL.of {K : PySem.W.Frag} (h : H a = some (.lst xs)) : SqL K H a xs := .inl (.inl h)
theorem SqT.of {K : PySem.W.Frag} (h : H a = some (.tup xs)) : SqT K H a xs := .inl (.inl h)
theorem Inv.list (I : Inv X pins σ H s) (h : SqL X.K H a xs) : ∃ its : List Value, Vals xs its ∧ PlainL s.heap a its.toArray ∧ xs.length ≤ sizeLine := by
  rcases h with h | ⟨o, its, n, hk, hc, hd, hs, hz, r⟩
  · obtain ⟨z, its, n, r, e⟩ := h.ok I.hok
    exact ⟨its, r, ⟨_, n, e, rfl, rfl, rfl⟩, z⟩
  · refine ⟨its.toList, r, ⟨o, n, I.kIn a o hk, hc, hd, by simpa using hs⟩, ?_⟩
    have e := r.length
    simp only [Array.length_toList] at e
    omega
theorem Inv.tuple (I : Inv X pins σ H s) (h : SqT X.K H a xs) : ∃ its : List Value, Vals xs its ∧ IsTup s.heap a its.toArray ∧ xs.length ≤ sizeLine := by
  rcases h with h | ⟨o, its, n, hk, hc, hs, hz, r⟩
  · obtain ⟨z, its, r, p⟩ := h.ok I.hok
    exact ⟨its, r, p, z⟩
  · refine ⟨its.toList, r, ⟨o, I.kIn a o hk, hc, n, by simpa using hs⟩, ?_⟩
    have e := r.length
    simp only [Array.length_toList] at e
    omega
theorem Inv.list_inj (I : Inv X pins σ H s) (h : SqL X.K H a xs) (h' : SqL X.K H a ys) : xs = ys := by
  obtain ⟨its, r, ⟨o, n, e, _, _, d⟩, _⟩ := I.list h
  obtain ⟨its', r', ⟨o', n', e', _, _, d'⟩, _⟩ := I.list h'
  rw [e] at e'; cases e'
  rw [d] at d'
  injection d' with d1 _
  have : its = its' := by simpa using congrArg Array.toList d1
  subst this
  exact r.inj r'
end

/-! ### another wish about exceptions -/
abbrev Cx.wish (X : Cx) (E : Value → Shared → Prop) : Cx := { X with xe := E }
/-- no exception leaves -/
abbrev Cx.nox (X : Cx) : Cx := X.wish fun _ _ => False
theorem Cx.Ok.wish {X : Cx} (ok : X.Ok) (E : Value → Shared → Prop) : (X.wish E).Ok :=
  ⟨ok.mod, ok.kind, ok.glob, ok.blt, ok.above, ok.inj, ok.has, ok.cab, ok.hd, ok.frames, ok.stk, ok.exf, ok.bs, ok.bsz, ok.noex, ok.exfs, ok.funs, ok.frf⟩
theorem Cx.Ok.unwish {X : Cx} {E : Value → Shared → Prop} (ok : (X.wish E).Ok) : X.Ok :=
  ⟨ok.mod, ok.kind, ok.glob, ok.blt, ok.above, ok.inj, ok.has, ok.cab, ok.hd, ok.frames, ok.stk, ok.exf, ok.bs, ok.bsz, ok.noex, ok.exfs, ok.funs, ok.frf⟩
section
variable {X : Cx} {pins : List (Addr × Obj)} {σ : St} {H : Hp} {s : Shared} {E : Value → Shared → Prop}
theorem Inv.wish (I : Inv X pins σ H s) (E : Value → Shared → Prop) : Inv (X.wish E) pins σ H s := ⟨I.ok.wish E, I.os, I.bare, I.base, I.loc, I.cell, I.free, I.freeC, I.pin, I.hok, I.len⟩
theorem Inv.unwish (I : Inv (X.wish E) pins σ H s) : Inv X pins σ H s := ⟨I.ok.unwish, I.os, I.bare, I.base, I.loc, I.cell, I.free, I.freeC, I.pin, I.hok, I.len⟩
theorem SP.unwish {D : Ends} {f : Flow} {s' : Shared} (h : SP (X.wish E) pins D f s') : SP X pins D f s' := by
  cases f with
  | next => obtain ⟨σ', H', I, q⟩ := h; exact ⟨σ', H', I.unwish, q⟩
  | brk => obtain ⟨σ', H', I, q⟩ := h; exact ⟨σ', H', I.unwish, q⟩
  | cont => obtain ⟨σ', H', I, q⟩ := h; exact ⟨σ', H', I.unwish, q⟩
  | ret u => obtain ⟨v, σ', H', I, r, q⟩ := h; exact ⟨v, σ', H', I.unwish, r, q⟩
theorem PSs.nox {st : List Stmt} {t : TS} (h : PSs X.nox st t) : PSs X st t := fun pins s σ H D I hw =>
  wpAny_mono (h pins s σ H D (I.wish _) hw) (fun _ _ q => q.unwish) fun _ _ z => False.elim z
end

/-! ### blocks and small statements -/
section
variable {X : Cx} {st : Stmt} {rest : List Stmt} {t u : TS} {e : Expr} {te : TE} {pos : Pos}
def tNext : TS := fun D σ H => D.nx σ H
def tSeq (t u : TS) : TS := fun D σ H => t { D with nx := u D } σ H
theorem pss_nil : PSs X [] tNext := fun _ _ σ H _ I h => wpAny_execs_nil ⟨σ, H, I, h⟩
theorem pss_cons (h1 : PS X st t) (h2 : PSs X rest u) : PSs X (st :: rest) (tSeq t u) := by
  intro pins s σ H D I h
  refine wpAny_execs_cons (thn (h1 pins s σ H { D with nx := u D } I h) fun f s1 q => ?_)
  cases f with
  | next =>
    obtain ⟨σ', H', I', q⟩ := q
    exact h2 pins s1 σ' H' D I' q
  | ret v => exact q
  | brk => exact q
  | cont => exact q
theorem pss_one (h1 : PS X st t) : PSs X [st] t := by
  intro pins s σ H D I h
  refine wpAny_execs_cons (thn (h1 pins s σ H D I h) fun f s1 q => ?_)
  cases f with
  | next => exact wpAny_execs_nil q
  | ret v => exact q
  | brk => exact q
  | cont => exact q
/-- in a def's body nothing is shown -/
theorem Inv.quiet {pins : List (Addr × Obj)} {σ : St} {H : Hp} {s : Shared} (I : Inv X pins σ H s) : interactive X.env = false := by simp [interactive, I.ok.kind]
/-- an expression whose value is dropped -/
def tDrop (te : TE) : TS := fun D σ H => te σ H fun _ H1 => D.nx σ H1
theorem ps_expr (he : PE X e te) (hs : swapsWith e none pos.line X.env = pure false := by rfl) : PS X (.Expr e pos) (tDrop te) := by
  intro pins s σ H D I h
  exact wpAny_Expr_any (thn (he pins s σ H _ I h) fun v s1 ⟨x, H1, I1, r1, q1⟩ => ⟨σ, H1, I1, q1⟩) I.quiet hs
def tRet (te : TE) : TS := fun D σ H => te σ H D.rt
theorem ps_ret (he : PE X e te) : PS X (.Return (some e) pos) (tRet te) := by
  intro pins s σ H D I h
  exact wpAny_Return_some (thn (he pins s σ H _ I h) fun v s1 ⟨x, H1, I1, r1, q1⟩ => ⟨x, σ, H1, I1, r1, q1⟩)
def tIfS (c : TT) (t u : TS) : TS := fun D σ H => c σ H fun b H1 => if b = true then t D σ H1 else u D σ H1
theorem ps_if {c : Expr} {a b : List Stmt} {tc : TT} (hc : PT X c tc) (ha : PSs X a t) (hb : PSs X b u) : PS X (.If c a b pos) (tIfS tc t u) := by
  intro pins s σ H D I h
  refine wpAny_If (thn (hc pins s σ H _ I h) fun d s1 ⟨H1, I1, q1⟩ => ?_)
  cases d with
  | true => exact ha pins s1 σ H1 D I1 q1
  | false => exact hb pins s1 σ H1 D I1 q1
end

/-! ### targets -/
abbrev TG := V → St → Hp → (St → Hp → Prop) → Prop
def PG (X : Cx) (target : Expr) (t : TG) : Prop :=
  ∀ (pins : List (Addr × Obj)) (s : Shared) (σ : St) (H : Hp) (v : V) (u : Value) (Q : St → Hp → Prop), Inv X pins σ H s → RelV v u → t v σ H Q →
    wpAny (model X.prog X.w) X.A (assign target X.env u) (fun _ s' => ∃ σ' H', Inv X pins σ' H' s' ∧ Q σ' H') X.xe s
section
variable {X : Cx} {pos : Pos}
def gName (i : Nat) : TG := fun v σ H Q => Q (σ.set i (some v)) H
theorem pg_name {i : Nat} {x : Str} (hN : X.N.Nodup) (hi : X.N[i]? = some x) (hx : Loc X.env.scope x) (hf : X.fn x = true ∨ X.env.scope.names.lookup x = some .local := by first | exact .inl rfl | exact .inr rfl | assumption) : PG X (.Name x pos) (gName i) := by
  intro pins s σ H v u Q I r h
  exact wpAny_assign_Name (store_ok I hN hi hx r (fun s' I' => ⟨_, H, I', h⟩) hf)
/-- target = value -/
def tAsg (te : TE) (g : TG) : TS := fun D σ H => te σ H fun x H1 => g x σ H1 D.nx
/-- name = value -/
theorem ps_set {i : Nat} {x : Str} {e : Expr} {te : TE} {pos' : Pos} (hN : X.N.Nodup) (hi : X.N[i]? = some x) (hx : Loc X.env.scope x) (he : PE X e te) (hs : swapsWith e (some (.Name x pos')) pos.line X.env = pure false := by rfl) (hf : X.fn x = true ∨ X.env.scope.names.lookup x = some .local := by first | exact .inl rfl | exact .inr rfl | assumption) :
    PS X (.Assign [.Name x pos'] e pos) (tAsg te (gName i)) := by
  intro pins s σ H D I h
  refine wpAny_Assign_Name (thn (he pins s σ H _ I h) fun v s1 ⟨y, H1, I1, r1, q1⟩ => ?_) hs
  exact store_ok I1 hN hi hx r1 (fun s2 I2 => ⟨_, H1, I2, q1⟩) hf
/-- a, b = x, y with plain local names: stored from the right; the pair itself is not tracked (the opening rows as in PyProof/Rows/TupAssign.lean:23) -/
def tPar (i j : Nat) (ta : TA) : TS := fun D σ H => ta σ H fun vs H1 => ∃ v w, vs = [v, w] ∧ D.nx ((σ.set i (some v)).set j (some w)) H1
theorem ps_par {i j : Nat} {x y : Str} {a b : Expr} {ta : TA} {px py pt : Pos} {kt k2 pt2} (hc : X.calm = true) (hN : X.N.Nodup) (hi : X.N[i]? = some x) (hj : X.N[j]? = some y) (hij : i ≠ j)
    (hx : X.env.scope.names.lookup x = some .local) (hy : X.env.scope.names.lookup y = some .local) (ha : PA X [a, b] ta)
    (hw : swappedStores [.Tuple [.Name x px, .Name y py] kt pt] (.Tuple [a, b] k2 pt2) X.env = pure (some [x, y]))
    (hs : swapsWithSole [.Tuple [.Name x px, .Name y py] kt pt] (.Tuple [a, b] k2 pt2) pos.line X.env = pure false := by rfl) :
    PS X (.Assign [.Tuple [.Name x px, .Name y py] kt pt] (.Tuple [a, b] k2 pt2) pos) (tPar i j ta) := by
  intro pins s σ H D I h
  rw [exec_Assign_arm]
  refine wpAny_bind (wpAny_standAt ?_)
  rw [hs]
  refine wpAny_bind (wpAny_pure ?_)
  rw [if_neg (by decide)]
  refine wpAny_bind (Tuple_ (thn (ha _ pins s σ H _ I h) fun us s1 ⟨vs, H1, I1, r1, q1⟩ => ?_))
  obtain ⟨v, w, e1, q1⟩ := q1
  subst e1
  obtain ⟨u1, u2, rfl, rv, rw'⟩ : ∃ u1 u2, us = [u1, u2] ∧ RelV v u1 ∧ RelV w u2 := by
    cases r1 with
    | cons p q =>
      cases q with
      | cons p' q' =>
        cases q'
        exact ⟨_, _, rfl, p, p'⟩
  refine wpAny_newObj_type ?_ (by show 2 ≤ sizeLine; decide)
  have I2 : Inv X pins σ H1 { s1 with heap := s1.heap.push { cls := .type "tuple", data := .seq [u1, u2].toArray } } := I1.kept (t' := s1.toks) fun b o e => Heap.get?_push_of_some _ e
  rw [hw]
  refine wpAny_bind (wpAny_pure ?_)
  show wpAny (model X.prog X.w) X.A (do rule "assign.swapped-stores"; let items ← unpackItems (.ref s1.heap.objs.size) 2 none; assignInOrder [fun v => bindName X.env y v, fun v => bindName X.env x v] items.reverse; pure Flow.next) _ _ _
  refine wpAny_bind (wpAny_rule (wpAny_bind (unpackItems_tuple (items := #[u1, u2]) (I.ok.hd hc) (IsTup.new s1.heap _) fun h' hx' => ?_)))
  have I3 := I2.kept (h' := h') (t' := s1.toks) fun b o e => hx' b o (Nat.ne_of_lt (Heap.lt_size e)) e
  show wpAny _ _ (assignInOrder [fun v => bindName X.env y v, fun v => bindName X.env x v] [u2, u1] >>= fun _ => pure Flow.next) _ _ _
  refine wpAny_bind (assignInOrder_cons (wpAny_bindName (store_ok I3 hN hj (.inl hy) rw' (fun s2 I4 => ?_) (.inr hy))))
  refine assignInOrder_cons (wpAny_bindName (store_ok I4 hN hi (.inl hx) rv (fun s3 I5 => assignInOrder_nil (wpAny_pure ?_)) (.inr hx)))
  rw [List.set_comm _ _ (Ne.symm hij)] at I5
  exact ⟨_, H1, I5, q1⟩
end

/-! ### while -/
section
variable {X : Cx} {pos : Pos}
end

/-! ### what a loop or a comprehension walks -/
/-- at turn i: it yields x (the heap may grow), or it stops -/
structure It where
  go : Nat → Hp → Prop
  yld : Nat → Hp → V → Hp → Prop
  stop : Nat → Hp → Prop
/-- the iterator's own objects may turn: they are not the frame's, not pinned, younger than the entry (or a comprehension's own) -/
def FpOk (X : Cx) (pins : List (Addr × Obj)) (H : Hp) (b : Addr) : Prop :=
  H b = none ∧ b ≠ X.env.locals ∧ b ∉ X.fs ∧ (b ∈ X.ex ∨ X.s₀.heap.objs.size ≤ b) ∧ (∀ x c, X.env.cells.lookup x = some c → c ≠ b) ∧ ∀ p ∈ X.pn ++ pins, p.1 ≠ b
theorem Inv.fpOk {X : Cx} {pins : List (Addr × Obj)} {σ : St} {H H' : Hp} {s : Shared} {b : Addr} (I : Inv X pins σ H s) (hb : s.heap.objs.size ≤ b) (hn : H' b = none) : FpOk X pins H' b := by
  refine ⟨hn, Nat.ne_of_gt (Nat.lt_of_lt_of_le I.lt hb), I.nofs hb, .inr (Nat.le_trans I.sz hb), fun x c e z => ?_, fun p hp z => ?_⟩
  · obtain ⟨v, q⟩ := I.cell x c e
    exact absurd (Nat.lt_of_lt_of_le q.lt (by rw [z]; exact hb)) (Nat.lt_irrefl _)
  · exact absurd (Nat.lt_of_lt_of_le (Heap.lt_size (I.pin p hp).1) (by rw [z]; exact hb)) (Nat.lt_irrefl _)
/-- what is handled stands with no context -/
def HandQ (X : Cx) (s : Shared) : Prop := ∃ (ea : Addr) (o : Obj) (vs : Array Value), X.A.handled = some (.ref ea) ∧ s.heap.get? ea = some o ∧ o.data = .fields vs ∧ vs[2]? = some .none
/-- where an iterator may end: nothing is handled; hb: or what is handled has no context -/
def EndQ (hb : Bool) (X : Cx) (s : Shared) : Prop := X.A.handled = none ∨ (hb = true ∧ HandQ X s)
theorem EndQ.none {X : Cx} {s : Shared} (h : EndQ false X s) : X.A.handled = Option.none := by
  rcases h with h | ⟨z, _⟩
  · exact h
  · cases z
structure Turn (P : Program) (w : World) (K : PySem.W.Frag) (tg : Expr) (J : It) (fp : List Addr) (it : Addr) (tn : Nat → Heap → Prop) (hb : Bool := false) : Prop where
  mem : it ∈ fp
  obj : ∀ i h, tn i h → ∀ b ∈ fp, ∃ o, h.get? b = some o ∧ ∀ v, o.data ≠ .cell v
  keep : ∀ i h h', tn i h → (∀ b ∈ fp, ∀ o, h.get? b = some o → h'.get? b = some o) → tn i h'
  item : ∀ (X : Cx), X.prog = P → X.w = w → X.K = K → ∀ (s : Shared), EndQ hb X s → ∀ (i : Nat) (pins : List (Addr × Obj)) (σ : St) (H : Hp) (E : Value → Shared → Prop), Inv X pins σ H s → (∀ b ∈ fp, FpOk X pins H b) → tn i s.heap → J.go i H →
    wpAny (model P w) X.A (pyNext (.ref it)) (fun r s1 => ∃ u, r = some u ∧
      wpAny (model P w) X.A (letOwnedTupleGo tg (.ref it) u) (fun _ s2 => ∃ x H', Inv X pins σ H' s2 ∧ RelV x u ∧ J.yld i H x H' ∧ tn (i + 1) s2.heap ∧ ∀ b ∈ fp, H' b = none) E s1) E s
  done : ∀ (X : Cx), X.prog = P → X.w = w → X.K = K → ∀ (s : Shared), EndQ hb X s → ∀ (i : Nat) (pins : List (Addr × Obj)) (σ : St) (H : Hp) (E : Value → Shared → Prop), Inv X pins σ H s → (∀ b ∈ fp, FpOk X pins H b) → tn i s.heap → J.stop i H →
    wpAny (model P w) X.A (pyNext (.ref it)) (fun r s1 => r = none ∧ Inv X pins σ H s1) E s
  self : ∀ (A : Around) (i : Nat) (s : Shared) (Q : Value → Shared → Prop) (E : Value → Shared → Prop), tn i s.heap → Q (.ref it) s → wpAny (model P w) A (pyIter (.ref it)) Q E s
abbrev TI := St → Hp → (It → Hp → Prop) → Prop
/-- an iterator has come -/
def PIE (X : Cx) (pins : List (Addr × Obj)) (σ : St) (tg : Expr) (R : It → Hp → Prop) (hb : Bool) (itv : Value) (s2 : Shared) : Prop :=
  ∃ (it : Addr) (fp : List Addr) (tn : Nat → Heap → Prop) (J : It) (H' : Hp), itv = .ref it ∧ Inv X pins σ H' s2 ∧ Turn X.prog X.w X.K tg J fp it tn hb ∧ tn 0 s2.heap ∧ (∀ b ∈ fp, FpOk X pins H' b) ∧ R J H'
def PI (X : Cx) (tg iter : Expr) (wi : TI) (hb : Bool := false) : Prop :=
  ∀ (pins : List (Addr × Obj)) (s : Shared) (σ : St) (H : Hp) (R : It → Hp → Prop), Inv X pins σ H s → wi σ H R →
    wpAny (model X.prog X.w) X.A (eval iter X.env) (fun v s1 => wpAny (model X.prog X.w) X.A (pyIter v) (PIE X pins σ tg R hb) X.xe s1) X.xe s

/-- the step ahead of the store is nothing for an iterator that keeps no tuple -/
theorem go_of {M : Model} {A : Around} {E : Value → Shared → Prop} {s : Shared} {tg : Expr} {it : Addr} {u : Value} {o : Obj} {n : String} {vs : Array Value} {Q : Unit → Shared → Prop} (ho : s.heap.get? it = some o) (hc : o.cls = .type n) (hd : o.data = .fields vs)
    (hn : ["enumerate", "zip", "dict_itemiterator", "dict_reverseitemiterator", "odict_iterator", "itertools.zip_longest", "itertools.pairwise"].contains n = false) (hQ : Q () s) : wpAny M A (letOwnedTupleGo tg (.ref it) u) Q E s := by
  unfold letOwnedTupleGo
  cases tg <;> first
    | exact wpAny_pure hQ
    | (cases u <;> first
        | exact wpAny_pure hQ
        | (refine wpAny_bind (wpAny_load ho ?_)
           rw [hc, hd]
           show wpAny M A (if (["enumerate", "zip", "dict_itemiterator", "dict_reverseitemiterator", "odict_iterator", "itertools.zip_longest", "itertools.pairwise"].contains n && vs[0]? == some (rawInt _)) = true then _ else _) Q E s
           rw [if_neg (by intro h; rw [hn, Bool.false_and] at h; cases h)]
           exact wpAny_pure hQ))

/-- the list at a, as it stands at each turn (a loop may append to it) -/
def Itl (K : PySem.W.Frag) (a : Addr) : It :=
  ⟨fun i H => ∃ xs x, SqL K H a xs ∧ xs[i]? = some x, fun i H x H' => H' = H ∧ ∀ xs, SqL K H a xs → xs[i]? = some x, fun i H => ∃ xs, SqL K H a xs ∧ xs.length ≤ i⟩
/-- lo, lo + 1, .. (n of them) -/
def Itr (lo : Int) (n : Nat) : It := ⟨fun i _ => i < n, fun i H x H' => H' = H ∧ x = .int (lo + i), fun i _ => n ≤ i⟩
theorem turn_list {P : Program} {w : World} {K : PySem.W.Frag} {tg : Expr} (a it : Addr) : Turn P w K tg (Itl K a) [it] it (fun i h => h.IsListIter it a i) where
  mem := by simp
  obj := fun i h st b hb => by
    have e : b = it := by simpa using hb
    subst e
    obtain ⟨o, e, c, d⟩ := st
    exact ⟨o, e, fun v z => by rw [d] at z; cases z⟩
  keep := fun i h h' st k => st.at fun o e => k it (by simp) o e
  item := by
    intro X hP hw hK s hc i pins σ H E I hf st hg
    subst hP hw hK
    obtain ⟨xs, x, hq, hx⟩ := hg
    obtain ⟨its, rv, p, hz⟩ := I.list hq
    obtain ⟨u, hu, ru⟩ := rv.get hx
    obtain ⟨f0, f1, f2, f3, f4, f5⟩ := hf it (by simp)
    refine wpAny_pyNext_list_item st p.isList (x := u) (by simpa using hu) fun h' st' sb => ?_
    have I1 : Inv X pins σ H { s with heap := h' } := I.turned (t' := s.toks) (fun b o hb e => (sb.2 b hb).trans e) f0 f1 f3 f4 f5
    obtain ⟨o, e, c, d⟩ := id st'
    exact ⟨u, rfl, go_of (s := { s with heap := h' }) e c d (by decide) ⟨x, H, I1, ru, ⟨rfl, fun ys hy => by rw [I.list_inj hy hq]; exact hx⟩, st', fun b hb => (hf b hb).1⟩⟩
  done := by
    intro X hP hw hK s hc i pins σ H E I hf st hg
    subst hP hw hK
    obtain ⟨xs, hq, hx⟩ := hg
    obtain ⟨its, rv, p, hz⟩ := I.list hq
    obtain ⟨f0, f1, f2, f3, f4, f5⟩ := hf it (by simp)
    have hl := rv.length
    exact wpAny_pyNext_list_end hc.none st p.isList (by simp; omega) fun h' eb => ⟨rfl, I.turned (t' := s.toks) (fun b o hb e => eb b o hb e) f0 f1 f3 f4 f5⟩
  self := fun _ _ _ _ _ st h => wpAny_pyIter_listiter st h
section
variable {prog : Program} {w : World} {A : Around} {E : Value → Shared → Prop} {s : Shared} {e ea it : Addr} {o oe : Obj} {us vs : Array Value}
theorem ent_unchain : entryFor table "proto.unchain" = some Builtin.«proto.unchain» := entryFor_of_tree (by kernel_rfl)
/-- a new exception is raised while another one is handled, which has no context -/
theorem raise_hand {α : Type} {Q : α → Shared → Prop} (hh : A.handled = some (.ref ea)) (hea : s.heap.get? ea = some oe) (hd : oe.data = .fields vs) (h2 : vs[2]? = some .none) (he : s.heap.get? e = some o) (hde : o.data = .fields us) (hsz : 2 < us.size) (hne : ea ≠ e)
    (hE : E (.ref e) { s with heap := s.heap.update e (Obj.mapFields (·.setIfInBounds 2 (.ref ea))) }) : wpAny (model prog w) A (raiseNew (.ref e) : Sem α) Q E s := by
  have n : (Value.ref ea != Value.ref e) = true := by simp [hne]
  unfold raiseNew
  refine wpAny_bind (wpAny_handled ?_)
  rw [hh]
  show wpAny _ _ (if (Value.ref ea != Value.ref e) = true then _ else _) _ _ _
  rw [if_pos n]
  refine wpAny_bind (wpAny_holding (wpAny_runValue (codeAny_builtin ent_unchain ?_)))
  show wpAny _ _ (field (.ref ea) 2 >>= _) _ _ _
  refine wpAny_bind (wpAny_field hea hd h2 ?_)
  show wpAny _ _ (if (Value.none == Value.none) = true then _ else _) _ _ _
  rw [if_pos (show (Value.none == Value.none) = true from rfl)]
  refine wpAny_pure ?_
  exact wpAny_bind (wpAny_setField he hde hsz (wpAny_throw hE))
/-- a range's end, while an exception is handled -/
theorem range_end_hand {x left step : Int} {Q : Option Value → Shared → Prop} (hh : A.handled = some (.ref ea)) (hea : s.heap.get? ea = some oe) (hd : oe.data = .fields vs) (h2 : vs[2]? = some .none) (hit : IsRangeIter s.heap it x left step) (hleft : left ≤ 0)
    (hQ : ∀ h', Heap.ExtBut it s.heap h' → Q none { s with heap := h' }) : wpAny (model prog w) A (pyNext (.ref it)) Q E s := by
  have hT : s.TypeIs (.ref it) "range_iterator" := ⟨_, hit, rfl⟩
  have lt := Heap.lt_size hea
  unfold pyNext; refine wpAny_bind (wpAny_attempt (wpAny_callSpecial?_slot (name := Str.ofString "__next__") hT F.slot_range_iterator_next (wpAny_call_entry F.slot_range_iterator_next hT F.entry_range_iterator_next ?_ (F.args_range_iterator_next_1 _))))
  show wpAny _ _ (field (.ref it) 0 >>= _) _ _ s; refine wpAny_bind (wpAny_field hit rfl (x := rawInt x) rfl ?_); show wpAny _ _ (field (.ref it) 1 >>= _) _ _ s; refine wpAny_bind (wpAny_field hit rfl (x := rawInt left) rfl ?_)
  show wpAny _ _ (field (.ref it) 2 >>= _) _ _ s; refine wpAny_bind (wpAny_field hit rfl (x := rawInt step) rfl ?_); show wpAny _ _ (if left ≤ 0 then _ else _) _ _ s; rw [if_pos hleft]
  refine wpAny_bind (wpAny_rule (wpAny_bind ?_)); show wpAny _ _ (newExc (.type "StopIteration") [] >>= _) _ _ _; refine wpAny_bind ?_; simp only [newExc, newTuple]
  refine wpAny_bind (wpAny_newObj_type ?_ (by size_fits)); refine wpAny_bind (m := firstArgMember _ _) (wpAny_of_eq (a := Value.none) (by first | rfl | (simp only [firstArgMember]; rfl)) ?_); refine wpAny_newObj_type ?_ (by size_fits)
  refine raise_hand (oe := oe) (vs := vs) (by first | exact hh | exact (show A.in1.handled = _ from hh)) (Heap.get?_push_of_some _ (Heap.get?_push_of_some _ hea)) hd h2 (Heap.get?_push_size _ rfl) rfl (by simp; omega) (Nat.ne_of_lt (by rw [Heap.size_push]; exact Nat.lt_succ_of_lt lt)) ?_
  refine wpAny_bind (wpAny_isInstance (T := "StopIteration") (b := true) ⟨_, Heap.get?_update_self _ (Heap.get?_push_size _ rfl) rfl, rfl⟩ isSubtype_stop ?_)
  refine wpAny_pure (hQ _ fun b ob hb q => ?_)
  rw [Heap.get?_update_other _ _ (Nat.ne_of_gt (by rw [Heap.size_push]; exact Nat.lt_succ_of_lt (Heap.lt_size q)))]
  exact Heap.get?_push_of_some _ (Heap.get?_push_of_some _ q)
end
theorem turn_range {P : Program} {w : World} {K : PySem.W.Frag} {tg : Expr} (it : Addr) (lo : Int) (n : Nat) {hb : Bool} : Turn P w K tg (Itr lo n) [it] it (fun i h => IsRangeIter h it (lo + (i : Nat) * 1) ((n : Int) - (i : Nat)) 1) hb where
  mem := by simp
  obj := fun i h st b hb => by
    have e : b = it := by simpa using hb
    subst e
    exact ⟨_, st, fun v z => by
      have z' : Data.fields _ = Data.cell v := z
      cases z'⟩
  keep := fun i h h' st k => k it (by simp) _ st
  item := by
    intro X hP hw hK s hc i pins σ H E I hf st hg
    subst hP hw hK
    obtain ⟨f0, f1, f2, f3, f4, f5⟩ := hf it (by simp)
    have hi : i < n := hg
    refine wpAny_pyNext_range_item st (by omega) fun h' st' sb => ?_
    have I1 : Inv X pins σ H { s with heap := h', toks := s.toks + 1 } := I.turned (fun b o hb e => (sb.2 b hb).trans e) f0 f1 f3 f4 f5
    have e1 : lo + ((i : Nat) : Int) * 1 + 1 = lo + ((i + 1 : Nat) : Int) * 1 := by omega
    have e2 : (n : Int) - ((i : Nat) : Int) - 1 = (n : Int) - ((i + 1 : Nat) : Int) := by omega
    rw [e1, e2] at st'
    refine ⟨_, rfl, go_of (s := { s with heap := h', toks := s.toks + 1 }) (n := "range_iterator") st' rfl rfl (by decide) ⟨.int (lo + i), H, I1, ⟨s.toks, ?_⟩, ⟨rfl, rfl⟩, st', fun b hb => (hf b hb).1⟩⟩
    rw [Int.mul_one]
  done := by
    intro X hP hw hK s hc i pins σ H E I hf st hg
    subst hP hw hK
    obtain ⟨f0, f1, f2, f3, f4, f5⟩ := hf it (by simp)
    have hi : (n : Int) - ((i : Nat) : Int) ≤ 0 := by have : n ≤ i := hg; omega
    rcases hc with hc | ⟨_, ea, o, vs, h1, h2, h3, h4⟩
    · exact wpAny_pyNext_range_end hc st hi fun h' eb => ⟨rfl, I.turned (t' := s.toks) (fun b o hb e => eb b o hb e) f0 f1 f3 f4 f5⟩
    · exact range_end_hand h1 h2 h3 h4 st hi fun h' eb => ⟨rfl, I.turned (t' := s.toks) (fun b o hb e => eb b o hb e) f0 f1 f3 f4 f5⟩
  self := fun _ _ _ _ _ st h => wpAny_pyIter_rangeiter st h
end L2

namespace L2
open PySem PySem.Spec PyProof.Rows
section
variable {X : Cx} {tg : Expr}
def iList (K : PySem.W.Frag) (tl : TE) : TI := fun σ H R => tl σ H fun x H1 => ∃ a, x = .ref a ∧ (∃ xs, SqL K H1 a xs) ∧ R (Itl K a) H1
theorem pi_list {l : Expr} {tl : TE} (hl : PE X l tl) : PI X tg l (iList X.K tl) := by
  intro pins s σ H R I h
  refine thn (hl pins s σ H _ I h) fun v s1 ⟨x, H1, I1, r1, q1⟩ => ?_
  obtain ⟨a, e, ⟨xs, hq⟩, q⟩ := q1
  subst e
  cases r1
  obtain ⟨its, rv, p, hz⟩ := I1.list hq
  refine wpAny_pyIter_list p.isList ?_
  refine ⟨s1.heap.objs.size, [s1.heap.objs.size], _, _, H1, rfl, I1.kept (t' := s1.toks) fun b o e => Heap.get?_push_of_some _ e, turn_list a _, ⟨_, Heap.get?_push_size _ rfl, rfl, rfl⟩, fun b hb => ?_, q⟩
  have e : b = s1.heap.objs.size := by simpa using hb
  subst e
  exact I1.fpOk (Nat.le_refl _) (I1.hok.fresh (Nat.le_refl _))
/-- a range object just made, walked -/
theorem range_it {hb : Bool} {pins : List (Addr × Obj)} {σ : St} {H : Hp} {s : Shared} {R : It → Hp → Prop} {E : Value → Shared → Prop} {lo hi : Int} {t u v : Tok} {tk : Nat} (I : Inv X pins σ H s) (h1 : -(2 ^ 62) ≤ lo) (h2 : lo < 2 ^ 62) (h3 : -(2 ^ 62) ≤ hi) (h4 : hi < 2 ^ 62)
    (q : R (Itr lo (hi - lo).toNat) H) : wpAny (model X.prog X.w) X.A (pyIter (.ref s.heap.objs.size)) (PIE X pins σ tg R hb) E { s with heap := s.heap.push { cls := .type "range", data := .fields #[.int lo t, .int hi u, .int 1 v] }, toks := tk } := by
  refine wpAny_pyIter_range (IsRange.new ..) (small_one h1 h2 h3 h4) ?_
  have I1 : Inv X pins σ H { s with heap := s.heap.push { cls := .type "range", data := .fields #[.int lo t, .int hi u, .int 1 v] }, toks := tk } := I.kept fun b o e => Heap.get?_push_of_some _ e
  refine ⟨(s.heap.push { cls := .type "range", data := .fields #[.int lo t, .int hi u, .int 1 v] }).objs.size, [(s.heap.push { cls := .type "range", data := .fields #[.int lo t, .int hi u, .int 1 v] }).objs.size], _, _, H, rfl,
    I1.kept (t' := tk) fun b o e => Heap.get?_push_of_some _ e, turn_range _ lo (hi - lo).toNat, ?_, fun b hb => ?_, q⟩
  · have e1 : lo + ((0 : Nat) : Int) * 1 = lo := by simp
    have e2 : (((hi - lo).toNat : Nat) : Int) - ((0 : Nat) : Int) = Builtin.Range.rangeSize lo hi 1 := by rw [rangeSize_one]; split <;> omega
    show IsRangeIter _ _ (lo + ((0 : Nat) : Int) * 1) ((((hi - lo).toNat : Nat) : Int) - ((0 : Nat) : Int)) 1
    rw [e1, e2]
    exact Heap.get?_push_size _ rfl
  · have e : b = (s.heap.push { cls := .type "range", data := .fields #[.int lo t, .int hi u, .int 1 v] }).objs.size := by simpa using hb
    subst e
    exact I1.fpOk (Nat.le_refl _) (I1.hok.fresh (Nat.le_refl _))
def iRng1 (ta : TA) : TI := fun σ H R => ta σ H fun vs H1 => ∃ j : Int, vs = [.int j] ∧ -(2 ^ 62) ≤ j ∧ j < 2 ^ 62 ∧ R (Itr 0 j.toNat) H1
theorem pi_range1 {hb : Bool} {a : Expr} {ta : TA} {p pos : Pos} (hg : Gl X "range") (hm : X.mg "range" = none) (ha : PA X [a] ta) (hs : starEach [a] X.env = [(false, eval a X.env)] := by rfl) : PI X tg (.Call (.Name "range" p) [a] [] pos) (iRng1 ta) hb := by
  intro pins s σ H R I h
  refine Call_ (ld_blt I hg hm boot_range (PyProof.Rows.callWith_type1 (thn (ha pos pins s σ H _ I h) fun us s1 ⟨vs, H1, I1, r1, q1⟩ => ?_) hs rfl))
  obtain ⟨j, e, q1, q2, q⟩ := q1
  subst e
  cases r1 with
  | cons r rr =>
    cases rr
    obtain ⟨t, rfl⟩ := r
    exact call_range_1 (range_it I1 (by omega) (by omega) q1 q2 (by simpa using q))
/-! ### for -/
/-- W: the invariant by the turn and a measure; N: what the body is to reach -/
def tFor (wi : TI) (g : TG) (tb : TS) : TS := fun D σ H => wi σ H fun J H1 => ∃ W : Nat → Nat → St → Hp → Prop, (∃ m, W 0 m σ H1) ∧ ∀ i m σ H, W i m σ H →
  (J.stop i H ∧ D.nx σ H) ∨ (J.go i H ∧ ∃ N : St → Hp → Prop, (∀ σ' H', N σ' H' → ∃ m', m' < m ∧ W (i + 1) m' σ' H') ∧ ∀ x H', J.yld i H x H' → g x σ H' fun σ2 H2 => tb { D with nx := N, ct := N, bk := D.nx } σ2 H2)
/-- the records at fp as they stand -/
def pinsAt (fp : List Addr) (h : Heap) : List (Addr × Obj) := fp.filterMap fun b => (h.get? b).map fun o => (b, o)
theorem mem_pinsAt {fp : List Addr} {h : Heap} {b : Addr} {o : Obj} (hb : b ∈ fp) (e : h.get? b = some o) : (b, o) ∈ pinsAt fp h := List.mem_filterMap.mpr ⟨b, hb, by rw [e]; rfl⟩
theorem of_pinsAt {fp : List Addr} {h : Heap} {p : Addr × Obj} (hp : p ∈ pinsAt fp h) : p.1 ∈ fp ∧ h.get? p.1 = some p.2 := by
  obtain ⟨b, hb, e⟩ := List.mem_filterMap.mp hp
  cases q : h.get? b with
  | none => rw [q] at e; cases e
  | some o =>
    rw [q] at e
    have e' : (b, o) = p := Option.some.inj e
    subst e'
    exact ⟨hb, q⟩
theorem Inv.pinned {pins : List (Addr × Obj)} {σ : St} {H : Hp} {s : Shared} {fp : List Addr} (I : Inv X pins σ H s) (hf : ∀ b ∈ fp, FpOk X pins H b) (ho : ∀ b ∈ fp, ∃ o, s.heap.get? b = some o ∧ ∀ v, o.data ≠ .cell v) : Inv X (pins ++ pinsAt fp s.heap) σ H s :=
  I.pins_of fun p hp => (List.mem_append.mp hp).elim (fun z => I.pin p (List.mem_append_right _ z)) fun z => by
    obtain ⟨hb, e⟩ := of_pinsAt z
    obtain ⟨f0, f1, f2, _⟩ := hf p.1 hb
    obtain ⟨o, e', d⟩ := ho p.1 hb
    rw [e] at e'; cases e'
    exact ⟨e, f0, f1, f2, d⟩
theorem Inv.unpinned {pins pl : List (Addr × Obj)} {σ : St} {H : Hp} {s : Shared} (I : Inv X (pins ++ pl) σ H s) : Inv X pins σ H s := I.pins_of fun p hp => I.pin p (List.mem_append_right _ (List.mem_append_left _ hp))
theorem ps_for {iter : Expr} {body : List Stmt} {wi : TI} {g : TG} {tb : TS} {pos : Pos} (hp : PassesOwn (model X.prog X.w) X.A X.env X.xe) (hc : X.calm = true) (hi : PI X tg iter wi) (hg : PG X tg g) (hb : PSs X body tb)
    (hs : ∀ x, foldedSetIterable iter X.env x = pure x := by intro _; rfl) : PS X (.For tg iter body [] pos) (tFor wi g tb) := by
  intro pins s σ H D I h
  refine wpAny_For (thn (hi pins s σ H _ I h) fun v s1 h1 => thn h1 fun itv s2 h2 => ?_) hs
  obtain ⟨it, fp, tn, J, H2, e, I2, T, st2, f2, W, ⟨m0, w0⟩, turn⟩ := h2
  subst e
  -- what stays true of the iterator's objects through the loop
  have stat : ∀ {H' : Hp}, (∀ b ∈ fp, H' b = none) → ∀ b ∈ fp, FpOk X pins H' b := fun hn b hb => ⟨hn b hb, (f2 b hb).2⟩
  refine codeAny_forLoop_any (fun n s' => ∃ i σ' H', Inv X pins σ' H' s' ∧ tn i s'.heap ∧ (∀ b ∈ fp, H' b = none) ∧ W i n σ' H') ?_ m0 ⟨0, σ, H2, I2, st2, fun b hb => (f2 b hb).1, w0⟩
  rintro n s3 ⟨i, σ3, H3, I3, st3, fr3, w3⟩
  rcases turn i n σ3 H3 w3 with ⟨stop, qn⟩ | ⟨go, N, hN, step⟩
  · refine wpAny_passesOwn hp (thn (T.done X rfl rfl rfl s3 (.inl (I3.ok.hd hc)) i pins σ3 H3 X.xe I3 (stat fr3) st3 stop) fun r s4 ⟨hr, I4⟩ => ?_)
    subst hr
    exact wpAny_execs_nil ⟨σ3, H3, I4, qn⟩
  · refine wpAny_passesOwn hp (thn (T.item X rfl rfl rfl s3 (.inl (I3.ok.hd hc)) i pins σ3 H3 X.xe I3 (stat fr3) st3 go) fun r s4 ⟨u, hr, h4⟩ => ?_)
    subst hr
    refine wpAny_passesOwn hp (thn h4 fun _ s5 ⟨x, H5, I5, r5, y5, st5, fr5⟩ => ?_)
    have I5' := I5.pinned (stat fr5) (T.obj _ _ st5)
    refine wpAny_passesOwn hp (thn (hg _ s5 σ3 H5 x u _ I5' r5 (step x H5 y5)) fun _ s6 ⟨σ6, H6, I6, q6⟩ => ?_)
    refine wpAny_passesOwn hp (thn (hb _ s6 σ6 H6 _ I6 q6) fun f s7 q7 => ?_)
    have again : ∀ {σ7 : St} {H7 : Hp}, Inv X (pins ++ pinsAt fp s5.heap) σ7 H7 s7 → N σ7 H7 → ∃ m, m < n ∧ ∃ i σ' H', Inv X pins σ' H' s7 ∧ tn i s7.heap ∧ (∀ b ∈ fp, H' b = none) ∧ W i m σ' H' := fun {σ7 H7} I7 n7 => by
      obtain ⟨m', hm, w7⟩ := hN σ7 H7 n7
      refine ⟨m', hm, i + 1, σ7, H7, I7.unpinned, T.keep _ _ _ st5 fun b hb o e => (I7.pin (b, o) (List.mem_append_right _ (List.mem_append_right _ (mem_pinsAt hb e)))).1, fun b hb => ?_, w7⟩
      obtain ⟨o, e, d⟩ := T.obj _ _ st5 b hb
      exact (I7.pin (b, o) (List.mem_append_right _ (List.mem_append_right _ (mem_pinsAt hb e)))).2.1
    cases f with
    | next => obtain ⟨σ7, H7, I7, n7⟩ := q7; exact again I7 n7
    | cont => obtain ⟨σ7, H7, I7, n7⟩ := q7; exact again I7 n7
    | brk => obtain ⟨σ7, H7, I7, q7⟩ := q7; exact ⟨σ7, H7, I7.unpinned, q7⟩
    | ret v => obtain ⟨x7, σ7, H7, I7, r7, q7⟩ := q7; exact ⟨x7, σ7, H7, I7.unpinned, r7, q7⟩
end

/-! ### the forms one uses -/
/-- over a list that the body leaves as it is -/
theorem for_list {K : PySem.W.Frag} {a : Addr} {xs : List V} {g : TG} {tb : TS} {D : Ends} {σ : St} {H : Hp} (Pv : Nat → St → Hp → Prop) (h0 : Pv 0 σ H) (hl : ∀ i σ H, i ≤ xs.length → Pv i σ H → SqL K H a xs)
    (hs : ∀ i x σ H, xs[i]? = some x → Pv i σ H → g x σ H fun σ2 H2 => tb { D with nx := Pv (i + 1), ct := Pv (i + 1), bk := D.nx } σ2 H2) (hd : ∀ σ H, Pv xs.length σ H → D.nx σ H) :
    ∃ W : Nat → Nat → St → Hp → Prop, (∃ m, W 0 m σ H) ∧ ∀ i m σ H, W i m σ H →
      ((Itl K a).stop i H ∧ D.nx σ H) ∨ ((Itl K a).go i H ∧ ∃ N : St → Hp → Prop, (∀ σ' H', N σ' H' → ∃ m', m' < m ∧ W (i + 1) m' σ' H') ∧ ∀ x H', (Itl K a).yld i H x H' → g x σ H' fun σ2 H2 => tb { D with nx := N, ct := N, bk := D.nx } σ2 H2) := by
  refine ⟨fun i m σ H => m = xs.length - i ∧ i ≤ xs.length ∧ Pv i σ H, ⟨xs.length, by simp, Nat.zero_le _, h0⟩, ?_⟩
  rintro i m σ H ⟨rfl, hi, p⟩
  have q := hl i σ H hi p
  by_cases hlt : i < xs.length
  · refine .inr ⟨⟨xs, xs[i], q, by simp [hlt]⟩, Pv (i + 1), fun σ' H' p' => ⟨xs.length - (i + 1), by omega, rfl, hlt, p'⟩, fun x H' y => ?_⟩
    obtain ⟨e, y⟩ := y
    subst e
    exact hs i x σ _ (y xs q) p
  · have e : i = xs.length := by omega
    subst e
    exact .inl ⟨⟨xs, q, Nat.le_refl _⟩, hd σ H p⟩
end L2

namespace L2
open PySem PySem.Spec PyProof.Rows

abbrev R2 := V → V → Hp → VK → Prop
/-- a two-place operation on values: f is binaryOp op, inplaceOp op or compareOp op -/
def OpR (X : Cx) (f : Value → Value → Sem Value) (r : R2) : Prop :=
  ∀ (pins : List (Addr × Obj)) (s : Shared) (σ : St) (H : Hp) (x y : V) (v u : Value) (Q : VK), Inv X pins σ H s → RelV x v → RelV y u → r x y H Q →
    wpAny (model X.prog X.w) X.A (f v u) (EP X pins σ Q) X.xe s
/-- a one-place operation -/
def UnR (X : Cx) (f : Value → Sem Value) (r : V → Hp → VK → Prop) : Prop :=
  ∀ (pins : List (Addr × Obj)) (s : Shared) (σ : St) (H : Hp) (x : V) (v : Value) (Q : VK), Inv X pins σ H s → RelV x v → r x H Q →
    wpAny (model X.prog X.w) X.A (f v) (EP X pins σ Q) X.xe s
/-- a call of a value that is known (a builtin, a type) with values -/
def CallR (X : Cx) (f : Value) (r : List V → Hp → VK → Prop) : Prop :=
  ∀ (pins : List (Addr × Obj)) (s : Shared) (σ : St) (H : Hp) (xs : List V) (us : List Value) (Q : VK), Inv X pins σ H s → Vals xs us → r xs H Q →
    wpAny (model X.prog X.w) X.A (call f us) (EP X pins σ Q) X.xe s
def tOp (r : R2) (ta tb : TE) : TE := fun σ H Q => ta σ H fun x H1 => tb σ H1 fun y H2 => r x y H2 Q
def tUn (r : V → Hp → VK → Prop) (ta : TE) : TE := fun σ H Q => ta σ H fun x H1 => r x H1 Q
/-- ints in, under C, and a value out -/
def rI (C : Int → Int → Prop) (g : Int → Int → V) : R2 := fun x y H Q => ∃ i j, x = .int i ∧ y = .int j ∧ C i j ∧ Q (g i j) H
def rI0 (g : Int → Int → V) : R2 := fun x y H Q => ∃ i j, x = .int i ∧ y = .int j ∧ Q (g i j) H
def rU (g : Int → V) : V → Hp → VK → Prop := fun x H Q => ∃ i, x = .int i ∧ Q (g i) H

section
variable {X : Cx} {a b c : Expr} {ta tb tc : TE} {pos : Pos}

theorem binT (ha : PE X a ta) (hb : PE X b tb) {pins : List (Addr × Obj)} {s : Shared} {σ : St} {H : Hp} {R : V → V → Hp → Prop} (I : Inv X pins σ H s)
    (h : ta σ H fun x H1 => tb σ H1 fun y H2 => R x y H2) {Q : Value → Shared → Prop} {f : Value → Value → Sem Value}
    (hf : ∀ v u s2 x y H2, Inv X pins σ H2 s2 → RelV x v → RelV y u → R x y H2 → wpAny (model X.prog X.w) X.A (f v u) Q X.xe s2) :
    wpAny (model X.prog X.w) X.A (eval a X.env) (fun v s₁ => wpAny (model X.prog X.w) X.A (eval b X.env) (fun u s₂ => wpAny (model X.prog X.w) X.A (f v u) Q X.xe s₂) X.xe s₁) X.xe s := by
  refine thn (ha pins s σ H _ I h) fun v s1 ⟨x, H1, I1, r1, q1⟩ => ?_
  refine thn (hb pins s1 σ H1 _ I1 q1) fun u s2 ⟨y, H2, I2, r2, q2⟩ => ?_
  exact hf v u s2 x y H2 I2 r1 r2 q2

theorem pe_op {op : Operator} {r : R2} (ho : OpR X (binaryOp op) r) (ha : PE X a ta) (hb : PE X b tb) : PE X (.BinOp a op b pos) (tOp r ta tb) := by
  intro pins s σ H Q I h
  exact wpAny_BinOp (binT ha hb I h fun v u s2 x y H2 I2 rx ry q => ho pins s2 σ H2 x y v u Q I2 rx ry q)
theorem pe_un {op : UnaryOp} {r : V → Hp → VK → Prop} (ho : UnR X (unaryOp op) r) (ha : PE X a ta) : PE X (.UnaryOp op a pos) (tUn r ta) := by
  intro pins s σ H Q I h
  exact UnaryOp_ (thn (ha pins s σ H _ I h) fun v s1 ⟨x, H1, I1, r1, q1⟩ => ho pins s1 σ H1 x v Q I1 r1 q1)
/-! ### ints -/
theorem opI {f : Value → Value → Sem Value} {C : Int → Int → Prop} {g : Int → Int → Int}
    (rule : ∀ (i j : Int) (t u : Tok) (s : Shared) (Q : Value → Shared → Prop) (E : Value → Shared → Prop), C i j → Q (.int (g i j) s.toks) { s with toks := s.toks + 1 } → wpAny (model X.prog X.w) X.A (f (.int i t) (.int j u)) Q E s) :
    OpR X f (rI C fun i j => .int (g i j)) := by
  intro pins s σ H x y v u Q I rx ry h
  obtain ⟨i, j, rfl, rfl, hc, q⟩ := h
  obtain ⟨t, rfl⟩ := rx
  obtain ⟨t', rfl⟩ := ry
  exact rule i j t t' s _ _ hc ⟨.int (g i j), H, I.tok _, ⟨_, rfl⟩, q⟩
theorem opI0 {f : Value → Value → Sem Value} {g : Int → Int → Int}
    (rule : ∀ (i j : Int) (t u : Tok) (s : Shared) (Q : Value → Shared → Prop) (E : Value → Shared → Prop), Q (.int (g i j) s.toks) { s with toks := s.toks + 1 } → wpAny (model X.prog X.w) X.A (f (.int i t) (.int j u)) Q E s) :
    OpR X f (rI0 fun i j => .int (g i j)) := by
  intro pins s σ H x y v u Q I rx ry h
  obtain ⟨i, j, rfl, rfl, q⟩ := h
  obtain ⟨t, rfl⟩ := rx
  obtain ⟨t', rfl⟩ := ry
  exact rule i j t t' s _ _ ⟨.int (g i j), H, I.tok _, ⟨_, rfl⟩, q⟩
theorem opB0 {f : Value → Value → Sem Value} {g : Int → Int → Bool}
    (rule : ∀ (i j : Int) (t u : Tok) (s : Shared) (Q : Value → Shared → Prop) (E : Value → Shared → Prop), Q (.bool (g i j)) s → wpAny (model X.prog X.w) X.A (f (.int i t) (.int j u)) Q E s) :
    OpR X f (rI0 fun i j => .bl (g i j)) := by
  intro pins s σ H x y v u Q I rx ry h
  obtain ⟨i, j, rfl, rfl, q⟩ := h
  obtain ⟨t, rfl⟩ := rx
  obtain ⟨t', rfl⟩ := ry
  exact rule i j t t' s _ _ ⟨.bl (g i j), H, I, rfl, q⟩

def CDiv (i j : Int) : Prop := 0 < j ∧ j < 1073741824
def CMul (i j : Int) : Prop := (-(2 ^ 64) < i ∧ i < 2 ^ 64) ∨ (-(2 ^ 64) < j ∧ j < 2 ^ 64)
theorem CMul.ok {i j : Int} (h : CMul i j) : IntMulOk i j := by
  rcases h with ⟨h1, h2⟩ | ⟨h1, h2⟩
  · exact .of_left (intBits_le_64 h1 h2)
  · exact .of_right (intBits_le_64 h1 h2)
theorem op_add : OpR X (binaryOp .Add) (rI0 fun i j => .int (i + j)) := opI0 fun _ _ _ _ _ _ _ q => add_int q
theorem op_sub : OpR X (binaryOp .Sub) (rI0 fun i j => .int (i - j)) := opI0 fun _ _ _ _ _ _ _ q => sub_int q
theorem op_mul : OpR X (binaryOp .Mult) (rI CMul fun i j => .int (i * j)) := opI fun _ _ _ _ _ _ _ hc q => mul_int q hc.ok
/-- // by a positive divisor -/
theorem op_fdiv : OpR X (binaryOp .FloorDiv) (rI CDiv fun i j => .int (i / j)) := opI fun i j _ _ _ _ _ hc q => by
  have h1 : (0 : Int) < j := hc.1
  have h2 : j < 1073741824 := hc.2
  exact floordiv_int (by omega) (by rw [Int.fdiv_eq_ediv_of_nonneg i (by omega)]; exact q) (.inl (PyProof.noPylong_small (by omega)))
/-- % by a positive divisor of any size -/
theorem op_mod : OpR X (binaryOp .Mod) (rI (fun _ j => 0 < j) fun i j => .int (i % j)) := opI fun i j _ _ _ _ _ hc q => by
  have h1 : (0 : Int) < j := hc
  exact mod_int' (by omega) (by rw [Int.fmod_eq_emod_of_nonneg i (by omega)]; exact q)
theorem unI {f : Value → Sem Value} {g : Int → Int}
    (rule : ∀ (i : Int) (t : Tok) (s : Shared) (Q : Value → Shared → Prop) (E : Value → Shared → Prop), Q (.int (g i) s.toks) { s with toks := s.toks + 1 } → wpAny (model X.prog X.w) X.A (f (.int i t)) Q E s) :
    UnR X f (rU fun i => .int (g i)) := by
  intro pins s σ H x v Q I rx h
  obtain ⟨i, rfl, q⟩ := h
  obtain ⟨t, rfl⟩ := rx
  exact rule i t s _ _ ⟨.int (g i), H, I.tok _, ⟨_, rfl⟩, q⟩
theorem un_neg : UnR X (unaryOp .USub) (rU fun i => .int (-i)) := unI fun _ _ _ _ _ q => neg_int q
/-! ### bools among ints: n += (a < b) -/
end

/-! ### comparisons -/
/-- the scalars that == tells apart as data does -/
def scal : V → V → Bool
  | .non, .non => true | .non, .int _ => true | .int _, .non => true | .non, .bl _ => true | .bl _, .non => true | .non, .str _ => true | .str _, .non => true
  | .int _, .int _ => true | .bl _, .bl _ => true | .str _, .str _ => true | .byt _, .byt _ => true
  | .int _, .str _ => true | .str _, .int _ => true | .bl _, .str _ => true | .str _, .bl _ => true
  | _, _ => false
def rEq : R2 := fun x y H Q => scal x y = true ∧ Q (.bl (decide (x = y))) H
def rNe : R2 := fun x y H Q => scal x y = true ∧ Q (.bl (!decide (x = y))) H

theorem dec_int {i j : Int} : decide (V.int i = V.int j) = (i == j) := by
  rw [Bool.eq_iff_iff]
  simp
theorem dec_bl {i j : Bool} : decide (V.bl i = V.bl j) = (i == j) := by
  rw [Bool.eq_iff_iff]
  simp
theorem dec_str {i j : Str} : decide (V.str i = V.str j) = (i == j) := by
  rw [Bool.eq_iff_iff]
  simp
theorem dec_byt {i j : Array UInt8} : decide (V.byt i = V.byt j) = (i.toList == j.toList) := by
  rw [Bool.eq_iff_iff]
  cases i
  cases j
  simp

section
variable {X : Cx} {a b c : Expr} {ta tb tc : TE} {pos : Pos}
theorem fin_bl {pins : List (Addr × Obj)} {σ : St} {H : Hp} {s : Shared} {Q : VK} {k k' : Bool} (I : Inv X pins σ H s) (q : Q (.bl k) H) (e : k = k') : EP X pins σ Q (.bool k') s := by
  subst e
  exact ⟨.bl k, H, I, rfl, q⟩
theorem op_eq : OpR X (compareOp .Eq) rEq := by
  intro pins s σ H x y v u Q I rx ry h
  obtain ⟨hs, q⟩ := h
  cases x with
  | non =>
    cases rx
    cases y with
    | non => cases ry; exact PySem.EqNone.eq_none_none (fin_bl I q (by simp))
    | bl j => cases ry; exact PySem.EqNone.eq_none_bool (fin_bl I q (by simp))
    | int j => obtain ⟨t', rfl⟩ := ry; exact PySem.EqNone.eq_none_int (fin_bl I q (by simp))
    | str j => obtain ⟨t', rfl⟩ := ry; exact PySem.EqNone.eq_none_str (fin_bl I q (by simp))
    | _ => exact absurd (show false = true from hs) Bool.false_ne_true
  | bl i =>
    cases rx
    cases y with
    | non => cases ry; exact PySem.EqNone.eq_bool_none (fin_bl I q (by simp))
    | bl j => cases ry; exact eq_bool (fin_bl I q dec_bl)
    | str j => obtain ⟨t', rfl⟩ := ry; exact PySem.EqMixed.eq_bool_str (fin_bl I q (by simp))
    | _ => exact absurd (show false = true from hs) Bool.false_ne_true
  | int i =>
    obtain ⟨t, rfl⟩ := rx
    cases y with
    | non => cases ry; exact PySem.EqNone.eq_int_none (fin_bl I q (by simp))
    | int j => obtain ⟨t', rfl⟩ := ry; exact eq_int (fin_bl I q dec_int)
    | str j => obtain ⟨t', rfl⟩ := ry; exact PySem.EqMixed.eq_int_str (fin_bl I q (by simp))
    | _ => exact absurd (show false = true from hs) Bool.false_ne_true
  | str i =>
    obtain ⟨t, rfl⟩ := rx
    cases y with
    | non => cases ry; exact PySem.EqNone.eq_str_none (fin_bl I q (by simp))
    | bl j => cases ry; exact PySem.EqMixed.eq_str_bool (fin_bl I q (by simp))
    | int j => obtain ⟨t', rfl⟩ := ry; exact PySem.EqMixed.eq_str_int (fin_bl I q (by simp))
    | str j => obtain ⟨t', rfl⟩ := ry; exact eq_str (fin_bl I q dec_str)
    | _ => exact absurd (show false = true from hs) Bool.false_ne_true
  | byt i =>
    obtain ⟨t, rfl⟩ := rx
    cases y with
    | byt j => obtain ⟨t', rfl⟩ := ry; exact PySem.W.eq_bytes (fin_bl I q dec_byt)
    | _ => exact absurd (show false = true from hs) Bool.false_ne_true
  | _ => cases y <;> exact absurd (show false = true from hs) Bool.false_ne_true
theorem op_ne : OpR X (compareOp .NotEq) rNe := by
  intro pins s σ H x y v u Q I rx ry h
  obtain ⟨hs, q⟩ := h
  cases x with
  | non =>
    cases rx
    cases y with
    | non => cases ry; exact PySem.EqNone.ne_none_none (fin_bl I q (by simp))
    | bl j => cases ry; exact PySem.EqNone.ne_none_bool (fin_bl I q (by simp))
    | int j => obtain ⟨t', rfl⟩ := ry; exact PySem.EqNone.ne_none_int (fin_bl I q (by simp))
    | str j => obtain ⟨t', rfl⟩ := ry; exact PySem.EqNone.ne_none_str (fin_bl I q (by simp))
    | _ => exact absurd (show false = true from hs) Bool.false_ne_true
  | bl i =>
    cases rx
    cases y with
    | non => cases ry; exact PySem.EqNone.ne_bool_none (fin_bl I q (by simp))
    | bl j => cases ry; exact ne_bool (fin_bl I q (congrArg not dec_bl))
    | str j => obtain ⟨t', rfl⟩ := ry; exact PySem.EqMixed.ne_bool_str (fin_bl I q (by simp))
    | _ => exact absurd (show false = true from hs) Bool.false_ne_true
  | int i =>
    obtain ⟨t, rfl⟩ := rx
    cases y with
    | non => cases ry; exact PySem.EqNone.ne_int_none (fin_bl I q (by simp))
    | int j => obtain ⟨t', rfl⟩ := ry; exact ne_int (fin_bl I q (congrArg not dec_int))
    | str j => obtain ⟨t', rfl⟩ := ry; exact PySem.EqMixed.ne_int_str (fin_bl I q (by simp))
    | _ => exact absurd (show false = true from hs) Bool.false_ne_true
  | str i =>
    obtain ⟨t, rfl⟩ := rx
    cases y with
    | non => cases ry; exact PySem.EqNone.ne_str_none (fin_bl I q (by simp))
    | bl j => cases ry; exact PySem.EqMixed.ne_str_bool (fin_bl I q (by simp))
    | int j => obtain ⟨t', rfl⟩ := ry; exact PySem.EqMixed.ne_str_int (fin_bl I q (by simp))
    | str j => obtain ⟨t', rfl⟩ := ry; exact ne_str (fin_bl I q (congrArg not dec_str))
    | _ => exact absurd (show false = true from hs) Bool.false_ne_true
  | byt i =>
    obtain ⟨t, rfl⟩ := rx
    cases y with
    | byt j => obtain ⟨t', rfl⟩ := ry; exact PySem.W.ne_bytes (fin_bl I q (congrArg not dec_byt))
    | _ => exact absurd (show false = true from hs) Bool.false_ne_true
  | _ => cases y <;> exact absurd (show false = true from hs) Bool.false_ne_true

theorem op_lt : OpR X (compareOp .Lt) (rI0 fun i j => .bl (decide (i < j))) := opB0 fun _ _ _ _ _ _ _ q => lt_int q
theorem op_le : OpR X (compareOp .LtE) (rI0 fun i j => .bl (decide (i ≤ j))) := opB0 fun _ _ _ _ _ _ _ q => le_int q
theorem op_gt : OpR X (compareOp .Gt) (rI0 fun i j => .bl (decide (j < i))) := opB0 fun _ _ _ _ _ _ _ q => gt_int q
/-- is None, is not None: the right side a value none -/
theorem op_isN : OpR X (compareOp .Is) (fun x y H Q => y = .non ∧ Q (.bl (decide (x = .non))) H) := by
  intro pins s σ H x y v u Q I rx ry h
  obtain ⟨rfl, q⟩ := h
  cases ry
  refine is_none_gen (fin_bl I q ?_)
  cases x <;> first
    | (cases rx; rfl)
    | (obtain ⟨t, rfl⟩ := rx; rfl)
theorem op_notN : OpR X (compareOp .IsNot) (fun x y H Q => y = .non ∧ Q (.bl (!decide (x = .non))) H) := by
  intro pins s σ H x y v u Q I rx ry h
  obtain ⟨rfl, q⟩ := h
  cases ry
  refine isnot_none_gen (fin_bl I q ?_)
  cases x <;> first
    | (cases rx; rfl)
    | (obtain ⟨t, rfl⟩ := rx; rfl)

theorem nomark (b : Expr) {op : CmpOp} (h : op ≠ .In := by decide) (h2 : op ≠ .NotIn := by decide) : behindInMarks op b = false := by
  have e1 : (op == CmpOp.In) = false := by cases op <;> first | rfl | exact absurd rfl h
  have e2 : (op == CmpOp.NotIn) = false := by cases op <;> first | rfl | exact absurd rfl h2
  cases b <;> simp [behindInMarks, e1, e2]
/-- a comparison as a value; hm: nomark b, or (for in, not in) by with_unfolding_all rfl -/
theorem pe_cmpR {op : CmpOp} {r : R2} (ho : OpR X (compareOp op) r) (ha : PE X a ta) (hb : PE X b tb) (hm : behindInMarks op b = false) : PE X (.Compare a [op] [b] pos) (tOp r ta tb) := by
  intro pins s σ H Q I h
  exact wpAny_Compare1 (binT ha hb I h fun v u s2 x y H2 I2 rx ry q => ho pins s2 σ H2 x y v u Q I2 rx ry q) hm
/-- a reading of a value as a test -/
def tTest (t : TE) : TT := fun σ H Q => t σ H fun x H' => ∃ k, x = .bl k ∧ Q k H'
theorem pt_cmpR {op : CmpOp} {r : R2} (ho : OpR X (compareOp op) r) (ha : PE X a ta) (hb : PE X b tb) (hm : behindInMarks op b = false) : PT X (.Compare a [op] [b] pos) (tTest (tOp r ta tb)) := by
  intro pins s σ H Q I h
  refine wpAny_isTrue_Compare1 (thn (ha pins s σ H _ I h) fun v s1 ⟨x, H1, I1, r1, q1⟩ => thn (hb pins s1 σ H1 _ I1 q1) fun u s2 ⟨y, H2, I2, r2, q2⟩ =>
    thn (ho pins s2 σ H2 x y v u _ I2 r1 r2 q2) fun c s3 ⟨z, H3, I3, r3, k, e, q3⟩ => ?_) hm
  subst e
  cases r3
  exact wpAny_truthy_bool ⟨H3, I3, q3⟩
/-- a op1 b op2 c -/
def tChain (r r' : R2) (ta tb tc : TE) : TE := fun σ H Q => ta σ H fun x H1 => tb σ H1 fun y H2 => r x y H2 fun z H3 => ∃ k, z = .bl k ∧
  (if k = true then tc σ H3 fun w' H4 => r' y w' H4 Q else Q (.bl false) H3)
theorem pe_chain {op op' : CmpOp} {r r' : R2} (ho : OpR X (compareOp op) r) (ho' : OpR X (compareOp op') r') (ha : PE X a ta) (hb : PE X b tb) (hc : PE X c tc)
    (hm : lastMarks [op, op'] [b, c] = false := by with_unfolding_all rfl) : PE X (.Compare a [op, op'] [b, c] pos) (tChain r r' ta tb tc) := by
  intro pins s σ H Q I h
  refine Compare_chain (thn (ha pins s σ H _ I h) fun v s1 ⟨x, H1, I1, r1, q1⟩ => chain_link (thn (hb pins s1 σ H1 _ I1 q1) fun u s2 ⟨y, H2, I2, r2, q2⟩ =>
    thn (ho pins s2 σ H2 x y v u _ I2 r1 r2 q2) fun d s3 ⟨z, H3, I3, r3, k, e, q3⟩ => ?_)) hm
  subst e
  cases r3
  refine wpAny_truthy_bool ?_
  cases k with
  | false => exact ite_ff ⟨.bl false, H3, I3, rfl, q3⟩
  | true => exact ite_tt (chain_last (thn (hc pins s3 σ H3 _ I3 q3) fun w' s4 ⟨z', H4, I4, r4, q4⟩ => ho' pins s4 σ H4 y z' u w' Q I4 r2 r4 q4))
/-! ### truth -/
theorem line63 : (sizeLine : Nat) < 2 ^ 63 := by rw [sizeLine_eq]; decide
/-! ### strs and bytes -/
/-! ### scalar builtins, by CallR -/
theorem vals1 {x : V} {us : List Value} (r : Vals [x] us) : ∃ u, us = [u] ∧ RelV x u := by
  cases r with
  | cons r1 r2 => cases r2; exact ⟨_, rfl, r1⟩
theorem call_int1 : CallR X (.type "int") (fun xs H Q => (∃ i, xs = [.int i] ∧ Q (.int i) H) ∨ ∃ k, xs = [.bl k] ∧ Q (.int (if k then 1 else 0)) H) := by
  intro pins s σ H xs us Q I r h
  rcases h with ⟨i, rfl, q⟩ | ⟨k, rfl, q⟩
  · obtain ⟨u, rfl, t, rfl⟩ := vals1 r
    exact call_int_int ⟨.int i, H, I, ⟨_, rfl⟩, q⟩
  · obtain ⟨u, rfl, r1⟩ := vals1 r
    cases r1
    exact call_int_bool ⟨.int (if k then 1 else 0), H, I.tok _, ⟨_, rfl⟩, q⟩
end
end L2

namespace L2
open PySem PySem.Spec PyProof.Rows

/-! ### an instance, its attributes a map -/
structure ObjM (h : Heap) (x dx C : Addr) (mA : Str → Option Value) : Prop where
  obj : h.get? x = some (PySem.W.instObj C dx)
  ns : h.Ns1 dx mA
  ne : dx ≠ x

theorem lookIn_ns {h : Heap} {dx : Addr} {mA : Str → Option Value} (n : h.Ns1 dx mA) : ∃ od, h.get? dx = some od ∧ ∀ name, PySem.W.lookIn name od = some (mA name) := by
  obtain ⟨o, es, ep, ho, hd, hk, _, hm⟩ := n
  refine ⟨o, ho, fun name => ?_⟩
  have e := hm name
  unfold nsFind findBy at e
  rw [← Array.find?_toList] at e
  unfold PySem.W.lookIn
  rw [hd]
  dsimp only
  split
  · rename_i y q
    rw [q] at e
    exact congrArg some e
  · rename_i q
    rw [q] at e
    have a : es.toList.any (·.refKey) = false := by
      rw [List.any_eq_false]
      intro y hy
      obtain ⟨z, t, hkey⟩ := hk y (Array.mem_toList_iff.mp hy)
      simp [DictEntry.refKey, hkey]
    have a' : ¬ es.toList.any (·.refKey) = true := by rw [a]; exact Bool.false_ne_true
    rw [if_neg a']
    exact congrArg some e

theorem ObjM.look {h : Heap} {x dx C : Addr} {mA : Str → Option Value} (I : ObjM h x dx C mA) : ∃ od, PySem.W.InstAt h x (PySem.W.instObj C dx) C (some od) ∧ ∀ name, PySem.W.lookIn name od = some (mA name) :=
  let ⟨od, ho, hl⟩ := lookIn_ns I.ns
  ⟨od, ⟨I.obj, rfl, rfl, ho⟩, hl⟩

section
variable {prog : Program} {w : World} {A : Around} {E : Value → Shared → Prop} {s : Shared} {K : PySem.W.Frag} {x dx C f : Addr} {mA : Str → Option Value} {name : Str} {v : Value}

theorem get_map {expr : Bool} {Q : Value → Shared → Prop} (X : K.In s.heap) (I : ObjM s.heap x dx C mA) (hg : PySem.W.plainGet K C name = true) (hh : PySem.W.hasDictIn K C = true)
    (ha : PySem.W.findIn K (.ref C) name = some none) (hv : mA name = some v) (hv' : PySem.W.handedIn v = true) (h : Q v { s with toks := s.toks + 1 }) :
    wpAny (model prog w) A (getAttr (.ref x) name expr) Q E s := by
  obtain ⟨od, J, hl⟩ := I.look
  exact PySem.W.get_value X J (PySem.W.plainGet_of hg).1 (PySem.W.findObj_own hh ha rfl (by rw [hl, hv])) hv' h

theorem get_meth {pl : Sem Bool} {Q : Value × List Value → Shared → Prop} (X : K.In s.heap) (I : ObjM s.heap x dx C mA) (hg : PySem.W.plainGet K C name = true)
    (hf : PySem.W.findIn K (.ref C) name = some (some (.ref f))) (ht : PySem.W.isFn K (.ref f) = true) (hv : mA name = none) (h : Q (.ref f, [.ref x]) s) :
    wpAny (model prog w) A (getMethod (.ref x) name pl) Q E s := by
  obtain ⟨od, J, hl⟩ := I.look
  exact PySem.W.method_fn X J (PySem.W.plainGet_of hg).1 (PySem.W.plainGet_of hg).2 hf (beq_iff_eq.mp ht) (by show (PySem.W.lookIn name od).map (·.isSome) = some false; rw [hl, hv]; rfl) h

theorem set_map {ns : List Str} {Q : Unit → Shared → Prop} (X : K.In s.heap) (I : ObjM s.heap x dx C mA)
    (hs : PySem.W.findIn K (.ref C) "__setattr__" = some (some (.builtin "object.__setattr__"))) (hp : PySem.W.plainOver K C = true) (ht : PySem.W.takerIn K C name = some none) (hh : PySem.W.hasDictIn K C = true)
    (hw : PySem.Within mA ns) (hsz : ns.length ≤ sizeLine)
    (h : ∀ h', ObjM h' x dx C (fun y => if y = name then some v else mA y) → Heap.SameBut dx s.heap h' → Q () { s with heap := h', toks := s.toks + 2 }) :
    wpAny (model prog w) A (setAttr (.ref x) name v) Q E s := by
  obtain ⟨od, J, hl⟩ := I.look
  refine PySem.W.set_plain X J hs (PySem.W.osa_open (s := { s with toks := s.toks + 1 }) (r := none) X J hp ht fun b => ?_)
  obtain ⟨cd, hc, hd'⟩ := PySem.W.any_some hh
  have hx : s.heap.get? x = some ⟨.ref C, some dx, .plain, #[]⟩ := I.obj
  refine wpAny_bind (wpAny_pure (wpAny_bind (wpAny_bind (wpAny_loadPart hx (wpAny_bind (PySem.W.Looks.here (s := { s with toks := s.toks + 1 }) (PySem.W.looks_clsIn X hc) ?_))))))
  rw [hd']
  refine wpAny_pure (a := some dx) (wpAny_bind (wpAny_pure (wpAny_bind ?_)))
  refine wpAny_nsSet1 (s := { s with toks := s.toks + 1 }) I.ns fun h' hn2 hs2 => ?_
  obtain ⟨oD, esD, epD, hoD, hdD, hcD⟩ := hn2.count (PySem.Within.cons name v hw)
  refine wpAny_bind (wpAny_lookBehind hoD (by rw [hdD]; exact pastItsLine_dict (Nat.le_trans hcD (by rw [List.length_cons]; omega))) ?_)
  exact wpAny_pure (h _ ⟨(hs2.2 _ (Ne.symm I.ne)).trans I.obj, hn2, I.ne⟩ hs2)

/-- C(..): the dict at the heap's end, the instance behind it; then its __init__ -/
theorem make_map {R : Result → Shared → Prop} {vs : List Value} {kw : List (Str × Value)} (X : K.In s.heap) (hm : PySem.W.makesIn K C = true)
    (hi : PySem.W.findIn K (.ref C) "__init__" = some (some (.ref f))) (hf : PySem.W.typeIn K (.ref f) = some (.type "function"))
    (h : codeAny (model prog w) (A.under (.builtin "type.__call__" ⟨.ref C :: vs, kw⟩)) (.call (.ref f) ⟨.ref (s.heap.objs.size + 1) :: vs, kw⟩) (PySem.W.InitBack (s.heap.objs.size + 1) R)
      { s with heap := (s.heap.push PySem.W.emptyDict).push (PySem.W.instObj C s.heap.objs.size) }) :
    codeAny (model prog w) A (.call (.ref C) ⟨vs, kw⟩) R s := by
  obtain ⟨hh, g, d, t, os⟩ := s
  exact PySem.W.make_core (PySem.W.makes_of X hm) (PySem.W.looks_findIn X hi) (fun self => PySem.W.bind_fn X self hf) (.inl rfl) h
end

/-! ### the attributes as a list of pairs -/
def putF (f : Str) (v : V) : List (Str × V) → List (Str × V)
  | [] => [(f, v)]
  | (g, x) :: r => if g = f then (g, v) :: r else (g, x) :: putF f v r
theorem lookup_putF (f g : Str) (v : V) : ∀ fs : List (Str × V), (putF f v fs).lookup g = if g = f then some v else fs.lookup g
  | [] => by
    show List.lookup g [(f, v)] = _
    by_cases h : g = f
    · have hb : (g == f) = true := beq_iff_eq.mpr h
      simp only [List.lookup, hb, if_pos h]
    · have hb : (g == f) = false := beq_eq_false_iff_ne.mpr h
      simp only [List.lookup, hb, if_neg h]
  | (k, x) :: r => by
    have ih := lookup_putF f g v r
    rw [show putF f v ((k, x) :: r) = (if k = f then (k, v) :: r else (k, x) :: putF f v r) from rfl]
    by_cases hk : k = f
    · rw [if_pos hk]
      by_cases h : g = k
      · have hb : (g == k) = true := beq_iff_eq.mpr h
        simp only [List.lookup, hb, if_pos (h.trans hk)]
      · have hb : (g == k) = false := beq_eq_false_iff_ne.mpr h
        simp only [List.lookup, hb, if_neg (fun e : g = f => h (e.trans hk.symm))]
    · rw [if_neg hk]
      by_cases h : g = k
      · have hb : (g == k) = true := beq_iff_eq.mpr h
        simp only [List.lookup, hb, if_neg (fun e : g = f => hk (h.symm.trans e))]
      · have hb : (g == k) = false := beq_eq_false_iff_ne.mpr h
        simp only [List.lookup, hb]
        exact ih
theorem keys_putF (f : Str) (v : V) : ∀ fs : List (Str × V), f ∈ (putF f v fs).map (·.1) ∧ ∀ g, g ∈ fs.map (·.1) → g ∈ (putF f v fs).map (·.1)
  | [] => ⟨by simp [putF], fun g h => by simp at h⟩
  | (k, x) :: r => by
    obtain ⟨i1, i2⟩ := keys_putF f v r
    rw [show putF f v ((k, x) :: r) = (if k = f then (k, v) :: r else (k, x) :: putF f v r) from rfl]
    by_cases hk : k = f
    · rw [if_pos hk]
      subst hk
      exact ⟨by simp, fun g h => by simpa using h⟩
    · rw [if_neg hk]
      refine ⟨?_, fun g h => ?_⟩
      · rw [List.map_cons]
        exact List.mem_cons_of_mem _ i1
      · rw [List.map_cons] at h ⊢
        rcases List.mem_cons.mp h with e | e
        · exact List.mem_cons.mpr (.inl e)
        · exact List.mem_cons_of_mem _ (i2 g e)
theorem length_putF (f : Str) (v : V) : ∀ fs : List (Str × V), (putF f v fs).length ≤ fs.length + 1
  | [] => by simp [putF]
  | (k, x) :: r => by
    have ih := length_putF f v r
    rw [show putF f v ((k, x) :: r) = (if k = f then (k, v) :: r else (k, x) :: putF f v r) from rfl]
    by_cases hk : k = f
    · rw [if_pos hk, List.length_cons, List.length_cons]; omega
    · rw [if_neg hk, List.length_cons, List.length_cons]; omega

theorem RelO.some_of {v : V} {o : Option Value} (r : RelO (some v) o) : ∃ u, o = some u ∧ RelV v u := by
  cases o with
  | none => exact (show False from r).elim
  | some u => exact ⟨u, rfl, r⟩
theorem RelO.none_of {o : Option Value} (r : RelO none o) : o = none := by
  cases o with
  | none => rfl
  | some u => exact (show False from r).elim
theorem handed_of {v : V} {u : Value} (r : RelV v u) : PySem.W.handedIn u = true := by
  cases v with
  | non => cases (show u = Value.none from r); rfl
  | bl b => cases (show u = Value.bool b from r); rfl
  | int i => obtain ⟨t, e⟩ := (show ∃ t, u = Value.int i t from r); cases e; rfl
  | str x => obtain ⟨t, e⟩ := (show ∃ t, u = Value.str x t from r); cases e; rfl
  | byt b => obtain ⟨t, e⟩ := (show ∃ t, u = Value.bytes b t from r); cases e; rfl
  | flt b => obtain ⟨t, e⟩ := (show ∃ t, u = Value.float b t from r); cases e; rfl
  | ref a => cases (show u = Value.ref a from r); rfl
  | ty n => cases (show u = Value.type n from r); rfl

section
variable {P : Program} {w : World} {H H' : Hp} {h h' : Heap} {a C dx : Addr} {fs fs' : List (Str × V)}
theorem ins_get (hok : HOk P w H h) (e : H a = some (.ins C dx fs)) : ∃ mA, ObjM h a dx C mA ∧ (∀ f, RelO (fs.lookup f) (mA f)) ∧ PySem.Within mA (fs.map (·.1)) ∧ fs.length ≤ 1000 ∧ H dx = some (.own a) := by
  obtain ⟨d, z, ne, ob, mA, n, r, q⟩ := (show ObjOk P w H h a (.ins C dx fs) from hok a _ e)
  exact ⟨mA, ⟨ob, n, ne⟩, r, q, z, d⟩
end

/-! ### what of the text a class must have -/
structure Cls (K : PySem.W.Frag) (C : Addr) : Prop where
  pg : PySem.W.plainGet K C Str.empty = true
  hd : PySem.W.hasDictIn K C = true
  po : PySem.W.plainOver K C = true
  sa : PySem.W.findIn K (.ref C) "__setattr__" = some (some (.builtin "object.__setattr__"))
theorem Cls.get {K : PySem.W.Frag} {C : Addr} (c : Cls K C) (f : Str) : PySem.W.plainGet K C f = true := c.pg
/-- no class of it has the name -/
def NoAttr (K : PySem.W.Frag) (C : Addr) (f : Str) : Prop := PySem.W.findIn K (.ref C) f = some none
theorem NoAttr.taker {K : PySem.W.Frag} {C : Addr} {f : Str} (n : NoAttr K C f) : PySem.W.takerIn K C f = some none := by
  unfold PySem.W.takerIn
  rw [show PySem.W.findIn K (.ref C) f = some none from n]
  rfl
/-- a method: a plain def of the class or of one above it -/
structure Meth (K : PySem.W.Frag) (C : Addr) (m : Str) (f : Addr) : Prop where
  at_ : PySem.W.findIn K (.ref C) m = some (some (.ref f))
  fn : PySem.W.isFn K (.ref f) = true
  kp : PySem.W.keepIn K (.ref f) = true

section
variable {X : Cx} {pins : List (Addr × Obj)} {σ : St} {H : Hp} {s : Shared} {a C dx : Addr} {fs : List (Str × V)} {f : Str} {v : V} {A : Around} {E : Value → Shared → Prop}

theorem getattr_ok {b : Bool} {Q : Value → Shared → Prop} (I : Inv X pins σ H s) (e : H a = some (.ins C dx fs)) (c : Cls X.K C) (n : NoAttr X.K C f) (l : fs.lookup f = some v)
    (h : ∀ u s', Inv X pins σ H s' → RelV v u → Q u s') : wpAny (model X.prog X.w) A (getAttr (.ref a) f b) Q E s := by
  obtain ⟨mA, O, r, _, _, _⟩ := ins_get I.hok e
  obtain ⟨u, hu, ru⟩ := RelO.some_of (v := v) (o := mA f) (by rw [← l]; exact r f)
  exact get_map I.kIn O (c.get f) c.hd n hu (handed_of ru) (h u _ (I.tok _) ru)

theorem getmeth_ok {m : Str} {g : Addr} {pl : Sem Bool} {Q : Value × List Value → Shared → Prop} (I : Inv X pins σ H s) (e : H a = some (.ins C dx fs)) (c : Cls X.K C) (k : Meth X.K C m g) (l : fs.lookup m = none)
    (h : Q (.ref g, [.ref a]) s) : wpAny (model X.prog X.w) A (getMethod (.ref a) m pl) Q E s := by
  obtain ⟨mA, O, r, _, _, _⟩ := ins_get I.hok e
  have hn : mA m = none := RelO.none_of (by rw [← l]; exact r m)
  exact get_meth I.kIn O (c.get m) k.at_ k.fn hn h

theorem setattr_ok {y : V} {u : Value} {Q : Unit → Shared → Prop} (I : Inv X pins σ H s) (e : H a = some (.ins C dx fs)) (c : Cls X.K C) (n : NoAttr X.K C f) (hl : fs.length < 1000) (ry : RelV y u)
    (h : ∀ s', Inv X pins σ (upd H a (.ins C dx (putF f y fs))) s' → Q () s') : wpAny (model X.prog X.w) A (setAttr (.ref a) f u) Q E s := by
  obtain ⟨mA, O, r, wi, _, ho⟩ := ins_get I.hok e
  have hz : (fs.map (·.1)).length ≤ sizeLine := by rw [List.length_map, sizeLine_eq]; omega
  refine set_map I.kIn O c.sa c.po n.taker c.hd wi hz fun h' O' sb => h _ ?_
  have hd : ∃ o, h'.get? dx = some o := let ⟨o, _, _, e', _⟩ := O'.ns; ⟨o, e'⟩
  refine I.write (x := a) (e := dx) (by rw [e]; exact True.intro) (.inr ho) (fun b q hb z => (sb.2 b hb).trans z) hd ?_
  refine ⟨by rw [upd_ne O.ne]; exact ho, ?_, O.ne, O'.obj, _, O'.ns, fun g => ?_, fun g hg => ?_⟩
  · have := length_putF f y fs; omega
  · show RelO ((putF f y fs).lookup g) (if g = f then some u else mA g)
    rw [lookup_putF]
    by_cases q : g = f
    · rw [if_pos q, if_pos q]; exact ry
    · rw [if_neg q, if_neg q]; exact r g
  · by_cases q : g = f
    · rw [q]; exact (keys_putF f y fs).1
    · refine (keys_putF f y fs).2 g (wi g fun z => hg ?_)
      show (if g = f then some u else mA g) = none
      rw [if_neg q]; exact z

/-- a new instance, tracked, without attributes -/
theorem Inv.made (I : Inv X pins σ H s) : Inv X pins σ (upd (upd H s.heap.objs.size (.own (s.heap.objs.size + 1))) (s.heap.objs.size + 1) (.ins C s.heap.objs.size []))
    { s with heap := (s.heap.push PySem.W.emptyDict).push (PySem.W.instObj C s.heap.objs.size) } := by
  have e1 : (s.heap.push PySem.W.emptyDict).get? s.heap.objs.size = some PySem.W.emptyDict := Heap.get?_push_size s.heap rfl
  have e2 : ((s.heap.push PySem.W.emptyDict).push (PySem.W.instObj C s.heap.objs.size)).get? (s.heap.objs.size + 1) = some (PySem.W.instObj C s.heap.objs.size) := by
    have := Heap.get?_push_size (s.heap.push PySem.W.emptyDict) (o := PySem.W.instObj C s.heap.objs.size) rfl
    rwa [Heap.size_push] at this
  have e3 : (s.heap.push PySem.W.emptyDict).Ns s.heap.objs.size (fun _ => none) := ⟨PySem.W.emptyDict, #[], _, e1, rfl, (fun e he => absurd he (by simp)), fun _ => rfl⟩
  have I1 := I.laid (a := s.heap.objs.size) (o := .own (s.heap.objs.size + 1)) (h' := s.heap.push PySem.W.emptyDict) (t' := s.toks) (fun b u q => Heap.get?_push_of_some _ q) (Nat.le_refl _) ⟨_, e1⟩
  refine I1.laid (a := s.heap.objs.size + 1) (o := .ins C s.heap.objs.size []) (t' := s.toks) (fun b u q => Heap.get?_push_of_some _ q) (Nat.le_of_eq (Heap.size_push _ _)) ?_
  have ne : s.heap.objs.size ≠ s.heap.objs.size + 1 := Nat.ne_of_lt (Nat.lt_succ_self _)
  refine ⟨by rw [upd_ne ne, upd_same], Nat.zero_le _, ne, e2, fun _ => none, (Heap.Ns1.of_empty e3).at fun o q => Heap.get?_push_of_some _ q, fun _ => True.intro, fun y hy => absurd rfl hy⟩

/-- e.f where nothing but the object is asked: through attributeBase (super) and the last hold -/
theorem attr_of {prog : Program} {w : World} {env : Env} {e : Expr} {f : Str} {pos : Pos} {s : Shared} {Q : Value → Shared → Prop} (hb : attributeBase e f env (eval e env) = eval e env)
    (h : wpAny (model prog w) A (eval e env) (fun o s₁ => wpAny (model prog w) A (getAttr o f true) Q E s₁) E s) : wpAny (model prog w) A (eval (.Attribute e f pos) env) Q E s :=
  Attribute_any_ h (by rw [arm_eval_Attribute, hb])
end

/-! ### readings and rules -/
/-- e.f, an attribute of the instance -/
def tFld (K : PySem.W.Frag) (ta : TE) (f : Str) : TE := fun σ H Q => ta σ H fun x H1 => ∃ a C dx fs v, x = .ref a ∧ H1 a = some (.ins C dx fs) ∧ Cls K C ∧ NoAttr K C f ∧ fs.lookup f = some v ∧ Q v H1
/-- e.f = value -/
def sFld (K : PySem.W.Frag) (ta tv : TE) (f : Str) : TS := fun D σ H => tv σ H fun y H1 => ta σ H1 fun x H2 => ∃ a C dx fs, x = .ref a ∧ H2 a = some (.ins C dx fs) ∧ Cls K C ∧ NoAttr K C f ∧ fs.length < 1000 ∧
  D.nx σ (upd H2 a (.ins C dx (putF f y fs)))
section
variable {X : Cx} {o e value : Expr} {f : Str} {pos pos' tpos : Pos} {ta tv : TE}
theorem pe_fld (he : PE X e ta) (hb : attributeBase e f X.env (eval e X.env) = eval e X.env) : PE X (.Attribute e f pos) (tFld X.K ta f) := by
  intro pins s σ H Q I h
  refine attr_of hb (thn (he pins s σ H _ I h) fun u s1 ⟨x, H1, I1, rx, a, C, dx, fs, v, ex, ea, c, n, l, q⟩ => ?_)
  subst ex
  obtain rfl : u = Value.ref a := rx
  exact getattr_ok I1 ea c n l fun u' s2 I2 ru => ⟨v, H1, I2, ru, q⟩
theorem ps_fld (ha : PE X o ta) (hv : PE X value tv) (hs : swapsWith value (some (.Attribute o f pos')) pos.line X.env = pure false) : PS X (.Assign [.Attribute o f pos'] value pos) (sFld X.K ta tv f) := by
  intro pins s σ H D I h
  refine plainObj_wpAny_Assign_Attribute (thn (hv pins s σ H _ I h) fun u s1 ⟨y, H1, I1, ry, q⟩ => thn (ha pins s1 σ H1 _ I1 q) fun ov s2 ⟨x, H2, I2, rx, a, C, dx, fs, ex, ea, c, n, l, q2⟩ => ?_) hs
  subst ex
  obtain rfl : ov = Value.ref a := rx
  exact setattr_ok I2 ea c n l ry fun s3 I3 => ⟨σ, _, I3, q2⟩
/-- what is between an instance and its method: the tree of a method call -/
theorem methcall_of {pl : Sem Bool} {m : Str} {apos : Pos} {args : List Expr} {pins : List (Addr × Obj)} {s : Shared} {σ : St} {H : Hp} {Q : Value → Shared → Prop} {te : TE} (he : PE X e te) (I : Inv X pins σ H s)
    (h : te σ H fun x H1 => ∃ a C dx fs g, x = .ref a ∧ H1 a = some (.ins C dx fs) ∧ Cls X.K C ∧ Meth X.K C m g ∧ fs.lookup m = none ∧
      ∀ s1, Inv X pins σ H1 s1 → wpAny (model X.prog X.w) X.A (callWith pos (.ref g) [.ref a] (backTo pos (starEach args X.env)) (backToKw pos (keywordEach [] X.env))) Q X.xe s1)
    (ht : eval (.Call (.Attribute e m apos) args [] pos) X.env = (do
      let ov ← eval e X.env
      standAt apos.atName
      let (f, first) ← holding [ov] (getMethod ov m pl)
      callWith pos f first (backTo pos (starEach args X.env)) (backToKw pos (keywordEach [] X.env)))) :
    wpAny (model X.prog X.w) X.A (eval (.Call (.Attribute e m apos) args [] pos) X.env) Q X.xe s := by
  refine PySem.W.methodCall_KW (pl := pl) (thn (he pins s σ H _ I h) fun u s1 ⟨x, H1, I1, rx, a, C, dx, fs, g, ex, ea, c, k, l, q⟩ => ?_) ht
  subst ex
  obtain rfl : u = Value.ref a := rx
  exact getmeth_ok I1 ea c k l (q s1 I1)
end

/-! ### isinstance -/
section
variable {X : Cx} {pins : List (Addr × Obj)} {σ : St} {H : Hp} {s : Shared} {A : Around} {E : Value → Shared → Prop} {Q : Value → Shared → Prop} {c : Value} {b : Bool}
/-- the type of a value, as the fragment's deciders take it; for an instance its class -/
inductive TyOf (K : PySem.W.Frag) (H : Hp) : V → Value → Prop where
  | non : TyOf K H .non (.type "NoneType")
  | bl (x : Bool) : TyOf K H (.bl x) (.type "bool")
  | int (i : Int) : TyOf K H (.int i) (.type "int")
  | str (x : Str) : TyOf K H (.str x) (.type "str")
  | flt (x : UInt64) : TyOf K H (.flt x) (.type "float")
  | lst {a : Addr} {xs : List V} (e : H a = some (.lst xs)) : TyOf K H (.ref a) (.type "list")
  | frz {a : Addr} {o : Obj} {xs : List V} (e : H a = some (.frz o (.lst xs))) : TyOf K H (.ref a) (.type "list")
  | tup {a : Addr} {xs : List V} (e : H a = some (.tup xs)) : TyOf K H (.ref a) (.type "tuple")
  | dK {a : Addr} {kvs : List (Key × V)} (e : H a = some (.dK kvs)) : TyOf K H (.ref a) (.type "dict")
  | dT {a : Addr} {kvs : List (List Key × V)} (e : H a = some (.dT kvs)) : TyOf K H (.ref a) (.type "dict")
  | ins {a C dx : Addr} {fs : List (Str × V)} (e : H a = some (.ins C dx fs)) (cl : Cls K C) (ha : PySem.W.findIn K (.ref C) "__class__" = some (some (.builtin "object.__class__")))
      (hn : PySem.W.specialIn K (.builtin "object.__class__") "__get__" = some (some (.builtin "getset_descriptor.__get__"))) (htk : PySem.W.takesIn K (.builtin "object.__class__") = some true)
      (hm : PySem.W.mroIn K C (.type "object") = some true) : TyOf K H (.ref a) (.ref C)
/-- isinstance(x, c) for one class c, a built-in or an own one: kitOne's answer -/
theorem isinst_ok {x : V} {u t : Value} (I : Inv X pins σ H s) (rx : RelV x u) (ty : TyOf X.K H x t) (e : PySem.W.kitOne X.K t c = some b) (h : ∀ tk, Q (.bool b) { s with toks := tk }) :
    wpAny (model X.prog X.w) A (call (.builtin "isinstance") [u, c]) Q E s := by
  cases ty with
  | non => cases (show u = Value.none from rx); exact PySem.W.kia_one PySem.W.kitx_none I.kIn True.intro e (fun z => nomatch z) h
  | bl y => cases (show u = Value.bool y from rx); exact PySem.W.kia_one PySem.W.kitx_bool I.kIn True.intro e (fun z => nomatch z) h
  | int i => obtain ⟨t, q⟩ := (show ∃ t, u = Value.int i t from rx); cases q; exact PySem.W.kia_one PySem.W.kitx_int I.kIn True.intro e (fun z => nomatch z) h
  | str y => obtain ⟨t, q⟩ := (show ∃ t, u = Value.str y t from rx); cases q; exact PySem.W.kia_one PySem.W.kitx_str I.kIn True.intro e (fun z => nomatch z) h
  | flt y => obtain ⟨t, q⟩ := (show ∃ t, u = Value.float y t from rx); cases q; exact PySem.W.kia_one PySem.W.kitx_float I.kIn True.intro e (fun z => nomatch z) h
  | @lst a xs ea =>
    cases (show u = Value.ref a from rx)
    obtain ⟨_, _, n, _, h1⟩ := (show ObjOk X.prog X.w H s.heap a (.lst xs) from I.hok a _ ea)
    exact PySem.W.kia_one PySem.W.kitx_list I.kIn ⟨_, h1, rfl⟩ e (fun z => nomatch z) h
  | @frz a ob xs ea =>
    cases (show u = Value.ref a from rx)
    obtain ⟨_, _, _, n, _, h1⟩ := (show ObjOk X.prog X.w H s.heap a (.frz ob (.lst xs)) from I.hok a _ ea)
    exact PySem.W.kia_one PySem.W.kitx_list I.kIn ⟨_, h1, rfl⟩ e (fun z => nomatch z) h
  | @tup a xs ea =>
    cases (show u = Value.ref a from rx)
    obtain ⟨_, _, _, p⟩ := (show ObjOk X.prog X.w H s.heap a (.tup xs) from I.hok a _ ea)
    obtain ⟨o, h1, h2, _⟩ := p
    exact PySem.W.kia_one PySem.W.kitx_tuple I.kIn ⟨o, h1, h2⟩ e (fun z => nomatch z) h
  | @dK a kvs ea =>
    cases (show u = Value.ref a from rx)
    obtain ⟨_, _, vs, _, p⟩ := (show ObjOk X.prog X.w H s.heap a (.dK kvs) from I.hok a _ ea)
    obtain ⟨o, es, ep, h1, h2, _⟩ := p
    exact PySem.W.kia_one PySem.W.kitx_dict I.kIn ⟨o, h1, h2.1⟩ e (fun z => nomatch z) h
  | @dT a kvs ea =>
    cases (show u = Value.ref a from rx)
    obtain ⟨_, _, xs, _, o, es, ep, h1, h2, _⟩ := (show ObjOk X.prog X.w H s.heap a (.dT kvs) from I.hok a _ ea)
    exact PySem.W.kia_one PySem.W.kitx_dict I.kIn ⟨o, h1, h2.1⟩ e (fun z => nomatch z) h
  | @ins a C dx fs ea cl ha hn htk hm =>
    cases (show u = Value.ref a from rx)
    obtain ⟨mA, O, _⟩ := ins_get I.hok ea
    obtain ⟨od, J, _⟩ := O.look
    exact PySem.W.kia_one (PySem.W.kitx_own (cl.get _) cl.hd ha hn htk hm) I.kIn J e (fun z => nomatch z) h
end
end L2

namespace L2
open PySem PySem.Spec PyProof.Rows

/-! ### room -/
structure Room (k : Nat) (A : Around) (c : Bool := true) : Prop where
  hc : c = true → A.handled = none
  dp : A.depth + 3 * k + 5 < recursionLimit
  un : A.units + 16 * k + 200 < cLine
theorem Room.hd {k : Nat} {A : Around} (r : Room k A) : A.handled = none := r.hc rfl
theorem Room.mono {j k : Nat} {A : Around} {c : Bool} (r : Room k A c) (h : j ≤ k) : Room j A c := ⟨r.hc, by have := r.dp; omega, by have := r.un; omega⟩
theorem Room.deeper {k : Nat} {A : Around} {c : Bool} (r : Room (k + 1) A c) (env : Env) : Room k (A.deeper env) c :=
  ⟨r.hc, by have := r.dp; show A.depth + 1 + 3 * k + 5 < _; omega, by have := r.un; show A.units + 3 + 16 * k + 200 < _; omega⟩
theorem make_depth {A : Around} {C : Addr} {us : List Value} {kw : List (Str × Value)} : (A.under (.builtin "type.__call__" ⟨.ref C :: us, kw⟩)).depth = A.depth + 1 := by
  first | rfl | simp [Around.under, Code.weight, Code.isCreation, Code.isGuard, Code.isCaller, Code.frames, Code.isFrame, guardIds]
theorem make_units {A : Around} {C : Addr} {us : List Value} {kw : List (Str × Value)} : (A.under (.builtin "type.__call__" ⟨.ref C :: us, kw⟩)).units = A.units + 1 := by
  first | rfl | simp [Around.under, Code.cUnits, Code.frames, Code.isFrame]
theorem Room.make {k : Nat} {A : Around} {c : Bool} (r : Room (k + 1) A c) (C : Addr) (us : List Value) (kw : List (Str × Value)) : Room k (A.under (.builtin "type.__call__" ⟨.ref C :: us, kw⟩)) c :=
  ⟨r.hc, by have := r.dp; rw [make_depth]; omega, by have := r.un; rw [make_units]; omega⟩
theorem Room.depth {k : Nat} {A : Around} {c : Bool} (r : Room k A c) : A.depth < recursionLimit := by have := r.dp; omega
theorem Room.units {k : Nat} {A : Around} {c : Bool} (r : Room k A c) : A.units + 64 < cLine := by have := r.un; omega
/-! ### argument lists and displays -/
def tNil : TA := fun _ H Q => Q [] H
def tCons (ta : TE) (tr : TA) : TA := fun σ H Q => ta σ H fun x H1 => tr σ H1 fun xs H2 => Q (x :: xs) H2
section
variable {X : Cx} {e : Expr} {es : List Expr} {te : TE} {t : TA} {pos : Pos}
theorem pa_nil : PA X [] tNil := fun _ _ _ _ H Q I h => Calls.spliced_nil ⟨[], H, I, .nil, h⟩
theorem pa_cons (ha : PE X e te) (hr : PA X es t) (hs : starEach (e :: es) X.env = (false, eval e X.env) :: starEach es X.env := by rfl) : PA X (e :: es) (tCons te t) := by
  intro pos pins s σ H Q I h
  rw [hs]
  show wpAny _ _ (spliced ((false, eval e X.env) :: backTo pos (starEach es X.env))) _ _ s
  refine Calls.spliced_cons (thn (ha pins s σ H _ I h) fun u s1 ⟨x, H1, I1, r1, q1⟩ => ?_)
  exact thn (hr pos pins s1 σ H1 _ I1 q1) fun us s2 ⟨xs, H2, I2, r2, q2⟩ => ⟨x :: xs, H2, I2, .cons r1 r2, q2⟩

/-- a tuple, a list of written items -/
def tTup (t : TA) : TE := fun σ H Q => t σ H fun xs H1 => xs.length ≤ sizeLine ∧ ∀ p, H1 p = none → Q (.ref p) (upd H1 p (.tup xs))
def tLst (t : TA) : TE := fun σ H Q => t σ H fun xs H1 => xs.length ≤ sizeLine ∧ ∀ p, H1 p = none → Q (.ref p) (upd H1 p (.lst xs))
theorem pe_tup {x1} (h : PA X es t) : PE X (.Tuple es x1 pos) (tTup t) := by
  intro pins s σ H Q I hq
  refine wpAny_Tuple_spliced (thn (h pos pins s σ H _ I hq) fun us s1 ⟨xs, H1, I1, r, z, q⟩ => ⟨by rw [← r.length]; exact z, ?_⟩)
  have hf : H1 s1.heap.objs.size = none := I1.hok.fresh (Nat.le_refl _)
  refine ⟨.ref s1.heap.objs.size, upd H1 s1.heap.objs.size (.tup xs), I1.laid (t' := s1.toks) (fun b u e => Heap.get?_push_of_some _ e) (Nat.le_refl _) ?_, rfl, q _ hf⟩
  exact ⟨z, us, r, ⟨_, Heap.get?_push_size _ rfl, rfl, _, rfl⟩⟩
theorem pe_lst (h : PA X es t) : PE X (.List es pos) (tLst t) := by
  intro pins s σ H Q I hq
  refine wpAny_List_spliced (thn (h pos pins s σ H _ I hq) fun us s1 ⟨xs, H1, I1, r, z, q⟩ => ⟨by rw [← r.length]; exact z, ?_⟩)
  have hf : H1 s1.heap.objs.size = none := I1.hok.fresh (Nat.le_refl _)
  refine ⟨.ref s1.heap.objs.size, upd H1 s1.heap.objs.size (.lst xs), I1.laid (t' := s1.toks) (fun b u e => Heap.get?_push_of_some _ e) (Nat.le_refl _) ?_, rfl, q _ hf⟩
  exact ⟨z, us, 0, r, Heap.get?_push_size _ rfl⟩
end

/-! ### what a def promises -/
/-- a def's promise: the bound arguments in the parameters' order, the heap, the wanted end, the wanted exception -/
abbrev Sp := List V → Hp → VK → XK → Prop
/-- how an exception lies behind a call (file 08 gives it): the callers' frames, abstract heap and state ahead of the call, the wish, the exception, the state -/
abbrev CXT := List Env → Hp → Shared → XK → Value → Shared → Prop

/-- the state at a call -/
structure Env0 (P : Program) (w : World) (K : PySem.W.Frag) (mg : Str → Option Value) (base : Heap) (A : Around) (outer : List Env) (s : Shared) (H : Hp) : Prop where
  frames : A.frames = some outer
  mod : Mod K mg base
  bs : ∀ b o, base.get? b = some o → s.heap.get? b = some o ∧ H b = none
  bsz : base.objs.size ≤ s.heap.objs.size
  funs : s.heap.FunFrames base outer
  frf : ∀ b ∈ frs outer, H b = none
  hok : HOk P w H s.heap
  bare : AllBare s.gens
/-- a call's end -/
def CE (outer : List Env) (P : Program) (w : World) (H : Hp) (s : Shared) (Q : VK) (u : Value) (s' : Shared) : Prop :=
  ∃ v H', s'.os = s.os ∧ AllBare s'.gens ∧ Un (frs outer) [] H H' s.heap s'.heap ∧ HOk P w H' s'.heap ∧ RelV v u ∧ Q v H'
def CR (CX : CXT) (outer : List Env) (P : Program) (w : World) (H : Hp) (s : Shared) (Q : VK) (E : XK) (r : Result) (s' : Shared) : Prop :=
  match r with
  | .ok (.ret u) => CE outer P w H s Q u s'
  | .ok _ => False
  | .error e => CX outer H s E e s'
structure FnOk (P : Program) (w : World) (K : PySem.W.Frag) (mg : Str → Option Value) (base : Heap) (CX : CXT) (k : Nat) (f : Addr) (fd : FuncData) (ps : List Str) (sp : Sp) (c : Bool := true) : Prop where
  len : ∀ vs H Q E, sp vs H Q E → vs.length = ps.length
  run : ∀ (A : Around) (outer : List Env) (s : Shared) (H : Hp) (args : Args) (us : List Value) (vs : List V) (Q : VK) (E : XK), Room k A c → Env0 P w K mg base A outer s H → BindsTo s fd args (ps.zip us) → Vals vs us → sp vs H Q E →
    codeAny (model P w) A (.call (.ref f) args) (CR CX outer P w H s Q E) s
theorem Env0.make {P : Program} {w : World} {K : PySem.W.Frag} {mg : Str → Option Value} {base : Heap} {A : Around} {outer : List Env} {s : Shared} {H : Hp} (e : Env0 P w K mg base A outer s H) (C : Addr) (us : List Value) (kw : List (Str × Value)) :
    Env0 P w K mg base (A.under (.builtin "type.__call__" ⟨.ref C :: us, kw⟩)) outer s H := ⟨by first | exact e.frames | (simpa [Around.under, Code.envs, Code.isFrame, pushEnvs] using e.frames), e.mod, e.bs, e.bsz, e.funs, e.frf, e.hok, e.bare⟩
section
variable {X : Cx} {pins : List (Addr × Obj)} {σ : St} {H : Hp} {s s' : Shared}
/-- from a body: what a callee wants -/
theorem Inv.env0 (I : Inv X pins σ H s) : Env0 X.prog X.w X.K X.mg X.base X.A X.stack s H :=
  ⟨I.ok.frames, I.ok.mod, I.bs, Nat.le_trans I.ok.bsz I.sz, I.stack, I.stkFree, I.hok, I.bare⟩
/-- behind a call -/
theorem Inv.after {Q : VK} {u : Value} (I : Inv X pins σ H s) (h : CE X.stack X.prog X.w H s Q u s') : EP X pins σ Q u s' := by
  obtain ⟨v, H', os, bare, un, hok, r, q⟩ := h
  obtain ⟨hh, g, d, t, os'⟩ := s'
  obtain rfl : os' = s.os := os
  exact ⟨v, H', I.call (h' := hh) (g' := g) (d' := d) (t' := t) (ch := []) un hok bare (fun b z => absurd z (by simp)), r, q⟩
end

/-! ### calls -/
/-- f(..): the written arguments, then the defaults dvs; E: what is wanted of an exception -/
def tCall (sp : Sp) (dvs : List V) (E : XK) (t : TA) : TE := fun σ H Q => t σ H fun vs H1 => sp (vs ++ dvs) H1 Q E
/-- o.m(..) of an instance of the class at C -/
def tMeth (C : Addr) (m : Str) (sp : Sp) (dvs : List V) (E : XK) (ta : TE) (t : TA) : TE := fun σ H Q => ta σ H fun x H1 => ∃ a dx fs, x = .ref a ∧ H1 a = some (.ins C dx fs) ∧ fs.lookup m = none ∧
  t σ H1 fun vs H2 => sp (x :: (vs ++ dvs)) H2 Q E
/-- C(..): a new instance and its dict, then __init__ -/
def tMake (C : Addr) (sp : Sp) (dvs : List V) (E : XK) (t : TA) : TE := fun σ H Q => t σ H fun vs H1 => ∀ x dx, H1 x = none → H1 dx = none → dx ≠ x →
  sp (.ref x :: (vs ++ dvs)) (upd (upd H1 dx (.own x)) x (.ins C dx [])) (fun v H2 => v = .non ∧ Q (.ref x) H2) E

/-- how the parameters are bound: us the positional arguments, kw the keywords' values by name, ds the defaults that fill up -/
def Binds (K : PySem.W.Frag) (fd : FuncData) (ps : List Str) (ds : List Value) : Prop :=
  ∀ (s : Shared) (us : List Value), K.In s.heap → (us ++ ds).length = ps.length → BindsTo s fd ⟨us, []⟩ (ps.zip (us ++ ds))
/-- every parameter is given -/
theorem Binds.all {K : PySem.W.Frag} {fd : FuncData} {ps : List Str} (h : ∀ us : List Value, us.length = ps.length → bindArgs fd ⟨us, []⟩ = pure (ps.zip us)) : Binds K fd ps [] := fun s us _ hl => by
  rw [List.append_nil] at hl ⊢
  exact .of_eq (h us hl)

/-- an exception of a callee reaches what this body wants of exceptions -/
def Passes (CX : CXT) (X : Cx) (E : XK) : Prop := ∀ (pins : List (Addr × Obj)) (σ : St) (H : Hp) (s : Shared) (e : Value) (s' : Shared), Inv X pins σ H s → CX X.stack H s E e s' → X.xe e s'

section
variable {X : Cx} {CX : CXT} {k : Nat} {f C : Addr} {fd : FuncData} {ps : List Str} {sp : Sp} {dvs : List V} {ds : List Value} {E : XK} {x m : Str} {p pos apos : Pos} {e o : Expr} {es : List Expr} {ta : TE} {t : TA}

/-- the callee runs -/
theorem run_fn {pins : List (Addr × Obj)} {σ : St} {H : Hp} {s : Shared} {Q : VK} {us : List Value} {vs : List V} {cc : Bool} (F : FnOk X.prog X.w X.K X.mg X.base CX k f fd ps sp cc) (hr : Room k X.A cc) (hb : Binds X.K fd ps ds) (hd : Vals dvs ds) (hx : Passes CX X E)
    (I : Inv X pins σ H s) (r : Vals vs us) (h : sp (vs ++ dvs) H Q E) : wpAny (model X.prog X.w) X.A (call (.ref f) us) (EP X pins σ Q) X.xe s := by
  have r2 : Vals (vs ++ dvs) (us ++ ds) := r.append hd
  have hl : (us ++ ds).length = ps.length := by rw [← r2.length]; exact F.len _ _ _ _ h
  refine wpAny_call (codeAny_mono (F.run X.A X.stack s H ⟨us, []⟩ (us ++ ds) (vs ++ dvs) Q E hr I.env0 (hb s us I.kIn hl) r2 h) fun r s' hq => ?_)
  cases r with
  | error e => exact hx pins σ H s e s' I hq
  | ok fl =>
    cases fl with
    | ret u => exact I.after hq
    | next => exact False.elim hq
    | brk => exact False.elim hq
    | cont => exact False.elim hq

theorem pe_call {cc : Bool} (F : FnOk X.prog X.w X.K X.mg X.base CX k f fd ps sp cc) (hr : Room k X.A cc) (hg : Gl X x) (hm : X.mg x = some (.ref f)) (hk : PySem.W.keepIn X.K (.ref f) = true) (hb : Binds X.K fd ps ds) (hd : Vals dvs ds) (hx : Passes CX X E)
    (ha : PA X (e :: es) t) (hdb : (x == ("__debug__" : Str)) = false := by decide) (he : starEach (e :: es) X.env = (false, eval e X.env) :: starEach es X.env := by rfl) (hpl : (backTo pos (starEach es X.env)).any (·.1) = false := by rfl) :
    PE X (.Call (.Name x p) (e :: es) [] pos) (tCall sp dvs E t) := by
  intro pins s σ H Q I h
  refine wpAny_Call_Name_kw (ld_glob I hg hm ?_ hdb)
  refine PySem.W.callWith_K (h₀ := X.base) I.ok.mod.kin hk (thn (ha pos pins s σ H _ I h) fun us s1 ⟨vs, H1, I1, r, q⟩ => ⟨I1.kIn, ?_⟩) he hpl
  exact run_fn F hr hb hd hx I1 r q
/-- o.m(e, ..) -/
theorem pe_meth {pl : Sem Bool} (he : PE X o ta) (c : Cls X.K C) (hm : Meth X.K C m f) {cc : Bool} (F : FnOk X.prog X.w X.K X.mg X.base CX k f fd ps sp cc) (hr : Room k X.A cc) (hb : Binds X.K fd ps ds) (hd : Vals dvs ds) (hx : Passes CX X E) (ha : PA X (e :: es) t)
    (hst : starEach (e :: es) X.env = (false, eval e X.env) :: starEach es X.env := by rfl) (hpl : (backTo pos (starEach es X.env)).any (·.1) = false := by rfl)
    (ht : eval (.Call (.Attribute o m apos) (e :: es) [] pos) X.env = (do
      let ov ← eval o X.env
      standAt apos.atName
      let (f, first) ← holding [ov] (getMethod ov m pl)
      callWith pos f first (backTo pos (starEach (e :: es) X.env)) (backToKw pos (keywordEach [] X.env))) := by rfl) :
    PE X (.Call (.Attribute o m apos) (e :: es) [] pos) (tMeth C m sp dvs E ta t) := by
  intro pins s σ H Q I h
  refine PySem.W.methodCall_KW (pl := pl) (thn (he pins s σ H _ I h) fun u s1 ⟨x, H1, I1, rx, a, dx, fs, ex, ea, l, q⟩ => ?_) ht
  subst ex
  obtain rfl : u = Value.ref a := rx
  refine getmeth_ok I1 ea c hm l ?_
  refine PySem.W.callWith_K (first := [.ref a]) (h₀ := X.base) I.ok.mod.kin hm.kp (thn (ha pos pins s1 σ H1 _ I1 q) fun us s2 ⟨vs, H2, I2, r, q2⟩ => ⟨I2.kIn, ?_⟩) hst hpl
  exact run_fn (us := .ref a :: us) (vs := .ref a :: vs) F hr hb hd hx I2 (.cons rfl r) q2
/-- o.m() -/
theorem pe_meth0 {pl : Sem Bool} (he : PE X o ta) (c : Cls X.K C) (hm : Meth X.K C m f) {cc : Bool} (F : FnOk X.prog X.w X.K X.mg X.base CX k f fd ps sp cc) (hr : Room k X.A cc) (hb : Binds X.K fd ps ds) (hd : Vals dvs ds) (hx : Passes CX X E)
    (ht : eval (.Call (.Attribute o m apos) [] [] pos) X.env = (do
      let ov ← eval o X.env
      standAt apos.atName
      let (f, first) ← holding [ov] (getMethod ov m pl)
      callWith pos f first (backTo pos (starEach [] X.env)) (backToKw pos (keywordEach [] X.env))) := by rfl) :
    PE X (.Call (.Attribute o m apos) [] [] pos) (tMeth C m sp dvs E ta tNil) := by
  intro pins s σ H Q I h
  refine PySem.W.methodCall_KW (pl := pl) (thn (he pins s σ H _ I h) fun u s1 ⟨x, H1, I1, rx, a, dx, fs, ex, ea, l, q⟩ => ?_) ht
  subst ex
  obtain rfl : u = Value.ref a := rx
  refine getmeth_ok I1 ea c hm l ?_
  exact PySem.W.callWith_K0 (first := [.ref a]) I1.kIn hm.kp (run_fn (us := [.ref a]) (vs := [.ref a]) F hr hb hd hx I1 (.cons rfl .nil) q)

/-- what a class must have to be made -/
structure Mk (K : PySem.W.Frag) (C f : Addr) : Prop where
  makes : PySem.W.makesIn K C = true
  init : PySem.W.findIn K (.ref C) "__init__" = some (some (.ref f))
  fn : PySem.W.isFn K (.ref f) = true
  kp : PySem.W.keepIn K (.ref C) = true

theorem run_make {pins : List (Addr × Obj)} {σ : St} {H : Hp} {s : Shared} {Q : VK} {us : List Value} {vs : List V} (M : Mk X.K C f) {cc : Bool} (F : FnOk X.prog X.w X.K X.mg X.base CX k f fd ps sp cc) (hr : Room (k + 1) X.A cc) (hb : Binds X.K fd ps ds) (hd : Vals dvs ds)
    (hx : Passes CX X E) (I : Inv X pins σ H s) (r : Vals vs us)
    (h : ∀ x dx, H x = none → H dx = none → dx ≠ x → sp (.ref x :: (vs ++ dvs)) (upd (upd H dx (.own x)) x (.ins C dx [])) (fun v H2 => v = .non ∧ Q (.ref x) H2) E) :
    wpAny (model X.prog X.w) X.A (call (.ref C) us) (EP X pins σ Q) X.xe s := by
  have hq := h (s.heap.objs.size + 1) s.heap.objs.size (I.hok.fresh (Nat.le_succ _)) (I.hok.fresh (Nat.le_refl _)) (Nat.ne_of_lt (Nat.lt_succ_self _))
  have I2 := Inv.made (C := C) I
  have r2 : Vals (V.ref (s.heap.objs.size + 1) :: (vs ++ dvs)) (Value.ref (s.heap.objs.size + 1) :: (us ++ ds)) := .cons rfl (r.append hd)
  have hl : (Value.ref (s.heap.objs.size + 1) :: us ++ ds).length = ps.length := by
    have e := r2.length
    rw [F.len _ _ _ _ hq] at e
    exact e.symm
  refine wpAny_call (make_map (f := f) I.kIn M.makes M.init (beq_iff_eq.mp M.fn) (codeAny_mono (F.run _ X.stack _ _ ⟨Value.ref (s.heap.objs.size + 1) :: us, []⟩ (Value.ref (s.heap.objs.size + 1) :: (us ++ ds)) _ _ E (hr.make C us [])
    (I2.env0.make C us []) (hb _ (Value.ref (s.heap.objs.size + 1) :: us) I2.kIn hl) r2 hq) fun r s' hq' => ?_))
  cases r with
  | error e => exact hx pins σ _ _ e s' I2 hq'
  | ok fl =>
    cases fl with
    | ret u =>
      obtain ⟨v, H', I3, rv, ev, q3⟩ := I2.after hq'
      subst ev
      exact ⟨rv, ⟨V.ref (s.heap.objs.size + 1), H', I3, rfl, q3⟩⟩
    | next => exact False.elim hq'
    | brk => exact False.elim hq'
    | cont => exact False.elim hq'
theorem pe_make (M : Mk X.K C f) {cc : Bool} (F : FnOk X.prog X.w X.K X.mg X.base CX k f fd ps sp cc) (hr : Room (k + 1) X.A cc) (hg : Gl X x) (hm : X.mg x = some (.ref C)) (hb : Binds X.K fd ps ds) (hd : Vals dvs ds) (hx : Passes CX X E)
    (ha : PA X (e :: es) t) (hdb : (x == ("__debug__" : Str)) = false := by decide) (he : starEach (e :: es) X.env = (false, eval e X.env) :: starEach es X.env := by rfl) (hpl : (backTo pos (starEach es X.env)).any (·.1) = false := by rfl) :
    PE X (.Call (.Name x p) (e :: es) [] pos) (tMake C sp dvs E t) := by
  intro pins s σ H Q I h
  refine wpAny_Call_Name_kw (ld_glob I hg hm ?_ hdb)
  refine PySem.W.callWith_K (h₀ := X.base) I.ok.mod.kin M.kp (thn (ha pos pins s σ H _ I h) fun us s1 ⟨vs, H1, I1, r, q⟩ => ⟨I1.kIn, ?_⟩) he hpl
  exact run_make M F hr hb hd hx I1 r q
end

/-! ### keywords -/
section
variable {X : Cx} {CX : CXT} {k : Nat} {f C : Addr} {fd : FuncData} {ps ks : List Str} {sp : Sp} {E : XK} {x m : Str} {p pos apos kpos : Pos} {e o : Expr} {es : List Expr} {kws : List Keyword} {te ta : TE} {t tk : TA} {nm : Option Str}
variable {g : List Value → List Value → List Value} {gV : List V → List V → List V}
end

/-! ### a def's body keeps its promise -/
/-- names: the parameters first -/
structure FnScope (N P : List Str) (sc : Scope) : Prop where
  kind : sc.kind = .function
  co : sc.isCoroutine = false
  gen : sc.isGenerator = false
  nd : N.Nodup
  pre : N.take P.length = P
  par : ∀ x ∈ P, sc.names.lookup x = some .local ∨ sc.names.lookup x = some .cell
  nofree : ∀ y ∈ sc.names, y.2 ≠ .free

theorem bindL_out {kindOf : Str → Option NameKind} {x : Str} : ∀ {binds : List (Str × Value)} {m : Str → Option Value}, (∀ v, (x, v) ∉ binds) → bindL kindOf binds m x = m x
  | [], _, _ => rfl
  | (n, v) :: r, m, h => by
    unfold bindL
    rw [bindL_out fun w hw => h w (List.mem_cons_of_mem _ hw)]
    split
    · have : x ≠ n := by rintro rfl; exact h v List.mem_cons_self
      simp [this]
    · rfl
theorem bindC_out {kindOf : Str → Option NameKind} {x : Str} : ∀ {binds : List (Str × Value)} {m : Str → Option Value}, (∀ v, (x, v) ∉ binds) → bindC kindOf binds m x = m x
  | [], _, _ => rfl
  | (n, v) :: r, m, h => by
    unfold bindC
    rw [bindC_out fun w hw => h w (List.mem_cons_of_mem _ hw)]
    split
    · rfl
    · have : x ≠ n := by rintro rfl; exact h v List.mem_cons_self
      simp [this]
theorem bindL_get {kindOf : Str → Option NameKind} {x : Str} {v : Value} : ∀ {P : List Str} {vs : List Value} {i : Nat} {m : Str → Option Value}, P.Nodup → P[i]? = some x → vs[i]? = some v → kindOf x = some .local →
    bindL kindOf (P.zip vs) m x = some v
  | [], _, _, _, _, h, _, _ => by simp at h
  | _ :: _, [], _, _, _, _, h, _ => by simp at h
  | p :: P, w :: vs, 0, m, nd, h1, h2, hk => by
    simp at h1 h2; subst h1; subst h2
    show bindL kindOf ((p, w) :: P.zip vs) m p = _
    unfold bindL
    rw [bindL_out fun v hv => (List.nodup_cons.mp nd).1 (List.of_mem_zip hv).1, if_pos hk]
    simp
  | p :: P, w :: vs, i + 1, m, nd, h1, h2, hk => by
    show bindL kindOf ((p, w) :: P.zip vs) m x = _
    unfold bindL
    exact bindL_get (i := i) (List.nodup_cons.mp nd).2 (by simpa using h1) (by simpa using h2) hk
theorem bindC_get {kindOf : Str → Option NameKind} {x : Str} {v : Value} : ∀ {P : List Str} {vs : List Value} {i : Nat} {m : Str → Option Value}, P.Nodup → P[i]? = some x → vs[i]? = some v → kindOf x ≠ some .local →
    bindC kindOf (P.zip vs) m x = some v
  | [], _, _, _, _, h, _, _ => by simp at h
  | _ :: _, [], _, _, _, _, h, _ => by simp at h
  | p :: P, w :: vs, 0, m, nd, h1, h2, hk => by
    simp at h1 h2; subst h1; subst h2
    show bindC kindOf ((p, w) :: P.zip vs) m p = _
    unfold bindC
    rw [bindC_out fun v hv => (List.nodup_cons.mp nd).1 (List.of_mem_zip hv).1, if_neg hk]
    simp
  | p :: P, w :: vs, i + 1, m, nd, h1, h2, hk => by
    show bindC kindOf ((p, w) :: P.zip vs) m x = _
    unfold bindC
    exact bindC_get (i := i) (List.nodup_cons.mp nd).2 (by simpa using h1) (by simpa using h2) hk

/-- the names' values at the entry -/
def start (N : List Str) (vs : List V) : St := vs.map some ++ List.replicate (N.length - vs.length) none

/-- the context of a def's body, at its entry; an exception leaves the frame, then lies as CX says -/
def cxOf (CX : CXT) (P : Program) (w : World) (K : PySem.W.Frag) (mg : Str → Option Value) (base : Heap) (N : List Str) (qual : Str) (scope : Scope) (f : Addr) (cd : Value) (A : Around) (outer : List Env) (s : Shared) (H : Hp) (E : XK) (c : Bool := true) : Cx where
  prog := P
  w := w
  K := K
  mg := mg
  base := base
  A := A.deeper (envOfC qual scope s.heap.objs.size f cd)
  N := N
  s₀ := s
  H₀ := H
  env := envOfC qual scope s.heap.objs.size f cd
  outer := outer
  stack := envOfC qual scope s.heap.objs.size f cd :: outer
  ex := []
  calm := c
  fn := fun _ => true
  pn := []
  xe := fun e s' => wpAny (model P w) (A.deeper (envOfC qual scope s.heap.objs.size f cd)) (leaving (envOfC qual scope s.heap.objs.size f cd) e) (fun _ s'' => CX outer H s E e s'') (fun e' s'' => CX outer H s E e' s'') s'

theorem cell_has {sc : Scope} {n : Nat} {x : Str} (h : sc.names.lookup x = some .cell) : ∃ c, (cellsFrom n sc.names []).lookup x = some c := by
  have q := PySem.W.cellsFrom_some sc.names n [] (.inl h)
  exact Option.isSome_iff_exists.mp q

theorem inv_start {CX : CXT} {P : Program} {w : World} {K : PySem.W.Frag} {mg : Str → Option Value} {base : Heap} {N ps : List Str} {qual : Str} {scope : Scope} {f : Addr} {cd : Value} {A : Around} {outer : List Env} {s s1 : Shared} {H : Hp} {E : XK} {us : List Value} {vs : List V} {c : Bool}
    (S : FnScope N ps scope) (hd : c = true → A.handled = none) (e0 : Env0 P w K mg base A outer s H) (hl : vs.length = ps.length) (r : Vals vs us)
    (x : InCallC s s.heap.objs.size (bindL (envOfC qual scope s.heap.objs.size f cd).kindOf (ps.zip us) fun _ => none) (cellsFrom (s.heap.objs.size + 1) scope.names []) (bindC (envOfC qual scope s.heap.objs.size f cd).kindOf (ps.zip us) fun _ => none) s1) :
    Inv (cxOf CX P w K mg base N qual scope f cd A outer s H E c) [] (start N vs) H s1 := by
  have hpl : ps.length ≤ N.length := by have := congrArg List.length S.pre; rw [List.length_take] at this; omega
  obtain ⟨h1, tk, rfl, hk⟩ := x.done
  have noA : ∀ b : Addr, b ∉ (cxOf CX P w K mg base N qual scope f cd A outer s H E c).ex := fun b z => absurd (show b ∈ ([] : List Addr) from z) (by simp)
  refine ⟨⟨e0.mod, S.kind, rfl, rfl, Nat.le_refl _, fun y z c' h1 h2 => ?_, fun y hy => ?_, fun y c _ h => ?_, hd, Around.frames_deeper e0.frames, .inr ⟨rfl, rfl⟩, fun b z => absurd z (noA b), e0.bs, e0.bsz, fun b _ _ => noA b, fun b z => absurd z (noA b), e0.funs, e0.frf⟩,
    rfl, e0.bare, Un.kept hk, ⟨_, x.toInCall.ns, fun i y v h1 h2 h3 => ?_⟩, fun y c h => ⟨_, x.cell y c h⟩, e0.hok.fresh (Nat.le_refl _), fun y c h => ?_, fun p hp => absurd (show p ∈ ([] : List (Addr × Obj)) from hp) (by simp), e0.hok.kept hk, ?_⟩
  · exact name_of_addr x.apart (PySem.mem_of_lookup h1) (PySem.mem_of_lookup h2)
  · have hy : scope.names.lookup y = some .cell ∨ scope.names.lookup y = some .free := hy
    rcases hy with hy | hy
    · exact cell_has hy
    · exact absurd rfl (S.nofree _ (PySem.mem_of_lookup hy))
  · exact Nat.le_of_lt (x.above y c (PySem.mem_of_lookup h))
  · have hi : i < vs.length := by
      unfold start at h2
      by_cases hi : i < vs.length
      · exact hi
      · rw [List.getElem?_append_right (by simpa using hi)] at h2
        rw [List.getElem?_replicate] at h2
        split at h2 <;> cases h2
    have ha : vs[i]? = some v := by
      unfold start at h2
      rw [List.getElem?_append_left (by simpa using hi), List.getElem?_map] at h2
      cases e : vs[i]? with
      | none => rw [e] at h2; cases h2
      | some a => rw [e] at h2; cases h2; rfl
    obtain ⟨u, hu, rv⟩ := r.get ha
    have hp : ps[i]? = some y := by
      rw [← S.pre, List.getElem?_take_of_lt (by omega)]; exact h1
    have ndP : ps.Nodup := by rw [← S.pre]; exact S.nd.sublist (List.take_sublist _ _)
    refine ⟨u, rv, ?_⟩
    rcases S.par y (List.mem_of_getElem? hp) with k | k
    · exact .inl ⟨k, bindL_get ndP hp hu k⟩
    · obtain ⟨c, e⟩ := cell_has (n := s.heap.objs.size + 1) k
      refine .inr ⟨.inl k, c, e, ?_⟩
      have q := x.cell y c e
      rw [bindC_get ndP hp hu (by show scope.names.lookup y ≠ _; rw [k]; decide)] at q
      exact q
  · exact e0.hok.fresh (Nat.le_of_lt (x.above y c (PySem.mem_of_lookup h)))
  · unfold start
    show _ = N.length
    rw [List.length_append, List.length_map, List.length_replicate]
    omega

/-- THE RULE: a def (or a method) of the text, by its body. The body's reading t is chosen for each entry; it is run at the parameters' values -/
theorem fn_of {CX : CXT} {P : Program} {w : World} {K : PySem.W.Frag} {mg : Str → Option Value} {base : Heap} {k : Nat} {f : Addr} {name qual : Str} {params : Arguments} {body : List Stmt} {scope : Scope} {dV kV doc pm cdv ct oc : Value} {an od : Option Addr}
    {osl : Array (Option Value)} {N ps : List Str} {sp : Sp} {c : Bool} (lk : K.lookup f = some ⟨oc, od, .func (PySem.W.fnOf name qual params body scope dV kV doc pm an cdv ct), osl⟩) (hcd : PySem.W.codeIn K cdv qual = true) (S : FnScope N ps scope)
    (len : ∀ vs H Q E, sp vs H Q E → vs.length = ps.length)
    (hbody : ∀ (A : Around) (outer : List Env) (s : Shared) (H : Hp) (vs : List V) (Q : VK) (E : XK), Room k (A.deeper (envOfC qual scope s.heap.objs.size f cdv)) c → sp vs H Q E →
      ∃ t, PSs (cxOf CX P w K mg base N qual scope f cdv A outer s H E c) body t ∧ t { nx := fun _ H' => Q .non H', rt := Q } (start N vs) H) :
    FnOk P w K mg base CX (k + 1) f (PySem.W.fnOf name qual params body scope dV kV doc pm an cdv ct) ps sp c := by
  refine ⟨len, fun A outer s H args us vs Q E hr e0 hb r hsp => ?_⟩
  have hl := len _ _ _ _ hsp
  have KX : K.In s.heap := e0.mod.kin.keeps fun b o e => (e0.bs b o e).1
  have lim : s.heap.NoLimit := e0.mod.nolimit.keeps fun b o e => (e0.bs b o e).1
  have hkind : ∀ y ∈ ps.zip us, scope.names.lookup y.1 = some .local ∨ (scope.names.lookup y.1 = some .cell ∧ ((cellsFrom (s.heap.objs.size + 1) scope.names []).lookup y.1).isSome = true) := fun ⟨n, v⟩ hy => by
    rcases S.par n (List.of_mem_zip hy).1 with q | q
    · exact .inl q
    · exact .inr ⟨q, PySem.W.cellsFrom_some _ _ _ (.inl q)⟩
  refine codeAny_call_function hr.depth (KX _ _ lk) rfl S.co S.gen rfl (PySem.W.codeRec_of KX hcd) (hb _ _ _ _ ?_)
  refine wpAny_newFunctionEnv_cells S.kind hkind fun env he s1 x => ?_
  subst he
  refine ⟨lim.keeps x.toInCall.keep, codeAny_func ?_⟩
  obtain ⟨t, ht, hq⟩ := hbody A outer s H vs Q E (hr.deeper _) hsp
  have I : Inv (cxOf CX P w K mg base N qual scope f cdv A outer s H E c) [] (start N vs) H s1 := inv_start S hr.hc e0 hl r x
  refine wpAny_mono (ht [] s1 (start N vs) H _ I hq) (fun fl s' hs => ?_) fun e s' hs => hs
  have fin : ∀ {σ' : St} {H' : Hp} {v : V} {u : Value}, Inv (cxOf CX P w K mg base N qual scope f cdv A outer s H E c) [] σ' H' s' → RelV v u → Q v H' → CE outer P w H s Q u s' :=
    fun {σ' H' v u} J rv q => ⟨v, H', J.os, J.bare, J.base, J.hok, rv, q⟩
  cases fl with
  | ret u =>
    obtain ⟨v, σ', H', J, rv, q⟩ := hs
    exact fin J rv q
  | next =>
    obtain ⟨σ', H', J, q⟩ := hs
    exact fin (v := V.non) (u := Value.none) J rfl q
  | brk =>
    obtain ⟨_, _, _, q⟩ := hs
    exact False.elim q
  | cont =>
    obtain ⟨_, _, _, q⟩ := hs
    exact False.elim q
end L2

namespace L2
open PySem PySem.Spec PyProof.Rows
section
variable {X : Cx} {x : Str} {p pos : Pos} {e : Expr} {es : List Expr} {t : TA} {id T : String} {r : List V → Hp → VK → Prop}

def tCB (r : List V → Hp → VK → Prop) (t : TA) : TE := fun σ H Q => t σ H fun vs H1 => r vs H1 Q
/-- f(e, ..), f a built-in function -/
theorem pe_callB (hc : CallR X (.builtin id) r) (hg : Gl X x) (hm : X.mg x = none) (hv : bootBuiltins x = some (.builtin id)) (ha : PA X (e :: es) t) (hn : x ≠ "__name__" := by decide) (hdb : (x == ("__debug__" : Str)) = false := by decide)
    (he : starEach (e :: es) X.env = (false, eval e X.env) :: starEach es X.env := by rfl) (hpl : (backTo pos (starEach es X.env)).any (·.1) = false := by rfl) : PE X (.Call (.Name x p) (e :: es) [] pos) (tCB r t) := by
  intro pins s σ H Q I h
  refine wpAny_Call_Name_kw (ld_blt I hg hm hv ?_ hn hdb)
  exact PyProof.Rows.callWith_builtin1 (thn (ha pos pins s σ H _ I h) fun us s1 ⟨vs, H1, I1, r1, q1⟩ => hc pins s1 σ H1 vs us Q I1 r1 q1) he hpl
/-- T(e, ..), T a built-in type -/
theorem pe_callTy (hc : CallR X (.type T) r) (hg : Gl X x) (hm : X.mg x = none) (hv : bootBuiltins x = some (.type T)) (ha : PA X (e :: es) t) (hn : x ≠ "__name__" := by decide) (hdb : (x == ("__debug__" : Str)) = false := by decide)
    (he : starEach (e :: es) X.env = (false, eval e X.env) :: starEach es X.env := by rfl) (hpl : (backTo pos (starEach es X.env)).any (·.1) = false := by rfl) : PE X (.Call (.Name x p) (e :: es) [] pos) (tCB r t) := by
  intro pins s σ H Q I h
  refine wpAny_Call_Name_kw (ld_blt I hg hm hv ?_ hn hdb)
  exact PyProof.Rows.callWith_type1 (thn (ha pos pins s σ H _ I h) fun us s1 ⟨vs, H1, I1, r1, q1⟩ => hc pins s1 σ H1 vs us Q I1 r1 q1) he hpl
end
end L2

namespace HT
open PySem PyProof.Rows

section
open PySem.SeqAt
open PySem.AutoSeq1 (wpAny_loadPart')
open PySem.MeetsSeq PySem.MeetsSeq2 PySem.MeetsSeq3

end

section
variable {prog : Program} {w : World} {A : Around} {E : Value → Shared → Prop} {s : Shared}

/-! ### t[a:b], not the whole -/
/-- a slice's bound as a place among n (d where it is left out) -/
def sIx (n d : Nat) : Option Int → Nat
  | none => d
  | some v => if v < 0 then (v + (n : Int)).toNat else min v.toNat n
end
end HT

namespace L2
open PySem PySem.Spec PyProof.Rows

/-! ### the parts of a slice -/
abbrev TO := St → Hp → (Option Int → Hp → Prop) → Prop
/-- a slice's part (left out, or an int) -/
def PO (X : Cx) (e : Option Expr) (t : TO) : Prop :=
  ∀ (pins : List (Addr × Obj)) (s : Shared) (σ : St) (H : Hp) (Q : Option Int → Hp → Prop), Inv X pins σ H s → t σ H Q →
    wpAny (model X.prog X.w) X.A (evalPart e X.env) (fun u s' => ∃ o H', Inv X pins σ H' s' ∧ IsPart u o ∧ Q o H') X.xe s
def tNoPart : TO := fun _ H Q => Q none H
def tPart (t : TE) : TO := fun σ H Q => t σ H fun x H1 => ∃ i, x = .int i ∧ Q (some i) H1

section
variable {X : Cx} {e : Expr} {te : TE} {lo hi : Option Expr} {tl th : TO} {pos p2 : Pos}

theorem po_none : PO X none tNoPart := by
  intro pins s σ H Q I h
  rw [evalPart_none]
  exact wpAny_pure ⟨none, H, I, .none, h⟩
theorem po_some (h : PE X e te) : PO X (some e) (tPart te) := by
  intro pins s σ H Q I hw
  rw [evalPart_some]
  refine thn (h pins s σ H _ I hw) fun u s1 ⟨x, H1, I1, r1, q1⟩ => ?_
  obtain ⟨i, rfl, q⟩ := q1
  obtain ⟨t, rfl⟩ := r1
  exact ⟨some i, H1, I1, .int i t, q⟩

/-- what a slice of a value is, by values: the slice object stands at sl -/
def SlR (X : Cx) (r : V → Option Int → Option Int → Hp → VK → Prop) : Prop :=
  ∀ (pins : List (Addr × Obj)) (s : Shared) (σ : St) (H : Hp) (x : V) (v vl vu : Value) (lo hi : Option Int) (sl : Addr) (Q : VK), Inv X pins σ H s → RelV x v → s.heap.IsSliceOf sl vl vu .none → IsPart vl lo → IsPart vu hi → r x lo hi H Q →
    ∃ T id, typeLookup (.type T) "__getitem__" = pure (some (.builtin id)) ∧ s.TypeIs v T ∧ wpAny (model X.prog X.w) X.A (getItem v (.ref sl)) (EP X pins σ Q) X.xe s
def tSl (r : V → Option Int → Option Int → Hp → VK → Prop) (te : TE) (tl th : TO) : TE := fun σ H Q => te σ H fun x H1 => tl σ H1 fun l H2 => th σ H2 fun u H3 => r x l u H3 Q
/-- a[lo:hi], any a -/
theorem pe_slice {r : V → Option Int → Option Int → Hp → VK → Prop} (hr : SlR X r) (he : PE X e te) (hl : PO X lo tl) (hu : PO X hi th) : PE X (.Subscript e (.Slice lo hi none p2) pos) (tSl r te tl th) := by
  intro pins s σ H Q I h
  refine Subscript_ (thn (he pins s σ H _ I h) fun v s1 ⟨x, H1, I1, r1, q1⟩ => ?_)
  refine wpAny_Slice (thn (hl pins s1 σ H1 _ I1 q1) fun vl s2 ⟨l, H2, I2, pl, q2⟩ => thn (hu pins s2 σ H2 _ I2 q2) fun vu s3 ⟨u, H3, I3, pu, q3⟩ => ?_)
  rw [evalPart_none]
  refine wpAny_pure ?_
  have I4 : Inv X pins σ H3 { s3 with heap := s3.heap.push { cls := .type "slice", data := .fields #[vl, vu, .none] } } := I3.kept (t' := s3.toks) fun b ob q => Heap.get?_push_of_some _ q
  obtain ⟨T, id, hT, ht, hg⟩ := hr pins { s3 with heap := s3.heap.push { cls := .type "slice", data := .fields #[vl, vu, .none] } } σ H3 x v vl vu l u s3.heap.objs.size Q I4 r1 (Heap.IsSliceOf.new ..) pl pu q3
  show wpAny (model X.prog X.w) X.A (subscriptTail e (.Slice lo hi none p2) v (.ref s3.heap.objs.size)) (EP X pins σ Q) X.xe { s3 with heap := s3.heap.push { cls := .type "slice", data := .fields #[vl, vu, .none] } }
  exact tail_any (ops := [.ref s3.heap.objs.size, v]) ht hT hg (by with_unfolding_all rfl)

/-- the items of xs[lo:hi] -/
def cutV (xs : List V) (lo hi : Option Int) : List V := (xs.drop (HT.sIx xs.length 0 lo)).take (HT.sIx xs.length xs.length hi - HT.sIx xs.length 0 lo)
theorem cutV_length (xs : List V) (lo hi : Option Int) : (cutV xs lo hi).length ≤ xs.length := by
  unfold cutV
  rw [List.length_take, List.length_drop]
  omega
/-! ### t < u, t + u -/
end
end L2

namespace L2
open PySem PySem.Spec PyProof.Rows

/-! ### places -/
/-- the place that an index of any sign means -/
def ixN (n : Nat) (i : Int) : Option Nat := if 0 ≤ i then (if i < n then some i.toNat else none) else if -(n : Int) ≤ i then some (i + n).toNat else none
def atI {α : Type} (xs : List α) (i : Int) : Option α := (ixN xs.length i).bind fun j => xs[j]?
theorem ixN_seq {n : Nat} {i : Int} {j : Nat} (h : ixN n i = some j) : seqIndex? i n = some j ∧ j < n ∧ -(n : Int) ≤ i ∧ i < n := by
  unfold ixN at h
  by_cases h0 : 0 ≤ i
  · rw [if_pos h0] at h
    by_cases h1 : i < n
    · rw [if_pos h1] at h
      have e : i.toNat = j := Option.some.inj h
      exact ⟨by rw [seqIndex_of h0 h1, e], by omega, by omega, h1⟩
    · rw [if_neg h1] at h; cases h
  · rw [if_neg h0] at h
    by_cases h1 : -(n : Int) ≤ i
    · rw [if_pos h1] at h
      have e : (i + n).toNat = j := Option.some.inj h
      exact ⟨by rw [seqIndex_neg (by omega) h1, e], by omega, h1, by omega⟩
    · rw [if_neg h1] at h; cases h
theorem atI_get {α : Type} {xs : List α} {i : Int} {v : α} (h : atI xs i = some v) : ∃ j, seqIndex? i xs.length = some j ∧ xs[j]? = some v ∧ j < xs.length ∧ -(xs.length : Int) ≤ i ∧ i < xs.length := by
  unfold atI at h
  cases e : ixN xs.length i with
  | none => rw [e] at h; cases h
  | some j =>
    rw [e] at h
    obtain ⟨h1, h2, h3, h4⟩ := ixN_seq e
    exact ⟨j, h1, h, h2, h3, h4⟩
theorem atI_nat {α : Type} {xs : List α} {j : Nat} {v : α} (h : xs[j]? = some v) : atI xs (j : Int) = some v := by
  have hj : j < xs.length := (List.getElem?_eq_some_iff.mp h).1
  have e : ixN xs.length (j : Int) = some j := by
    unfold ixN
    rw [if_pos (by omega), if_pos (by omega)]; simp
  unfold atI; rw [e]; exact h
/-! ### what may be subscripted -/
/-- what stands as an index of a plain subscript -/
def PlainIx (b : Expr) : Prop := ∀ o i, subscripted b false o i = operate [o, i] (getItem o i)
/-- a subscript by values -/
def IxR (X : Cx) (r : R2) : Prop :=
  ∀ (value slice : Expr) (pins : List (Addr × Obj)) (s : Shared) (σ : St) (H : Hp) (x y : V) (v u : Value) (Q : VK), Inv X pins σ H s → RelV x v → RelV y u → r x y H Q →
    subscripted slice false v u = operate [v, u] (getItem v u) → wpAny (model X.prog X.w) X.A (subscriptTail value slice v u) (EP X pins σ Q) X.xe s
/-- a call of a builtin's method by values: the receiver, the arguments -/
def MtR (X : Cx) (id : String) (r : V → List V → Hp → VK → Prop) : Prop :=
  ∀ (pins : List (Addr × Obj)) (s : Shared) (σ : St) (H : Hp) (x : V) (xs : List V) (v : Value) (us : List Value) (Q : VK), Inv X pins σ H s → RelV x v → Vals xs us → r x xs H Q →
    wpAny (model X.prog X.w) X.A (call (.builtin id) (v :: us)) (EP X pins σ Q) X.xe s
section
variable {X : Cx} {a b : Expr} {ta tb : TE} {pos : Pos}
/-- a[b] -/
theorem pe_ix {r : R2} (hr : IxR X r) (ha : PE X a ta) (hb : PE X b tb) (hs : PlainIx b) : PE X (.Subscript a b pos) (tOp r ta tb) := by
  intro pins s σ H Q I h
  exact Subscript_ (binT ha hb I h fun v u s2 x y H2 I2 rx ry q => hr a b pins s2 σ H2 x y v u Q I2 rx ry q (hs _ _))

def rIxL (K : PySem.W.Frag) : R2 := fun x y H Q => ∃ p xs i v, x = .ref p ∧ y = .int i ∧ SqL K H p xs ∧ atI xs i = some v ∧ Q v H
theorem ix_list : IxR X (rIxL X.K) := by
  intro value slice pins s σ H x y v u Q I rx ry h hs
  obtain ⟨p, xs, i, z, rfl, rfl, hq, he, q⟩ := h
  cases rx
  obtain ⟨t, rfl⟩ := ry
  obtain ⟨its, r, pl, hz⟩ := I.list hq
  obtain ⟨j, h1, h2, h3, h4, h5⟩ := atI_get he
  obtain ⟨w, ew, rw'⟩ := r.get h2
  have hl := r.length
  have hn := line63
  have fin : EP X pins σ Q w s := ⟨z, H, I, rw', q⟩
  by_cases h0 : 0 ≤ i
  · have hj : i.toNat = j := by
      rw [seqIndex_of h0 h5] at h1
      exact Option.some.inj h1
    exact item_listR pl.isList h0 (by omega) (by rw [hj]; simpa using ew) fin hs
  · have hj : (i + (its.toArray.size : Int)).toNat = j := by
      rw [seqIndex_neg (by omega) h4] at h1
      rw [List.size_toArray, ← hl]
      exact Option.some.inj h1
    exact subscriptTail_builtinR (x := w) pl.isList.typeIs slot_list_getitem.lookup
      (wpAny_getItem_list_neg (Q := fun r s' => r = w ∧ EP X pins σ Q r s') pl.isList (by omega) (by rw [List.size_toArray] <;> omega) (by omega) (by rw [hj]; simpa using ew) ⟨rfl, fin⟩) hs
/-! ### xs[i] = v, any sign -/
/-! ### slices -/
theorem slice_bounds (lo hi : Option Int) (n : Nat) : (sliceBounds lo hi none n).1 = ((HT.sIx n 0 lo : Nat) : Int) ∧ (sliceBounds lo hi none n).2.1 = ((HT.sIx n n hi : Nat) : Int) ∧ (sliceBounds lo hi none n).2.2 = 1 := by
  refine ⟨?_, ?_, rfl⟩
  · cases lo with
    | none => simp [sliceBounds, HT.sIx]
    | some i =>
      simp only [sliceBounds, HT.sIx, Option.getD_none, show (1 : Int) > 0 by decide, if_true]
      by_cases h : i < 0
      · simp only [h, if_true] <;> omega
      · simp only [h, if_false] <;> omega
  · cases hi with
    | none => simp [sliceBounds, HT.sIx]
    | some i =>
      simp only [sliceBounds, HT.sIx, Option.getD_none, show (1 : Int) > 0 by decide, if_true]
      by_cases h : i < 0
      · simp only [h, if_true] <;> omega
      · simp only [h, if_false] <;> omega
theorem slicePick_cut (its : List Value) (lo hi : Option Int) : slicePick its.toArray lo hi none = ((its.drop (HT.sIx its.length 0 lo)).take (HT.sIx its.length its.length hi - HT.sIx its.length 0 lo)).toArray := by
  obtain ⟨h1, h2, h3⟩ := slice_bounds lo hi its.toArray.size
  unfold slicePick
  rw [h1, h2, h3]
  simp only [sliceRange_one, pick_run, List.size_toArray] <;> rfl
/-- xs[lo:hi] of a list: a new list -/
def rSlL (K : PySem.W.Frag) : V → Option Int → Option Int → Hp → VK → Prop := fun x lo hi H Q => ∃ a xs, x = .ref a ∧ SqL K H a xs ∧ ∀ p, H p = none → Q (.ref p) (upd H p (.lst (cutV xs lo hi)))
theorem sl_list : SlR X (rSlL X.K) := by
  intro pins s σ H x v vl vu lo hi sl Q I rx hs pl pu h
  obtain ⟨a, xs, rfl, hx, q⟩ := h
  cases rx
  obtain ⟨its, r, ht, hz⟩ := I.list hx
  have hlen := r.length
  refine ⟨"list", _, slot_list_getitem.lookup, ht.isList.typeIs, ?_⟩
  refine wpAny_getItem_list_slice ht.isList hs pl pu .none (by simp) ?_ (by rw [List.size_toArray] <;> omega)
  rw [slicePick_cut, ← hlen]
  refine ⟨.ref s.heap.objs.size, _, I.laid (t' := s.toks) (o := .lst (cutV xs lo hi)) (fun b ob q => Heap.get?_push_of_some _ q) (Nat.le_refl _) ?_, rfl, q _ (I.hok.fresh (Nat.le_refl _))⟩
  exact ⟨Nat.le_trans (cutV_length xs lo hi) hz, _, 0, (r.drop (HT.sIx xs.length 0 lo)).take (HT.sIx xs.length xs.length hi - HT.sIx xs.length 0 lo), Heap.get?_push_size _ rfl⟩

/-! ### in, not in: flat items -/
def flatV : V → Bool
  | .non => true
  | .bl _ => true
  | .int _ => true
  | .str _ => true
  | _ => false
/-- == of flat values -/
def eqV : V → V → Bool
  | .non, .non => true
  | .bl a, .bl b => a == b
  | .bl a, .int b => (if a then 1 else 0) == b
  | .int a, .bl b => a == (if b then 1 else 0)
  | .int a, .int b => a == b
  | .str a, .str b => a == b
  | _, _ => false
theorem eqAt_V {A : Around} {s : Shared} {y x : V} {u v : Value} (ry : RelV y u) (rx : RelV x v) (fy : flatV y = true) (fx : flatV x = true) : SeqAt.EqAt A s u v (eqV y x) := by
  cases y with
  | non =>
    cases ry
    cases x with
    | non => cases rx; exact SeqAt.EqAt.same _
    | bl b => cases rx; exact SeqAt.EqAt.none_bool b
    | int b => obtain ⟨t, rfl⟩ := rx; exact SeqAt.EqAt.none_int b t
    | str b => obtain ⟨t, rfl⟩ := rx; exact SeqAt.EqAt.none_str b t
    | _ => exact absurd (show false = true from fx) Bool.false_ne_true
  | bl a =>
    cases ry
    cases x with
    | non => cases rx; exact SeqAt.EqAt.bool_none a
    | bl b => cases rx; exact SeqAt.EqAt.bool_bool a b
    | int b => obtain ⟨t, rfl⟩ := rx; exact SeqAt.EqAt.bool_int a b t
    | str b => obtain ⟨t, rfl⟩ := rx; exact SeqAt.EqAt.bool_str a b t
    | _ => exact absurd (show false = true from fx) Bool.false_ne_true
  | int a =>
    obtain ⟨t', rfl⟩ := ry
    cases x with
    | non => cases rx; exact SeqAt.EqAt.int_none a t'
    | bl b => cases rx; exact SeqAt.EqAt.int_bool a t' b
    | int b => obtain ⟨t, rfl⟩ := rx; exact SeqAt.EqAt.int_int a t' b t
    | str b => obtain ⟨t, rfl⟩ := rx; exact SeqAt.EqAt.int_str a t' b t
    | _ => exact absurd (show false = true from fx) Bool.false_ne_true
  | str a =>
    obtain ⟨t', rfl⟩ := ry
    cases x with
    | non => cases rx; exact SeqAt.EqAt.str_none a t'
    | bl b => cases rx; exact SeqAt.EqAt.str_bool a t' b
    | int b => obtain ⟨t, rfl⟩ := rx; exact SeqAt.EqAt.str_int a t' b t
    | str b => obtain ⟨t, rfl⟩ := rx; exact SeqAt.EqAt.str_str a t' b t
    | _ => exact absurd (show false = true from fx) Bool.false_ne_true
  | _ => exact absurd (show false = true from fy) Bool.false_ne_true
/-! ### len, list(x), tuple(x) of any list or tuple that is read -/
theorem call_len_seq : CallR X (.builtin "len") (fun xs H Q => ∃ p ys, xs = [.ref p] ∧ (SqL X.K H p ys ∨ SqT X.K H p ys) ∧ Q (.int ys.length) H) := by
  intro pins s σ H xs us Q I r h
  obtain ⟨p, ys, rfl, hq, q⟩ := h
  obtain ⟨u, rfl, rx⟩ := vals1 r
  cases rx
  have hn := line63
  rcases hq with hq | hq
  · obtain ⟨its, r', pl, hz⟩ := I.list hq
    have hlen := r'.length
    exact Calls.call_len_list pl.isList (by simp only [List.size_toArray] <;> omega) ⟨.int ys.length, H, I.tok _, ⟨s.toks + 1, by rw [List.size_toArray, hlen]⟩, q⟩
  · obtain ⟨its, r', pl, hz⟩ := I.tuple hq
    have hlen := r'.length
    exact len_tuple pl (by simp only [List.size_toArray] <;> omega) ⟨.int ys.length, H, I.tok _, ⟨s.toks + 1, by rw [List.size_toArray, hlen]⟩, q⟩
theorem call_list_of : CallR X (.type "list") (fun xs H Q => ∃ p ys, xs = [.ref p] ∧ (SqL X.K H p ys ∨ SqT X.K H p ys) ∧ ∀ l, H l = none → Q (.ref l) (upd H l (.lst ys))) := by
  intro pins s σ H xs us Q I r h
  obtain ⟨p, ys, rfl, hq, q⟩ := h
  obtain ⟨u, rfl, rx⟩ := vals1 r
  cases rx
  have fin : ∀ (its : List Value), Vals ys its → ys.length ≤ sizeLine → ∀ (h' : Heap) (c' : Nat), (∀ b o', s.heap.get? b = some o' → h'.get? b = some o') →
      h'.get? s.heap.objs.size = some { cls := .type "list", dict := none, data := .seq its.toArray c', slots := #[] } → EP X pins σ Q (.ref s.heap.objs.size) { s with heap := h' } := fun its r' hz h' c' kp e =>
    ⟨.ref s.heap.objs.size, _, I.laid (t' := s.toks) kp (Nat.le_refl _) (show ObjOk X.prog X.w _ h' _ (.lst ys) from ⟨hz, its, c', r', e⟩), rfl, q _ (I.hok.fresh (Nat.le_refl _))⟩
  rcases hq with hq | hq
  · obtain ⟨its, r', pl, hz⟩ := I.list hq
    have hlen := r'.length
    obtain ⟨o, ho, hc, n, hd⟩ := pl.isList
    exact call_list_seq p (.inl rfl) ho hc hd (fun h' c' kp e => fin its r' hz h' c' kp e) (by simp only [List.size_toArray] <;> omega)
  · obtain ⟨its, r', pl, hz⟩ := I.tuple hq
    have hlen := r'.length
    obtain ⟨o, ho, hc, n, hd⟩ := pl
    exact call_list_seq p (.inr rfl) ho hc hd (fun h' c' kp e => fin its r' hz h' c' kp e) (by simp only [List.size_toArray] <;> omega)
/-! ### the call of a builtin's method: o.m(..) -/
/-- the value is of that builtin type -/
def tyV (K : PySem.W.Frag) (T : String) (x : V) (H : Hp) : Prop := match x with
  | .str _ => T = "str"
  | .int _ => T = "int"
  | .ref p => (T = "list" ∧ ∃ xs, SqL K H p xs) ∨ (T = "tuple" ∧ ∃ o, K.lookup p = some o ∧ o.cls = .type "tuple" ∧ o.dict = none) ∨
      (T = "dict" ∧ ((∃ kvs, H p = some (.dK kvs)) ∨ ∃ kvs, H p = some (.dT kvs))) ∨ (T = "set" ∧ ∃ S n, H p = some (.set S n))
  | _ => False
theorem tyV_is {pins : List (Addr × Obj)} {σ : St} {H : Hp} {s : Shared} {T : String} {x : V} {v : Value} (I : Inv X pins σ H s) (r : RelV x v) (ty : tyV X.K T x H) :
    s.TypeIs v T ∧ ∀ a, v = .ref a → ∃ ob, s.heap.get? a = some ob ∧ ob.dict = none := by
  cases x with
  | str z =>
    obtain ⟨t, rfl⟩ := r
    cases (show T = "str" from ty)
    exact ⟨typeIs_str s z t, fun _ e => nomatch e⟩
  | int i =>
    obtain ⟨t, rfl⟩ := r
    cases (show T = "int" from ty)
    exact ⟨typeIs_int s i t, fun _ e => nomatch e⟩
  | ref p =>
    cases r
    rcases ty with ⟨rfl, xs, hq⟩ | ⟨rfl, o, hk, hc, hd⟩ | ⟨rfl, hk⟩ | ⟨rfl, S, n, hk⟩
    · obtain ⟨its, _, pl, _⟩ := I.list hq
      refine ⟨pl.isList.typeIs, fun a e => ?_⟩
      cases e
      obtain ⟨o, n, e, c, hd, _⟩ := pl
      exact ⟨o, e, hd⟩
    · refine ⟨⟨o, I.kIn p o hk, hc⟩, fun a e => ?_⟩
      cases e
      exact ⟨o, I.kIn _ o hk, hd⟩
    · have z : ∃ o, s.heap.get? p = some o ∧ o.ExactDict := by
        rcases hk with ⟨kvs, hk⟩ | ⟨kvs, hk⟩
        · obtain ⟨_, _, _, _, o, _, _, e, ex, _⟩ := I.hok p _ hk
          exact ⟨o, e, ex⟩
        · obtain ⟨_, _, _, _, o, _, _, e, ex, _⟩ := I.hok p _ hk
          exact ⟨o, e, ex⟩
      obtain ⟨o, e, ex⟩ := z
      refine ⟨⟨o, e, ex.1⟩, fun a e2 => ?_⟩
      cases e2
      exact ⟨o, e, ex.2.1⟩
    · obtain ⟨o, _, _, _, e, ex, _⟩ := I.hok p _ hk
      refine ⟨⟨o, e, ex.1⟩, fun a e2 => ?_⟩
      cases e2
      exact ⟨o, e, ex.2.1⟩
  | _ => exact False.elim ty
def tBM (K : PySem.W.Frag) (T : String) (r : V → List V → Hp → VK → Prop) (to : TE) (t : TA) : TE := fun σ H Q => to σ H fun x H1 => tyV K T x H1 ∧ t σ H1 fun xs H2 => r x xs H2 Q
variable {o e : Expr} {es : List Expr} {to : TE} {t : TA} {name : Str} {apos cpos : Pos} {T id : String} {r : V → List V → Hp → VK → Prop}
theorem pe_bm (pa : PlainAttrs T) (slot : Slot T name id) (hty : typeOf (.builtin id) = pure (.type "method_descriptor")) (hm : MtR X id r) (ho : PE X o to) (ha : PA X (e :: es) t)
    (hbase : attributeBase o name X.env (eval o X.env) = eval o X.env := by rfl)
    (hfew : ((backTo cpos (starEach (e :: es) X.env)).all (fun x => !x.1) && (backToKw cpos (keywordEach [] X.env)).all (fun x => x.1.isSome)
      && decide ((e :: es).length + ([] : List Keyword).length + (if ([] : List Keyword).isEmpty then 0 else 1) < 30)) = true := by rfl)
    (hline : (apos.endLine == cpos.line) = true := by rfl) (hs : starEach (e :: es) X.env = (false, eval e X.env) :: starEach es X.env := by rfl) (hplain : (backTo cpos (starEach es X.env)).any (·.1) = false := by rfl) :
    PE X (.Call (.Attribute o name apos) (e :: es) [] cpos) (tBM X.K T r to t) := by
  intro pins s σ H Q I h
  refine wpAny_Call_method_late hbase hfew hline rfl (thn (ho pins s σ H _ I h) fun v s1 ⟨x, H1, I1, r1, ty, q1⟩ => ?_)
  obtain ⟨h1, h2⟩ := tyV_is I1 r1 ty
  refine ⟨T, id, pa, slot, hty, h1, h2, ?_⟩
  have hA := ha cpos pins s1 σ H1 _ I1 q1
  rw [hs] at hA ⊢
  refine Calls.callWith_builtin (by show (false || (backTo cpos (starEach es X.env)).any (·.1)) = false; rw [hplain] <;> rfl) (Calls.evalArgs_plain ?_)
  exact thn hA fun us s2 ⟨vs, H2, I2, r2, q2⟩ => hm pins s2 σ H2 x vs v us Q I2 r1 r2 q2
/- xs.append(e), list.index on a module's tuple .. are MtR facts of 06m -/
end
end L2

namespace L2
open PySem PySem.Spec PyProof.Rows

def MtM (X : Cx) (id : String) (r : V → List V → Hp → VK → Prop) : Prop :=
  ∀ (pins : List (Addr × Obj)) (s : Shared) (σ : St) (H : Hp) (x : V) (xs : List V) (v : Value) (us : List Value) (Q : VK), Inv X pins σ H s → RelV x v → Vals xs us → r x xs H Q →
    wpAny (model X.prog X.w) X.A (call (.builtin id) (v :: us)) (EP X pins σ Q) X.xe s

/-! ### lists of values -/
theorem Vals.one : ∀ {x : V} {us : List Value}, Vals [x] us → ∃ u, us = [u] ∧ RelV x u
  | _, _, .cons r .nil => ⟨_, rfl, r⟩
theorem Vals.two : ∀ {x y : V} {us : List Value}, Vals [x, y] us → ∃ u v, us = [u, v] ∧ RelV x u ∧ RelV y v
  | _, _, _, .cons r (.cons q .nil) => ⟨_, _, rfl, r, q⟩
section
variable {X : Cx} {pins : List (Addr × Obj)} {σ : St} {H : Hp} {s : Shared} {l b : Addr} {xs ys zs : List V}

/-! ### the two steps: a tracked list is rewritten, a new list is laid -/
theorem Inv.lset {its its' : List Value} {n : Nat} {f : Array Value → Array Value} {t' : Nat} (I : Inv X pins σ H s) (hH : H l = some (.lst xs))
    (e : s.heap.get? l = some { cls := .type "list", data := .seq its.toArray n }) (hf : f its.toArray = its'.toArray) (hv : Vals ys its') (hz : ys.length ≤ sizeLine) :
    Inv X pins σ (upd H l (.lst ys)) { s with heap := s.heap.update l (Obj.mapSeq f), toks := t' } := by
  have q := PySem.IsL.update e f
  rw [hf] at q
  refine I.write (x := l) (e := l) (by rw [hH]; exact trivial) (.inl rfl) (fun b' u hb hu => (Heap.get?_update_other s.heap (Obj.mapSeq f) (Ne.symm hb)).trans hu) ⟨_, q⟩ ?_
  exact ⟨hz, its', _, hv, q⟩
theorem Inv.lnew {its : List Value} {t' : Nat} (I : Inv X pins σ H s) (hv : Vals ys its) (hz : ys.length ≤ sizeLine) :
    Inv X pins σ (upd H s.heap.objs.size (.lst ys)) { s with heap := s.heap.push { cls := .type "list", data := .seq its.toArray }, toks := t' } :=
  I.laid (fun _ _ q => Heap.get?_push_of_some _ q) (Nat.le_refl _) ⟨hz, its, 0, hv, Heap.get?_push_size _ rfl⟩
theorem Inv.fresh (I : Inv X pins σ H s) : H s.heap.objs.size = none := I.hok.fresh (Nat.le_refl _)
theorem Inv.lstM (I : Inv X pins σ H s) (hH : H l = some (.lst xs)) : xs.length ≤ sizeLine ∧ ∃ (its : List Value) (n : Nat), Vals xs its ∧ xs.length = its.length ∧ s.heap.get? l = some { cls := .type "list", data := .seq its.toArray n } := by
  obtain ⟨z, its, n, r, e⟩ := I.hok l _ hH
  exact ⟨z, its, n, r, r.length, e⟩

theorem notLongL {n : Nat} (h : n ≤ sizeLine) : Builtin.List.listTooLong n = false := by
  unfold Builtin.List.listTooLong
  exact decide_eq_false (by omega)
end

section
variable {X : Cx}

/-! ### methods -/
def rAppend : V → List V → Hp → VK → Prop := fun x vs H Q => ∃ l xs y, x = .ref l ∧ vs = [y] ∧ H l = some (.lst xs) ∧ xs.length < sizeLine ∧ Q .non (upd H l (.lst (xs ++ [y])))
theorem mt_append : MtM X "list.append" rAppend := by
  intro pins s σ H x vs v us Q I rx rv h
  obtain ⟨l, xs, y, rfl, rfl, hH, hz, q⟩ := h
  cases rx
  obtain ⟨u, rfl, ru⟩ := rv.one
  obtain ⟨z, its, n, r, hl, e⟩ := I.lstM hH
  refine call_meets F.slot_list_append ⟨_, e, rfl⟩ F.entry_list_append (F.args_list_append_2 _ _) (PySem.list_append l its.toArray n u (by rw [List.size_toArray]; omega)) ⟨e, ?_⟩
  refine ⟨.non, _, I.lset (its' := its ++ [u]) hH e (by simp) (r.append (.cons ru .nil)) ?_, rfl, q⟩
  rw [List.length_append, List.length_singleton]
  omega

def rExtend : V → List V → Hp → VK → Prop := fun x vs H Q => ∃ l b xs zs, x = .ref l ∧ vs = [.ref b] ∧ H l = some (.lst xs) ∧ H b = some (.lst zs) ∧ xs.length + zs.length ≤ sizeLine ∧ Q .non (upd H l (.lst (xs ++ zs)))
theorem mt_extend : MtM X "list.extend" rExtend := by
  intro pins s σ H x vs v us Q I rx rv h
  obtain ⟨l, b, xs, zs, rfl, rfl, hH, hB, hz, q⟩ := h
  cases rx
  obtain ⟨u, rfl, ru⟩ := rv.one
  cases ru
  obtain ⟨z, its, n, r, hl, e⟩ := I.lstM hH
  obtain ⟨z2, its2, n2, r2, hl2, e2⟩ := I.lstM hB
  have hsz : its.toArray.size + its2.toArray.size ≤ sizeLine := by rw [List.size_toArray, List.size_toArray]; omega
  have hlong : ¬ (!its.toArray.isEmpty && Builtin.List.listTooLong (its.toArray.size + its2.toArray.size)) = true := by
    rw [notLongL hsz, Bool.and_false]
    exact Bool.false_ne_true
  refine call_meets F.slot_list_extend ⟨_, e, rfl⟩ F.entry_list_extend (F.args_list_extend_2 _ _)
    (AutoSeq1.list_extend_list_list_0 l its.toArray n b its2.toArray n2 hlong (by rw [List.size_toArray]; omega) (by omega)) ⟨e, e2, ?_⟩
  refine ⟨.non, _, I.lset (its' := its ++ its2) hH e (by simp) (r.append r2) ?_, rfl, q⟩
  rw [List.length_append]
  omega

/-! ### list + list, list += list, list * int -/
def rCat : R2 := fun x y H Q => ∃ l b xs zs, x = .ref l ∧ y = .ref b ∧ H l = some (.lst xs) ∧ H b = some (.lst zs) ∧ xs.length + zs.length ≤ sizeLine ∧ ∀ p, H p = none → Q (.ref p) (upd H p (.lst (xs ++ zs)))
theorem op_cat : OpR X (binaryOp .Add) rCat := by
  intro pins s σ H x y v u Q I rx ry h
  obtain ⟨l, b, xs, zs, rfl, rfl, hH, hB, hz, q⟩ := h
  cases rx
  cases ry
  obtain ⟨z, its, n, r, hl, e⟩ := I.lstM hH
  obtain ⟨z2, its2, n2, r2, hl2, e2⟩ := I.lstM hB
  refine PySem.P.add_list e e2 ?_ (by rw [List.size_toArray, List.size_toArray]; omega)
  have ea : its.toArray ++ its2.toArray = (its ++ its2).toArray := by simp
  rw [ea]
  exact ⟨.ref _, _, I.lnew (t' := s.toks) (r.append r2) (by rw [List.length_append]; omega), rfl, q _ I.fresh⟩
/-! ### del xs[i] -/
end

/-! ### xs[a:b] = ys -/
section
variable {prog : Program} {w : World} {A : Around} {E : Value → Shared → Prop} {s : Shared}
end

section
variable {X : Cx}
end
end L2

namespace Att
open PySem PySem.W PySem.Calls PyProof.Rows

/-! ### the script -/
theorem ints_of_wellAll {P : Params} {h : Heap} : ∀ (ns : List Int) (vs : List Value), WellAll P h vs (ns.map WData.int) → IntsAre vs ns := by
  intro ns
  induction ns with
  | nil =>
    intro vs w
    rw [List.map_nil] at w
    cases w
    exact .nil
  | cons n ns ih =>
    intro vs w
    rw [List.map_cons] at w
    cases w with
    | cons a b =>
      cases a
      exact .cons _ _ (ih _ b)

theorem script_of {l : OpenLaw} {n : Nat} (hn : l.most = some n) {P : Params} {h : Heap} {args : List WData} {vals : List Value}
    (hpre : l.row.toRowW.claim.pre args = true) (hwl : WellAll P h vals args) :
    ∃ a vs ns, vals = [Value.ref a] ∧ args = [WData.list (ns.map WData.int)] ∧ h.get? a = some { cls := .type "list", data := .seq vs.toArray } ∧ IntsAre vs ns ∧ ns.length ≤ n := by
  have hsh : WShape.hasAll [] args [.list .int] = true := (pre_splitW hpre).1
  have hc : l.pre.holds [] { args := args } = true := (pre_splitW hpre).2
  obtain ⟨d, r, rfl, h1, h2⟩ := hasAllW_cons hsh
  obtain rfl := hasAllW_nil h2
  obtain ⟨xs, rfl, h3⟩ := hasW_list h1
  obtain ⟨ns, rfl⟩ := items_int h3
  have hlen : ns.length ≤ n := by
    unfold OpenLaw.pre at hc
    have h4 : (WTm.not (.lt (.lit (.int (n : Int))) (.len (.arg 0)))).holds [] { args := [.list (ns.map .int)] } = true := by
      have h4 := (holds_andW hc).1
      rw [hn] at h4
      exact h4
    have h5 := condW_of h4 (w_not (w_lt w_lit (w_len_list (w_arg rfl))))
    rw [List.length_map] at h5
    refine Nat.le_of_not_lt fun q => ?_
    have q' : (n : Int) < ((ns.length : Nat) : Int) := by omega
    first
      | (rw [decide_eq_true q'] at h5; exact absurd h5 (by decide))
      | (simp at h5; omega)
  cases hwl with
  | cons w1 w2 =>
    cases w2
    cases w1 with
    | list ho hall => exact ⟨_, _, ns, rfl, rfl, ho, ints_of_wellAll ns _ hall, hlen⟩

theorem post_true (l : OpenLaw) (args : List WData) : l.row.toRowW.claim.post args (.bool true) args = true :=
  postW_of (r := l.row.toRowW) (X := (true == true))
    (show WShape.has [] (.bool true) .bool = true by first | rfl | decide | simp [WShape.has, WShape.arms, WShape.armsAll])
    (show (WTm.eq .res (.lit (.bool true))).value [] { args := args, res := some (.bool true), after := args } = some (.bool (true == true)) from w_eq_bool (w_res rfl) w_lit) rfl

/-! ### the attachment: holds_open's last premise (the goal 'hc' behind k_head) from a wpAny of the law's body -/
/-- the same from a codeAny of the CALL (for a layer whose function contracts speak of calls) -/
theorem attach_call {l : OpenLaw} {n : Nat} {q : Program} {loose : List Str} {XP : (Str → Option Value) → Heap → Prop} {YP : World → Heap → Prop} {d : DefRec}
    (hn : l.most = some n) (hdf : d.params.defaults = [])
    (call : ∀ (w : World) (s₀ s₁ : Shared) (mg mb : Str → Option Value) (fa : Addr) (o : Obj) (pm cd doc : Value) (a : Addr) (vs : List Value) (ns : List Int),
      Ground q loose [] XP w s₀ mg mb s₁.heap → YP w s₁.heap →
      s₁.heap.get? fa = some o → o.data = .func (docDef d.name d.params d.body d.scope pm cd doc) → s₁.heap.CodeRec cd d.name → mg d.name = some (.ref fa) →
      s₁.heap.get? a = some { cls := .type "list", data := .seq vs.toArray } → IntsAre vs ns → ns.length ≤ n → s₁.gens = #[] →
      codeAny (model l.prog w) callerA (.call (.ref fa) ⟨[.ref a], []⟩) (fun r s' => r = .ok (.ret (.bool true)) ∧ OldK s₁.heap s'.heap ∧ s'.os = s₁.os ∧ AllBare s'.gens) s₁) :
    WalkO q loose XP YP l.row.toRowW d [] (fun f vs => PySem.call f vs) := by
  intro w s₀ s₁ mg mb G Y fa o pm cd doc dV kV ho hd hcd hD hmg hg args vals as hpre hlay hrd hwl hlo
  obtain rfl : dV = .none := Dflts.none hD hdf
  obtain rfl : kV = .none := Dflts.noKw hD
  obtain ⟨a, vs, ns, rfl, rfl, hobj, hints, hlen⟩ := script_of hn hpre hwl
  refine enter_call (codeAny_mono (call w s₀ s₁ mg mb fa o pm cd doc a vs ns G Y ho (fd_plain hd) hcd hmg hobj hints hlen hg) fun r s' hq => ?_)
  obtain ⟨rfl, h2, h3, h4⟩ := hq
  exact ⟨.inl ⟨.bool true, .bool true, [], rfl, fun _ => rfl, .bool true, post_true l _, fun _ => ⟨List.Pairwise.nil, fun _ hm => (nomatch hm)⟩⟩, h2, h3, h4⟩

/-! ### rules over ANY heap (no ledger) from facts about the written part K: the library's own take a ledger (News) for what they write -/
section
variable {prog : Program} {w : World} {A : Around} {E : Value → Shared → Prop} {s : Shared} {K : Frag}

/-! the whole heap as the ledger: makes every rule that writes through a ledger a rule over any heap -/
end
end Att

namespace L2
open PySem PySem.Spec PyProof.Rows

theorem vals_ints : ∀ {vs : List Value} {ns : List Int}, IntsAre vs ns → Vals (ns.map V.int) vs
  | _, _, .nil => .nil
  | _, _, .cons n t h => .cons ⟨t, rfl⟩ (vals_ints h)

/-- nothing is tracked but the script, known to the object (or it is an object of the module) -/
def Only (H : Hp) : Prop := ∀ b, H b = none ∨ ∃ o xs, H b = some (.frz o (.lst xs))

/-- THE HEAD: the law's promise, at the heap behind the top. F, the promise of the law's def, may use that base is part of the heap (so K.In base, base.Ns mainGlobals mg stand in Mod) -/
theorem law_call {P : Program} {w : World} {K : PySem.W.Frag} {mg mb : Str → Option Value} {CX : CXT} {k : Nat} {fa a : Addr} {fd : FuncData} {x : Str} {sp : Sp} {s₁ : Shared} {vs : List Value} {ns : List Int}
    (KX : K.In s₁.heap) (hns : s₁.heap.Ns mainGlobals mg) (hb : s₁.heap.Ns builtinsNs mb) (hbb : ∀ x : Str, x ≠ "__name__" → mb x = bootBuiltins x) (hlim : s₁.heap.NoLimit) (hg : s₁.gens = #[])
    (ha : s₁.heap.get? a = some { cls := .type "list", data := .seq vs.toArray }) (hi : IntsAre vs ns) (hl : ns.length ≤ sizeLine) (hr : Room k callerA)
    (F : ∀ base : Heap, K.In base → base.Ns mainGlobals mg → FnOk P w K mg base CX k fa fd [x] sp) (hbind : ∀ (s : Shared) (u : Value), BindsTo s fd ⟨[u], []⟩ [(x, u)])
    (hsp : ∀ H : Hp, Only H → SqL K H a (ns.map V.int) → sp [.ref a] H (fun v _ => v = .bl true) fun _ _ _ => False)
    (hCX : ∀ H e s', CX [] H s₁ (fun _ _ _ => False) e s' → False) :
    codeAny (model P w) callerA (.call (.ref fa) ⟨[.ref a], []⟩) (fun r s' => r = .ok (.ret (.bool true)) ∧ OldK s₁.heap s'.heap ∧ s'.os = s₁.os ∧ AllBare s'.gens) s₁ := by
  have rv := vals_ints hi
  have lenV := hi.length
  -- from an abstract heap in which nothing but the script may be tracked
  have core : ∀ H : Hp, Only H → SqL K H a (ns.map V.int) → HOk P w H s₁.heap → (∀ b, H b ≠ none → b = a) → (H a ≠ none → K.lookup a = none) →
      codeAny (model P w) callerA (.call (.ref fa) ⟨[.ref a], []⟩) (fun r s' => r = .ok (.ret (.bool true)) ∧ OldK s₁.heap s'.heap ∧ s'.os = s₁.os ∧ AllBare s'.gens) s₁ := by
    intro H hO hS hok hA hK
    have base_of : ∀ {b : Addr} {o : Obj}, s₁.heap.get? b = some o → H b = none → (hidT s₁.heap H).get? b = some o := fun e n => hidT_get e n
    have noA : ∀ {b : Addr} {o : Obj} {es : Array DictEntry} {ep : Nat}, s₁.heap.get? b = some o → o.data = .dict es ep → H b = none := fun {b o es ep} e d => by
      cases q : H b with
      | none => rfl
      | some u =>
        have e' : b = a := hA b (by rw [q]; simp)
        subst e'
        rw [ha] at e; cases e
        have d' : Data.seq vs.toArray _ = Data.dict es ep := d
        cases d'
    have nsK : ∀ {b : Addr} {m : Str → Option Value}, s₁.heap.Ns b m → (hidT s₁.heap H).Ns b m := fun {b m} ⟨o, es, ep, e, d, r⟩ => ⟨o, es, ep, base_of e (noA e d), d, r⟩
    have hKb : K.In (hidT s₁.heap H) := fun b o e => base_of (KX b o e) (by
      cases q : H b with
      | none => rfl
      | some u =>
        have e' : b = a := hA b (by rw [q]; simp)
        subst e'
        rw [hK (by rw [q]; simp)] at e; cases e)
    have hM : Mod K mg (hidT s₁.heap H) := ⟨hKb, nsK hns, ⟨mb, nsK hb, hbb⟩, let ⟨mc, h1, h2⟩ := hlim; ⟨mc, nsK h1, h2⟩⟩
    have e0 : Env0 P w K mg (hidT s₁.heap H) callerA [] s₁ H := ⟨rfl, hM, fun b o e => of_hidT e, Nat.le_of_eq (hidT_size _ _), trivial, fun b hb => absurd (show b ∈ ([] : List Addr) from hb) (by simp), hok, .of_eq hg⟩
    refine codeAny_mono ((F _ hKb (nsK hns)).run callerA [] s₁ H ⟨[.ref a], []⟩ [.ref a] [.ref a] _ _ hr e0 (hbind s₁ (.ref a)) (.cons rfl .nil) (hsp H hO hS)) fun r s' h => ?_
    cases r with
    | error e => exact (hCX H e s' h).elim
    | ok fl =>
      cases fl with
      | next => exact False.elim h
      | brk => exact False.elim h
      | cont => exact False.elim h
      | ret u =>
        obtain ⟨v, H', os, bare, un, hok', r', q⟩ := h
        have q' : v = .bl true := q
        subst q'
        obtain rfl : u = Value.bool true := r'
        refine ⟨rfl, OldK.of_keep fun b o e => ?_, os, bare⟩
        cases q : H b with
        | none => exact un.keep b o e q (by intro z; exact absurd (show b ∈ ([] : List Addr) from z) (by simp)) (by simp)
        | some u =>
          rcases hO b with z | ⟨ob, xs, z⟩
          · rw [q] at z; cases z
          · have z2 := un.frzs b ob _ z
            obtain ⟨e1, _⟩ := hok b _ z
            obtain ⟨e2, _⟩ := hok' b _ z2
            rw [e] at e1; cases e1
            exact e2
  cases hk : K.lookup a with
  | some o =>
    -- the script is one of the module's own objects
    have e := KX a o hk
    rw [ha] at e
    cases e
    refine core (fun _ => none) (fun _ => .inl rfl) (.inr ⟨_, vs.toArray, _, hk, rfl, rfl, rfl, by rw [List.size_toArray, lenV]; exact hl, by simpa using rv⟩) (fun b u z => by have z' : (none : Option HO) = some u := z; cases z') (fun b z => absurd rfl z) fun z => absurd rfl z
  | none =>
    refine core (fun b => if b = a then some (.frz { cls := .type "list", data := .seq vs.toArray } (.lst (ns.map V.int))) else none) (fun b => ?_) (.inl (.inr ⟨{ cls := .type "list", data := .seq vs.toArray }, if_pos rfl⟩)) (fun b u z => ?_) (fun b z => ?_) fun _ => hk
    · by_cases hb : b = a
      · exact .inr ⟨_, _, if_pos hb⟩
      · exact .inl (if_neg hb)
    · by_cases hb : b = a
      · have z' := (if_pos hb).symm.trans z
        cases z'
        subst hb
        exact ⟨ha, by rw [List.length_map]; exact hl, vs, _, rv, ha⟩
      · have z' := (if_neg hb).symm.trans z
        cases z'
    · by_cases hb : b = a
      · exact hb
      · exact absurd (if_neg hb) z
end L2

namespace L2
open PySem PySem.Spec PyProof.Rows

/-- the goal that k_head leaves (case hc), from the law's promise. F gives the function object fd (K's own) once, then the promise over every base -/
theorem walk_of {l : PySem.W.OpenLaw} {n k : Nat} {q : Program} {loose : List Str} {XP : (Str → Option Value) → Heap → Prop} {YP : World → Heap → Prop} {d : DefRec} {K : Params → PySem.W.Frag} {CX : World → CXT} {sp : World → Sp} {x : Str}
    (hn : l.most = some n) (hn2 : n ≤ sizeLine) (hdf : d.params.defaults = []) (hr : Room k callerA)
    (hY : ∀ (w : World) (h : Heap), YP w h → (K w.params).In h)
    (F : ∀ (w : World) (mg : Str → Option Value) (fa : Addr) (h : Heap), (K w.params).In h → h.Ns mainGlobals mg → mg d.name = some (.ref fa) →
      ∃ fd : FuncData, (∀ (s : Shared) (u : Value), BindsTo s fd ⟨[u], []⟩ [(x, u)]) ∧
        ∀ base : Heap, (K w.params).In base → base.Ns mainGlobals mg → FnOk l.prog w (K w.params) mg base (CX w) k fa fd [x] (sp w))
    (hsp : ∀ (w : World) (H : Hp) (a : Addr) (ns : List Int), ns.length ≤ n → Only H → SqL (K w.params) H a (ns.map V.int) → sp w [.ref a] H (fun v _ => v = .bl true) fun _ _ _ => False)
    (hCX : ∀ (w : World) (H : Hp) (s : Shared) (e : Value) (s' : Shared), CX w [] H s (fun _ _ _ => False) e s' → False) :
    PySem.W.WalkO q loose XP YP l.row.toRowW d [] (fun f vs => PySem.call f vs) := by
  refine Att.attach_call hn hdf fun w s₀ s₁ mg mb fa o pm cd doc a vs ns G Y ho hd hcd hmg hobj hints hlen hg => ?_
  have KX := hY w _ Y
  obtain ⟨fd, hb, hF⟩ := F w mg fa _ KX G.T.g hmg
  exact law_call KX G.T.g G.T.b G.T.builtins G.T.nolimit hg hobj hints (Nat.le_trans hlen hn2) hr hF hb (fun H hO hS => hsp w H a ns hlen hO hS) fun H e s' => hCX w H s₁ e s'
end L2

/- THE LAST THEOREM (shape; LID, My.* are yours):
   My.Adr: a structure of the addresses that your layer names (classes, functions); My.Txt K t: a structure (Prop) of the equations over K;
   My.txt_mk : {K} {implicit addresses ..} (e1 : nsIn K mainGlobals "law" = some (some (.ref f))) (e2 : K.lookup f = some ⟨oc, od, .func (fnOf "law" "law" params body scope dV kV doc pm an cdv ct), sl⟩) (e3 : codeIn K cdv "law" = true) .. : ∃ t, My.Txt K t

set_option maxRecDepth 100000 in
set_option maxHeartbeats 0 in
theorem PySem.Challenge.cw_LID_holds : PySem.Challenge.rw_LID.Holds := by
  w_on; o_law; k_head; (case hw => w_witness2)
  k_fill
  refine L2.walk_of (l := PySem.Challenge.rw_LID) (n := 63) (k := 40) (x := "script") (CX := fun w => ..) (sp := fun _ => My.sp_law) rfl (by decide) rfl ⟨rfl, by decide, by decide⟩ (fun w h Y => PySem.W.kIn_of Y) ?F ?S ?C
  case F =>
    intro w mg fa h KX G hmg
    have T : ∃ t, My.Txt (L2.KOf KX) t := by
      dsimp only [L2.KOf]                          -- K must stand as «<heap const> w.params» for k_is
      refine' My.txt_mk ?e1 ?e2 ?e3 ..
      (case e1 => PySem.W.k_is)                    -- in the order: a name -> its address -> its object -> its parts
      (case e2 => PySem.W.k_is)
      ..
    obtain ⟨t, T⟩ := T
    have e0 := hmg.symm.trans (PySem.W.mg_of KX G T.law)
    cases e0                                       -- fa is the law's own address
    exact ⟨_, fun s u => .of_eq rfl, fun base kb nb => My.law_fn T kb nb⟩     -- if «.of_eq rfl» comes too early: refine' ⟨_, ?b, fun base kb nb => My.law_fn T kb nb⟩; exact fun s u => .of_eq rfl
  case S => exact fun w H a ns hl hO hS => ..
  case C => exact ..
(the tactic k_is has no namespace: write k_is) -/

/-! SHORT WORDS over the layer: a def of the text, its body, what a loop and a test want. -/
namespace L2
open PySem PySem.Spec PyProof.Rows

/-! ### the text by places -/
/-- the j-th statement of a class's body -/
def inClass (s : Stmt) (j : Nat) : Stmt := match s with
  | .ClassDef _ _ _ body _ _ _ _ _ _ _ => body.getD j (.Pass ⟨0, 0, 0, 0⟩)
  | _ => .Pass ⟨0, 0, 0, 0⟩
def defArgs (s : Stmt) : Arguments := match s with
  | .FunctionDef _ a _ _ _ _ _ _ _ _ => a
  | _ => { posonlyargs := [], args := [], vararg := none, kwonlyargs := [], kw_defaults := [], kwarg := none, defaults := [] }
def defBody (s : Stmt) : List Stmt := match s with
  | .FunctionDef _ _ b _ _ _ _ _ _ _ => b
  | _ => []
def defScope (s : Stmt) : Scope := match s with
  | .FunctionDef _ _ _ _ _ _ sc _ _ _ => sc
  | _ => { kind := .function, names := [], isGenerator := false, isCoroutine := false }

/-! ### no exception leaves a def -/
abbrev CX0 : CXT := fun _ _ _ _ _ _ => False
abbrev E0 : XK := fun _ _ _ => False
theorem pass0 {X : Cx} : Passes CX0 X E0 := fun _ _ _ _ _ _ _ h => h.elim

/-! ### a def (or method) of the text as it stands behind the top -/
structure Fun (K : PySem.W.Frag) (x qual : Str) (st : Stmt) (f : Addr) (fd : FuncData) : Prop where
  ex : ∃ (oc : Value) (od : Option Addr) (kV doc pm : Value) (an : Option Addr) (cdv ct : Value) (osl : Array (Option Value)),
    fd = PySem.W.fnOf x qual (defArgs st) (defBody st) (defScope st) .none kV doc pm an cdv ct ∧ K.lookup f = some ⟨oc, od, .func fd, osl⟩ ∧ PySem.W.codeIn K cdv qual = true
  kp : PySem.W.keepIn K (.ref f) = true
section
variable {P : Program} {w : World} {K : PySem.W.Frag} {mg : Str → Option Value} {base : Heap}
/-- THE RULE for a def: its body as a term of rules, and the reading of that term -/
theorem Fun.ok {x qual : Str} {st : Stmt} {f : Addr} {fd : FuncData} {N ps : List Str} {k : Nat} {sp : Sp} {c : Bool} (F : Fun K x qual st f fd) (S : FnScope N ps (defScope st)) (len : ∀ vs H Q E, sp vs H Q E → vs.length = ps.length)
    (hbody : ∀ (cdv : Value) (A : Around) (outer : List Env) (s : Shared) (H : Hp) (vs : List V) (Q : VK) (E : XK), Room k (A.deeper (envOfC qual (defScope st) s.heap.objs.size f cdv)) c → sp vs H Q E →
      ∃ t, PSs (cxOf CX0 P w K mg base N qual (defScope st) f cdv A outer s H E c).nox (defBody st) t ∧ t { nx := fun _ H' => Q .non H', rt := Q } (start N vs) H) : FnOk P w K mg base CX0 (k + 1) f fd ps sp c := by
  obtain ⟨oc, od, kV, doc, pm, an, cdv, ct, osl, rfl, lk, hcd⟩ := F.ex
  refine fn_of lk hcd S len fun A outer s H vs Q E hr hsp => ?_
  obtain ⟨t, h, q⟩ := hbody cdv A outer s H vs Q E hr hsp
  exact ⟨t, h.nox, q⟩
/-- how its arguments bind (no defaults): h is «fun _ _ _ _ _ _ us hl => match us, hl with | [_, _], _ => rfl», one _ a parameter -/
theorem Fun.binds {x qual : Str} {st : Stmt} {f : Addr} {fd : FuncData} {ps : List Str} (F : Fun K x qual st f fd)
    (h : ∀ (kV doc pm : Value) (an : Option Addr) (cdv ct : Value) (us : List Value), us.length = ps.length → bindArgs (PySem.W.fnOf x qual (defArgs st) (defBody st) (defScope st) .none kV doc pm an cdv ct) ⟨us, []⟩ = pure (ps.zip us)) : Binds K fd ps [] := by
  obtain ⟨oc, od, kV, doc, pm, an, cdv, ct, osl, rfl, lk, hcd⟩ := F.ex
  exact .all (h kV doc pm an cdv ct)
theorem fun_mk {x qual : Str} {st : Stmt} {f : Addr} {oc : Value} {od an : Option Addr} {osl : Array (Option Value)} {kV doc pm cdv ct : Value} (l : K.lookup f = some ⟨oc, od, .func (PySem.W.fnOf x qual (defArgs st) (defBody st) (defScope st) .none kV doc pm an cdv ct), osl⟩)
    (c : PySem.W.codeIn K cdv qual = true) (k : PySem.W.keepIn K (.ref f) = true) : Fun K x qual st f (PySem.W.fnOf x qual (defArgs st) (defBody st) (defScope st) .none kV doc pm an cdv ct) := ⟨⟨oc, od, kV, doc, pm, an, cdv, ct, osl, rfl, l, c⟩, k⟩
end
theorem hu_of {A : Around} {k : Nat} {c : Bool} (hr : Room k A c) : A.units + 1 < cLine := Nat.lt_of_le_of_lt (Nat.add_le_add_left (by decide : 1 ≤ 64) _) hr.units
/-! ### expressions in short: the name that stands in the i-th slot -/
section
variable {X : Cx}
theorem pv (i : Nat) {x : Str} {pos : Pos} (hN : X.N[i]? = some x := by rfl) (hv : Vis X.env.scope x := by first | exact Or.inl rfl | exact Or.inr (Or.inl rfl) | exact Or.inr (Or.inr rfl)) (hd : (x == ("__debug__" : Str)) = false := by decide)
    (hcd : (x == ("__classdict__" : Str)) = false := by decide) : PE X (.Name x pos) (tVar i) := pe_var hN hv hd hcd
end

/-! ### tests -/
theorem iteF {A B : Prop} (h : B) : if false = true then A else B := by
  rw [if_neg Bool.false_ne_true]
  exact h
theorem iteT {A B : Prop} (h : A) : if true = true then A else B := by
  rw [if_pos rfl]
  exact h
theorem ite2 {c A B : Prop} [Decidable c] (h1 : c → A) (h2 : ¬ c → B) : if c then A else B := by
  by_cases h : c
  · rw [if_pos h]
    exact h1 h
  · rw [if_neg h]
    exact h2 h
/-! ### heaps -/
/-- all that was tracked is as it was -/
def Same (H H' : Hp) : Prop := ∀ b o, H b = some o → H' b = some o
theorem Same.trans {H H1 H2 : Hp} (a : Same H H1) (b : Same H1 H2) : Same H H2 := fun c o h => b c o (a c o h)
theorem Same.free {H H' : Hp} (e : Same H H') {l : Addr} (h : H' l = Option.none) : H l = Option.none := by
  cases q : H l with
  | none => rfl
  | some o =>
    rw [e l o q] at h
    cases h
end L2
namespace L2
open PySem PySem.Spec PyProof.Rows

/-! ### no exception -/
abbrev NoX : Value → Shared → Prop := fun _ _ => False
theorem noX {α : Type} {M : Model} {A : Around} {t : Sem α} {Q : α → Shared → Prop} {E : Value → Shared → Prop} {s : Shared} (h : wpAny M A t Q NoX s) : wpAny M A t Q E s := wpAny_mono h (fun _ _ q => q) fun _ _ z => z.elim

/-! ### a comprehension's turns -/
abbrev tstSem (ifs : List Expr) (env : Env) : Sem Bool := forIn ifs true fun c r => if r = true then do let ok ← isTrue c env (eval c env); pure (ForInStep.yield ok) else pure (ForInStep.yield r)
section
variable {prog : Program} {w : World} {A : Around} {R : Result → Shared → Prop} {s : Shared}
theorem comp_loop {elt tg iter : Expr} {ifs : List Expr} {sc : Scope} {pos : Pos} {it acc : Value} {env : Env} (I : Nat → Shared → Prop)
    (turn : ∀ n s, I n s → wpAny (model prog w) A (pyNext it) (fun r s1 => match r with
      | none => R (.ok .next) s1
      | some v => wpAny (model prog w) A (letOwnedTupleGo tg it v) (fun _ s2 => wpAny (model prog w) A (assign tg env v) (fun _ s3 => wpAny (model prog w) A (tstSem ifs env) (fun ok s4 =>
          if ok = true then wpAny (model prog w) A (eval elt env) (fun x s5 => wpAny (model prog w) A (call (.builtin "list.append") [acc, x]) (fun _ s6 => ∃ m, m < n ∧ I m s6) NoX s5) NoX s4
          else ∃ m, m < n ∧ I m s4) NoX s3) NoX s2) NoX s1) NoX s)
    (n : Nat) (h : I n s) : codeAny (model prog w) A (.compLoop (.ListComp elt [⟨tg, iter, ifs, 0⟩] sc pos) 0 it acc env) R s := by
  refine codeAny_loop rfl I (fun n s hI => ?_) n h
  show wpAny _ A ((compTurn (.ListComp elt [⟨tg, iter, ifs, 0⟩] sc pos) 0 it acc env).onRaise (fun x => do noteFrame x env; theTreesLotGoes x)) _ _ s
  refine wpAny_noted ?_
  rw [compTurn_list]
  refine wpAny_bind (wpAny_standAt (wpAny_bind (noX (thn (turn n s hI) fun r s1 h1 => ?_))))
  cases r with
  | none => exact wpAny_pure h1
  | some v =>
    refine wpAny_bind (noX (thn h1 fun _ s2 h2 => wpAny_bind (noX (thn h2 fun _ s3 h3 => wpAny_bind (noX (thn h3 fun ok s4 h4 => ?_))))))
    cases ok with
    | false => exact wpAny_pure ⟨rfl, h4⟩
    | true => exact wpAny_bind (wpAny_bind (noX (thn h4 fun x s5 h5 => wpAny_bind (noX (thn h5 fun _ s6 h6 => wpAny_pure (wpAny_pure ⟨rfl, h6⟩))))))
end

/-! ### the cells of the names that a block takes from around it -/
theorem closure_go {env : Env} : ∀ (l : List (Str × NameKind)) (acc : List (Str × Addr)), (∀ y ∈ l, y.2 = .free → ∃ c, env.cells.lookup y.1 = some c) → (∀ y c, acc.lookup y = some c → env.cells.lookup y = some c) →
    ∃ cl, (forIn l acc fun x r => if (x.2 == NameKind.free) = true then (do let c ← cellOf env x.1; pure (ForInStep.yield ((x.1, c) :: r))) else pure (ForInStep.yield r)) = (pure cl : Sem (List (Str × Addr))) ∧
      (∀ y c, cl.lookup y = some c → env.cells.lookup y = some c) ∧ (∀ y ∈ l, y.2 = .free → ∃ c, cl.lookup y.1 = some c) ∧ (∀ y c, acc.lookup y = some c → ∃ c', cl.lookup y = some c')
  | [], acc, _, h2 => ⟨acc, rfl, h2, (fun _ z => nomatch z), (fun _ c e => ⟨c, e⟩)⟩
  | (n, k) :: r, acc, h1, h2 => by
    rw [List.forIn_cons]
    by_cases hk : k = .free
    · subst hk
      obtain ⟨c, hc⟩ := h1 (n, .free) List.mem_cons_self rfl
      have e : cellOf env n = pure c := by
        have hc' : env.cells.lookup n = some c := hc
        unfold cellOf
        rw [hc']
      obtain ⟨cl, q1, q2, q3, q4⟩ := closure_go r ((n, c) :: acc) (fun y hy => h1 y (List.mem_cons_of_mem _ hy)) (fun y c' e' => by
        rw [List.lookup_cons] at e'
        by_cases hy : (y == n) = true
        · rw [hy] at e'
          have hn : y = n := eq_of_beq hy
          subst hn
          cases e'
          exact hc
        · rw [Bool.not_eq_true] at hy
          rw [hy] at e'
          exact h2 y c' e')
      refine ⟨cl, ?_, q2, fun y hy hf => ?_, fun y c' e' => ?_⟩
      · simp only [beq_self_eq_true, if_true, e, pure_bind]
        exact q1
      · rcases List.mem_cons.mp hy with rfl | hy
        · exact q4 n c (by simp)
        · exact q3 y hy hf
      · by_cases hy : (y == n) = true
        · have hn : y = n := eq_of_beq hy
          subst hn
          exact q4 y c (by simp)
        · rw [Bool.not_eq_true] at hy
          exact q4 y c' (by rw [List.lookup_cons, hy]; exact e')
    · have hb : (k == NameKind.free) = false := by simpa using hk
      obtain ⟨cl, q1, q2, q3, q4⟩ := closure_go r acc (fun y hy => h1 y (List.mem_cons_of_mem _ hy)) h2
      refine ⟨cl, ?_, q2, fun y hy hf => ?_, q4⟩
      · simp only [hb, Bool.false_eq_true, if_false, pure_bind]
        exact q1
      · rcases List.mem_cons.mp hy with rfl | hy
        · exact absurd hf hk
        · exact q3 y hy hf
theorem closure_ok {env : Env} {sc : Scope} (h : ∀ y ∈ sc.names, y.2 = .free → ∃ c, env.cells.lookup y.1 = some c) :
    ∃ cl, closureFor sc env = pure cl ∧ (∀ y c, cl.lookup y = some c → env.cells.lookup y = some c) ∧ ∀ y ∈ sc.names, y.2 = .free → ∃ c, cl.lookup y.1 = some c := by
  obtain ⟨cl, q1, q2, q3, _⟩ := closure_go sc.names [] h (fun _ _ z => nomatch z)
  refine ⟨cl, ?_, q2, q3⟩
  unfold closureFor
  rw [bind_pure]
  exact q1
theorem relabel_look {env : Env} {y : Str} {k : NameKind} {sc : Scope} (h : (relabel sc env).names.lookup y = some k) : ∃ k0, sc.names.lookup y = some k0 ∧ (k = k0 ∨ (k0 = .free ∧ k = .cell)) := by
  have go : ∀ l : List (Str × NameKind), (l.map fun (n, k) => if (k == .free && env.scope.kind == .function && env.kindOf n == some .cell) then (n, NameKind.cell) else (n, k)).lookup y = some k → ∃ k0, l.lookup y = some k0 ∧ (k = k0 ∨ (k0 = .free ∧ k = .cell)) := by
    intro l
    induction l with
    | nil => intro z; cases z
    | cons a r ih =>
      obtain ⟨n, k1⟩ := a
      intro z
      rw [List.map_cons] at z
      by_cases hc : (k1 == NameKind.free && env.scope.kind == .function && env.kindOf n == some .cell) = true
      · have hf : k1 = .free := by
          rw [Bool.and_eq_true, Bool.and_eq_true] at hc
          simpa using hc.1.1
        simp only [hc, if_true] at z
        rw [List.lookup_cons] at z ⊢
        by_cases hy : (y == n) = true
        · rw [hy] at z ⊢
          cases z
          exact ⟨k1, rfl, .inr ⟨hf, rfl⟩⟩
        · rw [Bool.not_eq_true] at hy
          rw [hy] at z ⊢
          exact ih z
      · simp only [hc, Bool.false_eq_true, if_false] at z
        rw [List.lookup_cons] at z ⊢
        by_cases hy : (y == n) = true
        · rw [hy] at z ⊢
          cases z
          exact ⟨_, rfl, .inl rfl⟩
        · rw [Bool.not_eq_true] at hy
          rw [hy] at z ⊢
          exact ih z
  exact go sc.names h
theorem relabel_free {env : Env} {y : Str} {sc : Scope} (h : sc.names.lookup y = some .free) : (relabel sc env).names.lookup y = some .cell ∨ (relabel sc env).names.lookup y = some .free := by
  have go : ∀ l : List (Str × NameKind), l.lookup y = some .free → (l.map fun (n, k) => if (k == .free && env.scope.kind == .function && env.kindOf n == some .cell) then (n, NameKind.cell) else (n, k)).lookup y = some .cell ∨
      (l.map fun (n, k) => if (k == .free && env.scope.kind == .function && env.kindOf n == some .cell) then (n, NameKind.cell) else (n, k)).lookup y = some .free := by
    intro l
    induction l with
    | nil => intro z; cases z
    | cons a r ih =>
      obtain ⟨n, k1⟩ := a
      intro z
      rw [List.lookup_cons] at z
      rw [List.map_cons]
      by_cases hy : (y == n) = true
      · rw [hy] at z
        cases z
        by_cases hc : (NameKind.free == NameKind.free && env.scope.kind == .function && env.kindOf n == some .cell) = true
        · simp only [hc, if_true]
          exact .inl (by rw [List.lookup_cons, hy])
        · simp only [hc, Bool.false_eq_true, if_false]
          exact .inr (by rw [List.lookup_cons, hy])
      · rw [Bool.not_eq_true] at hy
        rw [hy] at z
        by_cases hc : (k1 == NameKind.free && env.scope.kind == .function && env.kindOf n == some .cell) = true
        · simp only [hc, if_true]
          rw [List.lookup_cons, hy]
          exact ih z
        · simp only [hc, Bool.false_eq_true, if_false]
          rw [List.lookup_cons, hy]
          exact ih z
  exact go sc.names h

/-! ### the block's context -/
abbrev cxComp (X : Cx) (N : List Str) (sc : Scope) (cl : List (Str × Addr)) (C : Addr) (s : Shared) (H : Hp) (ex : List Addr) (pn : List (Addr × Obj)) : Cx :=
  { prog := X.prog, w := X.w, K := X.K, mg := X.mg, base := X.base, A := X.A, N := N, s₀ := s, H₀ := H, env := compEnvC sc cl C X.env, outer := X.stack, stack := X.stack, ex := ex, fn := fun _ => false, calm := X.calm, pn := pn, xe := fun _ _ => False }
/-- a block's tests -/
def PTs (X : Cx) (ifs : List Expr) (t : TT) : Prop :=
  ∀ (pins : List (Addr × Obj)) (s : Shared) (σ : St) (H : Hp) (Q : Bool → Hp → Prop), Inv X pins σ H s → t σ H Q → wpAny (model X.prog X.w) X.A (tstSem ifs X.env) (TP X pins σ Q) X.xe s
def tTrue : TT := fun _ H Q => Q true H
theorem ttT {σ : St} {H : Hp} {A B : Hp → Prop} (h : A H) : tTrue σ H (fun b H4 => if b = true then A H4 else B H4) := by
  show if true = true then A H else B H
  rw [if_pos rfl]
  exact h
theorem pts_nil {X : Cx} : PTs X [] tTrue := fun _ _ _ H _ I h => wpAny_tests_nil ⟨H, I, h⟩
/-- what the block sees of the names around it -/
def capV (σ : St) (caps : List Nat) : St := caps.map fun i => (σ[i]?).getD none
def CompW (J : It) (p : Addr) (tt : TT) (te : TE) (cs : St) (Q : VK) (H1 : Hp) : Prop := ∃ W : Nat → Nat → List V → Hp → Prop, (∃ m, W 0 m [] (upd H1 p (.lst []))) ∧ ∀ i m ys H2, W i m ys H2 →
  (J.stop i H2 ∧ Q (.ref p) H2) ∨ (J.go i H2 ∧ ∃ N : List V → Hp → Prop, (∀ ys' H', N ys' H' → ∃ m', m' < m ∧ W (i + 1) m' ys' H') ∧
    ∀ v H3, J.yld i H2 v H3 → tt (some v :: cs) H3 fun b H4 => if b = true then te (some v :: cs) H4 fun y H5 => H5 p = some (.lst ys) ∧ ys.length < sizeLine ∧ N (ys ++ [y]) (upd H5 p (.lst (ys ++ [y]))) else N ys H4)
/-- .. with what must hold of the heap at each turn and at the end -/
def CompWG (Gs : Hp → Prop) (J : It) (p : Addr) (tt : TT) (te : TE) (cs : St) (Q : VK) (H1 : Hp) : Prop := ∃ W : Nat → Nat → List V → Hp → Prop, (∃ m, W 0 m [] (upd H1 p (.lst []))) ∧ ∀ i m ys H2, W i m ys H2 →
  (J.stop i H2 ∧ Gs H2 ∧ Q (.ref p) H2) ∨ (J.go i H2 ∧ Gs H2 ∧ ∃ N : List V → Hp → Prop, (∀ ys' H', N ys' H' → ∃ m', m' < m ∧ W (i + 1) m' ys' H') ∧
    ∀ v H3, J.yld i H2 v H3 → tt (some v :: cs) H3 fun b H4 => if b = true then te (some v :: cs) H4 fun y H5 => H5 p = some (.lst ys) ∧ ys.length < sizeLine ∧ N (ys ++ [y]) (upd H5 p (.lst (ys ++ [y]))) else N ys H4)
def tCompC (CW : It → Addr → St → VK → Hp → Prop) (wi : TI) (caps : List Nat) : TE := fun σ H Q => wi σ H fun J H1 => ∀ p, H1 p = none → CW J p (capV σ caps) Q H1
def tComp (wi : TI) (tt : TT) (te : TE) (caps : List Nat) : TE := fun σ H Q => wi σ H fun J H1 => ∀ p, H1 p = none → CompW J p tt te (capV σ caps) Q H1

theorem comp_go {X : Cx} {use : Option (Value → Sem Unit)} {Post : Value → Shared → Prop} {pins : List (Addr × Obj)} {s : Shared} {σ : St} {H : Hp} {Q : VK} {Gs : Hp → Prop} {hb : Bool} {CW : It → Addr → St → VK → Hp → Prop} {elt iter : Expr} {ifs : List Expr} {x : Str} {px pos : Pos} {sc : Scope} {wi : TI} {tt : TT} {te : TE} (caps : List Nat) (capsN : List Str)
    (hi : PI X (.Name x px) iter wi hb)
    (ht : ∀ cl C s H ex pn, PTs (cxComp X (x :: capsN) sc cl C s H ex pn) ifs tt)
    (he : ∀ cl C s H ex pn, PE (cxComp X (x :: capsN) sc cl C s H ex pn) elt te)
    (hkind : sc.kind = .function) (hcell : ∀ y ∈ sc.names, y.2 ≠ .cell) (hnames : ∀ y ∈ sc.names, y.2 = .local → sc.names.lookup y.1 = some .local) (hx : sc.names.lookup x = some .local)
    (hfr : ∀ y ∈ sc.names, y.2 = .free → y.1 ∈ capsN)
    (hcap : ∀ (j : Nat) (y : Str), capsN[j]? = some y → ∃ i : Nat, caps[j]? = some i ∧ X.N[i]? = some y ∧ sc.names.lookup y = some .free ∧ (X.env.kindOf y = some .cell ∨ X.env.kindOf y = some .free)) (hlen : caps.length = capsN.length)
    (hnd : (x :: capsN).Nodup) (hc : X.calm = true ∨ (hb = true ∧ ∀ s H, HOk X.prog X.w H s.heap → Gs H → HandQ X s)) (kW : ∀ J p cs Q H1, CW J p cs Q H1 → CompWG Gs J p tt te cs Q H1)
    (hs : ∀ x, foldedSetIterable iter X.env x = pure x) (I : Inv X pins σ H s) (h : tCompC CW wi caps σ H Q)
    (fin : ∀ (C p : Addr) (H5 : Hp) (s5 : Shared), (∃ m, s5.heap.Ns C m) → Inv X pins σ H5 s5 → FpOk X pins H5 C → Q (.ref p) H5 → compPost (model X.prog X.w) X.A X.xe use Post (.ref p) C (.ok .next) s5) :
    wpAny (model X.prog X.w) X.A (comprehension (.ListComp elt [⟨.Name x px, iter, ifs, 0⟩] sc pos) sc X.env (firstIterPos [⟨.Name x px, iter, ifs, 0⟩] pos) (newList []) (firstAsync [⟨.Name x px, iter, ifs, 0⟩]) (firstIter [⟨.Name x px, iter, ifs, 0⟩] X.env) use) Post X.xe s := by
  have hEnd : ∀ s H, HOk X.prog X.w H s.heap → Gs H → EndQ hb X s := by
    rcases hc with hc | ⟨e, k⟩
    · exact fun _ _ _ _ => .inl (I.ok.hd hc)
    · exact fun s H o g => .inr ⟨e, k s H o g⟩
  obtain ⟨cl, hclos, hq2, hq3⟩ := closure_ok (env := X.env) (sc := sc) (fun y hy hf => by
    obtain ⟨j, hj⟩ := List.mem_iff_getElem?.mp (hfr y hy hf)
    obtain ⟨_, _, _, _, k⟩ := hcap j y.1 hj
    exact I.ok.has y.1 k)
  refine wpAny_comprehension_free (use := use) rfl hs hclos hkind hnames (thn (hi pins s σ H _ I h) fun v s1 h1 => thn h1 fun itv s2 h2 => ?_)
  obtain ⟨it, fp, tn, J, H2, e, I2, T, st2, f2, q⟩ := h2
  subst e
  refine wpAny_newObj_type (wpAny_newFunctionEnv hcell (by intro y hy; simp at hy) (fun h1 hns hsb => ?_) hkind)
  dsimp only at hns hsb ⊢
  obtain ⟨W, ⟨m0, w0⟩, turn⟩ := kW _ _ _ _ _ (q s2.heap.objs.size (I2.hok.fresh (Nat.le_refl _)))
  have I3 : Inv X pins σ (upd H2 s2.heap.objs.size (.lst [])) { s2 with heap := s2.heap.push { cls := .type "list", dict := none, data := .seq ([] : List Value).toArray }, toks := s2.toks } := I2.lnew (its := []) (ys := []) (t' := s2.toks) .nil (Nat.zero_le _)
  generalize hH3 : s2.heap.push { cls := .type "list", dict := none, data := .seq ([] : List Value).toArray } = g3 at hns hsb I3 ⊢
  have hsz3 : g3.objs.size = s2.heap.objs.size + 1 := by rw [← hH3, Heap.size_push]
  generalize hHp : upd H2 s2.heap.objs.size (.lst []) = Hp3 at w0 I3
  have hlt : ∀ b o, g3.get? b = some o → b ≠ g3.objs.size := fun b o e => Nat.ne_of_lt (Heap.lt_size e)
  have old : ∀ b o, g3.get? b = some o → h1.get? b = some o := fun b o e => hsb.extBut b o (hlt b o e) (Heap.get?_push_of_some _ e)
  have fpo : ∀ b ∈ fp, ∃ o, g3.get? b = some o := fun b hb => by
    obtain ⟨o, e, _⟩ := T.obj 0 s2.heap st2 b hb
    exact ⟨o, by rw [← hH3]; exact Heap.get?_push_of_some _ e⟩
  have fpC : ∀ b ∈ fp, b ≠ g3.objs.size := fun b hb => by obtain ⟨o, e⟩ := fpo b hb; exact hlt b o e
  have fpH : ∀ b ∈ fp, Hp3 b = none := fun b hb => by
    obtain ⟨o, e, _⟩ := T.obj 0 s2.heap st2 b hb
    rw [← hHp, upd_ne (Nat.ne_of_lt (Heap.lt_size e))]
    exact (f2 b hb).1
  have fsSub : ∀ b, b ≠ X.env.locals → b ∉ X.fs → b ∉ frs X.stack := fun b h1 h2 z => by
    rcases List.mem_cons.mp (I2.stkSub b z) with z | z
    · exact h1 z
    · exact h2 z
  -- the block's context
  have okc : (cxComp X (x :: capsN) sc cl g3.objs.size { s2 with heap := g3, toks := s2.toks } Hp3 fp (X.pn ++ pins)).Ok := by
    refine ⟨I3.ok.mod, hkind, I3.ok.glob, I3.ok.blt, Nat.le_refl _, fun y z c e1 e2 => I3.ok.inj y z c (hq2 y c e1) (hq2 z c e2), fun y hy => ?_, fun y c z => absurd z Bool.false_ne_true, I3.ok.hd, I3.ok.frames, .inl rfl, fun b hb => ⟨fpC b hb, fun y c e => (f2 b hb).2.2.2.2.1 y c (hq2 y c e)⟩,
      I3.bs, Nat.le_trans I3.ok.bsz I3.sz, fun b o e hb => ?_, fun b hb => fsSub b (f2 b hb).2.1 (f2 b hb).2.2.1, I3.stack, I3.stkFree⟩
    · have hy' : ∃ k, (relabel sc X.env).names.lookup y = some k ∧ (k = .cell ∨ k = .free) := by
        rcases hy with hy | hy
        · exact ⟨_, hy, .inl rfl⟩
        · exact ⟨_, hy, .inr rfl⟩
      obtain ⟨k, e, hk⟩ := hy'
      obtain ⟨k0, e0, hk0⟩ := relabel_look e
      have em := PySem.mem_of_lookup e0
      rcases hk0 with rfl | ⟨rfl, _⟩
      · rcases hk with rfl | rfl
        · exact absurd rfl (hcell _ em)
        · exact hq3 _ em rfl
      · exact hq3 _ em rfl
    · rcases (f2 b hb).2.2.2.1 with z | z
      · exact I3.ok.noex b o e z
      · have h1 : b < X.base.objs.size := Heap.lt_size e
        have h2 := I3.ok.bsz
        exact absurd (Nat.lt_of_lt_of_le h1 (Nat.le_trans h2 z)) (Nat.lt_irrefl _)
  have Ic : Inv (cxComp X (x :: capsN) sc cl g3.objs.size { s2 with heap := g3, toks := s2.toks } Hp3 fp (X.pn ++ pins)) [] (none :: capV σ caps) Hp3 { s2 with heap := h1, toks := s2.toks + ([] : List (Str × Value)).length } := by
    refine ⟨okc, rfl, I3.bare, Un.kept old, ⟨_, hns, fun i y v e1 e2 e3 => ?_⟩, fun y c e => ?_, I3.hok.fresh (Nat.le_refl _), fun y c e => I3.freeC y c (hq2 y c e), fun p hp => ?_, I3.hok.kept old, ?_⟩
    · cases i with
      | zero => cases e2
      | succ j =>
        have e1' : capsN[j]? = some y := e1
        obtain ⟨i, c1, c2, c3, c4⟩ := hcap j y e1'
        have e2' : (capV σ caps)[j]? = some (some v) := e2
        have hv : σ[i]? = some (some v) := by
          unfold capV at e2'
          rw [List.getElem?_map, c1] at e2'
          have e4 : (σ[i]?).getD none = some v := Option.some.inj e2'
          cases e5 : σ[i]? with
          | none => rw [e5] at e4; cases e4
          | some w => rw [e5] at e4; exact congrArg some e4
        obtain ⟨m, _, hl⟩ := I3.loc
        have vis : Vis X.env.scope y := by
          rcases c4 with z | z
          · exact .inr (.inl z)
          · exact .inr (.inr z)
        obtain ⟨u, r, l⟩ := hl i y v c2 hv vis
        refine ⟨u, r, .inr ⟨relabel_free c3, ?_⟩⟩
        rcases l with ⟨lk, _⟩ | ⟨_, c, ec, o, ho, hd⟩
        · rcases c4 with z | z <;> (rw [lk] at z; cases z)
        · obtain ⟨c', e'⟩ := hq3 _ (PySem.mem_of_lookup c3) rfl
          have e'' := hq2 _ _ e'
          have e3' : (some c' : Option Addr) = some c := e''.symm.trans ec
          cases e3'
          exact ⟨c, e', o, old _ _ ho, hd⟩
    · obtain ⟨v, o, ho, hd⟩ := I3.cell y c (hq2 y c e)
      exact ⟨v, o, old _ _ ho, hd⟩
    · have hp' : p ∈ X.pn ++ pins := by simpa using hp
      obtain ⟨e1, e2, e3, e4, e5⟩ := I3.pin p hp'
      exact ⟨old _ _ e1, e2, hlt _ _ e1, fsSub _ e3 e4, e5⟩
    · show (capV σ caps).length + 1 = capsN.length + 1
      unfold capV
      rw [List.length_map, hlen]
  have stat : ∀ {H' : Hp}, (∀ b ∈ fp, H' b = none) → ∀ b ∈ fp, FpOk (cxComp X (x :: capsN) sc cl g3.objs.size { s2 with heap := g3, toks := s2.toks } Hp3 fp (X.pn ++ pins)) [] H' b := fun hn b hb =>
    ⟨hn b hb, fpC b hb, fsSub b (f2 b hb).2.1 (f2 b hb).2.2.1, .inl hb, fun y c e => (f2 b hb).2.2.2.2.1 y c (hq2 y c e), fun p hp => (f2 b hb).2.2.2.2.2 p (by simpa using hp)⟩
  -- behind the block
  have back : ∀ {pins5 : List (Addr × Obj)} {σ5 : St} {H5 : Hp} {s5 : Shared} {h' : Heap}, Inv (cxComp X (x :: capsN) sc cl g3.objs.size { s2 with heap := g3, toks := s2.toks } Hp3 fp (X.pn ++ pins)) pins5 σ5 H5 s5 → Heap.SameBut g3.objs.size s5.heap h' → Inv X pins σ H5 { s5 with heap := h' } := by
    intro pins5 σ5 H5 s5 h' I5 sb
    have un : Un (frs X.stack) fp Hp3 H5 g3 s5.heap := I5.base
    have fr : H5 g3.objs.size = none := I5.free
    have un' : Un (frs X.stack) fp Hp3 H5 g3 h' := ⟨fun b o e n hb hx => (sb.2 b (hlt b o e)).trans (un.keep b o e n hb hx),
      fun b o e n hb hx => by obtain ⟨sl, z⟩ := un.slot b o e n hb hx; exact ⟨sl, (sb.2 b (hlt b o e)).trans z⟩, un.free,
      fun b o e hx => by obtain ⟨o', z⟩ := un.there b o e hx; exact ⟨o', (sb.2 b (hlt b o e)).trans z⟩, un.tups, un.frzs, un.tbls⟩
    have hok : HOk X.prog X.w H5 h' := fun b u e => (I5.hok b u e).stay (fun c v hc' z => (sb.2 c (by
      rintro rfl
      rcases hc' with hc' | hc'
      · rw [hc', e] at fr; cases fr
      · rw [fr] at hc'; cases hc')).trans z) (fun _ z => z) (fun _ _ z => z)
    obtain ⟨hh, g, d, t, os⟩ := s5
    have eo : os = s2.os := I5.os
    subst eo
    have z := I3.call (h' := h') (g' := g) (d' := d) (t' := t) (ch := fp) un' hok I5.bare fun b hb => ⟨(f2 b hb).2.2.2.1, (f2 b hb).2.1, (f2 b hb).2.2.2.2.1, (f2 b hb).2.2.2.2.2⟩
    exact z
  have st4 : tn 0 h1 := T.keep 0 s2.heap h1 st2 fun b hb o e => old b o (by rw [← hH3]; exact Heap.get?_push_of_some _ e)
  have loop : codeAny (model X.prog X.w) X.A (.compLoop (.ListComp elt [⟨.Name x px, iter, ifs, 0⟩] sc pos) 0 (.ref it) (.ref s2.heap.objs.size) (compEnvC sc cl g3.objs.size X.env))
      (compPost (model X.prog X.w) X.A X.xe use Post (.ref s2.heap.objs.size) g3.objs.size) { s2 with heap := h1, toks := s2.toks + ([] : List (Str × Value)).length } := by
    refine comp_loop (fun n s' => ∃ i ys v0 H', Inv (cxComp X (x :: capsN) sc cl g3.objs.size { s2 with heap := g3, toks := s2.toks } Hp3 fp (X.pn ++ pins)) [] (v0 :: capV σ caps) H' s' ∧ tn i s'.heap ∧ (∀ b ∈ fp, H' b = none) ∧ W i n ys H') ?_ m0 ⟨0, [], none, Hp3, Ic, st4, fpH, w0⟩
    rintro n s' ⟨i, ys, v0, H', I', st', fr', w'⟩
    rcases turn i n ys H' w' with ⟨stop, gs, qn⟩ | ⟨go, gs, N, hN, step⟩
    · refine thn (T.done (cxComp X (x :: capsN) sc cl g3.objs.size { s2 with heap := g3, toks := s2.toks } Hp3 fp (X.pn ++ pins)) rfl rfl rfl s' (hEnd s' H' I'.hok gs) i [] _ H' NoX I' (stat fr') st' stop) fun r s5 ⟨hr, I5⟩ => ?_
      subst hr
      obtain ⟨m, hn, _⟩ := id I5.loc
      exact fin g3.objs.size s2.heap.objs.size H' s5 ⟨m, hn⟩ (back (h' := s5.heap) I5 ⟨rfl, fun _ _ => rfl⟩) (I3.fpOk (Nat.le_refl _) I5.free) qn
    · refine thn (T.item (cxComp X (x :: capsN) sc cl g3.objs.size { s2 with heap := g3, toks := s2.toks } Hp3 fp (X.pn ++ pins)) rfl rfl rfl s' (hEnd s' H' I'.hok gs) i [] _ H' NoX I' (stat fr') st' go) fun r s5 ⟨u, hr, h5⟩ => ?_
      subst hr
      refine thn h5 fun _ s6 ⟨v, H6, I6, r6, y6, st6, fr6⟩ => ?_
      have I6' := I6.pinned (stat fr6) (T.obj _ _ st6)
      have again : ∀ {σ7 : St} {H7 : Hp} {s7 : Shared} {ys' : List V}, σ7 = some v :: capV σ caps → Inv (cxComp X (x :: capsN) sc cl g3.objs.size { s2 with heap := g3, toks := s2.toks } Hp3 fp (X.pn ++ pins)) ([] ++ pinsAt fp s6.heap) σ7 H7 s7 → N ys' H7 →
          ∃ m, m < n ∧ ∃ i ys v0 H', Inv (cxComp X (x :: capsN) sc cl g3.objs.size { s2 with heap := g3, toks := s2.toks } Hp3 fp (X.pn ++ pins)) [] (v0 :: capV σ caps) H' s7 ∧ tn i s7.heap ∧ (∀ b ∈ fp, H' b = none) ∧ W i m ys H' := by
        intro σ7 H7 s7 ys' eσ I7 n7
        subst eσ
        obtain ⟨m', hm, w7⟩ := hN ys' H7 n7
        refine ⟨m', hm, i + 1, ys', some v, H7, I7.unpinned, T.keep _ _ _ st6 fun b hb o e => (I7.pin (b, o) (List.mem_append_right _ (List.mem_append_right _ (mem_pinsAt hb e)))).1, fun b hb => ?_, w7⟩
        obtain ⟨o, e, d⟩ := T.obj _ _ st6 b hb
        exact (I7.pin (b, o) (List.mem_append_right _ (List.mem_append_right _ (mem_pinsAt hb e)))).2.1
      refine thn (pg_name (X := cxComp X (x :: capsN) sc cl g3.objs.size { s2 with heap := g3, toks := s2.toks } Hp3 fp (X.pn ++ pins)) (i := 0) hnd rfl (Or.inl (lookup_relabel_local hx)) (.inr (lookup_relabel_local hx)) _ s6 _ H6 v u
        (fun σ' H' => σ' = some v :: capV σ caps ∧ H' = H6) I6' r6 ⟨rfl, rfl⟩) fun _ s7 ⟨σ7, H7, I7, e7, e7'⟩ => ?_
      subst e7 e7'
      refine thn (ht _ _ _ _ _ _ _ s7 _ H7 _ I7 (step v H7 y6)) fun ok s8 ⟨H8, I8, q8⟩ => ?_
      cases ok with
      | false => exact again rfl I8 q8
      | true =>
        refine thn (he _ _ _ _ _ _ _ s8 _ H8 _ I8 q8) fun y s9 ⟨yv, H9, I9, r9, hp9, hz9, n9⟩ => ?_
        refine thn (mt_append (X := cxComp X (x :: capsN) sc cl g3.objs.size { s2 with heap := g3, toks := s2.toks } Hp3 fp (X.pn ++ pins)) _ s9 _ H9 (.ref s2.heap.objs.size) [yv] (.ref s2.heap.objs.size) [y] (fun _ H' => H' = upd H9 s2.heap.objs.size (.lst (ys ++ [yv]))) I9 rfl (.cons r9 .nil)
          ⟨s2.heap.objs.size, ys, yv, rfl, rfl, hp9, hz9, rfl⟩) fun _ s10 ⟨_, H10, I10, _, e10⟩ => ?_
        subst e10
        exact again rfl I10 n9
  exact codeAny_compStart_list loop (T.self X.A 0 _ _ _ st4 loop)

theorem pe_compG {X : Cx} {Gs : Hp → Prop} {hb : Bool} {CW : It → Addr → St → VK → Hp → Prop} {elt iter : Expr} {ifs : List Expr} {x : Str} {px pos : Pos} {sc : Scope} {wi : TI} {tt : TT} {te : TE} (caps : List Nat) (capsN : List Str)
    (hi : PI X (.Name x px) iter wi hb)
    (ht : ∀ cl C s H ex pn, PTs (cxComp X (x :: capsN) sc cl C s H ex pn) ifs tt)
    (he : ∀ cl C s H ex pn, PE (cxComp X (x :: capsN) sc cl C s H ex pn) elt te)
    (hkind : sc.kind = .function) (hcell : ∀ y ∈ sc.names, y.2 ≠ .cell) (hnames : ∀ y ∈ sc.names, y.2 = .local → sc.names.lookup y.1 = some .local) (hx : sc.names.lookup x = some .local)
    (hfr : ∀ y ∈ sc.names, y.2 = .free → y.1 ∈ capsN)
    (hcap : ∀ (j : Nat) (y : Str), capsN[j]? = some y → ∃ i : Nat, caps[j]? = some i ∧ X.N[i]? = some y ∧ sc.names.lookup y = some .free ∧ (X.env.kindOf y = some .cell ∨ X.env.kindOf y = some .free)) (hlen : caps.length = capsN.length)
    (hnd : (x :: capsN).Nodup) (hc : X.calm = true ∨ (hb = true ∧ ∀ s H, HOk X.prog X.w H s.heap → Gs H → HandQ X s)) (kW : ∀ J p cs Q H1, CW J p cs Q H1 → CompWG Gs J p tt te cs Q H1)
    (hs : ∀ x, foldedSetIterable iter X.env x = pure x := by intro _; rfl) :
    PE X (.ListComp elt [⟨.Name x px, iter, ifs, 0⟩] sc pos) (tCompC CW wi caps) := by
  intro pins s σ H Q I h
  rw [eval_ListComp]
  exact comp_go (use := none) caps capsN hi ht he hkind hcell hnames hx hfr hcap hlen hnd hc kW hs I h fun C p H5 s5 ⟨m, hn⟩ I5 f q => ⟨m, hn, fun h' sb => ⟨.ref p, H5, I5.turned (t' := s5.toks) (fun b o hb e => (sb.2 b hb).trans e) f.1 f.2.1 f.2.2.2.1 f.2.2.2.2.1 f.2.2.2.2.2, rfl, q⟩⟩
theorem CompW.g {J : It} {p : Addr} {tt : TT} {te : TE} {cs : St} {Q : VK} {H1 : Hp} (h : CompW J p tt te cs Q H1) : CompWG (fun _ => True) J p tt te cs Q H1 := by
  obtain ⟨W, h0, h1⟩ := h
  refine ⟨W, h0, fun i m ys H2 w => ?_⟩
  rcases h1 i m ys H2 w with ⟨a, b⟩ | ⟨a, b⟩
  · exact .inl ⟨a, trivial, b⟩
  · exact .inr ⟨a, trivial, b⟩
theorem pe_comp {X : Cx} {elt iter : Expr} {ifs : List Expr} {x : Str} {px pos : Pos} {sc : Scope} {wi : TI} {tt : TT} {te : TE} (caps : List Nat) (capsN : List Str)
    (hi : PI X (.Name x px) iter wi)
    (ht : ∀ cl C s H ex pn, PTs (cxComp X (x :: capsN) sc cl C s H ex pn) ifs tt)
    (he : ∀ cl C s H ex pn, PE (cxComp X (x :: capsN) sc cl C s H ex pn) elt te)
    (hkind : sc.kind = .function) (hcell : ∀ y ∈ sc.names, y.2 ≠ .cell) (hnames : ∀ y ∈ sc.names, y.2 = .local → sc.names.lookup y.1 = some .local) (hx : sc.names.lookup x = some .local)
    (hfr : ∀ y ∈ sc.names, y.2 = .free → y.1 ∈ capsN)
    (hcap : ∀ (j : Nat) (y : Str), capsN[j]? = some y → ∃ i : Nat, caps[j]? = some i ∧ X.N[i]? = some y ∧ sc.names.lookup y = some .free ∧ (X.env.kindOf y = some .cell ∨ X.env.kindOf y = some .free)) (hlen : caps.length = capsN.length)
    (hnd : (x :: capsN).Nodup) (hc : X.calm = true)
    (hs : ∀ x, foldedSetIterable iter X.env x = pure x := by intro _; rfl) :
    PE X (.ListComp elt [⟨.Name x px, iter, ifs, 0⟩] sc pos) (tComp wi tt te caps) :=
  pe_compG (Gs := fun _ => True) (hb := false) (CW := fun J p cs Q H1 => CompW J p tt te cs Q H1) caps capsN hi ht he hkind hcell hnames hx hfr hcap hlen hnd (.inl hc) (fun _ _ _ _ _ h => h.g) hs

/-- a block over n items, by its word: turn, what is made so far, heap -/
theorem comp_by {J : It} {p : Addr} {tt : TT} {te : TE} {cs : St} {Q : VK} {H1 : Hp} (n : Nat) (Pv : Nat → List V → Hp → Prop) (h0 : Pv 0 [] (upd H1 p (.lst [])))
    (hs : ∀ i ys H, i < n → Pv i ys H → J.go i H ∧ ∀ v H3, J.yld i H v H3 → tt (some v :: cs) H3 fun b H4 => if b = true then te (some v :: cs) H4 fun y H5 => H5 p = some (.lst ys) ∧ ys.length < sizeLine ∧ Pv (i + 1) (ys ++ [y]) (upd H5 p (.lst (ys ++ [y]))) else Pv (i + 1) ys H4)
    (hd : ∀ ys H, Pv n ys H → J.stop n H ∧ Q (.ref p) H) : CompW J p tt te cs Q H1 := by
  refine ⟨fun i m ys H => m = n - i ∧ i ≤ n ∧ Pv i ys H, ⟨n, by simp, Nat.zero_le _, h0⟩, ?_⟩
  rintro i m ys H ⟨rfl, hi, pv⟩
  by_cases hlt : i < n
  · obtain ⟨g, st⟩ := hs i ys H hlt pv
    exact .inr ⟨g, Pv (i + 1), fun ys' H' p' => ⟨n - (i + 1), by omega, rfl, hlt, p'⟩, st⟩
  · have e : i = n := by omega
    subst e
    exact .inl (hd ys H pv)

/-! ### over a text's signs -/
/-! ### isinstance -/
section
variable {X : Cx}
theorem call_isinst : CallR X (.builtin "isinstance") (fun vs H Q => ∃ x T t b, vs = [x, .ty T] ∧ TyOf X.K H x t ∧ PySem.W.kitOne X.K t (.type T) = some b ∧ Q (.bl b) H) := by
  intro pins s σ H xs us Q I r h
  obtain ⟨x, T, t, b, rfl, ty, e, q⟩ := h
  obtain ⟨u, v, rfl, rx, rv⟩ := r.two
  cases (show v = Value.type T from rv)
  exact isinst_ok I rx ty e fun tk => ⟨.bl b, H, I.tok tk, rfl, q⟩

/-! ### texts -/
def rSlS : V → Option Int → Option Int → Hp → VK → Prop := fun x lo hi H Q => ∃ z, x = .str z ∧ z.length ≤ sizeLine ∧ Q (.str (Txt.slice z lo hi)) H
theorem sl_str : SlR X rSlS := by
  intro pins s σ H x v vl vu lo hi sl Q I rx hs pl pu h
  obtain ⟨z, rfl, hz, q⟩ := h
  obtain ⟨t, rfl⟩ := rx
  refine ⟨"str", _, PySem.F.slot_str_getitem.lookup, typeIs_str _ _ _, ?_⟩
  obtain ⟨o, ho, hc, hd⟩ := hs
  have fin : ∀ {l u : Option Int}, (∀ t' k, EP X pins σ Q (.str (Txt.slice z l u) t') { s with toks := k }) → ∀ t' k, EP X pins σ Q (.str (Txt.slice z l u) t') { s with toks := k } := fun h => h
  cases pl with
  | none =>
    cases pu with
    | none => exact wpAny_getItem_str_slice (l := none) (u := none) (st := none) ⟨o, ho, hc, hd⟩ rfl (post_val_or_str ⟨Nat.le_trans (Txt.slice_le z _ _) hz, fun t' k => ⟨.str _, H, I.tok k, ⟨_, rfl⟩, q⟩⟩)
    | int j uj => exact wpAny_getItem_str_slice (l := none) (u := some (j, uj)) (st := none) ⟨o, ho, hc, hd⟩ rfl (post_val_or_str ⟨Nat.le_trans (Txt.slice_le z _ _) hz, fun t' k => ⟨.str _, H, I.tok k, ⟨_, rfl⟩, q⟩⟩)
  | int i ui =>
    cases pu with
    | none => exact wpAny_getItem_str_slice (l := some (i, ui)) (u := none) (st := none) ⟨o, ho, hc, hd⟩ rfl (post_val_or_str ⟨Nat.le_trans (Txt.slice_le z _ _) hz, fun t' k => ⟨.str _, H, I.tok k, ⟨_, rfl⟩, q⟩⟩)
    | int j uj => exact wpAny_getItem_str_slice (l := some (i, ui)) (u := some (j, uj)) (st := none) ⟨o, ho, hc, hd⟩ rfl (post_val_or_str ⟨Nat.le_trans (Txt.slice_le z _ _) hz, fun t' k => ⟨.str _, H, I.tok k, ⟨_, rfl⟩, q⟩⟩)

/-! ### lists compared, flat items -/
def eqVs : List V → List V → Bool
  | [], [] => true
  | x :: xs, y :: ys => eqV x y && eqVs xs ys
  | _, _ => false
theorem eqVs_len : ∀ {xs ys : List V}, xs.length ≠ ys.length → eqVs xs ys = false
  | [], [], h => absurd rfl h
  | [], _ :: _, _ => rfl
  | _ :: _, [], _ => rfl
  | x :: xs, y :: ys, h => by
    have h' : xs.length ≠ ys.length := fun e => h (by rw [List.length_cons, List.length_cons, e])
    show (eqV x y && eqVs xs ys) = false
    rw [eqVs_len h', Bool.and_false]
def eqAtN (xs ys : List V) (j : Nat) : Bool := match xs[j]?, ys[j]? with
  | some a, some b => eqV a b
  | _, _ => false
theorem all_eqAtN : ∀ {xs ys : List V}, xs.length = ys.length → (List.range xs.length).all (eqAtN xs ys) = eqVs xs ys
  | [], [], _ => rfl
  | [], _ :: _, h => by simp at h
  | _ :: _, [], h => by simp at h
  | x :: xs, y :: ys, h => by
    have h' : xs.length = ys.length := by simpa using h
    rw [List.length_cons, List.range_succ_eq_map, List.all_cons, List.all_map]
    have e : ((eqAtN (x :: xs) (y :: ys)) ∘ Nat.succ) = eqAtN xs ys := by
      funext j
      simp [eqAtN]
    rw [e, all_eqAtN h']
    rfl
theorem items_eqAt {A : Around} {s : Shared} {xs ys : List V} {us vs : List Value} (r : Vals xs us) (q : Vals ys vs) (fx : xs.all flatV = true) (fy : ys.all flatV = true) (j : Nat) (h1 : j < us.toArray.size) (h2 : j < vs.toArray.size) :
    SeqAt.EqAt A s us.toArray[j] vs.toArray[j] (eqAtN xs ys j) := by
  have l1 := r.length
  have l2 := q.length
  have h1' : j < xs.length := by rw [l1]; simpa using h1
  have h2' : j < ys.length := by rw [l2]; simpa using h2
  obtain ⟨u, eu, ru⟩ := r.get (i := j) (x := xs[j]) (by simp [h1'])
  obtain ⟨v, ev, rv⟩ := q.get (i := j) (x := ys[j]) (by simp [h2'])
  have e1 : us.toArray[j] = u := by
    obtain ⟨_, e⟩ := List.getElem?_eq_some_iff.mp eu
    simpa using e
  have e2 : vs.toArray[j] = v := by
    obtain ⟨_, e⟩ := List.getElem?_eq_some_iff.mp ev
    simpa using e
  have e3 : eqAtN xs ys j = eqV xs[j] ys[j] := by simp [eqAtN, h1', h2']
  rw [e1, e2, e3]
  exact eqAt_V ru rv (List.all_eq_true.mp fx _ (List.getElem_mem h1')) (List.all_eq_true.mp fy _ (List.getElem_mem h2'))
def rEqL (K : PySem.W.Frag) (neg : Bool) : R2 := fun x y H Q => ∃ a b xs ys, x = .ref a ∧ y = .ref b ∧ SqL K H a xs ∧ SqL K H b ys ∧ xs.all flatV = true ∧ ys.all flatV = true ∧ Q (.bl (if neg then !eqVs xs ys else eqVs xs ys)) H
theorem op_eqL (hu : X.A.units < cLine) : OpR X (compareOp .Eq) (rEqL X.K false) := by
  intro pins s σ H x y v u Q I rx ry h
  obtain ⟨a, b, xs, ys, rfl, rfl, ha, hb, fx, fy, q⟩ := h
  cases rx
  cases ry
  obtain ⟨its, r1, p1, _⟩ := I.list ha
  obtain ⟨its2, r2, p2, _⟩ := I.list hb
  have l1 := r1.length
  have l2 := r2.length
  by_cases hl : xs.length = ys.length
  · refine SeqAt.eq_listAt (e := eqAtN xs ys) p1.isList p2.isList (by simp; omega) hu (fun j h1 h2 => items_eqAt r1 r2 fx fy j h1 h2) ⟨.bl _, H, I, rfl, ?_⟩
    rw [List.size_toArray, ← l1, all_eqAtN hl]
    exact q
  · refine SeqAt.eq_list_lengthsAt p1.isList p2.isList (by simp; omega) hu ⟨.bl false, H, I, rfl, ?_⟩
    have e := eqVs_len hl
    simp only [e] at q
    exact q
theorem op_neL (hu : X.A.units < cLine) : OpR X (compareOp .NotEq) (rEqL X.K true) := by
  intro pins s σ H x y v u Q I rx ry h
  obtain ⟨a, b, xs, ys, rfl, rfl, ha, hb, fx, fy, q⟩ := h
  cases rx
  cases ry
  obtain ⟨its, r1, p1, _⟩ := I.list ha
  obtain ⟨its2, r2, p2, _⟩ := I.list hb
  have l1 := r1.length
  have l2 := r2.length
  by_cases hl : xs.length = ys.length
  · refine SeqAt.RcNeAt.lists (e := eqAtN xs ys) p1.isList p2.isList (by simp; omega) hu (fun j h1 h2 => items_eqAt r1 r2 fx fy j h1 h2) _ _ _ _ ⟨.bl _, H, I, rfl, ?_⟩
    rw [List.size_toArray, ← l1, all_eqAtN hl]
    exact q
  · refine SeqAt.RcNeAt.lists_lengths p1.isList p2.isList (by simp; omega) hu _ _ _ _ ⟨.bl true, H, I, rfl, ?_⟩
    have e := eqVs_len hl
    simp only [e] at q
    exact q

/-! ### sum of a list of ints -/
/-! ### // by any written positive number -/
theorem op_fdivB : OpR X (binaryOp .FloorDiv) (rI (fun _ j => 0 < j ∧ j.natAbs.log2 < 9000) fun i j => .int (i / j)) := opI fun i j _ _ _ _ _ hc q => by
  have h1 : (0 : Int) < j := hc.1
  exact floordiv_int (by omega) (by rw [Int.fdiv_eq_ediv_of_nonneg i (by omega)]; exact q) (.inl (PyProof.noPylong_of_log2 hc.2))
/-! ### tuples put together: whichever is empty -/
end
end L2
namespace L2
open PySem PySem.Spec PyProof.Rows
/-! ### lists of pairs as tables -/
section
variable {κ : Type} [DecidableEq κ]
def valV (kvs : List (κ × V)) (k : κ) : Option V := (kvs.find? fun kv => decide (kv.1 = k)).map (·.2)
/-- in its place, or at the end -/
def putK (kvs : List (κ × V)) (k : κ) (v : V) : List (κ × V) :=
  if (kvs.any fun kv => decide (kv.1 = k)) = true then kvs.map (fun kv => if kv.1 = k then (kv.1, v) else kv) else kvs ++ [(k, v)]
def dropK (kvs : List (κ × V)) (k : κ) : List (κ × V) := kvs.filter fun kv => decide (kv.1 ≠ k)

theorem valV_pos {p : κ × V} {r : List (κ × V)} {k : κ} (e : p.1 = k) : valV (p :: r) k = some p.2 := by simp [valV, List.find?_cons, e]
theorem valV_neg {p : κ × V} {r : List (κ × V)} {k : κ} (e : ¬ p.1 = k) : valV (p :: r) k = valV r k := by simp [valV, List.find?_cons, e]
theorem valV_any (k : κ) : ∀ kvs : List (κ × V), (kvs.any fun kv => decide (kv.1 = k)) = (valV kvs k).isSome
  | [] => rfl
  | p :: r => by
    rw [List.any_cons]
    by_cases e : p.1 = k
    · simp only [valV_pos e, decide_eq_true e, Bool.true_or, Option.isSome_some]
    · rw [valV_neg e, decide_eq_false e, Bool.false_or]; exact valV_any k r
theorem valV_map (k j : κ) (y : V) : ∀ kvs : List (κ × V), valV (kvs.map fun kv => if kv.1 = k then (kv.1, y) else kv) j = (valV kvs j).map fun x => if j = k then y else x
  | [] => rfl
  | p :: r => by
    have ih := valV_map k j y r
    rw [List.map_cons]
    by_cases h : p.1 = k
    · rw [if_pos h]
      by_cases e : p.1 = j
      · rw [valV_pos (p := (p.1, y)) e, valV_pos e, Option.map_some, if_pos (e.symm.trans h)]
      · rw [valV_neg (p := (p.1, y)) e, valV_neg e, ih]
    · rw [if_neg h]
      by_cases e : p.1 = j
      · rw [valV_pos (p := p) e, valV_pos e, Option.map_some, if_neg (fun z => h (e.trans z))]
      · rw [valV_neg (p := p) e, valV_neg e, ih]
theorem valV_snoc (k j : κ) (y : V) : ∀ kvs : List (κ × V), valV kvs k = none → valV (kvs ++ [(k, y)]) j = if j = k then some y else valV kvs j
  | [], _ => by
    by_cases e : k = j
    · rw [if_pos e.symm]; exact valV_pos (p := (k, y)) e
    · rw [if_neg (fun z => e z.symm)]; exact valV_neg (p := (k, y)) e
  | p :: r, hn => by
    rw [List.cons_append]
    have hk : ¬ p.1 = k := fun z => by rw [valV_pos z] at hn; cases hn
    rw [valV_neg hk] at hn
    have ih := valV_snoc k j y r hn
    by_cases e : p.1 = j
    · rw [valV_pos e, valV_pos e, if_neg (fun z => hk (e.trans z))]
    · rw [valV_neg e, valV_neg e, ih]
theorem valV_put (kvs : List (κ × V)) (k j : κ) (y : V) : valV (putK kvs k y) j = if j = k then some y else valV kvs j := by
  unfold putK
  by_cases a : (kvs.any fun kv => decide (kv.1 = k)) = true
  · rw [if_pos a, valV_map]
    rw [valV_any] at a
    by_cases e : j = k
    · obtain ⟨x, hx⟩ := Option.isSome_iff_exists.mp a
      rw [if_pos e, e, hx, Option.map_some, if_pos rfl]
    · rw [if_neg e]
      cases valV kvs j with
      | none => rfl
      | some x => rw [Option.map_some, if_neg e]
  · rw [if_neg a]
    refine valV_snoc k j y kvs ?_
    rw [valV_any] at a
    cases q : valV kvs k with
    | none => rfl
    | some x => rw [q] at a; exact (a rfl).elim
theorem length_putK (kvs : List (κ × V)) (k : κ) (v : V) : (putK kvs k v).length ≤ kvs.length + 1 := by
  unfold putK
  split
  · rw [List.length_map]; omega
  · rw [List.length_append, List.length_cons, List.length_nil]; omega
theorem RelO.isSome_eq {o : Option V} {u : Option Value} (r : RelO o u) : o.isSome = u.isSome := by
  cases o with
  | none => cases u with
    | none => rfl
    | some _ => exact (show False from r).elim
  | some _ => cases u with
    | none => exact (show False from r).elim
    | some _ => rfl
/-- raw tables of the same keys -/
theorem KV.val {kvs : List (κ × V)} {vs : List (κ × Value)} (r : KV kvs vs) (k : κ) : RelO (valV kvs k) (valueAt vs k) := by
  unfold KV at r
  induction r with
  | nil => exact True.intro
  | @cons p q ps qs h t ih =>
    obtain ⟨h1, h2⟩ := h
    by_cases e : p.1 = k
    · have e' : q.1 = k := h1.symm.trans e
      have b : valueAt (q :: qs) k = some q.2 := by simp [valueAt, List.find?_cons, e']
      rw [valV_pos e, b]; exact h2
    · have e' : ¬ q.1 = k := fun z => e (h1.trans z)
      have b : valueAt (q :: qs) k = valueAt qs k := by simp [valueAt, List.find?_cons, e']
      rw [valV_neg e, b]; exact ih
theorem KV.any {kvs : List (κ × V)} {vs : List (κ × Value)} (r : KV kvs vs) (k : κ) : (kvs.any fun kv => decide (kv.1 = k)) = vs.any fun kv => decide (kv.1 = k) := by
  unfold KV at r
  induction r with
  | nil => rfl
  | cons h t ih => rw [List.any_cons, List.any_cons, ih, h.1]
theorem KV.repl {kvs : List (κ × V)} {vs : List (κ × Value)} (r : KV kvs vs) (k : κ) {y : V} {u : Value} (ry : RelV y u) :
    KV (kvs.map fun kv => if kv.1 = k then (kv.1, y) else kv) (vs.map fun kv => if kv.1 = k then (kv.1, u) else kv) := by
  unfold KV at r ⊢
  induction r with
  | nil => exact .nil
  | @cons p q ps qs h t ih =>
    rw [List.map_cons, List.map_cons]
    refine .cons ?_ ih
    obtain ⟨h1, h2⟩ := h
    by_cases e : p.1 = k
    · rw [if_pos e, if_pos (h1.symm.trans e)]; exact ⟨h1, ry⟩
    · rw [if_neg e, if_neg (fun z => e (h1.trans z))]; exact ⟨h1, h2⟩
theorem KV.put {kvs : List (κ × V)} {vs : List (κ × Value)} (r : KV kvs vs) (k : κ) {y : V} {u : Value} (ry : RelV y u) : KV (putK kvs k y) (stored vs k u) := by
  unfold putK stored
  rw [r.any k]
  by_cases e : (vs.any fun kv => decide (kv.1 = k)) = true
  · rw [if_pos e, if_pos e]; exact r.repl k ry
  · rw [if_neg e, if_neg e]; exact Paired.snoc r ⟨rfl, ry⟩
theorem KV.drop {kvs : List (κ × V)} {vs : List (κ × Value)} (r : KV kvs vs) (k : κ) : KV (dropK kvs k) (without vs k) := by
  unfold KV at r ⊢
  unfold dropK without
  induction r with
  | nil => exact .nil
  | @cons p q ps qs h t ih =>
    obtain ⟨h1, h2⟩ := h
    rw [List.filter_cons, List.filter_cons]
    by_cases e : p.1 = k
    · have a : ¬ decide (p.1 ≠ k) = true := by simp [e]
      have b : ¬ decide (q.1 ≠ k) = true := by simp [h1.symm.trans e]
      rw [if_neg a, if_neg b]; exact ih
    · have e' : ¬ q.1 = k := fun z => e (h1.trans z)
      have a : decide (p.1 ≠ k) = true := by simp [e]
      have b : decide (q.1 ≠ k) = true := by simp [e']
      rw [if_pos a, if_pos b]; exact .cons ⟨h1, h2⟩ ih
theorem KV.length {kvs : List (κ × V)} {vs : List (κ × Value)} (r : KV kvs vs) : kvs.length = vs.length := Paired.length r
theorem dropK_le (kvs : List (κ × V)) (k : κ) : (dropK kvs k).length ≤ kvs.length := List.length_filter_le _ _
end


/-! ### a tracked dict, its keys ints and texts or tuples of these -/
theorem kV_is {P : Program} {w : World} {k : Key} {u : Value} (r : RelV (kV k) u) : (mixKind P w).is k u = true := by
  cases k with
  | inl i => obtain ⟨t, e⟩ := (show ∃ t, u = Value.int i t from r); subst e; exact mixKind_int P w i t
  | inr x => obtain ⟨t, e⟩ := (show ∃ t, u = Value.str x t from r); subst e; exact mixKind_str P w x t
theorem items_are {P : Program} {w : World} : ∀ {ks : List Key} {us : List Value}, Vals (ks.map kV) us → ItemsAre (mixKind P w) ks us
  | [], _, r => by rw [List.map_nil] at r; cases r; exact .nil
  | k :: ks, _, r => by
    rw [List.map_cons] at r
    cases r with
    | cons h t => exact .cons (kV_is h) (items_are t)

/-- raw entries of a dict with tuple keys -/
abbrev KT (H : Hp) : List (List Key × V) → List (List Key × Addr × Value) → Prop := Paired fun p q => p.1 = q.1 ∧ H q.2.1 = some (.tup (p.1.map kV)) ∧ RelV p.2 q.2.2
theorem KT.val {H : Hp} {kvs : List (List Key × V)} {xs : List (List Key × Addr × Value)} (r : KT H kvs xs) (k : List Key) : RelO (valV kvs k) ((atKey xs k).map (·.2)) := by
  induction r with
  | nil => exact True.intro
  | @cons p q ps qs h t ih =>
    obtain ⟨h1, _, h2⟩ := h
    by_cases e : p.1 = k
    · have e' : q.1 = k := h1.symm.trans e
      have b : atKey (q :: qs) k = some q.2 := by simp [atKey, List.find?_cons, e']
      rw [valV_pos e, b]; exact h2
    · have e' : ¬ q.1 = k := fun z => e (h1.trans z)
      have b : atKey (q :: qs) k = atKey qs k := by simp [atKey, List.find?_cons, e']
      rw [valV_neg e, b]; exact ih
theorem KT.repl {H : Hp} {kvs : List (List Key × V)} {xs : List (List Key × Addr × Value)} (r : KT H kvs xs) (k : List Key) {y : V} {u : Value} (ry : RelV y u) :
    KT H (kvs.map fun kv => if kv.1 = k then (kv.1, y) else kv) (xs.map (putAt k u)) := by
  induction r with
  | nil => exact .nil
  | @cons p q ps qs h t ih =>
    rw [List.map_cons, List.map_cons]
    refine .cons ?_ ih
    obtain ⟨h1, h2, h3⟩ := h
    unfold putAt
    by_cases e : p.1 = k
    · rw [if_pos e, if_pos (h1.symm.trans e)]; exact ⟨h1, h2, ry⟩
    · rw [if_neg e, if_neg (fun z => e (h1.trans z))]; exact ⟨h1, h2, h3⟩
theorem KT.put {H : Hp} {kvs : List (List Key × V)} {xs : List (List Key × Addr × Value)} (r : KT H kvs xs) (k : List Key) {b : Addr} {y : V} {u : Value} (hb : H b = some (.tup (k.map kV))) (ry : RelV y u) :
    KT H (putK kvs k y) (storedH xs k b u) := by
  have e : (kvs.any fun kv => decide (kv.1 = k)) = (atKey xs k).isSome := by
    rw [valV_any, (r.val k).isSome_eq, Option.isSome_map]
  unfold putK storedH
  rw [e]
  by_cases q : (atKey xs k).isSome = true
  · rw [if_pos q, if_pos q]; exact r.repl k ry
  · rw [if_neg q, if_neg q]; exact Paired.snoc r ⟨rfl, hb, ry⟩
theorem KT.keeps {H H' : Hp} {kvs : List (List Key × V)} {xs : List (List Key × Addr × Value)} (r : KT H kvs xs) (ht : ∀ b ys, H b = some (.tup ys) → H' b = some (.tup ys)) : KT H' kvs xs :=
  Paired.mapP r fun _ _ z => ⟨z.1, ht _ _ z.2.1, z.2.2⟩

section
variable {P : Program} {w : World} {H : Hp} {h : Heap} {a : Addr}
theorem rd_of {u : HO} (ok : HOk P w H h) (e : Rd H a u) : ObjOk P w H h a u := e.ok ok
theorem dk_rd {kvs : List (Key × V)} (ok : HOk P w H h) (e : Rd H a (.dK kvs)) : kvs.length ≤ sizeLine ∧ (a == sysModules) = false ∧ ∃ vs, KV kvs vs ∧ h.DictOf (mixKind P w) a vs :=
  show ObjOk P w H h a (.dK kvs) from rd_of ok e
theorem dk_of {kvs : List (Key × V)} (ok : HOk P w H h) (e : H a = some (.dK kvs)) : kvs.length ≤ sizeLine ∧ (a == sysModules) = false ∧ ∃ vs, KV kvs vs ∧ h.DictOf (mixKind P w) a vs := dk_rd ok (.inl e)
/-- a tracked tuple of ints and texts is a key -/
theorem key_of {ks : List Key} (ok : HOk P w H h) (e : H a = some (.tup (ks.map kV))) : (tupleKind (mixKind P w)).is h ks a := by
  obtain ⟨_, its, r, o, h1, h2, n, h3⟩ := (show ObjOk P w H h a (.tup (ks.map kV)) from ok a _ e)
  exact ⟨o, its.toArray, n, h1, h2, h3, by simpa using items_are r⟩
theorem dt_rd {kvs : List (List Key × V)} (ok : HOk P w H h) (e : Rd H a (.dT kvs)) : kvs.length ≤ sizeLine ∧ (a == sysModules) = false ∧
    ∃ xs, KT H kvs xs ∧ h.DictOfH (tupleKind (mixKind P w)) a xs := by
  obtain ⟨z, y, xs, r, o, es, ep, h1, h2, h3, h4, h5⟩ := (show ObjOk P w H h a (.dT kvs) from rd_of ok e)
  refine ⟨z, y, xs, r, o, es, ep, h1, h2, h3, h4, fun x hx => ?_, h5⟩
  have all : ∀ {l : List (List Key × V)} {m : List (List Key × Addr × Value)}, KT H l m → ∀ x ∈ m, (tupleKind (mixKind P w)).is h x.1 x.2.1 := by
    intro l m q
    induction q with
    | nil => intro x hx; exact nomatch hx
    | @cons p q ps qs hq t ih =>
      intro x hx
      rcases List.mem_cons.mp hx with e | hx
      · subst e
        exact key_of ok (by rw [← hq.1]; exact hq.2.1)
      · exact ih x hx
  exact all r x hx
theorem dt_of {kvs : List (List Key × V)} (ok : HOk P w H h) (e : H a = some (.dT kvs)) : kvs.length ≤ sizeLine ∧ (a == sysModules) = false ∧
    ∃ xs, KT H kvs xs ∧ h.DictOfH (tupleKind (mixKind P w)) a xs := dt_rd ok (.inl e)
end

/-- what the dict at a holds at the key y -/
def DGet (H : Hp) (a : Addr) (y : V) (r : Option V) : Prop :=
  (∃ kvs k, Rd H a (.dK kvs) ∧ y = kV k ∧ r = valV kvs k) ∨ ∃ kvs k b, Rd H a (.dT kvs) ∧ y = .ref b ∧ H b = some (.tup (k.map kV)) ∧ r = valV kvs k
/-- the heap behind a[y] = v -/
def DPut (H : Hp) (a : Addr) (y v : V) (H' : Hp) : Prop :=
  (∃ kvs k, H a = some (.dK kvs) ∧ y = kV k ∧ kvs.length < sizeLine ∧ H' = upd H a (.dK (putK kvs k v))) ∨
  ∃ kvs k b, H a = some (.dT kvs) ∧ y = .ref b ∧ H b = some (.tup (k.map kV)) ∧ kvs.length < sizeLine ∧ H' = upd H a (.dT (putK kvs k v))
theorem DGet.k {H : Hp} {a : Addr} {kvs : List (Key × V)} {k : Key} (e : H a = some (.dK kvs)) : DGet H a (kV k) (valV kvs k) := .inl ⟨kvs, k, .inl e, rfl, rfl⟩
theorem DPut.k {H : Hp} {a : Addr} {kvs : List (Key × V)} {k : Key} {v : V} (e : H a = some (.dK kvs)) (hl : kvs.length < sizeLine) : DPut H a (kV k) v (upd H a (.dK (putK kvs k v))) := .inl ⟨kvs, k, e, rfl, hl, rfl⟩
section
variable {X : Cx} {pins : List (Addr × Obj)} {σ : St} {H : Hp} {s : Shared} {a : Addr} {y v : V} {u r : Value} {o : Option V} {A : Around} {E : Value → Shared → Prop}

theorem Inv.big (I : Inv X pins σ H s) : sysModules < s.heap.objs.size := by
  have h : mainGlobals < s.heap.objs.size := (I.mod.glob.keeps I.bk).lt
  exact Nat.lt_trans (by decide) h

/-- d[y], there -/
theorem d_getItem {Q : Value → Shared → Prop} (hu : A.units + 1 < cLine) (I : Inv X pins σ H s) (g : DGet H a y (some v)) (ry : RelV y u) (h : ∀ w' s', Inv X pins σ H s' → RelV v w' → Q w' s') :
    wpAny (model X.prog X.w) A (getItem (.ref a) u) Q E s := by
  rcases g with ⟨kvs, k, e, ey, l⟩ | ⟨kvs, k, b, e, ey, eb, l⟩
  · subst ey
    obtain ⟨z, hd, vs, rel, dd⟩ := dk_rd I.hok e
    obtain ⟨w', hw, rw'⟩ := RelO.some_of (v := v) (o := valueAt vs k) (by rw [l]; exact rel.val k)
    exact wpAny_getItem_of (kV_is ry) dd.mapOf hw (h w' _ (I.tok _) rw')
  · subst ey
    cases (show u = Value.ref b from ry)
    obtain ⟨z, hd, xs, rel, dd⟩ := dt_rd I.hok e
    obtain ⟨w', hw, rw'⟩ := RelO.some_of (v := v) (o := (atKey xs k).map (·.2)) (by rw [l]; exact rel.val k)
    obtain ⟨p, hp, hp2⟩ := Option.map_eq_some_iff.mp hw
    refine wpAny_getItem_heap (tupleKind_room_in1 hu) (key_of I.hok eb) dd hp ?_
    rw [hp2]
    exact h w' _ (I.tok _) rw'
/-- y in d -/
theorem d_in {Q : Value → Shared → Prop} (hu : A.units + 1 < cLine) (I : Inv X pins σ H s) (g : DGet H a y o) (ry : RelV y u) (h : ∀ s', Inv X pins σ H s' → Q (.bool o.isSome) s') :
    wpAny (model X.prog X.w) A (compareOp .In u (.ref a)) Q E s := by
  rcases g with ⟨kvs, k, e, ey, l⟩ | ⟨kvs, k, b, e, ey, eb, l⟩
  · subst ey
    obtain ⟨z, hd, vs, rel, dd⟩ := dk_rd I.hok e
    refine wpAny_in_of (kV_is ry) hd dd.mapOf ?_
    rw [← (rel.val k).isSome_eq, ← l]
    exact h _ (I.tok _)
  · subst ey
    cases (show u = Value.ref b from ry)
    obtain ⟨z, hd, xs, rel, dd⟩ := dt_rd I.hok e
    refine wpAny_in_heap (tupleKind_room_in1 hu) (key_of I.hok eb) hd dd ?_
    have q := (rel.val k).isSome_eq
    rw [Option.isSome_map] at q
    rw [← q, ← l]
    exact h _ (I.tok _)
theorem d_notIn {Q : Value → Shared → Prop} (hu : A.units + 1 < cLine) (I : Inv X pins σ H s) (g : DGet H a y o) (ry : RelV y u) (h : ∀ s', Inv X pins σ H s' → Q (.bool (!o.isSome)) s') :
    wpAny (model X.prog X.w) A (compareOp .NotIn u (.ref a)) Q E s := by
  rcases g with ⟨kvs, k, e, ey, l⟩ | ⟨kvs, k, b, e, ey, eb, l⟩
  · subst ey
    obtain ⟨z, hd, vs, rel, dd⟩ := dk_rd I.hok e
    refine wpAny_notIn_of (kV_is ry) hd dd.mapOf ?_
    rw [← (rel.val k).isSome_eq, ← l]
    exact h _ (I.tok _)
  · subst ey
    cases (show u = Value.ref b from ry)
    obtain ⟨z, hd, xs, rel, dd⟩ := dt_rd I.hok e
    refine wpAny_notIn_heap (tupleKind_room_in1 hu) (key_of I.hok eb) hd dd ?_
    have q := (rel.val k).isSome_eq
    rw [Option.isSome_map] at q
    rw [← q, ← l]
    exact h _ (I.tok _)
/-- a dict's object is replaced -/
theorem d_write {h' : Heap} {t' : Nat} {ob : HO} (I : Inv X pins σ H s) (mu : Mut (H a)) (hs : Heap.SameBut a s.heap h') (he : ∃ q, h'.get? a = some q) (new : ObjOk X.prog X.w (upd H a ob) h' a ob) :
    Inv X pins σ (upd H a ob) { s with heap := h', toks := t' } :=
  I.write (x := a) (e := a) mu (.inl rfl) (fun b q hb z => (hs.2 b hb).trans z) he new
theorem dk_new {P : Program} {w : World} {H' : Hp} {h' : Heap} {kvs : List (Key × V)} {vs : List (Key × Value)} (z : kvs.length ≤ sizeLine) (hd : (a == sysModules) = false) (rel : KV kvs vs) (dd : h'.DictOf (mixKind P w) a vs) :
    ObjOk P w H' h' a (.dK kvs) := ⟨z, hd, vs, rel, dd⟩
/-- d[y] = v -/
theorem d_setItem {H' : Hp} {Q : Unit → Shared → Prop} (hu : A.units + 1 < cLine) (I : Inv X pins σ H s) (g : DPut H a y v H') (ry : RelV y u) (rv : RelV v r) (h : ∀ s', Inv X pins σ H' s' → Q () s') :
    wpAny (model X.prog X.w) A (setItem (.ref a) u r) Q E s := by
  rcases g with ⟨kvs, k, e, ey, l, eH⟩ | ⟨kvs, k, b, e, ey, eb, l, eH⟩
  · subst ey eH
    obtain ⟨z, hd, vs, rel, dd⟩ := dk_of I.hok e
    have hz : vs.length ≤ sizeLine := by rw [← rel.length]; exact z
    have hl : (putK kvs k v).length ≤ sizeLine := by have := length_putK kvs k v; omega
    refine wpAny_setItem_pairs (hsz := hz) (kV_is ry) dd fun h' dd' hs => h _ ?_
    have he : ∃ q, h'.get? a = some q := let ⟨q, _, _, hq, _⟩ := dd'; ⟨q, hq⟩
    exact d_write I (by rw [e]; exact True.intro) hs he (dk_new hl hd (rel.put k rv) dd')
  · subst ey eH
    cases (show u = Value.ref b from ry)
    obtain ⟨z, hd, xs, rel, dd⟩ := dt_of I.hok e
    have hz : xs.length ≤ sizeLine := by rw [← Paired.length rel]; exact z
    have hl : (putK kvs k v).length ≤ sizeLine := by have := length_putK kvs k v; omega
    refine wpAny_setItem_heap (hsz := hz) (tupleKind_room_in1 hu) (key_of I.hok eb) dd fun h' dd' hs => h _ ?_
    obtain ⟨q, es, ep, hq, h2, h3, h4, _, h5⟩ := dd'
    refine d_write I (by rw [e]; exact True.intro) hs ⟨q, hq⟩ ⟨hl, hd, _, (rel.put k eb rv).keeps fun c ys ec => ?_, q, es, ep, hq, h2, h3, h4, h5⟩
    rw [upd_ne (ne_of ec e (fun z => nomatch z))]
    exact ec
end

section
variable {X : Cx} {pins : List (Addr × Obj)} {σ : St} {H : Hp} {s : Shared} {a : Addr} {kvs : List (Key × V)} {k : Key} {u : Value} {A : Around} {E : Value → Shared → Prop}
/-- del d[k] -/
theorem d_delItem {Q : Unit → Shared → Prop} (I : Inv X pins σ H s) (e : H a = some (.dK kvs)) (ry : RelV (kV k) u) (l : (valV kvs k).isSome = true) (h : ∀ s', Inv X pins σ (upd H a (.dK (dropK kvs k))) s' → Q () s') :
    wpAny (model X.prog X.w) A (delItem (.ref a) u) Q E s := by
  obtain ⟨z, hd, vs, rel, dd⟩ := dk_of I.hok e
  refine wpAny_delItem_slot dd.typeIs (by decide) PySem.F.slot_dict_delitem
    (call_meetsIn PySem.F.slot_dict_delitem dd.typeIs PySem.F.entry_dict_delitem (PySem.F.args_dict_delitem_2 _ _) (meets_dict_delitem_pairs (mixKind X.prog X.w) a (kV_is ry)) ⟨vs, dd, by rw [← rel.length]; exact z, by rw [← (rel.val k).isSome_eq]; exact l, fun h' dd' hs => h _ ?_⟩)
  have he : ∃ q, h'.get? a = some q := let ⟨q, _, _, hq, _⟩ := dd'; ⟨q, hq⟩
  exact d_write I (by rw [e]; exact True.intro) hs he (dk_new (Nat.le_trans (dropK_le kvs k) z) hd (rel.drop k) dd')
/-- d.pop(k[, x]), there -/
theorem d_pop {v : V} {more : List Value} {Q : Value → Shared → Prop} (I : Inv X pins σ H s) (e : H a = some (.dK kvs)) (ry : RelV (kV k) u) (l : valV kvs k = some v) (hm : more = [] ∨ ∃ x, more = [x])
    (h : ∀ w' s', Inv X pins σ (upd H a (.dK (dropK kvs k))) s' → RelV v w' → Q w' s') : wpAny (model X.prog X.w) A (call (.builtin "dict.pop") (.ref a :: u :: more)) Q E s := by
  obtain ⟨z, hd, vs, rel, dd⟩ := dk_of I.hok e
  obtain ⟨w', hw, rw'⟩ := RelO.some_of (v := v) (o := valueAt vs k) (by rw [← l]; exact rel.val k)
  have hp : (keyPart u).isSome = true := by
    cases k with
    | inl i => obtain ⟨t, q⟩ := (show ∃ t, u = Value.int i t from ry); subst q; rfl
    | inr x => obtain ⟨t, q⟩ := (show ∃ t, u = Value.str x t from ry); subst q; rfl
  have ha : argsOk "dict.pop" ⟨.ref a :: u :: more, []⟩ := by
    rcases hm with q | ⟨x, q⟩
    · subst q; exact PySem.F.args_dict_pop_2 _ _
    · subst q; exact PySem.F.args_dict_pop_3 _ _ _
  refine call_meetsIn PySem.F.slot_dict_pop dd.typeIs PySem.F.entry_dict_pop ha (meets_dict_pop_there (mixKind X.prog X.w) a (kV_is ry) more hm hp)
    ⟨vs, w', dd, by rw [← rel.length]; exact z, hw, fun h' dd' hs => h w' _ ?_ rw'⟩
  have he : ∃ q, h'.get? a = some q := let ⟨q, _, _, hq, _⟩ := dd'; ⟨q, hq⟩
  exact d_write I (by rw [e]; exact True.intro) hs he (dk_new (Nat.le_trans (dropK_le kvs k) z) hd (rel.drop k) dd')
/-- d.pop(k, x), not there -/
theorem d_popD {r : Value} {Q : Value → Shared → Prop} (I : Inv X pins σ H s) (e : H a = some (.dK kvs)) (ry : RelV (kV k) u) (l : valV kvs k = none) (h : ∀ s', Inv X pins σ H s' → Q r s') :
    wpAny (model X.prog X.w) A (call (.builtin "dict.pop") [.ref a, u, r]) Q E s := by
  obtain ⟨z, hd, vs, rel, dd⟩ := dk_of I.hok e
  have hn : valueAt vs k = none := RelO.none_of (by rw [← l]; exact rel.val k)
  have hp : (keyPart u).isSome = true := by
    cases k with
    | inl i => obtain ⟨t, q⟩ := (show ∃ t, u = Value.int i t from ry); subst q; rfl
    | inr x => obtain ⟨t, q⟩ := (show ∃ t, u = Value.str x t from ry); subst q; rfl
  exact call_meetsIn PySem.F.slot_dict_pop dd.typeIs PySem.F.entry_dict_pop (PySem.F.args_dict_pop_3 _ _ _) (meets_dict_pop_default (mixKind X.prog X.w) a (kV_is ry) hd hp r) ⟨vs, dd, hn, h _ (I.tok _)⟩
end


/-! ### readings and rules -/
/-- the element of a subscription, not a slice -/
def NoSl (i : Expr) : Prop := ∀ ov iv, subscripted i false ov iv = operate [ov, iv] (getItem ov iv)
theorem subD_of {prog : Program} {w : World} {A : Around} {E : Value → Shared → Prop} {s : Shared} {env : Env} {value slice : Expr} {pos : Pos} {T id : String} {Q : Value → Shared → Prop}
    (hl : typeLookup (.type T) "__getitem__" = pure (some (.builtin id))) (hs : NoSl slice)
    (h : wpAny (model prog w) A (eval value env) (fun o s₁ => wpAny (model prog w) A (eval slice env) (fun i s₂ => s₂.TypeIs o T ∧ wpAny (model prog w) A (getItem o i) Q E s₂) E s₁) E s) :
    wpAny (model prog w) A (eval (.Subscript value slice pos) env) Q E s := by
  refine Subscript_ (wpAny_mono h (fun o s₁ h₁ => wpAny_mono h₁ (fun i s₂ h₂ => ?_) fun _ _ x => x) fun _ _ x => x)
  obtain ⟨hT, h₂⟩ := h₂
  unfold subscriptTail
  refine wpAny_bind ?_
  rw [getitemInPython_of_ne hT.not_modules]
  refine wpAny_bind (wpAny_specialOf hT hl ?_)
  have fin : wpAny (model prog w) A (subscripted slice false o i) (fun r s₃ => wpAny (model prog w) A (letTemporaryGo value o r >>= fun _ => pure r) Q E s₃) E s₂ := by
    rw [hs o i]
    exact wpAny_operating (wpAny_mono h₂ (fun r s₃ h₃ => wpAny_bind (wpAny_letTemporaryGo (wpAny_pure h₃))) fun _ _ x => x)
  first
    | exact wpAny_pure (wpAny_bind fin)
    | exact wpAny_bind (wpAny_pure (wpAny_bind fin))
    | exact wpAny_bind fin

theorem dict_typeIs {X : Cx} {pins : List (Addr × Obj)} {σ : St} {H : Hp} {s : Shared} {a : Addr} {y : V} {o : Option V} (I : Inv X pins σ H s) (g : DGet H a y o) : s.TypeIs (.ref a) "dict" := by
  rcases g with ⟨kvs, k, e, _, _⟩ | ⟨kvs, k, b, e, _, _, _⟩
  · obtain ⟨_, _, vs, _, dd⟩ := dk_rd I.hok e
    exact dd.typeIs
  · obtain ⟨_, _, xs, _, dd⟩ := dt_rd I.hok e
    exact dd.typeIs
/-- d[y] -/
def tDGet (td ty : TE) : TE := fun σ H Q => td σ H fun x H1 => ty σ H1 fun y H2 => ∃ a v, x = .ref a ∧ DGet H2 a y (some v) ∧ Q v H2
/-- y in d, y not in d -/
def tDIn (ty td : TE) : TE := fun σ H Q => ty σ H fun y H1 => td σ H1 fun x H2 => ∃ a o, x = .ref a ∧ DGet H2 a y o ∧ Q (.bl o.isSome) H2
def tDNotIn (ty td : TE) : TE := fun σ H Q => ty σ H fun y H1 => td σ H1 fun x H2 => ∃ a o, x = .ref a ∧ DGet H2 a y o ∧ Q (.bl (!o.isSome)) H2
/-- d[y] = v -/
def sDPut (td ty tv : TE) : TS := fun D σ H => tv σ H fun v H1 => td σ H1 fun x H2 => ty σ H2 fun y H3 => ∃ a H4, x = .ref a ∧ DPut H3 a y v H4 ∧ D.nx σ H4
section
variable {X : Cx} {o i e value : Expr} {pos pos' tpos : Pos} {td ty tv : TE}
theorem pe_dget (hu : X.A.units + 1 < cLine) (ho : PE X o td) (hi : PE X i ty) (hs : NoSl i) : PE X (.Subscript o i pos) (tDGet td ty) := by
  intro pins s σ H Q I h
  refine subD_of PySem.F.slot_dict_getitem.lookup hs (thn (ho pins s σ H _ I h) fun u s1 ⟨x, H1, I1, rx, q1⟩ => thn (hi pins s1 σ H1 _ I1 q1) fun iv s2 ⟨y, H2, I2, ry, a, v, ex, g, q2⟩ => ?_)
  subst ex
  obtain rfl : u = Value.ref a := rx
  exact ⟨dict_typeIs I2 g, d_getItem hu I2 g ry fun w' s3 I3 rw' => ⟨v, H2, I3, rw', q2⟩⟩
theorem pc_din (hu : X.A.units + 1 < cLine) (hi : PE X i ty) (ho : PE X o td) : PC X .In i o (tDIn ty td) := by
  intro pins s σ H Q I h
  refine thn (hi pins s σ H _ I h) fun iv s1 ⟨y, H1, I1, ry, q1⟩ => thn (ho pins s1 σ H1 _ I1 q1) fun u s2 ⟨x, H2, I2, rx, a, ov, ex, g, q2⟩ => ?_
  subst ex
  obtain rfl : u = Value.ref a := rx
  exact d_in hu I2 g ry fun s3 I3 => ⟨.bl ov.isSome, H2, I3, rfl, q2⟩
theorem pc_dnotin (hu : X.A.units + 1 < cLine) (hi : PE X i ty) (ho : PE X o td) : PC X .NotIn i o (tDNotIn ty td) := by
  intro pins s σ H Q I h
  refine thn (hi pins s σ H _ I h) fun iv s1 ⟨y, H1, I1, ry, q1⟩ => thn (ho pins s1 σ H1 _ I1 q1) fun u s2 ⟨x, H2, I2, rx, a, ov, ex, g, q2⟩ => ?_
  subst ex
  obtain rfl : u = Value.ref a := rx
  exact d_notIn hu I2 g ry fun s3 I3 => ⟨.bl (!ov.isSome), H2, I3, rfl, q2⟩
theorem ps_dput (hu : X.A.units + 1 < cLine) (ho : PE X o td) (hi : PE X i ty) (hv : PE X value tv) (hs : swapsWith value (some (.Subscript o i pos')) pos.line X.env = pure false) :
    PS X (.Assign [.Subscript o i pos'] value pos) (sDPut td ty tv) := by
  intro pins s σ H D I h
  refine wpAny_Assign_Subscript (thn (hv pins s σ H _ I h) fun r s1 ⟨v, H1, I1, rv, q1⟩ => thn (ho pins s1 σ H1 _ I1 q1) fun u s2 ⟨x, H2, I2, rx, q2⟩ => thn (hi pins s2 σ H2 _ I2 q2) fun iv s3 ⟨y, H3, I3, ry, a, H4, ex, g, q3⟩ => ?_) hs
  subst ex
  obtain rfl : u = Value.ref a := rx
  exact d_setItem hu I3 g ry rv fun s4 I4 => ⟨σ, H4, I4, q3⟩
end


/-! ### displays -/
theorem dk_empty {P : Program} {w : World} {H : Hp} (h : Heap) (hb : sysModules < h.objs.size) : ObjOk P w H (h.push { cls := .type "dict", data := .dict #[] }) h.objs.size (.dK []) :=
  ⟨Nat.zero_le _, beq_eq_false_iff_ne.mpr (Ne.symm (Nat.ne_of_lt hb)), [], .nil, Heap.DictOf.new h⟩
/-- {}, to be a dict of the kind that is wanted -/
def tDNewK : TE := fun _ H Q => ∀ p, H p = none → Q (.ref p) (upd H p (.dK []))
section
variable {X : Cx} {pos : Pos}
theorem pe_dnewK : PE X (.Dict [] [] pos) tDNewK := fun pins s σ H Q I h =>
  wpAny_Dict_empty ⟨.ref s.heap.objs.size, _, I.laid (a := s.heap.objs.size) (o := .dK []) (t' := s.toks) (fun _ _ q => Heap.get?_push_of_some _ q) (Nat.le_refl _) (dk_empty s.heap I.big), rfl, h _ (I.hok.fresh (Nat.le_refl _))⟩
end

/-- the pairs of a display, from the left -/
def tPairs : List (TE × TE) → St → Hp → (List (V × V) → Hp → Prop) → Prop
  | [], _, H, Q => Q [] H
  | (tk, tv) :: r, σ, H, Q => tk σ H fun x H1 => tv σ H1 fun y H2 => tPairs r σ H2 fun ps H3 => Q ((x, y) :: ps) H3
abbrev VV : List (V × V) → List (Value × Value) → Prop := Paired fun p q => RelV p.1 q.1 ∧ RelV p.2 q.2
def PPs (X : Cx) (pos : Pos) (keys : List (Option Expr)) (values : List Expr) (trs : List (TE × TE)) : Prop :=
  ∀ (pins : List (Addr × Obj)) (s : Shared) (σ : St) (H : Hp) (Q : List (V × V) → Hp → Prop), Inv X pins σ H s → tPairs trs σ H Q →
    wpAny (model X.prog X.w) X.A (evalPairs (pairTrees keys values X.env pos)) (fun vs s' => ∃ ps H', Inv X pins σ H' s' ∧ VV ps vs ∧ Q ps H') X.xe s
theorem pps_nil {X : Cx} {pos : Pos} : PPs X pos [] [] [] := fun pins s σ H Q I h => pairTrees_nil_walk ⟨[], H, I, .nil, h⟩
theorem pps_cons {X : Cx} {pos : Pos} {k v : Expr} {ks : List (Option Expr)} {vs : List Expr} {tk tv : TE} {trs : List (TE × TE)} (hk : PE X k tk) (hv : PE X v tv) (hr : PPs X pos ks vs trs) :
    PPs X pos (some k :: ks) (v :: vs) ((tk, tv) :: trs) := fun pins s σ H Q I h =>
  pairTrees_cons_walk (thn (hk pins s σ H _ I h) fun u s1 ⟨x, H1, I1, rx, q1⟩ => thn (hv pins s1 σ H1 _ I1 q1) fun w2 s2 ⟨y, H2, I2, ry, q2⟩ =>
    thn (hr pins s2 σ H2 _ I2 q2) fun ws s3 ⟨ps, H3, I3, rel, q3⟩ => ⟨(x, y) :: ps, H3, I3, .cons ⟨rx, ry⟩ rel, q3⟩)

def mergeK (kvs more : List (Key × V)) : List (Key × V) := more.foldl (fun acc kv => putK acc kv.1 kv.2) kvs
theorem KV.merge : ∀ {more : List (Key × V)} {rs : List (Key × Value)} {kvs : List (Key × V)} {vs : List (Key × Value)}, KV more rs → KV kvs vs → KV (mergeK kvs more) (merged vs rs) := by
  intro more rs kvs vs r
  unfold KV at r
  induction r generalizing kvs vs with
  | nil => intro q; exact q
  | @cons p q ps qs h t ih =>
    intro r0
    have e : KV (putK kvs p.1 p.2) (stored vs q.1 q.2) := by
      have := r0.put p.1 h.2
      rw [← h.1]; exact this
    exact ih e
theorem length_mergeK : ∀ (more kvs : List (Key × V)), (mergeK kvs more).length ≤ kvs.length + more.length
  | [], kvs => by show kvs.length ≤ kvs.length + 0; omega
  | p :: r, kvs => by
    have h1 := length_mergeK r (putK kvs p.1 p.2)
    have h2 := length_putK kvs p.1 p.2
    show (mergeK (putK kvs p.1 p.2) r).length ≤ _
    rw [List.length_cons]; omega
theorem carries_of {P : Program} {w : World} : ∀ {kvs : List (Key × V)} {ws : List (Value × Value)}, VV (kvs.map fun kv => (kV kv.1, kv.2)) ws → ∃ rs, Carries (mixKind P w) ws rs ∧ KV kvs rs
  | [], _, r => by rw [List.map_nil] at r; cases r; exact ⟨[], True.intro, .nil⟩
  | p :: kvs, _, r => by
    rw [List.map_cons] at r
    cases r with
    | @cons a b as bs h t =>
      obtain ⟨rs, c, q⟩ := carries_of (P := P) (w := w) t
      obtain ⟨b1, b2⟩ := b
      exact ⟨(p.1, b2) :: rs, ⟨kV_is h.1, rfl, c⟩, .cons ⟨rfl, h.2⟩ q⟩
/-- {k: v, ..} with keys ints and texts; the new dict stands empty while the pairs are made -/
def tDisp (trs : List (TE × TE)) : TE := fun σ H Q => ∀ p, H p = none → tPairs trs σ (upd H p (.dK [])) fun ps H2 => H2 p = some (.dK []) ∧ ∃ kvs : List (Key × V), ps = kvs.map (fun kv => (kV kv.1, kv.2)) ∧ kvs.length ≤ 15 ∧ Q (.ref p) (upd H2 p (.dK (mergeK [] kvs)))
theorem pe_disp {X : Cx} {pos : Pos} {keys : List (Option Expr)} {values : List Expr} {trs : List (TE × TE)} (h : PPs X pos keys values trs) (hall : keys.all (·.isSome) = true) (hl : keys.length = values.length) (h0 : keys ≠ [])
    (h15 : keys.length ≤ 15) : PE X (.Dict keys values pos) (tDisp trs) := by
  intro pins s σ H Q I q
  have hn := I.hok.fresh (Nat.le_refl s.heap.objs.size)
  have I1 := I.laid (a := s.heap.objs.size) (o := .dK []) (h' := s.heap.push { cls := .type "dict", data := .dict #[] }) (t' := s.toks) (fun _ _ q => Heap.get?_push_of_some _ q) (Nat.le_refl _) (dk_empty s.heap I.big)
  refine wpAny_Dict_walk (knd := mixKind X.prog X.w) hall hl h0 h15 (thn (h pins _ σ _ _ I1 (q _ hn)) fun ws s2 ⟨ps, H2, I2, rel, e, kvs, ep, lk, q2⟩ => ?_)
  subst ep
  obtain ⟨rs, c, rk⟩ := carries_of (P := X.prog) (w := X.w) rel
  obtain ⟨z, hd, vs0, r0, dd⟩ := dk_of I2.hok e
  cases r0
  refine ⟨rs, c, dd, fun h' dd' hs => ⟨.ref s.heap.objs.size, _, ?_, rfl, q2⟩⟩
  have hz : (mergeK [] kvs).length ≤ sizeLine := by
    have h1 := length_mergeK kvs []
    rw [List.length_nil] at h1
    rw [sizeLine_eq]; omega
  have he : ∃ q, h'.get? s.heap.objs.size = some q := let ⟨q, _, _, hq, _⟩ := dd'; ⟨q, hq⟩
  exact d_write I2 (by rw [e]; exact True.intro) hs he (dk_new hz hd (rk.merge .nil) dd')


/-! ### methods -/
structure M2 (X : Cx) (o : Expr) (m : Str) (apos : Pos) (e f : Expr) (cpos : Pos) : Prop where
  base : attributeBase o m X.env (eval o X.env) = eval o X.env
  few : ((backTo cpos (starEach [e, f] X.env)).all (fun x => !x.1) && (backToKw cpos (keywordEach [] X.env)).all (fun x => x.1.isSome)
    && decide (([e, f] : List Expr).length + ([] : List Keyword).length + (if ([] : List Keyword).isEmpty then 0 else 1) < 30)) = true
  line : (apos.endLine == cpos.line) = true
  trees : backTo cpos (starEach [e, f] X.env) = [(false, eval e X.env), (false, eval f X.env)]

/-- a is a dict, whatever its keys -/
def IsD (H : Hp) (a : Addr) : Prop := (∃ kvs, Rd H a (.dK kvs)) ∨ ∃ kvs, Rd H a (.dT kvs)
theorem isD_at {X : Cx} {pins : List (Addr × Obj)} {σ : St} {H : Hp} {s : Shared} {a : Addr} (I : Inv X pins σ H s) (d : IsD H a) :
    s.TypeIs (.ref a) "dict" ∧ (∀ b, Value.ref a = .ref b → ∃ ob, s.heap.get? b = some ob ∧ ob.dict = none) ∧ (a == sysModules) = false := by
  rcases d with ⟨kvs, e⟩ | ⟨kvs, e⟩
  · obtain ⟨_, hd, vs, _, dd⟩ := dk_rd I.hok e
    refine ⟨dd.typeIs, fun b q => ?_, hd⟩
    cases q
    obtain ⟨ob, _, _, h1, h2, _⟩ := dd
    exact ⟨ob, h1, h2.2.1⟩
  · obtain ⟨_, hd, xs, _, dd⟩ := dt_rd I.hok e
    refine ⟨dd.typeIs, fun b q => ?_, hd⟩
    cases q
    obtain ⟨ob, _, _, h1, h2, _⟩ := dd
    exact ⟨ob, h1, h2.2.1⟩

section
variable {X : Cx} {pins : List (Addr × Obj)} {σ : St} {H : Hp} {s : Shared} {a : Addr} {y d : V} {u r : Value} {o : Option V} {A : Around} {E : Value → Shared → Prop}
end

def tDPop2 (td ty tx : TE) : TE := fun σ H Q => td σ H fun x H1 => ∃ a, x = .ref a ∧ IsD H1 a ∧ ty σ H1 fun y H2 => tx σ H2 fun z H3 => ∃ kvs k, H3 a = some (.dK kvs) ∧ y = kV k ∧
  (∀ v, valV kvs k = some v → Q v (upd H3 a (.dK (dropK kvs k)))) ∧ (valV kvs k = none → Q z H3)
section
variable {X : Cx} {o e f : Expr} {apos cpos : Pos} {td ty tx : TE}
theorem pe_dpop2 (ho : PE X o td) (he : PE X e ty) (hf : PE X f tx) (m : M2 X o "pop" apos e f cpos) : PE X (.Call (.Attribute o "pop" apos) [e, f] [] cpos) (tDPop2 td ty tx) := by
  intro pins s σ H Q I h
  refine wpAny_Call_method m.base m.few m.line PySem.F.plainAttrs_dict PySem.F.slot_dict_pop PySem.F.type_dict_pop (thn (ho pins s σ H _ I h) fun u s1 ⟨x, H1, I1, rx, a, ex, d, q1⟩ => ?_)
  subst ex
  obtain rfl : u = Value.ref a := rx
  obtain ⟨t1, t2, _⟩ := isD_at I1 d
  refine ⟨t1, t2, ?_⟩
  rw [m.trees]
  refine Calls.callWith_builtin rfl (Calls.evalArgs_plain (Calls.spliced_cons (thn (he pins s1 σ H1 _ I1 q1) fun iv s2 ⟨y, H2, I2, ry, q2⟩ =>
    Calls.spliced_cons (thn (hf pins s2 σ H2 _ I2 q2) fun fv s3 ⟨z, H3, I3, rz, kvs, k, ea, ey, q3, q4⟩ => Calls.spliced_nil ?_))))
  subst ey
  cases l : valV kvs k with
  | some v => exact d_pop I3 ea ry l (.inr ⟨fv, rfl⟩) fun w' s4 I4 rw' => ⟨v, _, I4, rw', q3 v l⟩
  | none => exact d_popD I3 ea ry l fun s4 I4 => ⟨z, H3, I4, rz, q4 l⟩
end

/-! ### dict(d): a copy -/
section
variable {X : Cx} {pins : List (Addr × Obj)} {σ : St} {H : Hp} {s : Shared} {a : Addr} {kvs : List (Key × V)} {A : Around} {E : Value → Shared → Prop}
theorem d_copyOf {Q : Value → Shared → Prop} (I : Inv X pins σ H s) (e : Rd H a (.dK kvs)) (h : ∀ p s', H p = none → Inv X pins σ (upd H p (.dK kvs)) s' → Q (.ref p) s') : wpAny (model X.prog X.w) A (call (.type "dict") [.ref a]) Q E s := by
  obtain ⟨z, hd, vs, rel, dd⟩ := dk_rd I.hok e
  refine kt_call_dict hd dd (by rw [← rel.length]; exact z) fun h' dd' hs => ?_
  refine h _ _ (I.hok.fresh (Nat.le_refl _)) (I.laid (a := s.heap.objs.size) (o := .dK kvs) (t' := s.toks) (fun b q hq => ?_) (Nat.le_refl _) (dk_new z (beq_eq_false_iff_ne.mpr (Ne.symm (Nat.ne_of_lt I.big))) rel dd'))
  exact (hs.2 b (Nat.ne_of_lt (Heap.lt_size hq))).trans (Heap.get?_push_of_some _ hq)
end


section
variable {X : Cx} {pins : List (Addr × Obj)} {σ : St} {H : Hp} {s : Shared} {a : Addr} {y : V} {u : Value} {A : Around} {E : Value → Shared → Prop}
end
section
variable {X : Cx}
end
/-! ### a dict's pairs: keys that differ -/
section
variable {κ : Type} [DecidableEq κ]
theorem valV_not {kvs : List (κ × V)} {k : κ} (h : valV kvs k = none) : ¬ k ∈ kvs.map (·.1) := by
  intro m
  obtain ⟨p, hp, e⟩ := List.mem_map.mp m
  have q : (kvs.any fun kv => decide (kv.1 = k)) = true := List.any_eq_true.mpr ⟨p, hp, decide_eq_true e⟩
  rw [valV_any, h] at q
  exact absurd q (by simp)
theorem dropK_pos {p : κ × V} {r : List (κ × V)} {k : κ} (e : p.1 = k) : dropK (p :: r) k = dropK r k := by
  unfold dropK
  rw [List.filter_cons, if_neg (by simp [e])]
theorem dropK_neg {p : κ × V} {r : List (κ × V)} {k : κ} (e : ¬ p.1 = k) : dropK (p :: r) k = p :: dropK r k := by
  unfold dropK
  rw [List.filter_cons, if_pos (by simp [e])]
theorem dropK_no : ∀ {kvs : List (κ × V)} {k : κ}, ¬ k ∈ kvs.map (·.1) → dropK kvs k = kvs
  | [], _, _ => rfl
  | p :: r, k, h => by
    have h' : ¬ k ∈ r.map (·.1) := fun m => by
      obtain ⟨q, hq, e⟩ := List.mem_map.mp m
      exact h (List.mem_map.mpr ⟨q, List.mem_cons.mpr (Or.inr hq), e⟩)
    rw [dropK_neg fun e => h (List.mem_map.mpr ⟨p, List.mem_cons.mpr (Or.inl rfl), e⟩), dropK_no h']
end
end L2
namespace L2
open PySem PySem.Spec PyProof.Rows

/-! ### an exception of an own class: its object, its traceback -/
/-- e is an instance of the exception class at C, its dict at dd, its traceback tb -/
def ExAt (h : Heap) (e C : Addr) (dd : Option Addr) (tb : Value) : Prop := ∃ vs sl, h.get? e = some ⟨.ref C, dd, .fields vs, sl⟩ ∧ vs.size = 6 ∧ vs[1]? = some tb ∧ vs[2]? = some .none
/-- the traceback's first entry: in flight at fl -/
def TbAt (h : Heap) (T : Addr) (fl : Value) : Prop := ∃ oT ts, h.get? T = some oT ∧ oT.data = .fields ts ∧ ts[3]? = some fl
theorem ExAt.lt {h : Heap} {e C : Addr} {dd : Option Addr} {tb : Value} (x : ExAt h e C dd tb) : e < h.objs.size := by obtain ⟨_, _, q, _⟩ := x; exact Heap.lt_size q
theorem ExAt.keep {h h' : Heap} {e C : Addr} {dd : Option Addr} {tb : Value} (x : ExAt h e C dd tb) (k : ∀ o, h.get? e = some o → h'.get? e = some o) : ExAt h' e C dd tb := by
  obtain ⟨vs, sl, q, r⟩ := x; exact ⟨vs, sl, k _ q, r⟩
section
variable {M : Model} {A : Around} {E : Value → Shared → Prop} {s : Shared}
/-- a field of the exception is put -/
theorem ExAt.put {h : Heap} {e C : Addr} {dd : Option Addr} {tb : Value} (x : ExAt h e C dd tb) (v : Value) : ExAt (h.update e (Obj.mapFields (·.setIfInBounds 1 v))) e C dd v := by
  obtain ⟨vs, sl, q, z, r, r2⟩ := x
  refine ⟨vs.setIfInBounds 1 v, sl, ?_, by simpa using z, by simp [z], by rw [Array.getElem?_setIfInBounds_ne (by decide)]; exact r2⟩
  rw [Heap.get?_update_self _ q rfl]
  rfl
theorem TbAt.put {h : Heap} {T : Addr} {fl : Value} (x : TbAt h T fl) (v : Value) : TbAt (h.update T (Obj.mapFields (·.setIfInBounds 3 v))) T v := by
  obtain ⟨oT, ts, q, d, r⟩ := x
  have hz := (Array.getElem?_eq_some_iff.mp r).1
  have d' := Obj.data_mapFields d (·.setIfInBounds 3 v)
  exact ⟨_, _, Heap.get?_update_self _ q (Obj.isFreed_of_fields d'), d', by simp [hz]⟩
theorem setFlight_to {e C T : Addr} {dd : Option Addr} {fl : Value} {fr : Option Addr} {Q : Unit → Shared → Prop} (x : ExAt s.heap e C dd (.ref T)) (t : TbAt s.heap T fl)
    (h : Q () { s with heap := s.heap.update T (Obj.mapFields (·.setIfInBounds 3 (fr.elim .none fun f => rawInt f))) }) : wpAny M A (setFlight (.ref e) fr) Q E s := by
  obtain ⟨vs, sl, q, z, r, _⟩ := x
  obtain ⟨oT, ts, qT, dT, rT⟩ := t
  unfold setFlight
  refine wpAny_bind (wpAny_field q rfl r ?_)
  rw [if_pos (show (Value.ref T != Value.none) = true from by simp)]
  exact wpAny_setField qT dT (Array.getElem?_eq_some_iff.mp rT).1 h
theorem setFlight_ok {e C T : Addr} {dd : Option Addr} {fl : Value} {Q : Unit → Shared → Prop} (x : ExAt s.heap e C dd (.ref T)) (t : TbAt s.heap T fl)
    (h : Q () { s with heap := s.heap.update T (Obj.mapFields (·.setIfInBounds 3 .none)) }) : wpAny M A (setFlight (.ref e) none) Q E s := setFlight_to (fr := none) x t h
/-- what noteFrame and the landing behind it leave: all but e, the old entry and the frames' slots is kept; a new entry stands, nothing in flight -/
structure Noted (l : List Env) (e C : Addr) (dd : Option Addr) (tb0 fl : Value) (h h' : Heap) (T : Addr) : Prop where
  ex : ExAt h' e C dd (.ref T)
  tb : TbAt h' T fl
  new : tb0 = .ref T ∨ h.objs.size ≤ T
  keep : ∀ b o, b ≠ e → (∀ T0, tb0 = .ref T0 → b ≠ T0) → b ∉ frs l → h.get? b = some o → h'.get? b = some o
  slot : ∀ b o, b ≠ e → (∀ T0, tb0 = .ref T0 → b ≠ T0) → h.get? b = some o → ∃ sl, h'.get? b = some { o with slots := sl }
theorem new_entry {base : Heap} {env : Env} {outer : List Env} {L e C : Addr} {dd : Option Addr} {head tb : Value} {hadNext : Bool} {Q : Unit → Shared → Prop} (hfr : A.frames = some (env :: outer)) (hl : s.heap.FunFrames base (env :: outer))
    (hf : env.frame = some L) (x : ExAt s.heap e C dd tb)
    (h : ∀ h' T, ExAt h' e C dd (.ref T) → TbAt h' T (rawInt L) → s.heap.objs.size ≤ T → (∀ b o, b ≠ e → b ∉ frs (env :: outer) → s.heap.get? b = some o → h'.get? b = some o) →
      (∀ b o, b ≠ e → s.heap.get? b = some o → ∃ sl, h'.get? b = some { o with slots := sl }) → Q () { s with heap := h' }) :
    wpAny M A (do let a ← frameOf env; let pl ← entryPlaceOf L hadNext; let b ← EntryCells.newEntry head a .none (rawInt L) .none pl; setField (.ref e) 1 b) Q E s := by
  have hene : e ∉ (env :: outer).filterMap (·.frame) := fun hm => by
    obtain ⟨vs, sl, q, _⟩ := x
    obtain ⟨_, o, ho, hnf⟩ := hl.mem hm
    rw [q] at ho
    cases ho
    exact hnf vs rfl
  refine wpAny_bind (wpAny_frameOf_fun hfr hl hf fun h1 s1 => ?_)
  refine wpAny_bind (wpAny_entryPlaceOf fun pl hpl => ?_)
  unfold EntryCells.newEntry newFields
  refine wpAny_bind (wpAny_newObj_type ?_ (hpl.sizeOk5 _ _ _ _ _))
  have x1 : ExAt h1 e C dd tb := x.keep fun o q => (s1.2.1 e hene).trans q
  have hsz : h1.objs.size = s.heap.objs.size := s1.1
  obtain ⟨vs, sl, q, z, r, _⟩ := id x1
  have q2 := Heap.get?_push_of_some (h := h1) { cls := .type "traceback", dict := none, data := .fields ([head, .ref L, .none, rawInt L, .none] ++ (if pl.isEmpty then List.replicate 6 Value.none else pl)).toArray } q
  refine wpAny_setField q2 rfl (by rw [z]; decide) ?_
  have hTe : h1.objs.size ≠ e := Nat.ne_of_gt x1.lt
  have x2 : ExAt (h1.push { cls := .type "traceback", dict := none, data := .fields ([head, .ref L, .none, rawInt L, .none] ++ (if pl.isEmpty then List.replicate 6 Value.none else pl)).toArray }) e C dd tb := x1.keep fun o e => Heap.get?_push_of_some _ e
  have kp : ∀ b o, b ≠ e → h1.get? b = some o → ((h1.push { cls := .type "traceback", dict := none, data := .fields ([head, .ref L, .none, rawInt L, .none] ++ (if pl.isEmpty then List.replicate 6 Value.none else pl)).toArray }).update e (Obj.mapFields (·.setIfInBounds 1 (Value.ref h1.objs.size)))).get? b = some o := fun b o hb hq => by
    rw [Heap.get?_update_other _ _ (Ne.symm hb)]
    exact Heap.get?_push_of_some _ hq
  refine h _ h1.objs.size (x2.put _) ⟨_, _, (Heap.get?_update_other _ _ (Ne.symm hTe)).trans (Heap.get?_push_size h1 rfl), rfl, ?_⟩ (by rw [hsz]; exact Nat.le_refl _) (fun b o hb hn hq => kp b o hb ((s1.2.1 b hn).trans hq)) (fun b o hb hq => ?_)
  · simp
  · obtain ⟨sl', hs⟩ := s1.2.2 b o hq
    exact ⟨sl', kp b _ hb hs⟩
/-- noteFrame: behind a first raise, behind a callee's, or again in this frame -/
theorem note_ok {base : Heap} {env : Env} {outer : List Env} {L e C : Addr} {dd : Option Addr} {tb : Value} {Q : Unit → Shared → Prop} (hfr : A.frames = some (env :: outer)) (hl : s.heap.FunFrames base (env :: outer))
    (hf : env.frame = some L) (x : ExAt s.heap e C dd tb) (ht : tb = .none ∨ ∃ T0, tb = .ref T0 ∧ T0 ≠ e ∧ (TbAt s.heap T0 .none ∨ TbAt s.heap T0 (rawInt L)))
    (h : ∀ h' T, T ≠ e → Noted (env :: outer) e C dd tb (rawInt L) s.heap h' T → Q () { s with heap := h' }) :
    wpAny M A (noteFrame (.ref e) env) Q E s := by
  have fin : ∀ {h1 h2 : Heap} {T : Addr}, h1.objs.size = s.heap.objs.size → (∀ b o, b ≠ e → (∀ T0, tb = .ref T0 → b ≠ T0) → s.heap.get? b = some o → h1.get? b = some o) →
      ExAt h2 e C dd (.ref T) → TbAt h2 T (rawInt L) → h1.objs.size ≤ T → (∀ b o, b ≠ e → b ∉ frs (env :: outer) → h1.get? b = some o → h2.get? b = some o) →
      (∀ b o, b ≠ e → h1.get? b = some o → ∃ sl, h2.get? b = some { o with slots := sl }) → Q () { s with heap := h2 } := by
    intro h1 h2 T hsz k1 x2 t2 hT k2 s2
    exact h _ T (Nat.ne_of_gt (Nat.lt_of_lt_of_le x.lt (by rw [← hsz]; exact hT))) ⟨x2, t2, .inr (by rw [← hsz]; exact hT), fun b o hb hb0 hn q => k2 b o hb hn (k1 b o hb hb0 q), fun b o hb hb0 q => s2 b o hb (k1 b o hb hb0 q)⟩
  unfold noteFrame
  simp only [hf]
  obtain ⟨vs, sl, q, z, r, _⟩ := id x
  refine wpAny_bind (wpAny_field q rfl r ?_)
  rcases ht with rfl | ⟨T0, rfl, hne, t0 | t0⟩
  · rw [if_neg (by decide)]
    exact new_entry hfr hl hf x fun h' T x' t' hT k' s' => fin rfl (fun b o _ _ q => q) x' t' hT k' s'
  · rw [if_pos (show (Value.ref T0 != Value.none) = true from by simp)]
    obtain ⟨oT, ts, qT, dT, rT⟩ := id t0
    refine wpAny_bind (wpAny_field qT dT rT ?_)
    rw [if_neg (show ¬ ((Value.none == rawInt L) = true) from by simp [rawInt])]
    refine wpAny_bind (wpAny_setField qT dT (Array.getElem?_eq_some_iff.mp rT).1 ?_)
    have oth : ∀ b, b ≠ T0 → (s.heap.update T0 (Obj.mapFields (·.setIfInBounds 3 Value.none))).get? b = s.heap.get? b := fun b hb => Heap.get?_update_other _ _ (Ne.symm hb)
    have x1 : ExAt (s.heap.update T0 (Obj.mapFields (·.setIfInBounds 3 Value.none))) e C dd (.ref T0) := x.keep fun o q => (oth e (Ne.symm hne)).trans q
    have hl1 : (s.heap.update T0 (Obj.mapFields (·.setIfInBounds 3 Value.none))).FunFrames base (env :: outer) := hl.of_keeps fun b o hb hnf => ⟨o, (oth b (fun z => by
      rw [z, qT] at hb
      cases hb
      exact hnf ts dT)).trans hb, rfl⟩
    have hsz : (s.heap.update T0 (Obj.mapFields (·.setIfInBounds 3 Value.none))).objs.size = s.heap.objs.size := by simp [Heap.update]
    exact new_entry (s := { s with heap := s.heap.update T0 (Obj.mapFields (·.setIfInBounds 3 Value.none)) }) hfr hl1 hf x1 fun h' T x' t' hT k' s' => fin hsz (fun b o _ hb0 q => (oth b (hb0 T0 rfl)).trans q) x' t' hT k' s'
  · rw [if_pos (show (Value.ref T0 != Value.none) = true from by simp)]
    obtain ⟨oT, ts, qT, dT, rT⟩ := id t0
    refine wpAny_bind (wpAny_field qT dT rT ?_)
    rw [if_pos (show (rawInt L == rawInt L) = true from by simp)]
    exact wpAny_pure (h s.heap T0 hne ⟨x, t0, .inl rfl, fun b o _ _ _ q => q, fun b o _ _ q => ⟨o.slots, q⟩⟩)
/-- the flight of the head entry is put -/
theorem Noted.fly {l : List Env} {e C : Addr} {dd : Option Addr} {tb0 fl v : Value} {h h' : Heap} {T : Addr} (N : Noted l e C dd tb0 fl h h' T) (hne : T ≠ e) : Noted l e C dd tb0 v h (h'.update T (Obj.mapFields (·.setIfInBounds 3 v))) T := by
  have low : ∀ b o, (∀ T0, tb0 = .ref T0 → b ≠ T0) → h.get? b = some o → T ≠ b := fun b o hb q => by
    rcases N.new with z | z
    · exact (hb T z).symm
    · exact Nat.ne_of_gt (Nat.lt_of_lt_of_le (Heap.lt_size q) z)
  refine ⟨N.ex.keep fun o q => (Heap.get?_update_other _ _ hne).trans q, N.tb.put v, N.new, fun b o hb hb0 hn q => ?_, fun b o hb hb0 q => ?_⟩
  · exact (Heap.get?_update_other _ _ (low b o hb0 q)).trans (N.keep b o hb hb0 hn q)
  · obtain ⟨sl, q2⟩ := N.slot b o hb hb0 q
    exact ⟨sl, (Heap.get?_update_other _ _ (low b o hb0 q)).trans q2⟩
/-- noteFrame, then nothing in flight -/
theorem noted_ok {base : Heap} {env : Env} {outer : List Env} {L e C : Addr} {dd : Option Addr} {tb : Value} {Q : Unit → Shared → Prop} (hfr : A.frames = some (env :: outer)) (hl : s.heap.FunFrames base (env :: outer))
    (hf : env.frame = some L) (x : ExAt s.heap e C dd tb) (ht : tb = .none ∨ ∃ T0, tb = .ref T0 ∧ T0 ≠ e ∧ (TbAt s.heap T0 .none ∨ TbAt s.heap T0 (rawInt L)))
    (h : ∀ h' T, Noted (env :: outer) e C dd tb .none s.heap h' T → Q () { s with heap := h' }) :
    wpAny M A (noteFrame (.ref e) env) (fun _ s2 => wpAny M A (setFlight (.ref e) none) Q E s2) E s :=
  note_ok hfr hl hf x ht fun h' T hne N => setFlight_ok (s := { s with heap := h' }) N.ex N.tb (h _ T (N.fly hne))
end
end L2
namespace L2
open PySem PySem.Spec PyProof.Rows PySem.W PySem.Builtin PySem.Builtin.ObjectAttr

/-! ### a field of an exception of an own class is stored, read -/
def tailVE : List Value := [.type "ValueError", .type "Exception", .type "BaseException", .type "object"]
/-- own classes, then ValueError's line -/
inductive ExcMro : List Value → Prop where
  | ve : ExcMro tailVE
  | own {l : List Value} (c : Addr) (h : ExcMro l) : ExcMro (.ref c :: l)
theorem refuse_tail (self : Value) : refuseLoop self "__setattr__" tailVE = pure () := by kernel_rfl
theorem ExcMro.passes {l : List Value} (h : ExcMro l) (self : Value) : refuseLoop self "__setattr__" l = pure () := by
  induction h with
  | ve => exact refuse_tail self
  | own c _ ih => rw [refuseLoop_ref]; exact ih
theorem ExcMro.has {l : List Value} (h : ExcMro l) : l.contains (.type "object") = true ∧ l.contains (.type "BaseException") = true ∧ l.contains (.type "ValueError") = true ∧ l.isEmpty = false := by
  induction h with
  | ve => decide +kernel
  | own c _ ih =>
    obtain ⟨i1, i2, i3, _⟩ := ih
    exact ⟨by rw [List.contains_cons, i1, Bool.or_true], by rw [List.contains_cons, i2, Bool.or_true], by rw [List.contains_cons, i3, Bool.or_true], rfl⟩
/-- what of the text an exception class must have -/
structure XCls (K : Frag) (C : Addr) : Prop where
  cd : ∃ cd, clsIn K C = some cd ∧ ExcMro cd.mro ∧ cd.hasDict = true
  sa : findIn K (.ref C) "__setattr__" = some (some (.builtin "object.__setattr__"))
  ga : findIn K (.ref C) "__getattribute__" = some (some (.builtin "BaseException.__getattribute__"))
  gt : findIn K (.ref C) "__getattr__" = some none
  ca : findIn K (.ref C) "__class__" = some (some (.builtin "object.__class__"))
  hn : specialIn K (.builtin "object.__class__") "__get__" = some (some (.builtin "getset_descriptor.__get__"))
  tk : takesIn K (.builtin "object.__class__") = some true

section
variable {prog : Program} {w : World} {A : Around} {E : Value → Shared → Prop} {s : Shared} {K : Frag} {x C : Addr} {ox : Obj} {od : Option Obj} {R : Result → Shared → Prop}
theorem XCls.obj (c : XCls K C) (X : K.In s.heap) (I : InstAt s.heap x ox C od) (T : String) (hT : T = "object" ∨ T = "BaseException") : Looks (model prog w) s.heap (isInstance (.ref x) (.type T)) true := by
  obtain ⟨cd, hc, hm, _⟩ := c.cd
  obtain ⟨h1, h2, _, h4⟩ := hm.has
  refine I.type.andThen (looks_mroIn X ?_)
  unfold mroIn
  rw [hc, Option.bind_some, if_neg (by rw [h4]; decide)]
  rcases hT with rfl | rfl
  · rw [h1]
  · rw [h2]
theorem osa_exc {name : Str} {tk : Tok} {v : Value} (X : K.In s.heap) (I : InstAt s.heap x ox C od) (c : XCls K C) (ht : takerIn K C name = some none)
    (h : ∀ b, wpAny (model prog w) A.in1 (storeInOwnDict (.ref x) (.ref C) (.str name tk) name v b)
      (fun fin s' => match fin with | .done f => R (.ok f) s' | .again c' => c'.quiet = true ∧ codeAny (model prog w) A c' R s') (fun e s' => R (.error e) s') s) :
    codeAny (model prog w) A (.call (.builtin "object.__setattr__") ⟨[.ref x, .str name tk, v], []⟩) R s := by
  have SF := PySem.F.store_object
  obtain ⟨cd, hc, ho, _⟩ := id c.cd
  refine codeAny_call_builtin SF.slot.plain SF.entry (@check_slot (model prog w) _ _ s "object.__setattr__" "object" "__setattr__" (.ref x) [.str name tk, v] [] _ SF.kind SF.split (c.obj X I "object" (.inl rfl)) (SF.args (.ref x) (.str name tk) v) ?_)
  obtain ⟨attr, ha, hr⟩ := Option.bind_eq_some_iff.mp ht
  have hm : Looks (model prog w) s.heap (mroOf (.ref C)) cd.mro := (looks_clsIn X hc).andThen .now
  have L3 : Looks (model prog w) s.heap (storeTaker? attr) none := by
    cases attr with
    | none => exact .now
    | some a =>
      obtain ⟨b, hb, hz⟩ := Option.map_eq_some_iff.mp hr
      refine (looks_takesIn X hb).andThen ?_
      cases b with
      | false => exact .now
      | true => cases hz
  rw [osa_eq, refuse_eq]
  refine wpAny_bind (wpAny_bind (I.type.here (wpAny_bind (hm.here ?_))))
  rw [ho.passes]
  refine wpAny_pure (wpAny_bind (I.type.here (wpAny_bind ((looks_findIn X ha).here (wpAny_bind (L3.here ?_))))))
  exact h _
/-- x.f = v: the first field of the exception x: its dict is made -/
theorem exc_set_first {vs : Array Value} {sl : Array (Option Value)} {name : Str} {v : Value} {Q : Unit → Shared → Prop} (X : K.In s.heap) (c : XCls K C) (ht : takerIn K C name = some none) (hx : s.heap.get? x = some ⟨.ref C, none, .fields vs, sl⟩)
    (h : ∀ h' dx, s.heap.objs.size ≤ dx → h'.get? x = some ⟨.ref C, some dx, .fields vs, sl⟩ → h'.Ns1 dx (fun y => if y = name then some v else none) → (∀ b o, b ≠ x → s.heap.get? b = some o → h'.get? b = some o) → Q () { s with heap := h', toks := s.toks + 2 }) :
    wpAny (model prog w) A (setAttr (.ref x) name v) Q E s := by
  have I : InstAt s.heap x ⟨.ref C, none, .fields vs, sl⟩ C none := ⟨hx, rfl, rfl, True.intro⟩
  refine set_plain X I c.sa (osa_exc (s := { s with toks := s.toks + 1 }) X I c ht fun b => ?_)
  obtain ⟨cd, hc, _, hd'⟩ := c.cd
  refine wpAny_bind (wpAny_pure (wpAny_bind (wpAny_bind (wpAny_loadPart hx (wpAny_bind (Looks.here (s := { s with toks := s.toks + 1 }) (looks_clsIn X hc) ?_))))))
  rw [hd']
  have hne : s.heap.objs.size ≠ x := Nat.ne_of_gt (Heap.lt_size hx)
  have hx1 := Heap.get?_push_of_some (h := s.heap) ({ cls := .type "dict", data := .dict #[] } : Obj) hx
  have hx2 : ((s.heap.push { cls := .type "dict", data := .dict #[] }).update x fun o => { o with dict := some s.heap.objs.size }).get? x = some ⟨.ref C, some s.heap.objs.size, .fields vs, sl⟩ := by rw [Heap.get?_update_self _ hx1 rfl]
  have hd2 : ((s.heap.push { cls := .type "dict", data := .dict #[] }).update x fun o => { o with dict := some s.heap.objs.size }).get? s.heap.objs.size = some { cls := .type "dict", data := .dict #[] } := by
    rw [Heap.get?_update_other _ _ (Ne.symm hne)]
    exact Heap.get?_push_size _ rfl
  have n2 : ((s.heap.push { cls := .type "dict", data := .dict #[] }).update x fun o => { o with dict := some s.heap.objs.size }).Ns1 s.heap.objs.size (fun _ => none) :=
    Heap.Ns1.of_empty ⟨_, #[], _, hd2, rfl, (fun e he => absurd he (by simp)), fun _ => rfl⟩
  refine wpAny_bind (wpAny_alloc (wpAny_bind (wpAny_update hx1 (wpAny_pure (a := some s.heap.objs.size) (wpAny_bind (wpAny_pure (wpAny_bind ?_)))))))
  refine wpAny_nsSet1 (s := { s with toks := s.toks + 1, heap := (s.heap.push { cls := .type "dict", data := .dict #[] }).update x fun o => { o with dict := some s.heap.objs.size } }) n2 fun h' hn2 hs2 => ?_
  obtain ⟨oD, esD, epD, hoD, hdD, hcD⟩ := hn2.count (PySem.Within.cons (ns := []) name v (fun y hy => absurd rfl hy))
  refine wpAny_bind (wpAny_lookBehind hoD (by rw [hdD]; exact pastItsLine_dict (Nat.le_trans hcD (by show 1 ≤ sizeLine + 1; rw [sizeLine_eq]; omega))) ?_)
  refine wpAny_pure (h _ s.heap.objs.size (Nat.le_refl _) ((hs2.2 _ (Ne.symm hne)).trans hx2) hn2 fun b o hb q => ?_)
  have hbd : b ≠ s.heap.objs.size := Nat.ne_of_lt (Heap.lt_size q)
  rw [hs2.2 b hbd, Heap.get?_update_other _ _ (Ne.symm hb)]
  exact Heap.get?_push_of_some _ q
/-- x.f -/
theorem exc_get {vs : Array Value} {sl : Array (Option Value)} {dx : Addr} {mA : Str → Option Value} {name : Str} {v : Value} {expr : Bool} {Q : Value → Shared → Prop} (X : K.In s.heap) (c : XCls K C) (hx : s.heap.get? x = some ⟨.ref C, some dx, .fields vs, sl⟩)
    (hn : s.heap.Ns1 dx mA) (ha : findIn K (.ref C) name = some none) (hv : mA name = some v) (hv' : handedIn v = true) (h : Q v { s with toks := s.toks + 1 }) :
    wpAny (model prog w) A (getAttr (.ref x) name expr) Q E s := by
  obtain ⟨od, ho, hl⟩ := lookIn_ns hn
  have I : InstAt s.heap x ⟨.ref C, some dx, .fields vs, sl⟩ C (some od) := ⟨hx, rfl, rfl, ho⟩
  obtain ⟨cd, hc, hm, hd'⟩ := id c.cd
  have hh : hasDictIn K C = true := by unfold hasDictIn; rw [hc]; exact hd'
  have hf : findObj K C (some od) name = some (.value v) := findObj_own hh ha rfl (by rw [hl, hv])
  have hi := c.obj (prog := prog) (w := w) X I "BaseException" (.inr rfl)
  obtain ⟨hp, g, d, t, os⟩ := s
  have L0 := I.type (M := model prog w)
  have L1 := looks_findIn (M := model prog w) X c.ga
  have L2 := looks_findIn (M := model prog w) X c.gt
  have L3 := looks_find (M := model prog w) X I hf
  have sl := PySem.F.excAttr_ValueError.ga
  unfold getAttr getAttrBy
  refine wpAny_bind (wpAny_mkText (wpAny_holding (wpAny_bind (L0.at (wpAny_bind (L1.at ?_))))))
  show wpAny _ _ (getAttrByItsOwn _ _ _ _ _ _) _ _ _
  unfold getAttrByItsOwn hookBefore
  refine wpAny_bind (L2.at ?_)
  have hcg : callGetattribute (.ref x) (.str name t) (.builtin "BaseException.__getattribute__") expr = boundAndCalled (.builtin "BaseException.__getattribute__") (.ref x) (.str name t) := by cases expr <;> rfl
  rw [hcg]
  refine wpAny_bind (wpAny_attempt (wpAny_holding ?_))
  unfold boundAndCalled
  rw [sl.bind]
  refine wpAny_bind (wpAny_pure (wpAny_call (codeAny_call_builtin sl.plain PySem.F.entry_bexc_ga ?_)))
  refine @check_slot (model prog w) _ _ ⟨hp, g, d, t + 1, os⟩ "BaseException.__getattribute__" "BaseException" "__getattribute__" (.ref x) [.str name t] [] _ (by decide +kernel) (by decide +kernel) hi (PySem.F.args_bexc_ga _ _) ?_
  unfold Builtin.«object.__getattribute__»
  refine wpAny_bind (wpAny_pure (wpAny_bind (wpAny_pure (wpAny_bind (L0.at (wpAny_bind (L3.at ?_)))))))
  refine wpAny_pure ?_
  show wpAny _ _ (handedOut v) _ _ _
  rw [handedOut_of hv']
  exact wpAny_pure h
end
end L2
namespace L2
open PySem PySem.Spec PyProof.Rows PySem.W

/-! ### an exception of an own class with an own __init__ is made -/
section
variable {prog : Program} {w : World} {A : Around} {E : Value → Shared → Prop} {h : Heap} {g : Array GenState} {d : Drawn} {t : Nat} {os : OsState} {nm q : Str} {C N fI : Addr} {bs bm bmB rest : List Value} {hdct : Bool} {sn : List Str} {sub : List Value}
  {ab : Bool} {col : Option Bool} {dd : Option Addr} {k0 k1 k2 k3 k5 : Option Value} {B newId initId : String}
abbrev exObj (C : Addr) (t : Addr) : Obj := { cls := .ref C, data := .fields #[.ref t, .none, .none, .none, .bool false, .none] }
abbrev argObj (rest : List Value) : Obj := { cls := .type "tuple", data := .seq rest.toArray }
/-- the heap with the new exception -/
abbrev exHeap (h : Heap) (C : Addr) (rest : List Value) : Heap := (h.push (argObj rest)).push (exObj C h.objs.size)
theorem exc_tc (F : ExcBaseFacts B newId initId bmB) (T : OwnTail h bmB bm) (hC : h.get? C = some (excClassObj nm q C N bs bm hdct sn sub ab col dd k0 k1 k2 k3 k5 newId)) (hi : Looks (model prog w) h (typeLookup (.ref C) "__init__") (some (.ref fI)))
    (hb : ∀ self, Looks (model prog w) h (bindSpecial (.ref fI) self) (.ref fI, [self])) (hz : rest.length ≤ sizeLine) {Q : Fin → Shared → Prop}
    (hq : wpAny (model prog w) A (call (.ref fI) (.ref (h.objs.size + 1) :: rest)) (fun r s' => r = .none ∧ Q (.done (.ret (.ref (h.objs.size + 1)))) s') E ⟨exHeap h C rest, g, d, t, os⟩) :
    wpAny (model prog w) A (Builtin.«type.__call__» ⟨.ref C :: rest, []⟩) Q E ⟨h, g, d, t, os⟩ := by
  repeat (first | (with_reducible refine wpAny_loadPart_at hC ?_) | (with_reducible refine wpAny_madeBy_exc hC ?_) | wp_step)
  refine codeAny_call_builtin_code (Code.quiet_builtin _ F.quiet) (wpAny_check_new_subT F T hC (codeAny_exc_new_subT F T hC ?_ hz))
  show wpAny _ _ _ _ _ _
  have kp : ∀ b o, h.get? b = some o → (exHeap h C rest).get? b = some o := fun b o e => Heap.get?_push_of_some _ (Heap.get?_push_of_some _ e)
  have c1 := kp C _ hC
  have x1 : (exHeap h C rest).get? (h.objs.size + 1) = some (exObj C h.objs.size) := by heap_get
  have hcC : (Value.ref C :: bm).contains (.ref C) = true := by simp
  have i1 := hi.keeps kp
  have b1 := (hb (.ref (h.objs.size + 1))).keeps kp
  unfold isInstance
  repeat (first | (with_reducible refine wpAny_loadPart_at x1 ?_) | ((with_reducible refine wpAny_isSubtype_exc c1 ?_); rw [hcC]) | wp_step)
  show wpAny _ _ (typeLookup (.ref C) _) _ _ _
  refine i1.at ?_
  refine wpAny_holding (wpAny_bind (b1.at ?_))
  refine wpAny_bind (wpAny_mono hq (fun r s' hr => ?_) fun _ _ x => x)
  obtain ⟨rfl, hQ⟩ := hr
  wp_walk
  exact hQ
theorem exc_call (F : ExcBaseFacts B newId initId bmB) (T : OwnTail h bmB bm) (hC : h.get? C = some (excClassObj nm q C N bs bm hdct sn sub ab col dd k0 k1 k2 k3 k5 newId)) (hi : Looks (model prog w) h (typeLookup (.ref C) "__init__") (some (.ref fI)))
    (hb : ∀ self, Looks (model prog w) h (bindSpecial (.ref fI) self) (.ref fI, [self])) (hz : rest.length ≤ sizeLine) {Q : Value → Shared → Prop}
    (hq : wpAny (model prog w) (A.under (.builtin "type.__call__" ⟨.ref C :: rest, []⟩)) (call (.ref fI) (.ref (h.objs.size + 1) :: rest)) (fun r s' => r = .none ∧ Q (.ref (h.objs.size + 1)) s') E ⟨exHeap h C rest, g, d, t, os⟩) :
    wpAny (model prog w) A (call (.ref C) rest) Q E ⟨h, g, d, t, os⟩ := by
  have tl := tc_lookup
  have tb := tc_bind (.ref C)
  have hT : (⟨h, g, d, t, os⟩ : Shared).TypeIs (.ref C) "type" := ⟨_, hC, rfl⟩
  refine wpAny_call <| codeAny_of_tree (?_ : wpAny _ _ (callAny (.ref C) _) _ _ _)
  repeat (any_goals (first | assumption | (with_reducible refine wpAny_loadPart_at hC ?_) | wp_step))
  refine ⟨rfl, codeAny_call_builtin_at (Code.quiet_builtin _ (by decide +kernel)) entry_typeCall (wpAny_check_type_call_sub hC ?_)⟩
  exact exc_tc F T hC hi hb hz hq
end
end L2
namespace L2
open PySem PySem.Spec PyProof.Rows PySem.W
section
variable {M : Model} {A : Around} {E : Value → Shared → Prop} {h : Heap} {g : Array GenState} {d : Drawn} {t : Nat} {os : OsState} {nm q : Str} {C N : Addr} {bs bm : List Value} {hdct : Bool} {sn : List Str} {sub : List Value}
  {ab : Bool} {col : Option Bool} {dd : Option Addr} {k0 k1 k2 k3 k5 : Option Value} {newId : String} {env : Env}
theorem raise_inst {s : Shared} {x : Sem Value} {Q : Flow → Shared → Prop} (hbase : bm.contains (.type "BaseException") = true) (hh : A.handled = none)
    (hx : wpAny M A x (fun v s1 => ∃ e dx vs sl, v = .ref e ∧ s1.heap.get? C = some (excClassObj nm q C N bs bm hdct sn sub ab col dd k0 k1 k2 k3 k5 newId) ∧
      s1.heap.get? e = some ⟨.ref C, dx, .fields vs, sl⟩ ∧ vs[1]? = some .none ∧ E (.ref e) s1) E s) : wpAny M A (raiseStmt env (some x) none) Q E s := by
  have hcB : (Value.ref C :: bm).contains (.type "BaseException") = true := by rw [List.contains_cons, hbase, Bool.or_true]
  unfold raiseStmt
  refine wpAny_bind (wpAny_mono hx (fun v s1 ⟨e, dx, vs, sl, ev, hC, he, h1, hE⟩ => ?_) fun _ _ z => z)
  subst ev
  obtain ⟨hp, g, d, tk, os⟩ := s1
  repeat (first | (with_reducible refine wpAny_loadPart_at he ?_) | (with_reducible refine wpAny_loadPart_at hC ?_) | ((with_reducible refine wpAny_isSubtype_exc hC ?_); rw [hcB]) | wp_step)
  rw [h1]
  refine wpAny_pure ?_
  rw [if_neg (by decide)]
  exact wpAny_pure (wpAny_raiseNew_none hh hE)
variable {nm2 q2 : Str} {D N2 : Addr} {bs2 bm2 : List Value} {hdct2 : Bool} {sn2 : List Str} {sub2 : List Value} {ab2 : Bool} {col2 : Option Bool} {dd2 : Option Addr} {j0 j1 j2 j3 j5 : Option Value} {newId2 : String}
/-- except D: the exception is of the class C -/
theorem exc_match {e : Addr} {oe : Obj} {r : Bool} {Q : Bool → Shared → Prop} (hC : h.get? C = some (excClassObj nm q C N bs bm hdct sn sub ab col dd k0 k1 k2 k3 k5 newId))
    (hD : h.get? D = some (excClassObj nm2 q2 D N2 bs2 bm2 hdct2 sn2 sub2 ab2 col2 dd2 j0 j1 j2 j3 j5 newId2)) (he : h.get? e = some oe) (hcls : oe.cls = .ref C) (hbase : bm2.contains (.type "BaseException") = true)
    (hr : (Value.ref C :: bm).contains (.ref D) = r) (hq : Q r ⟨h, g, d, t, os⟩) : wpAny M A (excMatches (.ref e) (.ref D)) Q E ⟨h, g, d, t, os⟩ := by
  have hcB : (Value.ref D :: bm2).contains (.type "BaseException") = true := by rw [List.contains_cons, hbase, Bool.or_true]
  have f := tc_notTuple
  unfold excMatches
  repeat (first | ((with_reducible refine wpAny_loadPart_at he ?_); rw [hcls]) | (with_reducible refine wpAny_loadPart_at hD ?_) | ((with_reducible refine wpAny_isSubtype_exc hD ?_); rw [hcB]) | ((with_reducible refine wpAny_isSubtype_exc hC ?_); rw [hr]) | wp_step)
  cases r <;> (wp_walk; exact hq)
end
end L2
namespace L2
open PySem PySem.Spec PyProof.Rows PySem.W

/-! ### exceptions in the abstract heap -/
/-- an exception that was made and not yet raised; one that has been raised; its dict -/
def FxO (e C : Addr) (dd : Option Addr) : HO := .ext fun h => ExAt h e C dd .none
def ExcO (e C : Addr) (dd : Option Addr) : HO := .ext fun h => ∃ tb, ExAt h e C dd tb
def XdO (dx : Addr) (fs : List (Str × V)) : HO := .ext fun h => ∃ mA, h.Ns1 dx mA ∧ (∀ f, RelO (fs.lookup f) (mA f)) ∧ PySem.Within mA (fs.map (·.1))
section
variable {P : Program} {w : World} {H : Hp} {h : Heap} {e C dx : Addr} {dd : Option Addr} {tb : Value} {fs : List (Str × V)}
theorem ExAt.some (x : ExAt h e C dd tb) : ∃ o, h.get? e = some o := let ⟨_, _, q, _⟩ := x; ⟨_, q⟩
theorem fx_ok (x : ExAt h e C dd .none) : ObjOk P w H h e (FxO e C dd) := ⟨x, x.some, fun _ _ y k => ExAt.keep y k⟩
theorem exc_ok (x : ExAt h e C dd tb) : ObjOk P w H h e (ExcO e C dd) := ⟨⟨tb, x⟩, x.some, fun _ _ ⟨t, y⟩ k => ⟨t, ExAt.keep y k⟩⟩
theorem xd_ok {mA : Str → Option Value} (n : h.Ns1 dx mA) (r : ∀ f, RelO (fs.lookup f) (mA f)) (q : PySem.Within mA (fs.map (·.1))) : ObjOk P w H h dx (XdO dx fs) :=
  ⟨⟨mA, n, r, q⟩, let ⟨o, _, _, z, _⟩ := n; ⟨o, z⟩, fun _ _ ⟨m, n, r, q⟩ k => ⟨m, n.at k, r, q⟩⟩
theorem fx_get (hok : HOk P w H h) (q : H e = some (FxO e C dd)) : ExAt h e C dd .none := (show ObjOk P w H h e (FxO e C dd) from hok e _ q).1
theorem exc_at (hok : HOk P w H h) (q : H e = some (ExcO e C dd)) : ∃ tb, ExAt h e C dd tb := (show ObjOk P w H h e (ExcO e C dd) from hok e _ q).1
theorem xd_get (hok : HOk P w H h) (q : H dx = some (XdO dx fs)) : ∃ mA, h.Ns1 dx mA ∧ (∀ f, RelO (fs.lookup f) (mA f)) ∧ PySem.Within mA (fs.map (·.1)) := (show ObjOk P w H h dx (XdO dx fs) from hok dx _ q).1
theorem upd_self {a : Addr} {o : HO} (q : H a = some o) : upd H a o = H := by
  funext b
  by_cases hb : b = a
  · subst hb; rw [upd_same, q]
  · rw [upd_ne hb]
end
/-- the traceback's head, behind a raise: none, or a record of ours that nothing else knows -/
def TbOk (X : Cx) (pins : List (Addr × Obj)) (H : Hp) (s : Shared) (tb : Value) : Prop :=
  tb = .none ∨ ∃ T, tb = .ref T ∧ H T = none ∧ X.s₀.heap.objs.size ≤ T ∧ (∀ p ∈ X.pn ++ pins, p.1 ≠ T) ∧ (TbAt s.heap T .none ∨ TbAt s.heap T (rawInt X.env.locals))
section
variable {X : Cx} {pins : List (Addr × Obj)} {σ : St} {H : Hp} {s : Shared} {h' : Heap} {ea C T : Addr} {dd : Option Addr} {tb : Value}
theorem Inv.locNe (I : Inv X pins σ H s) {a : Addr} {o : Obj} {vs : Array Value} (q : s.heap.get? a = some o) (d : o.data = .fields vs) : a ≠ X.env.locals ∧ ∀ x c, X.env.cells.lookup x = some c → c ≠ a := by
  refine ⟨fun z => ?_, fun x c e z => ?_⟩
  · obtain ⟨m, ⟨o', es, ep, ho', hd', _⟩, _⟩ := I.loc
    rw [z, ho'] at q; cases q; rw [hd'] at d; cases d
  · obtain ⟨v, o', ho', hd'⟩ := I.cell x c e
    rw [z, q] at ho'; cases ho'; rw [d] at hd'; cases hd'
theorem tb_new (I : Inv X pins σ H s) (ht : TbOk X pins H s tb) (N : tb = .ref T ∨ s.heap.objs.size ≤ T) : H T = none ∧ X.s₀.heap.objs.size ≤ T ∧ ∀ p ∈ X.pn ++ pins, p.1 ≠ T := by
  rcases N with rfl | N
  · rcases ht with z | ⟨T0, z, a, b, c, _⟩
    · cases z
    · cases z
      exact ⟨a, b, c⟩
  · refine ⟨I.hok.fresh N, Nat.le_trans I.sz N, fun p hp z => ?_⟩
    have := Heap.lt_size (I.pin p hp).1
    rw [z] at this
    exact absurd (Nat.lt_of_lt_of_le this N) (Nat.lt_irrefl _)
theorem Inv.noted {fl : Value} (I : Inv X pins σ H s) (hs : X.stack = X.env :: X.outer) (hf : X.env.frame = some X.env.locals) (mu : Mut (H ea)) (x : ExAt s.heap ea C dd tb) (ht : TbOk X pins H s tb)
    (N : Noted (X.env :: X.outer) ea C dd tb fl s.heap h' T) : Inv X pins σ (upd H ea (ExcO ea C dd)) { s with heap := h' } := by
  have nea : ∀ b, H b = none → b ≠ ea := fun b n z => by subst z; rw [n] at mu; exact mu
  have nmu : ∀ b u, H b = some u → ¬ Mut (some u) → b ≠ ea := fun b u q nm z => by subst z; rw [q] at mu; exact nm mu
  have mem : ∀ b, b ∈ frs (X.env :: X.outer) → b = X.env.locals ∨ b ∈ X.fs := fun b hb => by
    unfold frs at hb
    rw [List.filterMap_cons, hf] at hb
    exact List.mem_cons.mp hb
  have frn : ∀ b, b ∈ frs (X.env :: X.outer) → H b = none := fun b hb => I.stkFree b (by rw [hs]; exact hb)
  have step : ∀ ch : List Addr, (∀ b ∈ ch, (b ∈ X.ex ∨ X.s₀.heap.objs.size ≤ b) ∧ b ≠ X.env.locals ∧ (∀ x c, X.env.cells.lookup x = some c → c ≠ b) ∧ ∀ p ∈ X.pn ++ pins, p.1 ≠ b) → (∀ T0, tb = .ref T0 → T0 ∈ ch ∧ H T0 = none) →
      Inv X pins σ (upd H ea (ExcO ea C dd)) { s with heap := h' } := by
    intro ch hch hT
    have nT : ∀ b, b ∉ ch → ∀ T0, tb = .ref T0 → b ≠ T0 := fun b hb T0 e z => hb (z ▸ (hT T0 e).1)
    have nT' : ∀ b u, H b = some u → ∀ T0, tb = .ref T0 → b ≠ T0 := fun b u q T0 e z => by
      rw [z, (hT T0 e).2] at q; cases q
    refine I.step (g' := s.gens) (d' := s.drawn) (t' := s.toks) (ch := ch) hch (fun b o hL hb hc q n => ?_) (fun b o hL hb hc q n => N.slot b o (nea b n) (nT b hc) q) (fun b o _ _ n => by rw [upd_ne (nea b n)]; exact n)
      (fun b o hc q => ?_) (fun b xs q => by rw [upd_ne (nmu b _ q fun z => z)]; exact q) (fun b o u q => by rw [upd_ne (nmu b _ q fun z => z)]; exact q) (fun b ps q => ⟨#[], by rw [upd_ne (nmu b _ q fun z => z), q]; simp⟩) (fun m hm => ?_) (fun b u q => ?_) I.bare
    · exact N.keep b o (nea b n) (nT b hc) (fun z => (mem b z).elim hL hb) q
    · by_cases hb : b = ea
      · subst hb; exact N.ex.some
      · obtain ⟨sl, e⟩ := N.slot b o hb (nT b hc) q
        exact ⟨_, e⟩
    · obtain ⟨o, es, ep, ho, r⟩ := hm
      have hL : X.env.locals ∉ ch := fun z => (hch _ z).2.1 rfl
      obtain ⟨sl, e⟩ := N.slot _ o (nea _ I.free) (nT _ hL) ho
      exact ⟨_, es, ep, e, r⟩
    · by_cases hb : b = ea
      · subst hb
        rw [upd_same] at q
        cases q
        exact exc_ok N.ex
      · rw [upd_ne hb] at q
        have own : ∀ c, H c = some (.own b) → c ≠ ea := fun c r => nmu c _ r fun z => z
        have all : ∀ c v u, H c = some v → c ≠ ea → s.heap.get? c = some u → h'.get? c = some u := fun c v u e hc q' =>
          N.keep c u hc (nT' c v e) (fun z => by rw [frn c z] at e; cases e) q'
        refine (I.hok b u q).stay (fun c v hc r => ?_) (fun c r => by rw [upd_ne (own c r)]; exact r) fun c xs r => by rw [upd_ne (nmu c _ r fun z => z)]; exact r
        rcases hc with z | z
        · exact all c u v (by rw [z]; exact q) (by rw [z]; exact hb) r
        · exact all c _ v z (own c z) r
  rcases ht with rfl | ⟨T0, rfl, n0, b0, p0, t0⟩
  · exact step [] (fun _ z => nomatch z) fun _ z => by cases z
  · have t1 : ∃ oT ts, s.heap.get? T0 = some oT ∧ oT.data = .fields ts := by
      rcases t0 with ⟨oT, ts, qT, dT, _⟩ | ⟨oT, ts, qT, dT, _⟩ <;> exact ⟨oT, ts, qT, dT⟩
    obtain ⟨oT, ts, qT, dT⟩ := t1
    obtain ⟨l1, l2⟩ := I.locNe qT dT
    refine step [T0] (fun b hb => ?_) fun T1 z => by cases z; exact ⟨by simp, n0⟩
    obtain rfl : b = T0 := by simpa using hb
    exact ⟨.inr b0, l1, l2, p0⟩
end

/-! ### how an exception lies behind a call; within a body -/
def CXw (P : Program) (w : World) : CXT := fun outer H s E e s' => ∃ ea C dd T H', e = .ref ea ∧ s'.os = s.os ∧ AllBare s'.gens ∧ Un (frs outer) [] H H' s.heap s'.heap ∧ HOk P w H' s'.heap ∧ H' ea = some (ExcO ea C dd) ∧
  ExAt s'.heap ea C dd (.ref T) ∧ TbAt s'.heap T .none ∧ H' T = none ∧ s.heap.objs.size ≤ T ∧ E (.ref ea) dd H'
def XP (X : Cx) (pins : List (Addr × Obj)) (σ : St) (E : XK) (e : Value) (s' : Shared) : Prop := ∃ ea C dd tb H', e = .ref ea ∧ Inv X pins σ H' s' ∧ Mut (H' ea) ∧ ExAt s'.heap ea C dd tb ∧ TbOk X pins H' s' tb ∧ E (.ref ea) dd (upd H' ea (ExcO ea C dd))
/-- what leaves is as this body wants it -/
def Leaves (X : Cx) (E : XK) : Prop := ∀ (pins : List (Addr × Obj)) (σ : St) (e : Value) (s' : Shared), XP X pins σ E e s' → X.xe e s'
section
variable {X : Cx} {pins : List (Addr × Obj)} {σ : St} {H : Hp} {s s' : Shared} {E : XK} {e : Value}
theorem xp_call (I : Inv X pins σ H s) (h : CXw X.prog X.w X.stack H s E e s') : XP X pins σ E e s' := by
  obtain ⟨ea, C, dd, T, H', rfl, os, bare, un, hok, he, x, t, nT, hT, q⟩ := h
  refine ⟨ea, C, dd, .ref T, H', rfl, I.call' os un hok bare (fun _ z => nomatch z), by rw [he]; trivial, x, .inr ⟨T, rfl, nT, Nat.le_trans I.sz hT, fun p hp z => ?_, .inl t⟩, by rw [upd_self he]; exact q⟩
  have := Heap.lt_size (I.pin p hp).1
  rw [z] at this
  exact absurd (Nat.lt_of_lt_of_le this hT) (Nat.lt_irrefl _)
theorem passes_of (l : Leaves X E) : Passes (CXw X.prog X.w) X E := fun pins σ H s e s' I h => l pins σ e s' (xp_call I h)
/-- a def's own frame is left -/
theorem leaves_fn {P : Program} {w : World} {K : PySem.W.Frag} {mg : Str → Option Value} {base : Heap} {N : List Str} {qual : Str} {scope : Scope} {f : Addr} {cd : Value} {A : Around} {outer : List Env} {s : Shared} {H : Hp} {E : XK} :
    Leaves (cxOf (CXw P w) P w K mg base N qual scope f cd A outer s H E) E := by
  rintro pins σ e s' ⟨ea, C, dd, tb, H', rfl, I, mu, x, ht, q⟩
  show wpAny _ _ (leaving _ _) _ _ _
  unfold leaving
  have hfr := I.ok.frames
  have ne : ∀ T0, H' T0 = none → T0 ≠ ea := fun T0 n z => by subst z; rw [n] at mu; exact mu
  refine wpAny_bind (noted_ok (A := A.deeper (envOfC qual scope s.heap.objs.size f cd)) (base := base) (env := envOfC qual scope s.heap.objs.size f cd) (outer := outer) hfr I.stack rfl x ?_ fun h' T Nt => ?_)
  · rcases ht with z | ⟨T0, z, n0, _, _, t0⟩
    · exact .inl z
    · exact .inr ⟨T0, z, ne T0 n0, t0⟩
  · have J := I.noted rfl rfl mu x ht Nt
    obtain ⟨nT, hT, _⟩ := tb_new I ht Nt.new
    exact ⟨ea, C, dd, T, upd H' ea (ExcO ea C dd), rfl, J.os, J.bare, J.base, J.hok, upd_same, Nt.ex, Nt.tb, by rw [upd_ne (ne T nT)]; exact nT, hT, q⟩
end
end L2
namespace L2
open PySem PySem.Spec PyProof.Rows PySem.W

/-! ### an own class of exceptions, by the text -/
/-- the class object; its mro behind it -/
def XOb (K : Frag) (C : Addr) (bm : List Value) : Prop := ∃ nm q N bs hdct sn sub ab col dd k0 k1 k2 k3 k5, K.lookup C = some (excClassObj nm q C N bs bm hdct sn sub ab col dd k0 k1 k2 k3 k5 "ValueError.__new__")
structure XMk (K : Frag) (C : Addr) (bm : List Value) (f : Addr) : Prop where
  ob : XOb K C bm
  tl : tailIn K tailVE bm = true
  init : findIn K (.ref C) "__init__" = some (some (.ref f))
  fn : isFn K (.ref f) = true
  kp : keepIn K (.ref C) = true
/-- C(..), an own exception with an own __init__ -/
def tExc (C : Addr) (sp : Sp) (dvs : List V) (E : XK) (t : TA) : TE := fun σ H Q => t σ H fun vs H1 => ∀ x, H1 x = none →
  sp (.ref x :: (vs ++ dvs)) (upd H1 x (FxO x C none)) (fun v H2 => v = .non ∧ Q (.ref x) H2) E
section
variable {X : Cx} {CX : CXT} {k : Nat} {f C : Addr} {bm : List Value} {fd : FuncData} {ps : List Str} {sp : Sp} {dvs : List V} {ds : List Value} {E : XK} {x m : Str} {p pos apos : Pos} {e o : Expr} {es : List Expr} {ta : TE} {t : TA}
theorem run_exc {pins : List (Addr × Obj)} {σ : St} {H : Hp} {s : Shared} {Q : VK} {us : List Value} {vs : List V} (M : XMk X.K C bm f) {cc : Bool} (F : FnOk X.prog X.w X.K X.mg X.base CX k f fd ps sp cc) (hr : Room (k + 1) X.A cc) (hb : Binds X.K fd ps ds) (hd : Vals dvs ds)
    (hx : Passes CX X E) (hz : ps.length ≤ 1000) (I : Inv X pins σ H s) (r : Vals vs us)
    (h : ∀ x, H x = none → sp (.ref x :: (vs ++ dvs)) (upd H x (FxO x C none)) (fun v H2 => v = .non ∧ Q (.ref x) H2) E) :
    wpAny (model X.prog X.w) X.A (call (.ref C) us) (EP X pins σ Q) X.xe s := by
  have hq := h (s.heap.objs.size + 1) (I.hok.fresh (Nat.le_succ _))
  have I1 := I.kept (h' := s.heap.push (argObj us)) (t' := s.toks) (fun b u e => Heap.get?_push_of_some _ e)
  have hx1 : (exHeap s.heap C us).get? (s.heap.objs.size + 1) = some (exObj C s.heap.objs.size) := by heap_get
  have I2 : Inv X pins σ (upd H (s.heap.objs.size + 1) (FxO (s.heap.objs.size + 1) C none)) { s with heap := exHeap s.heap C us } :=
    I1.laid (a := s.heap.objs.size + 1) (o := FxO (s.heap.objs.size + 1) C none) (h' := exHeap s.heap C us) (t' := s.toks) (fun b u e => Heap.get?_push_of_some _ e) (by show (s.heap.push (argObj us)).objs.size ≤ _; rw [Heap.size_push]; exact Nat.le_refl _)
      (fx_ok ⟨_, _, hx1, rfl, rfl, rfl⟩)
  have r2 : Vals (V.ref (s.heap.objs.size + 1) :: (vs ++ dvs)) (Value.ref (s.heap.objs.size + 1) :: (us ++ ds)) := .cons rfl (r.append hd)
  have hl : (Value.ref (s.heap.objs.size + 1) :: us ++ ds).length = ps.length := by
    have e := r2.length
    rw [F.len _ _ _ _ hq] at e
    exact e.symm
  have hus : us.length ≤ sizeLine := by
    rw [sizeLine_eq]
    simp only [List.cons_append, List.length_cons, List.length_append] at hl
    omega
  obtain ⟨nm, q, N, bs, hdct, sn, sub, ab, col, dd, k0, k1, k2, k3, k5, ho⟩ := M.ob
  obtain ⟨hp, g, d, tk, os⟩ := s
  refine exc_call PySem.F.excBase_ValueError (tail_of_in I.kIn M.tl) (I.kIn _ _ ho) (looks_findIn I.kIn M.init) (fun self => bind_fn I.kIn self (beq_iff_eq.mp M.fn)) hus ?_
  refine wpAny_call (codeAny_mono (F.run _ X.stack _ _ ⟨Value.ref (hp.objs.size + 1) :: us, []⟩ (Value.ref (hp.objs.size + 1) :: (us ++ ds)) _ _ E (hr.make C us []) (I2.env0.make C us []) (hb _ (Value.ref (hp.objs.size + 1) :: us) I2.kIn hl) r2 hq) fun r s' hq' => ?_)
  cases r with
  | error e => exact hx pins σ _ _ e s' I2 hq'
  | ok fl =>
    cases fl with
    | ret u =>
      obtain ⟨v, H', I3, rv, ev, q3⟩ := I2.after hq'
      subst ev
      exact ⟨rv, ⟨V.ref (hp.objs.size + 1), H', I3, rfl, q3⟩⟩
    | next => exact False.elim hq'
    | brk => exact False.elim hq'
    | cont => exact False.elim hq'
theorem pe_exc (M : XMk X.K C bm f) {cc : Bool} (F : FnOk X.prog X.w X.K X.mg X.base CX k f fd ps sp cc) (hr : Room (k + 1) X.A cc) (hg : Gl X x) (hm : X.mg x = some (.ref C)) (hb : Binds X.K fd ps ds) (hd : Vals dvs ds) (hx : Passes CX X E)
    (ha : PA X (e :: es) t) (hz : ps.length ≤ 1000 := by decide) (hdb : (x == ("__debug__" : Str)) = false := by decide) (he : starEach (e :: es) X.env = (false, eval e X.env) :: starEach es X.env := by rfl) (hpl : (backTo pos (starEach es X.env)).any (·.1) = false := by rfl) :
    PE X (.Call (.Name x p) (e :: es) [] pos) (tExc C sp dvs E t) := by
  intro pins s σ H Q I h
  refine wpAny_Call_Name_kw (ld_glob I hg hm ?_ hdb)
  refine PySem.W.callWith_K (h₀ := X.base) I.ok.mod.kin M.kp (thn (ha pos pins s σ H _ I h) fun us s1 ⟨vs, H1, I1, r, q⟩ => ⟨I1.kIn, ?_⟩) he hpl
  exact run_exc M F hr hb hd hx hz I1 r q
/-- raise e -/
def tRaise (C : Addr) (te : TE) (E : XK) : TS := fun _ σ H => te σ H fun v H1 => ∃ ea dd, v = .ref ea ∧ H1 ea = some (FxO ea C dd) ∧ E (.ref ea) dd (upd H1 ea (ExcO ea C dd))
theorem ps_raise (ob : XOb X.K C bm) (hbm : bm.contains (.type "BaseException") = true) (hh : X.A.handled = none) (hl : Leaves X E) (he : PE X e ta) : PS X (.Raise (some e) none pos) (tRaise C ta E) := by
  intro pins s σ H D I h
  obtain ⟨nm, q, N, bs, hdct, sn, sub, ab, col, dd0, k0, k1, k2, k3, k5, ho⟩ := ob
  rw [arm_exec_Raise]
  refine wpAny_bind (wpAny_standAt (raise_inst (C := C) (nm := nm) (q := q) (N := N) (bs := bs) (bm := bm) (hdct := hdct) (sn := sn) (sub := sub) (ab := ab) (col := col) (dd := dd0) (k0 := k0) (k1 := k1) (k2 := k2) (k3 := k3) (k5 := k5) (newId := "ValueError.__new__") hbm hh ?_))
  refine wpAny_bind (thn (he pins s σ H _ I h) fun u s1 ⟨v, H1, I1, r, ea, dd, ev, hH, q⟩ => ?_)
  subst ev
  cases (show u = Value.ref ea from r)
  refine wpAny_bind (wpAny_standAt (wpAny_pure ?_))
  have x1 := fx_get I1.hok hH
  obtain ⟨vs, sl, q1, z, q2, _⟩ := id x1
  exact ⟨ea, dd, vs, sl, rfl, I1.kIn _ _ ho, q1, q2, hl pins σ _ _ ⟨ea, C, dd, .none, H1, rfl, I1, by rw [hH]; trivial, x1, .inl rfl, q⟩⟩
end

/-! ### its fields -/
section
variable {X : Cx} {pins : List (Addr × Obj)} {σ : St} {H : Hp} {s : Shared} {a C dx : Addr} {fs : List (Str × V)} {f : Str} {A : Around} {E : Value → Shared → Prop}
theorem xset1_ok {y : V} {u : Value} {Q : Unit → Shared → Prop} (I : Inv X pins σ H s) (e : H a = some (FxO a C none)) (c : XCls X.K C) (n : takerIn X.K C f = some none) (ry : RelV y u)
    (h : ∀ s' dx, H dx = none → Inv X pins σ (upd (upd H dx (XdO dx [(f, y)])) a (FxO a C (some dx))) s' → Q () s') : wpAny (model X.prog X.w) A (setAttr (.ref a) f u) Q E s := by
  obtain ⟨vs, sl, q, z, q1⟩ := fx_get I.hok e
  refine exc_set_first I.kIn c n q fun h' dx hdx hx hn k => ?_
  have nd := I.hok.fresh hdx
  have mu : Mut (H a) := by rw [e]; trivial
  have hda : dx ≠ a := Nat.ne_of_gt (Nat.lt_of_lt_of_le (Heap.lt_size q) hdx)
  have na : ∀ b, H b = none → b ≠ a := fun b n z => by subst z; rw [n] at mu; exact mu
  have nmu : ∀ b u, H b = some u → ¬ Mut (some u) → b ≠ a := fun b u qb nm z => by subst z; rw [qb] at mu; exact nm mu
  have nd' : ∀ b u, H b = some u → b ≠ dx := fun b u q z => by rw [z, nd] at q; cases q
  refine h _ dx nd (I.un (t' := s.toks + 2) (h' := h') ⟨fun b o q n _ _ => k b o (na b n) q, fun b o q n _ _ => ⟨o.slots, k b o (na b n) q⟩, fun b o q n _ => ?_, fun b o q _ => ?_, fun b xs q => ?_, fun b o u q => ?_, fun b ps q => ⟨#[], ?_⟩⟩ fun b u q => ?_)
  · rw [upd_ne (na b n), upd_ne (Nat.ne_of_lt (Nat.lt_of_lt_of_le (Heap.lt_size q) hdx))]; exact n
  · by_cases hb : b = a
    · subst hb; exact ⟨_, hx⟩
    · exact ⟨o, k b o hb q⟩
  · rw [upd_ne (nmu b _ q fun z => z), upd_ne (nd' b _ q)]; exact q
  · rw [upd_ne (nmu b _ q fun z => z), upd_ne (nd' b _ q)]; exact q
  · rw [upd_ne (nmu b _ q fun z => z), upd_ne (nd' b _ q), q]; simp
  · by_cases hb : b = a
    · subst hb
      rw [upd_same] at q
      cases q
      exact fx_ok ⟨vs, sl, hx, z, q1⟩
    · rw [upd_ne hb] at q
      by_cases hbd : b = dx
      · subst hbd
        rw [upd_same] at q
        cases q
        refine xd_ok hn (fun g => ?_) fun g hg => ?_
        · show RelO (List.lookup g [(f, y)]) (if g = f then some u else none)
          by_cases hgf : g = f
          · have hb : (g == f) = true := beq_iff_eq.mpr hgf
            simp only [List.lookup, hb, if_pos hgf]
            exact ry
          · have hb : (g == f) = false := beq_eq_false_iff_ne.mpr hgf
            simp only [List.lookup, hb, if_neg hgf]
            trivial
        · by_cases hgf : g = f
          · subst hgf; simp
          · exact absurd (if_neg hgf) hg
      · rw [upd_ne hbd] at q
        have own : ∀ c, H c = some (.own b) → c ≠ a := fun c r => nmu c _ r fun z => z
        refine (I.hok b u q).stay (fun c v hc r => k c v ?_ r) (fun c r => by rw [upd_ne (own c r), upd_ne (nd' c _ r)]; exact r) fun c xs r => by rw [upd_ne (nmu c _ r fun z => z), upd_ne (nd' c _ r)]; exact r
        rcases hc with z | z
        · rw [z]; exact hb
        · exact own c z
theorem xget_ok {b : Bool} {v : V} {Q : Value → Shared → Prop} (I : Inv X pins σ H s) (e : H a = some (ExcO a C (some dx))) (ed : H dx = some (XdO dx fs)) (c : XCls X.K C) (n : NoAttr X.K C f) (l : fs.lookup f = some v)
    (h : ∀ u s', Inv X pins σ H s' → RelV v u → Q u s') : wpAny (model X.prog X.w) A (getAttr (.ref a) f b) Q E s := by
  obtain ⟨tb, vs, sl, q, z, q1⟩ := exc_at I.hok e
  obtain ⟨mA, hn, r, wi⟩ := xd_get I.hok ed
  obtain ⟨u, hu, ru⟩ := RelO.some_of (v := v) (o := mA f) (by rw [← l]; exact r f)
  exact exc_get I.kIn c q hn n hu (handed_of ru) (h u _ (I.tok _) ru)
end
/-- self.f = value, the exception's first field; a further one -/
def sXf1 (K : Frag) (ta tv : TE) (f : Str) : TS := fun D σ H => tv σ H fun y H1 => ta σ H1 fun x H2 => ∃ a C, x = .ref a ∧ H2 a = some (FxO a C none) ∧ XCls K C ∧ takerIn K C f = some none ∧
  ∀ dx, H2 dx = none → D.nx σ (upd (upd H2 dx (XdO dx [(f, y)])) a (FxO a C (some dx)))
/-- e.f of a raised exception -/
def tXf (K : Frag) (ta : TE) (f : Str) : TE := fun σ H Q => ta σ H fun x H1 => ∃ a C dx fs v, x = .ref a ∧ H1 a = some (ExcO a C (some dx)) ∧ H1 dx = some (XdO dx fs) ∧ XCls K C ∧ NoAttr K C f ∧ fs.lookup f = some v ∧ Q v H1
section
variable {X : Cx} {o e value : Expr} {f : Str} {pos pos' tpos : Pos} {ta tv : TE}
theorem ps_xf1 (ha : PE X o ta) (hv : PE X value tv) (hs : swapsWith value (some (.Attribute o f pos')) pos.line X.env = pure false) : PS X (.Assign [.Attribute o f pos'] value pos) (sXf1 X.K ta tv f) := by
  intro pins s σ H D I h
  refine plainObj_wpAny_Assign_Attribute (thn (hv pins s σ H _ I h) fun u s1 ⟨y, H1, I1, ry, q⟩ => thn (ha pins s1 σ H1 _ I1 q) fun ov s2 ⟨x, H2, I2, rx, a, C, ex, ea, c, n, q2⟩ => ?_) hs
  subst ex
  cases (show ov = Value.ref a from rx)
  exact xset1_ok I2 ea c n ry fun s3 dx hd I3 => ⟨σ, _, I3, q2 dx hd⟩
theorem pe_xf (he : PE X e ta) (hb : attributeBase e f X.env (eval e X.env) = eval e X.env) : PE X (.Attribute e f pos) (tXf X.K ta f) := by
  intro pins s σ H Q I h
  refine attr_of hb (thn (he pins s σ H _ I h) fun u s1 ⟨x, H1, I1, rx, a, C, dx, fs, v, ex, ea, ed, c, n, l, q⟩ => ?_)
  subst ex
  cases (show u = Value.ref a from rx)
  exact xget_ok I1 ea ed c n l fun u' s2 I2 ru => ⟨v, H1, I2, ru, q⟩
end
/-! ### an own exception class without an __init__ of its own -/
theorem ObjOk.there {P : Program} {w : World} {H : Hp} {h : Heap} {a : Addr} {o : HO} (x : ObjOk P w H h a o) : ∃ u, h.get? a = some u := by
  cases o with
  | lst xs => obtain ⟨_, _, _, _, e⟩ := x; exact ⟨_, e⟩
  | tup xs => obtain ⟨_, _, _, ob, e, _⟩ := x; exact ⟨_, e⟩
  | dK kvs => obtain ⟨_, _, _, _, o, _, _, e, _⟩ := x; exact ⟨_, e⟩
  | dT kvs => obtain ⟨_, _, _, _, o, _, _, e, _⟩ := x; exact ⟨_, e⟩
  | set S n => obtain ⟨o, _, _, _, e, _⟩ := x; exact ⟨_, e⟩
  | ins C dx fs => obtain ⟨_, _, _, e, _⟩ := x; exact ⟨_, e⟩
  | own y => exact x
  | xd fs => obtain ⟨_, ⟨_, _, _, e, _⟩, _⟩ := x; exact ⟨_, e⟩
  | rng lo hi => obtain ⟨_, _, _, e⟩ := x; exact ⟨_, e⟩
  | frz ob u => exact ⟨_, x.1⟩
  | tbl ps => exact ⟨_, x⟩
  | met f y => exact ⟨_, x⟩
  | ext φ => exact x.2.1
section
variable {X : Cx} {C : Addr} {bm : List Value} {x : Str} {p pos : Pos}
structure XMk0 (K : Frag) (C : Addr) (bm : List Value) : Prop where
  ob : XOb K C bm
  tl : tailIn K tailVE (.ref C :: bm) = true
  kp : keepIn K (.ref C) = true
def tExc0 (C : Addr) : TE := fun _ H Q => ∀ x, H x = none → Q (.ref x) (upd H x (FxO x C none))
theorem run_exc0 {pins : List (Addr × Obj)} {σ : St} {H : Hp} {s : Shared} {Q : VK} (M : XMk0 X.K C bm) (I : Inv X pins σ H s) (h : ∀ x, H x = none → Q (.ref x) (upd H x (FxO x C none))) :
    wpAny (model X.prog X.w) X.A (call (.ref C) []) (EP X pins σ Q) X.xe s := by
  obtain ⟨nm, q, N, bs, hdct, sn, sub, ab, col, dd, k0, k1, k2, k3, k5, ho⟩ := M.ob
  have T := tail_of_in (h := s.heap) I.kIn M.tl
  have hC := I.kIn _ _ ho
  generalize hl : Value.ref C :: bm = l at T
  cases T with
  | base => unfold tailVE at hl; cases hl
  | own hA hn hi T' =>
    injection hl with e1 e2
    cases e1
    subst e2
    have e3 := hC.symm.trans hA
    injection e3 with e3
    injection e3 with _ _ e4 _
    injection e4 with e4
    subst e4
    obtain ⟨hp, g, d, tk, os⟩ := s
    refine wpAny_call_exc_subT PySem.F.excBase_ValueError T' hC hn hi fun h' e hm => ?_
    obtain ⟨tt, hx, _⟩ := hm.there
    have nH : H e = none := by
      cases q : H e with
      | none => rfl
      | some u =>
        obtain ⟨o, z⟩ := (I.hok e u q).there
        rw [hm.new] at z
        cases z
    have nd : ∀ b u, H b = some u → b ≠ e := fun b u q z => by rw [z, nH] at q; cases q
    refine ⟨.ref e, upd H e (FxO e C none), I.un (t' := tk) (h' := h') ⟨fun b o q n _ _ => hm.keeps b o q, fun b o q n _ _ => ⟨o.slots, hm.keeps b o q⟩, fun b o q n _ => ?_, fun b o q _ => ⟨o, hm.keeps b o q⟩, fun b xs q => ?_, fun b o u q => ?_, fun b ps q => ⟨#[], ?_⟩⟩ fun b u q => ?_, rfl, h e nH⟩
    · rw [upd_ne (fun z => by rw [z, hm.new] at q; cases q)]; exact n
    · rw [upd_ne (nd b _ q)]; exact q
    · rw [upd_ne (nd b _ q)]; exact q
    · rw [upd_ne (nd b _ q), q]; simp
    · by_cases hb : b = e
      · subst hb
        rw [upd_same] at q
        cases q
        exact fx_ok ⟨_, _, hx, rfl, rfl, rfl⟩
      · rw [upd_ne hb] at q
        exact (I.hok b u q).stay (fun c v _ r => hm.keeps c v r) (fun c r => by rw [upd_ne (nd c _ r)]; exact r) fun c xs r => by rw [upd_ne (nd c _ r)]; exact r
theorem pe_exc0 (M : XMk0 X.K C bm) (hg : Gl X x) (hm : X.mg x = some (.ref C)) (hdb : (x == ("__debug__" : Str)) = false := by decide) : PE X (.Call (.Name x p) [] [] pos) (tExc0 C) := by
  intro pins s σ H Q I h
  refine wpAny_Call_Name_kw (ld_glob I hg hm ?_ hdb)
  exact PySem.W.callWith_K0 I.kIn M.kp (run_exc0 M I h)
end
end L2
namespace L2
open PySem PySem.Spec PyProof.Rows PySem.W

/-! ### code whose exceptions are caught in the same body -/
/-- an expression's reading with the exception's end -/
abbrev TX := St → Hp → VK → XK → Prop
/-- a try's body: the ends, the wish of an exception at the names' values then -/
abbrev TB := Ends → (St → XK) → St → Hp → Prop
def PX (X : Cx) (e : Expr) (t : TX) : Prop :=
  ∀ (pins : List (Addr × Obj)) (s : Shared) (σ : St) (H : Hp) (Q : VK) (E : XK), Inv X pins σ H s → t σ H Q E → wpAny (model X.prog X.w) X.A (eval e X.env) (EP X pins σ Q) (XP X pins σ E) s
def BP (X : Cx) (pins : List (Addr × Obj)) (Ex : St → XK) (e : Value) (s' : Shared) : Prop := ∃ σ', XP X pins σ' (Ex σ') e s'
def PB (X : Cx) (sts : List Stmt) (t : TB) : Prop :=
  ∀ (pins : List (Addr × Obj)) (s : Shared) (σ : St) (H : Hp) (D : Ends) (Ex : St → XK), Inv X pins σ H s → t D Ex σ H → wpAny (model X.prog X.w) X.A (execs sts X.env) (SP X pins D) (BP X pins Ex) s
section
variable {X : Cx} {k : Nat} {f C : Addr} {fd : FuncData} {ps : List Str} {sp : Sp} {dvs : List V} {ds : List Value} {E : XK} {x m : Str} {p pos apos : Pos} {e o : Expr} {es : List Expr} {ta : TE} {t : TA}
theorem run_fnX {pins : List (Addr × Obj)} {σ : St} {H : Hp} {s : Shared} {Q : VK} {us : List Value} {vs : List V} {cc : Bool} (F : FnOk X.prog X.w X.K X.mg X.base (CXw X.prog X.w) k f fd ps sp cc) (hr : Room k X.A cc) (hb : Binds X.K fd ps ds) (hd : Vals dvs ds)
    (I : Inv X pins σ H s) (r : Vals vs us) (h : sp (vs ++ dvs) H Q E) : wpAny (model X.prog X.w) X.A (call (.ref f) us) (EP X pins σ Q) (XP X pins σ E) s := by
  have r2 : Vals (vs ++ dvs) (us ++ ds) := r.append hd
  have hl : (us ++ ds).length = ps.length := by rw [← r2.length]; exact F.len _ _ _ _ h
  refine wpAny_call (codeAny_mono (F.run X.A X.stack s H ⟨us, []⟩ (us ++ ds) (vs ++ dvs) Q E hr I.env0 (hb s us I.kIn hl) r2 h) fun r s' hq => ?_)
  cases r with
  | error e => exact xp_call I hq
  | ok fl =>
    cases fl with
    | ret u => exact I.after hq
    | next => exact False.elim hq
    | brk => exact False.elim hq
    | cont => exact False.elim hq
def bSet (i : Nat) (t : TX) : TB := fun D Ex σ H => t σ H (fun v H1 => D.nx (σ.set i (some v)) H1) (Ex σ)
/-- one statement of such a body -/
def PB1 (X : Cx) (st : Stmt) (t : TB) : Prop :=
  ∀ (pins : List (Addr × Obj)) (s : Shared) (σ : St) (H : Hp) (D : Ends) (Ex : St → XK), Inv X pins σ H s → t D Ex σ H → wpAny (model X.prog X.w) X.A (exec st X.env) (SP X pins D) (BP X pins Ex) s
theorem pb_set {t : TX} {i : Nat} {pos' : Pos} (hN : X.N.Nodup) (hi : X.N[i]? = some x) (hx : Loc X.env.scope x) (he : PX X e t) (hs : swapsWith e (some (.Name x pos')) pos.line X.env = pure false := by rfl)
    (hf : X.fn x = true ∨ X.env.scope.names.lookup x = some .local := by first | exact .inl rfl | exact .inr rfl | assumption) : PB1 X (.Assign [.Name x pos'] e pos) (bSet i t) := by
  intro pins s σ H D Ex I h
  refine wpAny_Assign_Name (wpAny_mono (he pins s σ H _ _ I h) (fun v s1 ⟨y, H1, I1, r1, q1⟩ => ?_) fun _ _ z => ⟨σ, z⟩) hs
  exact store_ok I1 hN hi hx r1 (fun s2 I2 => ⟨_, H1, I2, q1⟩) hf
theorem pb_one {st : Stmt} {t : TB} (h1 : PB1 X st t) : PB X [st] t := by
  intro pins s σ H D Ex I h
  refine wpAny_execs_cons (thn (h1 pins s σ H D Ex I h) fun f s1 q => ?_)
  cases f with
  | next => exact wpAny_execs_nil q
  | ret v => exact q
  | brk => exact q
  | cont => exact q
end

/-! ### try: .. except D as n: .. -/
/-- the context of an except suite -/
abbrev Cx.hand (X : Cx) (ea : Addr) : Cx := { X with A := X.A.mark (some (.ref ea)), calm := false, xe := fun _ _ => False }
section
variable {X : Cx} {pins : List (Addr × Obj)} {σ : St} {H : Hp} {s : Shared} {ea : Addr}
theorem Cx.Ok.hand (ok : X.Ok) : (X.hand ea).Ok :=
  ⟨ok.mod, ok.kind, ok.glob, ok.blt, ok.above, ok.inj, ok.has, ok.cab, (fun z => nomatch z), ok.frames, ok.stk, ok.exf, ok.bs, ok.bsz, ok.noex, ok.exfs, ok.funs, ok.frf⟩
theorem Inv.hand (I : Inv X pins σ H s) : Inv (X.hand ea) pins σ H s := ⟨I.ok.hand, I.os, I.bare, I.base, I.loc, I.cell, I.free, I.freeC, I.pin, I.hok, I.len⟩
theorem Inv.unhand (ok : X.Ok) (I : Inv (X.hand ea) pins σ H s) : Inv X pins σ H s := ⟨ok, I.os, I.bare, I.base, I.loc, I.cell, I.free, I.freeC, I.pin, I.hok, I.len⟩
/-- a local name is unbound -/
theorem Inv.gone {i : Nat} {x : Str} {M : Model} {A : Around} {E : Value → Shared → Prop} {pos : Pos} {Q : Unit → Shared → Prop} (I : Inv X pins σ H s) (hN : X.N.Nodup) (hi : X.N[i]? = some x) (hk : X.env.kindOf x = some .local)
    (h : ∀ s', Inv X pins (σ.set i none) H s' → Q () s') : wpAny M A (do bindName X.env x .none; unbindBehindTheSuite X.env x pos) Q E s := by
  obtain ⟨m, hn, hl⟩ := id I.loc
  have hcls : (X.env.scope.kind == .class || (X.env.scope.kind == .module && X.env.locals != X.env.globals)) = false := by rw [I.ok.kind]; rfl
  have hiσ : i < σ.length := by rw [I.len]; exact (List.getElem?_eq_some_iff.mp hi).1
  have cne := I.cne
  refine wpAny_nameGoes_keeps hk hn hcls fun h' v hn' hs => h _ ?_
  have neL : ∀ b o, X.s₀.heap.get? b = some o → b ≠ X.env.locals := fun b o e => Nat.ne_of_lt (Nat.lt_of_lt_of_le (Heap.lt_size e) I.ok.above)
  refine ⟨I.ok, I.os, I.bare, ⟨fun b o e n hb hx => (hs.2 b (neL b o e)).trans (I.base.keep b o e n hb hx), fun b o e n hb hx => ?_, I.base.free, fun b o e hx => ?_, I.base.tups, I.base.frzs, I.base.tbls⟩, ⟨_, hn', fun j y v' e1 e2 e3 => ?_⟩, fun y c e => ?_, I.free, I.freeC, fun p hp => ?_, fun b u q => ?_, by simpa using I.len⟩
  · obtain ⟨sl, e1⟩ := I.base.slot b o e n hb hx
    exact ⟨sl, (hs.2 b (neL b o e)).trans e1⟩
  · obtain ⟨o', e1⟩ := I.base.there b o e hx
    exact ⟨o', (hs.2 b (neL b o e)).trans e1⟩
  · have hj : j ≠ i := fun z => by
      subst z
      rw [List.getElem?_set_self hiσ] at e2
      cases e2
    rw [List.getElem?_set_ne (Ne.symm hj)] at e2
    obtain ⟨u', r', q⟩ := hl j y v' e1 e2 e3
    refine ⟨u', r', ?_⟩
    rcases q with ⟨k, e⟩ | ⟨k, c, e, z⟩
    · have ny : y ≠ x := fun e => hj (nodup_ix hN e1 (e ▸ hi))
      exact .inl ⟨k, by simp [ny, e]⟩
    · exact .inr ⟨k, c, e, z.sameBut hs (cne y c e)⟩
  · obtain ⟨w', z⟩ := I.cell y c e
    exact ⟨w', z.sameBut hs (cne y c e)⟩
  · obtain ⟨e, n, ne, nf, d⟩ := I.pin p hp
    exact ⟨(hs.2 p.1 ne).trans e, n, ne, nf, d⟩
  · refine (I.hok b u q).stay (fun c v hc r => (hs.2 c fun z => ?_).trans r) (fun _ q => q) fun _ _ q => q
    subst z
    rcases hc with z | z
    · rw [← z, I.free] at q; cases q
    · rw [I.free] at z; cases z
end
/-- the suite's ends: behind it the name is unbound -/
def Ends.gone (D : Ends) (i : Nat) : Ends := { nx := fun σ H => D.nx (σ.set i none) H, rt := D.rt, bk := fun σ H => D.bk (σ.set i none) H, ct := fun σ H => D.ct (σ.set i none) H }
section
variable {X : Cx} {body suite : List Stmt} {b₀ : Stmt} {tb : TB} {ts : Addr → TS} {wn n : Str} {D : Addr} {bmD : List Value} {i : Nat} {np hpos pos : Pos}
end
end L2
namespace L2
open PySem PySem.Spec PyProof.Rows PySem.W

/-! ### try with several clauses, with or without a name; with an else -/
abbrev THs := Addr → Addr → Option Addr → TS
/-- the clauses, at an exception that was raised in the body -/
def PHs (X : Cx) (hs : List ExceptHandler) (t : THs) : Prop :=
  ∀ (pins : List (Addr × Obj)) (s : Shared) (σ : St) (H : Hp) (D : Ends) (ea C T : Addr) (bm : List Value) (dd : Option Addr), Inv X pins σ H s → H ea = some (ExcO ea C dd) → XOb X.K C bm → ExAt s.heap ea C dd (.ref T) → TbAt s.heap T .none →
    H T = none → X.s₀.heap.objs.size ≤ T → (∀ p ∈ X.pn ++ pins, p.1 ≠ T) → t ea C dd D σ H → wpAny (model X.prog X.w) X.A (handleBy (.ref ea) X.env hs) (SP X pins D) X.xe s
def tHNo : THs := fun _ _ _ _ _ _ => False
theorem phs_nil {X : Cx} : PHs X [] tHNo := fun _ _ _ _ _ _ _ _ _ _ _ _ _ _ _ _ _ _ h => h.elim
/-- except D as the i-th name; except D -/
def tHAs (K : Frag) (D : Addr) (i : Nat) (ts : Addr → TS) (tr : THs) : THs := fun ea C dd Dn σ H => ∃ bm r, XOb K C bm ∧ (Value.ref C :: bm).contains (.ref D) = r ∧ if r = true then ts ea (Dn.gone i) (σ.set i (some (.ref ea))) H else tr ea C dd Dn σ H
def tHNone (K : Frag) (D : Addr) (ts : Addr → TS) (tr : THs) : THs := fun ea C dd Dn σ H => ∃ bm r, XOb K C bm ∧ (Value.ref C :: bm).contains (.ref D) = r ∧ if r = true then ts ea Dn σ H else tr ea C dd Dn σ H
section
variable {X : Cx} {rest : List ExceptHandler} {suite : List Stmt} {b₀ : Stmt} {ts : Addr → TS} {tr : THs} {wn n : Str} {D : Addr} {bmD : List Value} {i : Nat} {np hpos pos : Pos}
theorem phs_as (hs : ∀ ea, PSs (X.hand ea) (b₀ :: suite) (ts ea)) (hr : PHs X rest tr) (hg : Gl X wn) (hm : X.mg wn = some (.ref D)) (ob : XOb X.K D bmD) (hbm : bmD.contains (.type "BaseException") = true) (hN : X.N.Nodup) (hi : X.N[i]? = some n)
    (hk : X.env.scope.names.lookup n = some .local) (hdb : (wn == ("__debug__" : Str)) = false := by decide) : PHs X (.ExceptHandler (some (.Name wn np)) (some n) (b₀ :: suite) hpos :: rest) (tHAs X.K D i ts tr) := by
  intro pins s1 σ1 H1 Dn ea C T bm0 dd J hH obC0 x t nT hT pT ⟨bm, r, obC, hc, q⟩
  have xo := obC
  obtain ⟨nmC, qC, NC, bsC, hdC, snC, subC, abC, colC, ddC, a0, a1, a2, a3, a5, hoC⟩ := xo
  obtain ⟨nmD, qD, ND, bsD, hdD, snD, subD, abD, colD, ddD, d0, d1, d2, d3, d5, hoD⟩ := id ob
  obtain ⟨vs3, sl3, q3, z3, t3⟩ := id x
  have J' := J.hand (ea := ea)
  refine wpAny_handleBy_cons (codeAny_handlers_test (ld_glob (X := X.hand ea) J' hg hm ?_ hdb)) (by intro q; cases q)
  obtain ⟨hp1, g1, dr1, tk1, os1⟩ := s1
  cases r with
  | false =>
    refine exc_match (J.kIn _ _ hoC) (J.kIn _ _ hoD) q3 rfl hbm hc ?_
    exact hr pins _ σ1 H1 Dn ea C T bm dd J hH obC x t nT hT pT q
  | true =>
    refine exc_match (J.kIn _ _ hoC) (J.kIn _ _ hoD) q3 rfl hbm hc (codeAny_handlers_suite_as ?_)
    obtain ⟨oT, tsT, qT, dT, rT⟩ := id t
    obtain ⟨l1, l2⟩ := J.locNe qT dT
    refine setFlight_ok x t ?_
    have J2 := J'.turned (it := T) (t' := tk1) (h' := hp1.update T (Obj.mapFields (·.setIfInBounds 3 .none))) (fun b o hb e => (Heap.get?_update_other _ _ (Ne.symm hb)).trans e) nT l1 (.inr hT) l2 pT
    refine store_ok (X := X.hand ea) J2 hN hi (.inl hk) (show RelV (.ref ea) (.ref ea) from rfl) (fun s2 J3 => ?_) (.inr hk)
    refine wpAny_mono (hs ea pins s2 _ _ (Dn.gone i) J3 q) (fun f s3 hq => ?_) fun _ _ z => False.elim z
    have fin : ∀ {σ' : St} {H' : Hp} {Q : Unit → Shared → Prop} {E : Value → Shared → Prop}, Inv (X.hand ea) pins σ' H' s3 → (∀ s4, Inv X pins (σ'.set i none) H' s4 → Q () s4) → wpAny (model X.prog X.w) X.A (do bindName X.env n .none; unbindBehindTheSuite X.env n hpos) Q E s3 :=
      fun Z k => (Z.unhand J.ok).gone hN hi hk k
    cases f with
    | next =>
      obtain ⟨σ', H', Z, q⟩ := hq
      exact fin Z fun s4 Z4 => ⟨_, H', Z4, q⟩
    | ret v =>
      obtain ⟨v', σ', H', Z, r, q⟩ := hq
      exact fin Z fun s4 Z4 => ⟨v', _, H', Z4, r, q⟩
    | brk =>
      obtain ⟨σ', H', Z, q⟩ := hq
      exact fin Z fun s4 Z4 => ⟨_, H', Z4, q⟩
    | cont =>
      obtain ⟨σ', H', Z, q⟩ := hq
      exact fin Z fun s4 Z4 => ⟨_, H', Z4, q⟩
theorem phs_no (hs : ∀ ea, PSs (X.hand ea) (b₀ :: suite) (ts ea)) (hr : PHs X rest tr) (hg : Gl X wn) (hm : X.mg wn = some (.ref D)) (ob : XOb X.K D bmD) (hbm : bmD.contains (.type "BaseException") = true)
    (hdb : (wn == ("__debug__" : Str)) = false := by decide) : PHs X (.ExceptHandler (some (.Name wn np)) none (b₀ :: suite) hpos :: rest) (tHNone X.K D ts tr) := by
  intro pins s1 σ1 H1 Dn ea C T bm0 dd J hH obC0 x t nT hT pT ⟨bm, r, obC, hc, q⟩
  have xo := obC
  obtain ⟨nmC, qC, NC, bsC, hdC, snC, subC, abC, colC, ddC, a0, a1, a2, a3, a5, hoC⟩ := xo
  obtain ⟨nmD, qD, ND, bsD, hdD, snD, subD, abD, colD, ddD, d0, d1, d2, d3, d5, hoD⟩ := id ob
  obtain ⟨vs3, sl3, q3, z3, t3⟩ := id x
  have J' := J.hand (ea := ea)
  refine wpAny_handleBy_cons (codeAny_handlers_test (ld_glob (X := X.hand ea) J' hg hm ?_ hdb)) (by intro q; cases q)
  obtain ⟨hp1, g1, dr1, tk1, os1⟩ := s1
  cases r with
  | false =>
    refine exc_match (J.kIn _ _ hoC) (J.kIn _ _ hoD) q3 rfl hbm hc ?_
    exact hr pins _ σ1 H1 Dn ea C T bm dd J hH obC x t nT hT pT q
  | true =>
    refine exc_match (J.kIn _ _ hoC) (J.kIn _ _ hoD) q3 rfl hbm hc (codeAny_handlers_suite ?_)
    obtain ⟨oT, tsT, qT, dT, rT⟩ := id t
    obtain ⟨l1, l2⟩ := J.locNe qT dT
    refine setFlight_ok x t ?_
    have J2 := J'.turned (it := T) (t' := tk1) (h' := hp1.update T (Obj.mapFields (·.setIfInBounds 3 .none))) (fun b o hb e => (Heap.get?_update_other _ _ (Ne.symm hb)).trans e) nT l1 (.inr hT) l2 pT
    refine wpAny_mono (hs ea pins _ _ _ Dn J2 q) (fun f s3 hq => ?_) fun _ _ z => False.elim z
    cases f with
    | next =>
      obtain ⟨σ', H', Z, q⟩ := hq
      exact ⟨_, H', Z.unhand J.ok, q⟩
    | ret v =>
      obtain ⟨v', σ', H', Z, r, q⟩ := hq
      exact ⟨v', _, H', Z.unhand J.ok, r, q⟩
    | brk =>
      obtain ⟨σ', H', Z, q⟩ := hq
      exact ⟨_, H', Z.unhand J.ok, q⟩
    | cont =>
      obtain ⟨σ', H', Z, q⟩ := hq
      exact ⟨_, H', Z.unhand J.ok, q⟩
/-- the whole -/
def tTryH (K : Frag) (tb : TB) (th : THs) (to : TS) : TS := fun Dn σ H => tb { Dn with nx := to Dn } (fun σ' ev dd H' => ∃ ea C bm, ev = .ref ea ∧ H' ea = some (ExcO ea C dd) ∧ XOb K C bm ∧ th ea C dd Dn σ' H') σ H
theorem ps_tryH {body orelse : List Stmt} {h₀ : ExceptHandler} {hl : List ExceptHandler} {tb : TB} {th : THs} {to : TS} (hb : PB X body tb) (hh : PHs X (h₀ :: hl) th) (ho : PSs X orelse to) (hst : X.stack = X.env :: X.outer := by rfl) (hfr : X.env.frame = some X.env.locals := by rfl) :
    PS X (.Try body (h₀ :: hl) orelse [] pos) (tTryH X.K tb th to) := by
  intro pins s σ H Dn I h
  refine wpAny_Try_except (wpAny_mono (hb pins s σ H { Dn with nx := to Dn } _ I h) (fun f s1 q => ?_) ?_)
  · cases f with
    | next =>
      obtain ⟨σ', H', I', q⟩ := q
      exact ho pins s1 σ' H' Dn I' q
    | ret v => exact q
    | brk => exact q
    | cont => exact q
  rintro e s1 ⟨σ1, ea, C, dd, tb1, H1, rfl, I1, mu, x, ht, ea', C', bm, e1, hH, obC, q⟩
  cases e1
  have ne : ∀ T0, H1 T0 = none → T0 ≠ ea := fun T0 n z => by subst z; rw [n] at mu; exact mu
  refine noted_ok (base := X.base) (env := X.env) (outer := X.outer) (by rw [I1.ok.frames, hst]) (by rw [← hst]; exact I1.stack) hfr x ?_ fun h' T Nt => ?_
  · rcases ht with z | ⟨T0, z, n0, _, _, t0⟩
    · exact .inl z
    · exact .inr ⟨T0, z, ne T0 n0, t0⟩
  have J := I1.noted hst hfr mu x ht Nt
  obtain ⟨nT0, hT, pT⟩ := tb_new I1 ht Nt.new
  have nT : upd H1 ea (ExcO ea C dd) T = none := by
    rw [upd_ne (ne T nT0)]; exact nT0
  have eC : C' = C := by
    obtain ⟨tb2, vs2, sl2, q2, _⟩ := exc_at J.hok hH
    obtain ⟨vs3, sl3, q3, _⟩ := Nt.ex
    have q3' := q3.symm.trans q2
    cases q3'
    rfl
  subst eC
  exact hh pins _ σ1 _ Dn ea C' T bm dd J upd_same obC Nt.ex Nt.tb nT hT pT q
end
end L2
namespace L2
open PySem PySem.Spec PyProof.Rows PySem.W

/-! ### loops in a def that may raise -/
section
variable {X : Cx} {E : XK}
end

/-! ### methods and makings that raise, within a try's body -/
section
variable {X : Cx} {k : Nat} {f C : Addr} {fd : FuncData} {ps : List Str} {sp : Sp} {dvs : List V} {ds : List Value} {x m : Str} {p pos apos : Pos} {e o : Expr} {es : List Expr} {ta : TE} {t : TA}
def tMethX (C : Addr) (m : Str) (sp : Sp) (dvs : List V) (ta : TE) (t : TA) : TX := fun σ H Q E => ta σ H fun x H1 => ∃ a dx fs, x = .ref a ∧ H1 a = some (.ins C dx fs) ∧ fs.lookup m = none ∧ t σ H1 fun vs H2 => sp (.ref a :: (vs ++ dvs)) H2 Q E
theorem px_meth {cc : Bool} {pl : Sem Bool} (he : PE X.nox o ta) (c : Cls X.K C) (hm : Meth X.K C m f) (F : FnOk X.prog X.w X.K X.mg X.base (CXw X.prog X.w) k f fd ps sp cc) (hr : Room k X.A cc) (hb : Binds X.K fd ps ds) (hd : Vals dvs ds) (ha : PA X.nox (e :: es) t)
    (hst : starEach (e :: es) X.env = (false, eval e X.env) :: starEach es X.env := by rfl) (hpl : (backTo pos (starEach es X.env)).any (·.1) = false := by rfl)
    (ht : eval (.Call (.Attribute o m apos) (e :: es) [] pos) X.env = (do
      let ov ← eval o X.env
      standAt apos.atName
      let (f, first) ← holding [ov] (getMethod ov m pl)
      callWith pos f first (backTo pos (starEach (e :: es) X.env)) (backToKw pos (keywordEach [] X.env))) := by rfl) :
    PX X (.Call (.Attribute o m apos) (e :: es) [] pos) (tMethX C m sp dvs ta t) := by
  intro pins s σ H Q E I h
  refine PySem.W.methodCall_KW (pl := pl) (wpAny_mono (he pins s σ H _ (I.wish _) h) (fun u s1 ⟨x, H1, I1', rx, a, dx, fs, ex, ea, l, q⟩ => ?_) fun _ _ z => False.elim z) ht
  have I1 := I1'.unwish
  subst ex
  obtain rfl : u = Value.ref a := rx
  refine getmeth_ok I1 ea c hm l ?_
  refine PySem.W.callWith_K (first := [.ref a]) (h₀ := X.base) I.ok.mod.kin hm.kp (wpAny_mono (ha pos pins s1 σ H1 _ (I1.wish _) q) (fun us s2 ⟨vs, H2, I2, r, q2⟩ => ⟨I2.unwish.kIn, ?_⟩) fun _ _ z => False.elim z) hst hpl
  exact run_fnX (us := .ref a :: us) (vs := .ref a :: vs) F hr hb hd I2.unwish (.cons rfl r) q2
/-- an if within a try's body -/
def bIf (c : TT) (t u : TB) : TB := fun D Ex σ H => c σ H fun b H1 => if b = true then t D Ex σ H1 else u D Ex σ H1
theorem pb_if {c : Expr} {a b : List Stmt} {tc : TT} {t u : TB} (hc : PT X.nox c tc) (ha : PB X a t) (hb : PB X b u) : PB1 X (.If c a b pos) (bIf tc t u) := by
  intro pins s σ H D Ex I h
  refine wpAny_If (wpAny_mono (hc pins s σ H _ (I.wish _) h) (fun d s1 ⟨H1, I1, q1⟩ => ?_) fun _ _ z => False.elim z)
  cases d with
  | true => exact ha pins s1 σ H1 D Ex I1.unwish q1
  | false => exact hb pins s1 σ H1 D Ex I1.unwish q1
end
end L2
namespace L2
open PySem PySem.Spec PyProof.Rows
section
variable {X : Cx}
end
end L2
namespace L2
open PySem PySem.Spec PyProof.Rows
/-! ### lists and tuples within one another that are equal -/
mutual
/-- equal things, n deep -/
def Eqv (K : PySem.W.Frag) (H : Hp) : Nat → V → V → Prop
  | 0, x, y => (flatV x = true ∧ flatV y = true ∧ eqV x y = true) ∨ ∃ a, x = .ref a ∧ y = .ref a
  | n + 1, x, y => (flatV x = true ∧ flatV y = true ∧ eqV x y = true) ∨ (∃ a, x = .ref a ∧ y = .ref a) ∨ EqvS K H n x y
/-- two tuples or two lists, item by item -/
def EqvS (K : PySem.W.Frag) (H : Hp) : Nat → V → V → Prop
  | n, x, y => ∃ a b xs ys, x = .ref a ∧ y = .ref b ∧ ((SqT K H a xs ∧ SqT K H b ys) ∨ (SqL K H a xs ∧ SqL K H b ys)) ∧ xs.length = ys.length ∧ ∀ (i : Nat) u v, xs[i]? = some u → ys[i]? = some v → Eqv K H n u v
end
section
variable {X : Cx} {pins : List (Addr × Obj)} {σ : St} {H : Hp} {s : Shared}
theorem all_true (n : Nat) : (List.range n).all (fun _ => true) = true := List.all_eq_true.mpr fun _ _ => rfl
/-- what item by item gives -/
theorem items_D {A : Around} {n : Nat} {xs ys : List V} {us vs : List Value} (r : Vals xs us) (q : Vals ys vs) (h : ∀ (i : Nat) u v, xs[i]? = some u → ys[i]? = some v → Eqv X.K H n u v)
    (ih : ∀ {x y : V} {u v : Value}, Eqv X.K H n x y → RelV x u → RelV y v → SeqAt.EqAt A s u v true) (j : Nat) (h1 : j < us.toArray.size) (h2 : j < vs.toArray.size) : SeqAt.EqAt A s us.toArray[j] vs.toArray[j] true := by
  have l1 := r.length
  have l2 := q.length
  have h1' : j < xs.length := by rw [l1]; simpa using h1
  have h2' : j < ys.length := by rw [l2]; simpa using h2
  obtain ⟨u, eu, ru⟩ := r.get (i := j) (x := xs[j]) (by simp [h1'])
  obtain ⟨v, ev, rv⟩ := q.get (i := j) (x := ys[j]) (by simp [h2'])
  have e1 : us.toArray[j] = u := by
    obtain ⟨_, e⟩ := List.getElem?_eq_some_iff.mp eu
    simpa using e
  have e2 : vs.toArray[j] = v := by
    obtain ⟨_, e⟩ := List.getElem?_eq_some_iff.mp ev
    simpa using e
  rw [e1, e2]
  exact ih (h j _ _ (by simp [h1']) (by simp [h2'])) ru rv
theorem rc_D {A : Around} {n : Nat} {x y : V} {u v : Value} (I : Inv X pins σ H s) (h : EqvS X.K H n x y) (rx : RelV x u) (ry : RelV y v) (hu : A.units < cLine)
    (ih : ∀ {x y : V} {u v : Value}, Eqv X.K H n x y → RelV x u → RelV y v → SeqAt.EqAt A.in1 s u v true) : ∃ a b, u = .ref a ∧ v = .ref b ∧ SeqAt.RcAt A s (.ref a) (.ref b) true ∧ SeqAt.RcNeAt A s (.ref a) (.ref b) false := by
  unfold EqvS at h
  obtain ⟨a, b, xs, ys, rfl, rfl, hq, hl, hi⟩ := h
  cases rx
  cases ry
  refine ⟨a, b, rfl, rfl, ?_⟩
  rcases hq with ⟨ha, hb⟩ | ⟨ha, hb⟩
  · obtain ⟨its, r1, p1, _⟩ := I.tuple ha
    obtain ⟨its2, r2, p2, _⟩ := I.tuple hb
    have l1 := r1.length
    have l2 := r2.length
    have e : ((List.range (min its.toArray.size its2.toArray.size)).all (fun _ => true) && its.toArray.size == its2.toArray.size) = true := by
      rw [all_true]; simp; omega
    have A1 := SeqAt.RcAt.tuples (A := A) (e := fun _ => true) (show s.heap.IsTuple a its.toArray from p1) (show s.heap.IsTuple b its2.toArray from p2) hu (fun j h1 h2 => items_D r1 r2 hi ih j h1 h2)
    have A2 := SeqAt.RcNeAt.tuples (A := A) (e := fun _ => true) (show s.heap.IsTuple a its.toArray from p1) (show s.heap.IsTuple b its2.toArray from p2) hu (fun j h1 h2 => items_D r1 r2 hi ih j h1 h2)
    rw [e] at A1 A2
    exact ⟨A1, A2⟩
  · obtain ⟨its, r1, p1, _⟩ := I.list ha
    obtain ⟨its2, r2, p2, _⟩ := I.list hb
    have l1 := r1.length
    have l2 := r2.length
    have A1 := SeqAt.RcAt.lists (A := A) (e := fun _ => true) p1.isList p2.isList (by simp; omega) hu (fun j h1 h2 => items_D r1 r2 hi ih j h1 h2)
    have A2 := SeqAt.RcNeAt.lists (A := A) (e := fun _ => true) p1.isList p2.isList (by simp; omega) hu (fun j h1 h2 => items_D r1 r2 hi ih j h1 h2)
    rw [all_true] at A1 A2
    exact ⟨A1, A2⟩
theorem eqAt_D (I : Inv X pins σ H s) : ∀ (n : Nat) {A : Around} {x y : V} {u v : Value}, Eqv X.K H n x y → RelV x u → RelV y v → A.units + n < cLine → SeqAt.EqAt A s u v true := by
  intro n
  induction n with
  | zero =>
    intro A x y u v h rx ry hu
    unfold Eqv at h
    rcases h with ⟨f1, f2, e⟩ | ⟨a, rfl, rfl⟩
    · have z := eqAt_V (A := A) (s := s) rx ry f1 f2
      rw [e] at z
      exact z
    · cases rx
      cases ry
      exact SeqAt.EqAt.same _
  | succ n ih =>
    intro A x y u v h rx ry hu
    unfold Eqv at h
    rcases h with ⟨f1, f2, e⟩ | ⟨a, rfl, rfl⟩ | h
    · have z := eqAt_V (A := A) (s := s) rx ry f1 f2
      rw [e] at z
      exact z
    · cases rx
      cases ry
      exact SeqAt.EqAt.same _
    · obtain ⟨a, b, rfl, rfl, z, _⟩ := rc_D (A := A) I h rx ry (by omega) (fun h rx ry => ih (A := A.in1) h rx ry (by show A.units + 1 + n < _; omega))
      by_cases hne : a = b
      · subst hne
        exact SeqAt.EqAt.same _
      · exact SeqAt.EqAt.of_refs hne z
/-- == and != of such -/
theorem op_eqD (hu : X.A.units + 40 < cLine) : OpR X (compareOp .Eq) (fun x y H Q => ∃ n, EqvS X.K H n x y ∧ n ≤ 20 ∧ Q (.bl true) H) := by
  intro pins s σ H x y v u Q I rx ry h
  obtain ⟨n, h, hn, q⟩ := h
  obtain ⟨a, b, rfl, rfl, z, _⟩ := rc_D (A := X.A) I h rx ry (by omega) (fun h rx ry => eqAt_D I n h rx ry (by show X.A.units + 1 + n < _; omega))
  exact z _ _ _ _ ⟨.bl true, H, I, rfl, q⟩
theorem op_neD (hu : X.A.units + 40 < cLine) : OpR X (compareOp .NotEq) (fun x y H Q => ∃ n, EqvS X.K H n x y ∧ n ≤ 20 ∧ Q (.bl false) H) := by
  intro pins s σ H x y v u Q I rx ry h
  obtain ⟨n, h, hn, q⟩ := h
  obtain ⟨a, b, rfl, rfl, _, z⟩ := rc_D (A := X.A) I h rx ry (by omega) (fun h rx ry => eqAt_D I n h rx ry (by show X.A.units + 1 + n < _; omega))
  exact z _ _ _ _ ⟨.bl false, H, I, rfl, q⟩
end
end L2
/-! ### general words over the layer -/
namespace L2
open PySem PySem.Spec PyProof.Rows
section
variable {P : Program} {w : World} {K : PySem.W.Frag} {mg : Str → Option Value} {base : Heap}
/-- a def that may raise an own exception -/
theorem Fun.okX {x qual : Str} {st : Stmt} {f : Addr} {fd : FuncData} {N ps : List Str} {k : Nat} {sp : Sp} (F : Fun K x qual st f fd) (S : FnScope N ps (defScope st)) (len : ∀ vs H Q E, sp vs H Q E → vs.length = ps.length)
    (hbody : ∀ (cdv : Value) (A : Around) (outer : List Env) (s : Shared) (H : Hp) (vs : List V) (Q : VK) (E : XK), Room k (A.deeper (envOfC qual (defScope st) s.heap.objs.size f cdv)) → sp vs H Q E →
      ∃ t, PSs (cxOf (CXw P w) P w K mg base N qual (defScope st) f cdv A outer s H E) (defBody st) t ∧ t { nx := fun _ H' => Q .non H', rt := Q } (start N vs) H) : FnOk P w K mg base (CXw P w) (k + 1) f fd ps sp := by
  obtain ⟨oc, od, kV, doc, pm, an, cdv, ct, osl, rfl, lk, hcd⟩ := F.ex
  exact fn_of lk hcd S len fun A outer s H vs Q E hr hsp => hbody cdv A outer s H vs Q E hr hsp
/-- where nothing is raised, a def that may raise is called like any other -/
theorem passN {X : Cx} : Passes (CXw X.prog X.w) X E0 := passes_of fun pins σ e s' ⟨_, _, _, _, _, _, _, _, _, _, z⟩ => z.elim
theorem same_new {H : Hp} {p : Addr} (h : H p = none) (o : HO) : Same H (upd H p o) := fun b u q => by rw [upd_ne (ne_of_none q h)]; exact q
theorem small {n : Nat} (h : n ≤ 100000) : n < sizeLine := Nat.lt_of_le_of_lt h (by decide)
/-- behind a raise -/
theorem raised_same {H : Hp} {e dx : Addr} {a b c d : HO} (he : H e = none) (hd : H dx = none) : Same H (upd (upd (upd (upd H e a) dx b) e c) e d) := fun x u q => by
  rw [upd_ne (ne_of_none q he), upd_ne (ne_of_none q he), upd_ne (ne_of_none q hd), upd_ne (ne_of_none q he)]
  exact q
theorem new_free {H : Hp} {p q : Addr} {o : HO} (h : upd H p o q = none) : q ≠ p ∧ H q = none := by
  have n : q ≠ p := fun z => by rw [z, upd_same] at h; cases h
  rw [upd_ne n] at h
  exact ⟨n, h⟩
/-- an own exception class with an own __init__, as a raiser wants it -/
structure XHas (K : PySem.W.Frag) (mg : Str → Option Value) (x : Str) (st : Stmt) (C : Addr) (bm : List Value) (f : Addr) (fd : FuncData) (ps : List Str) : Prop where
  xm : XMk K C bm f
  cl : XCls K C
  be : bm.contains (.type "BaseException") = true
  nm : mg x = some (.ref C)
  fn : Fun K "__init__" (x ++ Str.ofString ".__init__") st f fd
  bd : Binds K fd ps []
structure Has (K : PySem.W.Frag) (mg : Str → Option Value) (x : Str) (st : Stmt) (ps : List Str) (f : Addr) (fd : FuncData) : Prop where
  fn : Fun K x x st f fd
  bd : Binds K fd ps []
  nm : mg x = some (.ref f)
end
end L2
namespace L2
open PySem PyProof.Rows
/-- an if whose ends go on as one: R holds behind either -/
theorem if_rest {c : TT} {t : TS} {rt : VK} {bk ct : St → Hp → Prop} {σ : St} {H : Hp} {U : St → Hp → Prop} (R : St → Hp → Prop) (h1 : ∀ σ' H', R σ' H' → U σ' H') (h2 : (∀ σ' H', R σ' H' → U σ' H') → tIfS c t tNext { nx := U, rt := rt, bk := bk, ct := ct } σ H) :
    tIfS c t tNext { nx := U, rt := rt, bk := bk, ct := ct } σ H := h2 h1
theorem seq_in {t u : TS} {D : Ends} {σ : St} {H : Hp} (h : t { nx := u D, rt := D.rt, bk := D.bk, ct := D.ct } σ H) : tSeq t u D σ H := h
theorem cut_mem {ns : List Int} {lo hi : Option Int} {i : Nat} {x : V} (h : (cutV (ns.map V.int) lo hi)[i]? = some x) : ∃ c, x = .int c := by
  have m := List.mem_of_getElem? h
  unfold cutV at m
  obtain ⟨c, _, e⟩ := List.mem_map.mp (List.mem_of_mem_drop (List.mem_of_mem_take m))
  exact ⟨c, e.symm⟩
/-! ### classes of exceptions by the text -/
abbrev wl (W : Addr) : List Value := .ref W :: tailVE
theorem tail_ve (K : PySem.W.Frag) : PySem.W.tailIn K tailVE tailVE = true := by
  unfold tailVE PySem.W.tailIn
  simp
theorem ns_ok {K : PySem.W.Frag} {N : Addr} {oc : Value} {od : Option Addr} {es : Array DictEntry} {ep : Nat} {sl : Array (Option Value)} (l : K.lookup N = some ⟨oc, od, .dict es ep, sl⟩) (h : (es.all fun e => match e.key with | .str _ _ => true | _ => false) = true) : PySem.W.nsOkIn K N = true := by
  unfold PySem.W.nsOkIn
  rw [l]
  exact h
theorem tail_own {K : PySem.W.Frag} {C N : Addr} {bm tl : List Value} {nm q : Str} {bs : List Value} {hdct : Bool} {sn : List Str} {sub : List Value} {ab : Bool} {col : Option Bool} {dd : Option Addr} {k0 k1 k2 k3 k5 : Option Value}
    (l : K.lookup C = some (excClassObj nm q C N bs bm hdct sn sub ab col dd k0 k1 k2 k3 k5 "ValueError.__new__")) (n1 : PySem.W.nsOkIn K N = true) (n2 : PySem.W.nsIn K N "__init__" = some none) (t : PySem.W.tailIn K tailVE tl = true) : PySem.W.tailIn K tailVE (.ref C :: tl) = true := by
  unfold PySem.W.tailIn
  dsimp only
  rw [l]
  simp [n1, n2, t]
end L2
/-! ### things of any kind; is_whole, is_within -/
namespace L2
open PySem PySem.Spec PyProof.Rows
def Ty0 (H : Hp) (x : V) : Prop := (∃ n, x = .int n) ∨ (∃ z, x = .str z) ∨ (∃ b, x = .bl b) ∨ x = .non ∨ (∃ a xs, x = .ref a ∧ H a = some (.lst xs)) ∨ (∃ a xs, x = .ref a ∧ H a = some (.tup xs)) ∨ (∃ a kvs, x = .ref a ∧ H a = some (.dK kvs))
theorem Ty0.int {H : Hp} (n : Int) : Ty0 H (.int n) := .inl ⟨n, rfl⟩
def isI0 : V → Bool
  | .int _ => true
  | .bl _ => true
  | _ => false
def isB0 : V → Bool
  | .bl _ => true
  | _ => false
section
variable (K : PySem.W.Frag)
theorem k0_ii : PySem.W.kitOne K (.type "int") (.type "int") = some true := by kernel_rfl
theorem k0_ib : PySem.W.kitOne K (.type "int") (.type "bool") = some false := by kernel_rfl
theorem k0_si : PySem.W.kitOne K (.type "str") (.type "int") = some false := by kernel_rfl
theorem k0_sb : PySem.W.kitOne K (.type "str") (.type "bool") = some false := by kernel_rfl
theorem k0_bi : PySem.W.kitOne K (.type "bool") (.type "int") = some true := by kernel_rfl
theorem k0_bb : PySem.W.kitOne K (.type "bool") (.type "bool") = some true := by kernel_rfl
theorem k0_ni : PySem.W.kitOne K (.type "NoneType") (.type "int") = some false := by kernel_rfl
theorem k0_nb : PySem.W.kitOne K (.type "NoneType") (.type "bool") = some false := by kernel_rfl
theorem k0_li : PySem.W.kitOne K (.type "list") (.type "int") = some false := by kernel_rfl
theorem k0_lb : PySem.W.kitOne K (.type "list") (.type "bool") = some false := by kernel_rfl
theorem k0_ti : PySem.W.kitOne K (.type "tuple") (.type "int") = some false := by kernel_rfl
theorem k0_tb : PySem.W.kitOne K (.type "tuple") (.type "bool") = some false := by kernel_rfl
theorem k0_di : PySem.W.kitOne K (.type "dict") (.type "int") = some false := by kernel_rfl
theorem k0_db : PySem.W.kitOne K (.type "dict") (.type "bool") = some false := by kernel_rfl
end
theorem Ty0.ty {K : PySem.W.Frag} {H : Hp} {x : V} (h : Ty0 H x) : ∃ t, TyOf K H x t ∧ PySem.W.kitOne K t (.type "int") = some (isI0 x) ∧ PySem.W.kitOne K t (.type "bool") = some (isB0 x) := by
  rcases h with ⟨n, rfl⟩ | ⟨z, rfl⟩ | ⟨b, rfl⟩ | rfl | ⟨a, z, rfl, q⟩ | ⟨a, z, rfl, q⟩ | ⟨a, z, rfl, q⟩
  · exact ⟨_, .int n, k0_ii K, k0_ib K⟩
  · exact ⟨_, .str z, k0_si K, k0_sb K⟩
  · exact ⟨_, .bl b, k0_bi K, k0_bb K⟩
  · exact ⟨_, .non, k0_ni K, k0_nb K⟩
  · exact ⟨_, .lst q, k0_li K, k0_lb K⟩
  · exact ⟨_, .tup q, k0_ti K, k0_tb K⟩
  · exact ⟨_, .dK q, k0_di K, k0_db K⟩
def who0 (x : V) : Bool := isI0 x && !isB0 x
def wth0 (x : V) (l h : Int) : Bool := match x with
  | .int n => decide (l ≤ n) && decide (n ≤ h)
  | _ => false
theorem wth0_int {x : V} {l h : Int} (e : wth0 x l h = true) : ∃ n, x = .int n ∧ l ≤ n ∧ n ≤ h := by
  cases x with
  | int n =>
    have e : (decide (l ≤ n) && decide (n ≤ h)) = true := e
    rw [Bool.and_eq_true] at e
    exact ⟨n, rfl, of_decide_eq_true e.1, of_decide_eq_true e.2⟩
  | _ => cases e
theorem wth0_in {n l h : Int} (a : l ≤ n) (b : n ≤ h) : wth0 (.int n) l h = true := by
  show (decide (l ≤ n) && decide (n ≤ h)) = true
  rw [decide_eq_true a, decide_eq_true b]
  rfl
def spWho0 : Sp := fun vs H Q _ => ∃ x, vs = [x] ∧ Ty0 H x ∧ Q (.bl (who0 x)) H
def spWth0 : Sp := fun vs H Q _ => ∃ x l h, vs = [x, .int l, .int h] ∧ Ty0 H x ∧ Q (.bl (wth0 x l h)) H
theorem hu40 {A : Around} {k : Nat} {c : Bool} (hr : Room k A c) : A.units + 40 < cLine := Nat.lt_of_le_of_lt (Nat.add_le_add_left (by decide : 40 ≤ 64) _) hr.units
theorem nx_in {D : Ends} {σ : St} {H : Hp} (h : D.nx σ H) : tNext D σ H := h
/-! ### methods; classes of exceptions -/
structure MHas (K : PySem.W.Frag) (C : Addr) (m qual : Str) (st : Stmt) (ps : List Str) (f : Addr) (fd : FuncData) : Prop where
  fn : Fun K m qual st f fd
  bd : Binds K fd ps []
  me : Meth K C m f
structure X0Has (K : PySem.W.Frag) (mg : Str → Option Value) (x : Str) (C : Addr) (bm : List Value) : Prop where
  xm : XMk0 K C bm
  ob : XOb K C bm
  be : bm.contains (.type "BaseException") = true
  nm : mg x = some (.ref C)
def spX (C : Addr) (f : Str) : Sp := fun vs H Q _ => ∃ e x, vs = [.ref e, x] ∧ H e = some (FxO e C none) ∧ ∀ dx, H dx = none → Q .non (upd (upd H dx (XdO dx [(f, x)])) e (FxO e C (some dx)))
theorem raise1 {C : Addr} {f : Str} {x : V} {E : XK} {H : Hp} (h : ∀ (ea dx : Addr) (H' : Hp), Same H H' → H' ea = some (ExcO ea C (some dx)) → H' dx = some (XdO dx [(f, x)]) → E (.ref ea) (some dx) H') (e : Addr) (he : H e = none) :
    spX C f (.ref e :: ([x] ++ [])) (upd H e (FxO e C none)) (fun v H2 => v = .non ∧ ∃ ea dd, V.ref e = .ref ea ∧ H2 ea = some (FxO ea C dd) ∧ E (.ref ea) dd (upd H2 ea (ExcO ea C dd))) E0 := by
  refine ⟨e, x, rfl, upd_same, fun dx hdx => ⟨rfl, e, some dx, rfl, upd_same, ?_⟩⟩
  obtain ⟨n1, n2⟩ := new_free hdx
  refine h e dx _ (raised_same he n2) upd_same ?_
  rw [upd_ne n1, upd_ne n1, upd_same]
theorem raise0 {C : Addr} {E : XK} {H : Hp} (h : ∀ (ea : Addr) (H' : Hp), Same H H' → H' ea = some (ExcO ea C none) → E (.ref ea) none H') (e : Addr) (he : H e = none) :
    ∃ ea dd, V.ref e = .ref ea ∧ (upd H e (FxO e C none)) ea = some (FxO ea C dd) ∧ E (.ref ea) dd (upd (upd H e (FxO e C none)) ea (ExcO ea C dd)) := by
  refine ⟨e, none, rfl, upd_same, ?_⟩
  rw [upd_upd]
  exact h e _ (same_new he _) upd_same
end L2
/-! ### a floor -/
namespace FL
open PySem L2 PyProof.Rows
structure FS where
  n : Int
  kp : List (Key × V)
  ks : List (Key × V)
  ws : List V
  d : Bool
  l : V
def flF (st : FS) (pc sp wr : Addr) : List (Str × V) := [("many", .int st.n), ("pieces", .ref pc), ("spoilt", .ref sp), ("written", .ref wr), ("dark", .bl st.d), ("left", st.l)]
structure FlAt (C : Addr) (H : Hp) (p pc sp wr : Addr) (st : FS) : Prop where
  at_ : ∃ dx, H p = some (.ins C dx (flF st pc sp wr))
  kp : H pc = some (.dK st.kp)
  ks : H sp = some (.dK st.ks)
  ws : H wr = some (.lst st.ws)
  ne : pc ≠ sp
def Sx (l : List Addr) (H H' : Hp) : Prop := ∀ b o, b ∉ l → H b = some o → H' b = some o
theorem Sx.refl (l : List Addr) (H : Hp) : Sx l H H := fun _ _ _ e => e
theorem Sx.trans {l : List Addr} {H H1 H2 : Hp} (a : Sx l H H1) (b : Sx l H1 H2) : Sx l H H2 := fun c o n e => b c o n (a c o n e)
theorem Sx.of {l : List Addr} {H H' : Hp} (s : Same H H') : Sx l H H' := fun c o _ e => s c o e
theorem Sx.upd {l : List Addr} {H : Hp} {a : Addr} {o : HO} (m : a ∈ l) : Sx l H (upd H a o) := fun c u n e => by
  rw [upd_ne fun z => n (by rw [z]; exact m)]
  exact e
section
variable {C p pc sp wr : Addr} {H H' : Hp} {st st' : FS}
theorem FlAt.mono (h : FlAt C H p pc sp wr st) (s : Same H H') : FlAt C H' p pc sp wr st := by
  obtain ⟨⟨dx, h1⟩, h2, h3, h4, h5⟩ := h
  exact ⟨⟨dx, s _ _ h1⟩, s _ _ h2, s _ _ h3, s _ _ h4, h5⟩
theorem FlAt.n1 (h : FlAt C H p pc sp wr st) : p ≠ pc := by obtain ⟨dx, e⟩ := h.at_; exact ne_of e h.kp (by intro z; cases z)
theorem FlAt.n2 (h : FlAt C H p pc sp wr st) : p ≠ sp := by obtain ⟨dx, e⟩ := h.at_; exact ne_of e h.ks (by intro z; cases z)
theorem FlAt.n3 (h : FlAt C H p pc sp wr st) : p ≠ wr := by obtain ⟨dx, e⟩ := h.at_; exact ne_of e h.ws (by intro z; cases z)
theorem FlAt.n4 (h : FlAt C H p pc sp wr st) : pc ≠ wr := ne_of h.kp h.ws (by intro z; cases z)
theorem FlAt.n5 (h : FlAt C H p pc sp wr st) : sp ≠ wr := ne_of h.ks h.ws (by intro z; cases z)
theorem FlAt.setKp (h : FlAt C H p pc sp wr st) (k : List (Key × V)) : FlAt C (L2.upd H pc (.dK k)) p pc sp wr { st with kp := k } := by
  obtain ⟨dx, e⟩ := h.at_
  exact ⟨⟨dx, by rw [upd_ne h.n1]; exact e⟩, upd_same, by rw [upd_ne h.ne.symm]; exact h.ks, by rw [upd_ne h.n4.symm]; exact h.ws, h.ne⟩
theorem FlAt.setKs (h : FlAt C H p pc sp wr st) (k : List (Key × V)) : FlAt C (L2.upd H sp (.dK k)) p pc sp wr { st with ks := k } := by
  obtain ⟨dx, e⟩ := h.at_
  exact ⟨⟨dx, by rw [upd_ne h.n2]; exact e⟩, by rw [upd_ne h.ne]; exact h.kp, upd_same, by rw [upd_ne h.n5.symm]; exact h.ws, h.ne⟩
theorem FlAt.setWs (h : FlAt C H p pc sp wr st) (k : List V) : FlAt C (L2.upd H wr (.lst k)) p pc sp wr { st with ws := k } := by
  obtain ⟨dx, e⟩ := h.at_
  exact ⟨⟨dx, by rw [upd_ne h.n3]; exact e⟩, by rw [upd_ne h.n4]; exact h.kp, by rw [upd_ne h.n5]; exact h.ks, upd_same, h.ne⟩
theorem FlAt.setF (h : FlAt C H p pc sp wr st) (dx : Addr) (d : Bool) (l : V) : FlAt C (L2.upd H p (.ins C dx (flF { st with d := d, l := l } pc sp wr))) p pc sp wr { st with d := d, l := l } :=
  ⟨⟨dx, upd_same⟩, by rw [upd_ne h.n1.symm]; exact h.kp, by rw [upd_ne h.n2.symm]; exact h.ks, by rw [upd_ne h.n3.symm]; exact h.ws, h.ne⟩
end
theorem put_left (st : FS) (pc sp wr : Addr) (l : V) : putF "left" l (flF st pc sp wr) = flF { st with d := st.d, l := l } pc sp wr := rfl
structure Cl where
  F : Addr
  W : Addr
  PG : Addr
  NF : Addr
  NP : Addr
  NI : Addr
  SO : Addr
inductive Out where
  | ok (v : V) | np (x : V) | pi (x : V) | so (x : V) | pg
def Res (c : Cl) (Q : VK) (E : XK) (H' : Hp) : Out → Prop
  | .ok v => Q v H'
  | .np x => ∀ (ea dx : Addr), H' ea = some (ExcO ea c.NP (some dx)) → H' dx = some (XdO dx [("place", x)]) → E (.ref ea) (some dx) H'
  | .pi x => ∀ (ea dx : Addr), H' ea = some (ExcO ea c.NI (some dx)) → H' dx = some (XdO dx [("place", x)]) → E (.ref ea) (some dx) H'
  | .so x => ∀ (ea dx : Addr), H' ea = some (ExcO ea c.SO (some dx)) → H' dx = some (XdO dx [("place", x)]) → E (.ref ea) (some dx) H'
  | .pg => ∀ (ea : Addr), H' ea = some (ExcO ea c.PG none) → E (.ref ea) none H'
def Fin (c : Cl) (H : Hp) (p pc sp wr : Addr) (r : Out × FS) (Q : VK) (E : XK) : Prop := ∀ H', FlAt c.F H' p pc sp wr r.2 → Sx [p, pc, sp, wr] H H' → Res c Q E H' r.1
/-- few things -/
structure Sm (st : FS) : Prop where
  kp : st.kp.length ≤ 10000
  ks : st.ks.length ≤ 10000
  ws : st.ws.length ≤ 10000
  l : st.l = .non ∨ ∃ j, st.l = .int j
def keyOf : V → Key
  | .int i => .inl i
  | _ => .inl 0
def cln (st : FS) (k : Key) : FS := { st with kp := dropK st.kp k, ks := dropK st.ks k }
def spl (st : FS) (k : Key) : FS := { st with kp := dropK st.kp k, ks := putK (dropK st.ks k) k (.bl true) }
def dec : V → V
  | .int j => .int (j - 1)
  | v => v
def isP (st : FS) (x : V) : Bool := wth0 x 0 (st.n - 1)
def gNPl (st : FS) (x : V) : Out × FS := if isP st x = true then (.ok .non, st) else (.np x, st)
def gNPo (st : FS) : Out × FS := if st.d = true then (.pg, st) else (.ok .non, st)
def fWrite (st : FS) (x v : V) : Out × FS :=
  if isP st x = true then
    if st.d = true then (.pg, st) else
    if st.l = .int 0 then (.pg, { spl st (keyOf x) with d := true }) else
    (.ok .non, { st with kp := putK (dropK st.kp (keyOf x)) (keyOf x) v, ks := dropK st.ks (keyOf x), ws := st.ws ++ [x], l := dec st.l })
  else (.np x, st)
def fRead (st : FS) (x : V) : Out × FS :=
  if isP st x = true then
    if st.d = true then (.pg, st) else
    if (valV st.ks (keyOf x)).isSome = true then (.so x, st) else
    match valV st.kp (keyOf x) with
    | some v => (.ok v, st)
    | none => (.pi x, st)
  else (.np x, st)
def fHarm (st : FS) (x : V) : Out × FS :=
  if isP st x = true then
    if (valV st.kp (keyOf x)).isSome = true ∨ (valV st.ks (keyOf x)).isSome = true then (.ok .non, spl st (keyOf x)) else (.pi x, st)
  else (.np x, st)
def fLose (st : FS) (x : V) : Out × FS := if isP st x = true then (.ok .non, cln st (keyOf x)) else (.np x, st)
/-! ### what each of its methods promises -/
abbrev mSp (c : Cl) (f : FS → V → Out × FS) : Sp := fun vs H Q E => ∃ (p pc sp wr : Addr) (st : FS) (x : V), vs = [.ref p, x] ∧ FlAt c.F H p pc sp wr st ∧ Sm st ∧ Ty0 H x ∧ Fin c H p pc sp wr (f st x) Q E
abbrev mSp0 (c : Cl) (f : FS → Out × FS) : Sp := fun vs H Q E => ∃ (p pc sp wr : Addr) (st : FS), vs = [.ref p] ∧ FlAt c.F H p pc sp wr st ∧ Fin c H p pc sp wr (f st) Q E
abbrev mSpK (c : Cl) (f : FS → Key → FS) : Sp := fun vs H Q E => ∃ (p pc sp wr : Addr) (st : FS) (i : Int), vs = [.ref p, .int i] ∧ FlAt c.F H p pc sp wr st ∧ Sm st ∧ Fin c H p pc sp wr (.ok .non, f st (.inl i)) Q E
def spWri (c : Cl) : Sp := fun vs H Q E => ∃ (p pc sp wr : Addr) (st : FS) (x v : V), vs = [.ref p, x, v] ∧ FlAt c.F H p pc sp wr st ∧ Sm st ∧ Ty0 H x ∧ Fin c H p pc sp wr (fWrite st x v) Q E
def spCut (c : Cl) : Sp := fun vs H Q E => ∃ (p pc sp wr : Addr) (st : FS) (m : V), vs = [.ref p, m] ∧ FlAt c.F H p pc sp wr st ∧ Fin c H p pc sp wr (.ok .non, { st with d := st.d, l := if st.d = true then st.l else m }) Q E
def spWrs (c : Cl) : Sp := fun vs H Q _ => ∃ (p pc sp wr : Addr) (st : FS), vs = [.ref p] ∧ FlAt c.F H p pc sp wr st ∧ ∀ l, H l = none → Q (.ref l) (L2.upd H l (.lst st.ws))
def new (n : Int) : FS := ⟨n, [], [], [], false, .non⟩
def spFIn (c : Cl) : Sp := fun vs H Q E => ∃ (p dx : Addr) (x : V), vs = [.ref p, x] ∧ H p = some (.ins c.F dx []) ∧ Ty0 H x ∧
  (∀ n, x = .int n → 4 ≤ n → n ≤ 600 → ∀ (pc sp wr : Addr) (H' : Hp), H pc = none → H sp = none → H wr = none → FlAt c.F H' p pc sp wr (new n) → Sx [p] H H' → Q .non H') ∧
  (wth0 x 4 600 = false → ∀ (ea d : Addr) (H' : Hp), Same H H' → H' ea = some (ExcO ea c.NF (some d)) → H' d = some (XdO d [("many", x)]) → E (.ref ea) (some d) H')
structure Na (K : PySem.W.Frag) (C : Addr) : Prop where
  many : NoAttr K C "many"
  pieces : NoAttr K C "pieces"
  spoilt : NoAttr K C "spoilt"
  written : NoAttr K C "written"
  dark : NoAttr K C "dark"
  left : NoAttr K C "left"
theorem drop_none {kvs : List (Key × V)} {k : Key} (h : valV kvs k = none) : dropK kvs k = kvs := dropK_no (valV_not h)
theorem drop_le (kvs : List (Key × V)) (k : Key) : (dropK kvs k).length ≤ kvs.length := by
  unfold dropK
  exact List.length_filter_le _ _
theorem put_le (kvs : List (Key × V)) (k : Key) (v : V) : (putK kvs k v).length ≤ kvs.length + 1 := by
  unfold putK
  split
  · rw [List.length_map]; omega
  · rw [List.length_append]; exact Nat.le_refl _
theorem gNPl_t {st : FS} {x : V} (h : isP st x = true) : gNPl st x = (.ok .non, st) := if_pos h
theorem gNPl_f {st : FS} {x : V} (h : isP st x = false) : gNPl st x = (.np x, st) := if_neg (by rw [h]; decide)
end FL
namespace L2
open PySem PySem.Spec PyProof.Rows
section
variable {X : Cx}
/-- dict(d): a copy -/
theorem call_dictD : CallR X (.type "dict") (fun xs H Q => ∃ a kvs, xs = [V.ref a] ∧ H a = some (.dK kvs) ∧ ∀ l, H l = none → Q (.ref l) (upd H l (.dK kvs))) := by
  intro pins s σ H xs us Q I r h
  obtain ⟨a, kvs, rfl, ha, q⟩ := h
  obtain ⟨u, rfl, ru⟩ := vals1 r
  cases ru
  exact d_copyOf I (.inl ha) fun p s' hp I' => ⟨.ref p, _, I', rfl, q p hp⟩
end
/-- a display of five pairs; the expression apart, so that the elaborator doesn't run it -/
theorem pe_disp5 {X : Cx} {pos : Pos} {e k1 v1 k2 v2 k3 v3 k4 v4 k5 v5 : Expr} {t1 u1 t2 u2 t3 u3 t4 u4 t5 u5 : TE} (he : e = .Dict [some k1, some k2, some k3, some k4, some k5] [v1, v2, v3, v4, v5] pos) (a1 : PE X k1 t1) (b1 : PE X v1 u1) (a2 : PE X k2 t2) (b2 : PE X v2 u2) (a3 : PE X k3 t3) (b3 : PE X v3 u3) (a4 : PE X k4 t4) (b4 : PE X v4 u4) (a5 : PE X k5 t5) (b5 : PE X v5 u5) :
    PE X e (tDisp [(t1, u1), (t2, u2), (t3, u3), (t4, u4), (t5, u5)]) := by
  have h : PPs X pos [some k1, some k2, some k3, some k4, some k5] [v1, v2, v3, v4, v5] [(t1, u1), (t2, u2), (t3, u3), (t4, u4), (t5, u5)] := (pps_cons a1 b1 (pps_cons a2 b2 (pps_cons a3 b3 (pps_cons a4 b4 (pps_cons a5 b5 pps_nil)))))
  rw [he]
  exact pe_disp h rfl rfl (by simp) (by simp)
theorem valV_drop {κ : Type} [DecidableEq κ] (k j : κ) : ∀ kvs : List (κ × V), valV (dropK kvs k) j = if j = k then none else valV kvs j
  | [] => by
    show none = _
    split <;> rfl
  | p :: r => by
    have ih := valV_drop k j r
    by_cases e : p.1 = k
    · rw [dropK_pos e, ih]
      by_cases h : j = k
      · rw [if_pos h, if_pos h]
      · rw [if_neg h, if_neg h, valV_neg (fun z => h (z.symm.trans e))]
    · rw [dropK_neg e]
      by_cases h : p.1 = j
      · rw [valV_pos h, valV_pos h, if_neg (fun z => e (h.trans z))]
      · rw [valV_neg h, valV_neg h, ih]
theorem cont_no {C D W : Addr} (h1 : C ≠ D) (h2 : W ≠ D) : (Value.ref C :: wl W).contains (.ref D) = false := by
  simp [wl, tailVE, h1, h2, Ne.symm h1, Ne.symm h2]
theorem cont_self {C : Addr} {bm : List Value} : (Value.ref C :: bm).contains (.ref C) = true := by simp
theorem cont_W {C W : Addr} : (Value.ref C :: wl W).contains (.ref W) = true := by simp [wl]
end L2
namespace FL
open PySem L2 PyProof.Rows
theorem sqL_keep {K : PySem.W.Frag} {H H' : Hp} {a : Addr} {xs : List V} (h : SqL K H a xs) (k : ∀ o, H a = some o → H' a = some o) : SqL K H' a xs := by
  rcases h with (h | ⟨o, h⟩) | h
  · exact .inl (.inl (k _ h))
  · exact .inl (.inr ⟨o, k _ h⟩)
  · exact .inr h
theorem FlAt.free {C p pc sp wr b : Addr} {H : Hp} {st : FS} (h : FlAt C H p pc sp wr st) (e : H b = none) : b ∉ [p, pc, sp, wr] := fun m => by
  obtain ⟨dx, hp⟩ := h.at_
  simp at m
  rcases m with m | m | m | m
  · exact ne_of_none hp e m.symm
  · exact ne_of_none h.kp e m.symm
  · exact ne_of_none h.ks e m.symm
  · exact ne_of_none h.ws e m.symm
theorem FlAt.keep {C p pc sp wr : Addr} {H H' : Hp} {st : FS} (h : FlAt C H p pc sp wr st) (k : ∀ x ∈ [p, pc, sp, wr], ∀ o, H x = some o → H' x = some o) : FlAt C H' p pc sp wr st := by
  obtain ⟨⟨dx, h1⟩, h2, h3, h4, h5⟩ := h
  exact ⟨⟨dx, k _ (by simp) _ h1⟩, k _ (by simp) _ h2, k _ (by simp) _ h3, k _ (by simp) _ h4, h5⟩
theorem pop_one {H : Hp} {a : Addr} {kvs : List (Key × V)} {k : Key} {Q : VK} {z : V} (e : H a = some (.dK kvs)) (h : ∀ z, Q z (L2.upd H a (.dK (dropK kvs k)))) :
    (∀ v, valV kvs k = some v → Q v (L2.upd H a (.dK (dropK kvs k)))) ∧ (valV kvs k = none → Q z H) := ⟨fun v _ => h v, fun n => by
  have y := h z
  rw [drop_none n, upd_self e] at y
  exact y⟩
/-! ### what the law keeps beside a floor -/
structure LS where
  bn : List (Key × V)
  bd : List (Key × V)
  dn : List V
  lf : Int
  dk : Bool
def lsD (b a d : Addr) (ls : LS) : List (Key × V) := [(.inr "borne", .ref b), (.inr "bad", .ref a), (.inr "done", .ref d), (.inr "left", .int ls.lf), (.inr "dark", .bl ls.dk)]
structure StAt (H : Hp) (q b a d : Addr) (ls : LS) : Prop where
  at_ : H q = some (.dK (lsD b a d ls))
  bn : H b = some (.dK ls.bn)
  bd : H a = some (.dK ls.bd)
  dn : H d = some (.lst ls.dn)
  n1 : q ≠ b
  n2 : q ≠ a
  n3 : b ≠ a
section
variable {H H' : Hp} {q b a d : Addr} {ls : LS}
theorem StAt.n4 (h : StAt H q b a d ls) : q ≠ d := ne_of h.at_ h.dn (by intro z; cases z)
theorem StAt.n5 (h : StAt H q b a d ls) : b ≠ d := ne_of h.bn h.dn (by intro z; cases z)
theorem StAt.n6 (h : StAt H q b a d ls) : a ≠ d := ne_of h.bd h.dn (by intro z; cases z)
theorem StAt.keep (h : StAt H q b a d ls) (k : ∀ x ∈ [q, b, a, d], ∀ o, H x = some o → H' x = some o) : StAt H' q b a d ls :=
  ⟨k _ (by simp) _ h.at_, k _ (by simp) _ h.bn, k _ (by simp) _ h.bd, k _ (by simp) _ h.dn, h.n1, h.n2, h.n3⟩
theorem StAt.mono (h : StAt H q b a d ls) (s : Same H H') : StAt H' q b a d ls := h.keep fun x _ o e => s x o e
theorem StAt.free (h : StAt H q b a d ls) {x : Addr} (e : H x = none) : x ∉ [q, b, a, d] := fun m => by
  simp at m
  rcases m with m | m | m | m
  · exact ne_of_none h.at_ e m.symm
  · exact ne_of_none h.bn e m.symm
  · exact ne_of_none h.bd e m.symm
  · exact ne_of_none h.dn e m.symm
theorem StAt.setBn (h : StAt H q b a d ls) (k : List (Key × V)) : StAt (L2.upd H b (.dK k)) q b a d { ls with bn := k } :=
  ⟨by rw [upd_ne h.n1]; exact h.at_, upd_same, by rw [upd_ne h.n3.symm]; exact h.bd, by rw [upd_ne h.n5.symm]; exact h.dn, h.n1, h.n2, h.n3⟩
theorem StAt.setBd (h : StAt H q b a d ls) (k : List (Key × V)) : StAt (L2.upd H a (.dK k)) q b a d { ls with bd := k } :=
  ⟨by rw [upd_ne h.n2]; exact h.at_, by rw [upd_ne h.n3]; exact h.bn, upd_same, by rw [upd_ne h.n6.symm]; exact h.dn, h.n1, h.n2, h.n3⟩
theorem StAt.setDn (h : StAt H q b a d ls) (k : List V) : StAt (L2.upd H d (.lst k)) q b a d { ls with dn := k } :=
  ⟨by rw [upd_ne h.n4]; exact h.at_, by rw [upd_ne h.n5]; exact h.bn, by rw [upd_ne h.n6]; exact h.bd, upd_same, h.n1, h.n2, h.n3⟩
theorem StAt.setQ (h : StAt H q b a d ls) (l : Int) (k : Bool) : StAt (L2.upd H q (.dK (lsD b a d { ls with lf := l, dk := k }))) q b a d { ls with lf := l, dk := k } :=
  ⟨upd_same, by rw [upd_ne h.n1.symm]; exact h.bn, by rw [upd_ne h.n2.symm]; exact h.bd, by rw [upd_ne h.n4.symm]; exact h.dn, h.n1, h.n2, h.n3⟩
end
theorem v_borne (b a d : Addr) (ls : LS) : valV (lsD b a d ls) (.inr "borne") = some (.ref b) := rfl
theorem v_bad (b a d : Addr) (ls : LS) : valV (lsD b a d ls) (.inr "bad") = some (.ref a) := by
  unfold lsD
  rw [valV_neg (by intro z; exact absurd (Sum.inr.inj z) (by decide))]
  exact valV_pos rfl
theorem v_done (b a d : Addr) (ls : LS) : valV (lsD b a d ls) (.inr "done") = some (.ref d) := by
  unfold lsD
  rw [valV_neg (by intro z; exact absurd (Sum.inr.inj z) (by decide)), valV_neg (by intro z; exact absurd (Sum.inr.inj z) (by decide))]
  exact valV_pos rfl
theorem v_left (b a d : Addr) (ls : LS) : valV (lsD b a d ls) (.inr "left") = some (.int ls.lf) := by
  unfold lsD
  rw [valV_neg (by intro z; exact absurd (Sum.inr.inj z) (by decide)), valV_neg (by intro z; exact absurd (Sum.inr.inj z) (by decide)), valV_neg (by intro z; exact absurd (Sum.inr.inj z) (by decide))]
  exact valV_pos rfl
theorem v_dark (b a d : Addr) (ls : LS) : valV (lsD b a d ls) (.inr "dark") = some (.bl ls.dk) := by
  unfold lsD
  rw [valV_neg (by intro z; exact absurd (Sum.inr.inj z) (by decide)), valV_neg (by intro z; exact absurd (Sum.inr.inj z) (by decide)), valV_neg (by intro z; exact absurd (Sum.inr.inj z) (by decide)), valV_neg (by intro z; exact absurd (Sum.inr.inj z) (by decide))]
  exact valV_pos rfl
theorem p_left (b a d : Addr) (ls : LS) (l : Int) : putK (lsD b a d ls) (.inr "left") (.int l) = lsD b a d { ls with lf := l, dk := ls.dk } := by
  unfold putK
  rw [if_pos (by rw [valV_any, v_left]; rfl)]
  rfl
theorem p_dark (b a d : Addr) (ls : LS) (k : Bool) : putK (lsD b a d ls) (.inr "dark") (.bl k) = lsD b a d { ls with lf := ls.lf, dk := k } := by
  unfold putK
  rw [if_pos (by rw [valV_any, v_dark]; rfl)]
  rfl
section
variable {H : Hp} {q b a d : Addr} {ls : LS}
theorem StAt.gB (h : StAt H q b a d ls) : DGet H q (.str "borne") (some (.ref b)) := by have g := DGet.k (k := .inr "borne") h.at_; rw [v_borne] at g; exact g
theorem StAt.gA (h : StAt H q b a d ls) : DGet H q (.str "bad") (some (.ref a)) := by have g := DGet.k (k := .inr "bad") h.at_; rw [v_bad] at g; exact g
theorem StAt.gD (h : StAt H q b a d ls) : DGet H q (.str "done") (some (.ref d)) := by have g := DGet.k (k := .inr "done") h.at_; rw [v_done] at g; exact g
theorem StAt.gL (h : StAt H q b a d ls) : DGet H q (.str "left") (some (.int ls.lf)) := by have g := DGet.k (k := .inr "left") h.at_; rw [v_left] at g; exact g
theorem StAt.gK (h : StAt H q b a d ls) : DGet H q (.str "dark") (some (.bl ls.dk)) := by have g := DGet.k (k := .inr "dark") h.at_; rw [v_dark] at g; exact g
theorem StAt.pL (h : StAt H q b a d ls) (l : Int) : DPut H q (.str "left") (.int l) (L2.upd H q (.dK (lsD b a d { ls with lf := l, dk := ls.dk }))) := by
  have g := DPut.k (k := .inr "left") (v := .int l) h.at_ (by show 5 < sizeLine; decide)
  rw [p_left] at g
  exact g
theorem StAt.pK (h : StAt H q b a d ls) (k : Bool) : DPut H q (.str "dark") (.bl k) (L2.upd H q (.dK (lsD b a d { ls with lf := ls.lf, dk := k }))) := by
  have g := DPut.k (k := .inr "dark") (v := .bl k) h.at_ (by show 5 < sizeLine; decide)
  rw [p_dark] at g
  exact g
end
/-! ### both tell the same -/
def okV (v : V) : Prop := flatV v = true ∨ ∃ a, v = .ref a
theorem eqV_refl0 : ∀ {x : V}, flatV x = true → eqV x x = true
  | .non, _ => rfl
  | .bl b, _ => by show (b == b) = true; simp
  | .int n, _ => by show (n == n) = true; simp
  | .str z, _ => by show (z == z) = true; simp
  | .byt _, h => by cases h
  | .flt _, h => by cases h
  | .ref _, h => by cases h
  | .ty _, h => by cases h
theorem eqVs_refl0 : ∀ {xs : List V}, xs.all flatV = true → eqVs xs xs = true
  | [], _ => rfl
  | x :: xs, h => by
    rw [List.all_cons, Bool.and_eq_true] at h
    show (eqV x x && eqVs xs xs) = true
    rw [eqV_refl0 h.1, eqVs_refl0 h.2]
    rfl
theorem eqv_same {K : PySem.W.Frag} {H : Hp} {x : V} (h : okV x) : Eqv K H 0 x x := by
  unfold Eqv
  rcases h with h | ⟨a, e⟩
  · exact .inl ⟨h, h, eqV_refl0 h⟩
  · exact .inr ⟨a, e, e⟩
theorem eqvS_tup {K : PySem.W.Frag} {H : Hp} {t u : Addr} {xs : List V} (h1 : H t = some (.tup xs)) (h2 : H u = some (.tup xs)) (h : ∀ x ∈ xs, okV x) : EqvS K H 0 (.ref t) (.ref u) := by
  unfold EqvS
  refine ⟨t, u, xs, xs, rfl, rfl, .inl ⟨SqT.of h1, SqT.of h2⟩, rfl, fun i a b e1 e2 => ?_⟩
  rw [e1] at e2
  cases e2
  exact eqv_same (h _ (List.mem_of_getElem? e1))
structure RelS (st : FS) (ls : LS) : Prop where
  vp : ∀ i : Int, valV st.kp (.inl i) = valV ls.bn (.inl i)
  vs : ∀ i : Int, (valV st.ks (.inl i)).isSome = (valV ls.bd (.inl i)).isSome
  ws : st.ws = ls.dn
  d : st.d = ls.dk
  l : (st.l = .non ∧ ls.lf = -1) ∨ ∃ j : Int, 0 ≤ j ∧ st.l = .int j ∧ ls.lf = j
  fl : st.ws.all flatV = true
  ok : ∀ (i : Int) (v : V), valV ls.bn (.inl i) = some v → okV v
/-- .. but for how many writes are left -/
structure RelR (st : FS) (ls : LS) : Prop where
  vp : ∀ i : Int, valV st.kp (.inl i) = valV ls.bn (.inl i)
  vs : ∀ i : Int, (valV st.ks (.inl i)).isSome = (valV ls.bd (.inl i)).isSome
  ws : st.ws = ls.dn
  d : st.d = ls.dk
  fl : st.ws.all flatV = true
  ok : ∀ (i : Int) (v : V), valV ls.bn (.inl i) = some v → okV v
  li : st.l = .non ∨ ∃ j, st.l = .int j
theorem RelS.r {st : FS} {ls : LS} (r : RelS st ls) : RelR st ls := ⟨r.vp, r.vs, r.ws, r.d, r.fl, r.ok, by
  rcases r.l with ⟨e, _⟩ | ⟨j, _, e, _⟩
  · exact .inl e
  · exact .inr ⟨j, e⟩⟩
structure Sz (st : FS) (ls : LS) (m : Nat) : Prop where
  kp : st.kp.length ≤ m
  ks : st.ks.length ≤ m
  ws : st.ws.length ≤ m
  bn : ls.bn.length ≤ m
  bd : ls.bd.length ≤ m
  dn : ls.dn.length ≤ m
theorem RelR.sm {st : FS} {ls : LS} {m : Nat} (r : RelR st ls) (z : Sz st ls m) (h : m ≤ 10000) : Sm st := ⟨Nat.le_trans z.kp h, Nat.le_trans z.ks h, Nat.le_trans z.ws h, r.li⟩
theorem RelS.sm {st : FS} {ls : LS} {m : Nat} (r : RelS st ls) (z : Sz st ls m) (h : m ≤ 10000) : Sm st :=
  ⟨Nat.le_trans z.kp h, Nat.le_trans z.ks h, Nat.le_trans z.ws h, by
    rcases r.l with ⟨e, _⟩ | ⟨j, _, e, _⟩
    · exact .inl e
    · exact .inr ⟨j, e⟩⟩
def outT : Out → List V
  | .ok v => [.str "told", v]
  | .pg => [.str "dark", .int (-1)]
  | .so x => [.str "spoilt", x]
  | .pi x => [.str "nothing", x]
  | .np _ => [.str "else", .int (-1)]
/-- what the law has as due of a reading, a write, a harm -/
def rDu (ls : LS) (i : Int) : List V := if ls.dk = true then [.str "dark", .int (-1)] else if (valV ls.bd (.inl i)).isSome = true then [.str "spoilt", .int i] else match valV ls.bn (.inl i) with
  | some v => [.str "told", v]
  | none => [.str "nothing", .int i]
def wDu (ls : LS) (i : Int) (v : V) : List V × LS := if ls.dk = true then ([.str "dark", .int (-1)], ls) else
  if ls.lf = 0 then ([.str "dark", .int (-1)], { ls with bn := dropK ls.bn (.inl i), bd := putK (dropK ls.bd (.inl i)) (.inl i) (.bl true), dk := true }) else
  ([.str "told", .non], { ls with bn := putK (dropK ls.bn (.inl i)) (.inl i) v, bd := dropK ls.bd (.inl i), dn := ls.dn ++ [.int i], lf := ls.lf - (if decide (ls.lf > 0) = true then 1 else 0) })
def hDu (ls : LS) (i : Int) : List V × LS := if (valV ls.bn (.inl i)).isSome = true ∨ (valV ls.bd (.inl i)).isSome = true then ([.str "told", .non], { ls with bn := dropK ls.bn (.inl i), bd := putK ls.bd (.inl i) (.bl true) }) else ([.str "nothing", .int i], ls)
section
variable {st : FS} {ls : LS} {m : Nat} {i : Int} {v : V}
theorem rel_read (r : RelR st ls) (h : isP st (.int i) = true) : (fRead st (.int i)).2 = st ∧ outT (fRead st (.int i)).1 = rDu ls i := by
  unfold fRead rDu
  rw [if_pos h, ← r.d]
  cases st.d with
  | true => exact ⟨rfl, rfl⟩
  | false =>
    rw [if_neg Bool.false_ne_true, if_neg Bool.false_ne_true]
    have e1 := r.vs i
    have e2 := r.vp i
    show (if (valV st.ks (.inl i)).isSome = true then (Out.so (.int i), st) else match valV st.kp (.inl i) with | some v => (Out.ok v, st) | none => (Out.pi (.int i), st)).2 = st ∧ outT (if (valV st.ks (.inl i)).isSome = true then (Out.so (.int i), st) else match valV st.kp (.inl i) with | some v => (Out.ok v, st) | none => (Out.pi (.int i), st)).1 = _
    rw [e1, e2]
    by_cases hb : (valV ls.bd (.inl i)).isSome = true
    · rw [if_pos hb, if_pos hb]
      exact ⟨rfl, rfl⟩
    · rw [if_neg hb, if_neg hb]
      cases valV ls.bn (.inl i) <;> exact ⟨rfl, rfl⟩
theorem rel_clean (r : RelS st ls) : RelS (cln st (.inl i)) { ls with bn := dropK ls.bn (.inl i), bd := dropK ls.bd (.inl i) } := by
  refine ⟨fun j => ?_, fun j => ?_, r.ws, r.d, r.l, r.fl, fun j v e => ?_⟩
  · show valV (dropK st.kp _) _ = valV (dropK ls.bn _) _
    rw [valV_drop, valV_drop, r.vp]
  · show (valV (dropK st.ks _) _).isSome = (valV (dropK ls.bd _) _).isSome
    rw [valV_drop, valV_drop]
    split
    · rfl
    · exact r.vs j
  · have e : valV (dropK ls.bn (.inl i)) (.inl j) = some v := e
    rw [valV_drop] at e
    split at e
    · cases e
    · exact r.ok j v e
theorem rel_spoil (r : RelS st ls) {bd : List (Key × V)} (h : ∀ j : Int, (valV bd (.inl j)).isSome = if j = i then true else (valV ls.bd (.inl j)).isSome) : RelS (spl st (.inl i)) { ls with bn := dropK ls.bn (.inl i), bd := bd } := by
  refine ⟨fun j => ?_, fun j => ?_, r.ws, r.d, r.l, r.fl, fun j v e => ?_⟩
  · show valV (dropK st.kp _) _ = valV (dropK ls.bn _) _
    rw [valV_drop, valV_drop, r.vp]
  · show (valV (putK (dropK st.ks _) _ _) _).isSome = (valV bd _).isSome
    rw [h, valV_put, valV_drop]
    by_cases e : j = i
    · rw [if_pos e, if_pos (by rw [e])]
      rfl
    · have e' : ¬ (Sum.inl j : Key) = Sum.inl i := fun z => e (Sum.inl.inj z)
      rw [if_neg e, if_neg e', if_neg e']
      exact r.vs j
  · have e : valV (dropK ls.bn (.inl i)) (.inl j) = some v := e
    rw [valV_drop] at e
    split at e
    · cases e
    · exact r.ok j v e
theorem put_drop_some (l : List (Key × V)) (j : Int) (x : V) : (valV (putK (dropK l (.inl i)) (.inl i) x) (.inl j)).isSome = if j = i then true else (valV l (.inl j)).isSome := by
  rw [valV_put, valV_drop]
  by_cases e : j = i
  · rw [if_pos e, if_pos (by rw [e])]
    rfl
  · have e' : ¬ (Sum.inl j : Key) = Sum.inl i := fun z => e (Sum.inl.inj z)
    rw [if_neg e, if_neg e', if_neg e']
theorem put_some (l : List (Key × V)) (j : Int) (x : V) : (valV (putK l (.inl i) x) (.inl j)).isSome = if j = i then true else (valV l (.inl j)).isSome := by
  rw [valV_put]
  by_cases e : j = i
  · rw [if_pos e, if_pos (by rw [e])]
    rfl
  · have e' : ¬ (Sum.inl j : Key) = Sum.inl i := fun z => e (Sum.inl.inj z)
    rw [if_neg e, if_neg e']
theorem rel_harm (r : RelS st ls) (z : Sz st ls m) (h : isP st (.int i) = true) : outT (fHarm st (.int i)).1 = (hDu ls i).1 ∧ RelS (fHarm st (.int i)).2 (hDu ls i).2 ∧ Sz (fHarm st (.int i)).2 (hDu ls i).2 (m + 1) ∧ (fHarm st (.int i)).2.n = st.n := by
  unfold fHarm hDu
  rw [if_pos h]
  have e1 := r.vs i
  have e2 := r.vp i
  have c : ((valV st.kp (keyOf (.int i))).isSome = true ∨ (valV st.ks (keyOf (.int i))).isSome = true) ↔ ((valV ls.bn (.inl i)).isSome = true ∨ (valV ls.bd (.inl i)).isSome = true) := by
    show ((valV st.kp (.inl i)).isSome = true ∨ (valV st.ks (.inl i)).isSome = true) ↔ _
    rw [e1, e2]
  by_cases hb : (valV ls.bn (.inl i)).isSome = true ∨ (valV ls.bd (.inl i)).isSome = true
  · rw [if_pos (c.mpr hb), if_pos hb]
    refine ⟨rfl, rel_spoil r fun j => put_some _ _ _, ⟨?_, ?_, Nat.le_succ_of_le z.ws, ?_, ?_, Nat.le_succ_of_le z.dn⟩, rfl⟩
    · exact Nat.le_succ_of_le (Nat.le_trans (drop_le _ _) z.kp)
    · exact Nat.le_trans (put_le _ _ _) (Nat.succ_le_succ (Nat.le_trans (drop_le _ _) z.ks))
    · exact Nat.le_succ_of_le (Nat.le_trans (drop_le _ _) z.bn)
    · exact Nat.le_trans (put_le _ _ _) (Nat.succ_le_succ z.bd)
  · rw [if_neg (fun x => hb (c.mp x)), if_neg hb]
    exact ⟨rfl, r, ⟨Nat.le_succ_of_le z.kp, Nat.le_succ_of_le z.ks, Nat.le_succ_of_le z.ws, Nat.le_succ_of_le z.bn, Nat.le_succ_of_le z.bd, Nat.le_succ_of_le z.dn⟩, rfl⟩
theorem rel_write (r : RelS st ls) (z : Sz st ls m) (hv : okV v) (h : isP st (.int i) = true) : outT (fWrite st (.int i) v).1 = (wDu ls i v).1 ∧ RelS (fWrite st (.int i) v).2 (wDu ls i v).2 ∧ Sz (fWrite st (.int i) v).2 (wDu ls i v).2 (m + 1) ∧ (fWrite st (.int i) v).2.n = st.n := by
  unfold fWrite wDu
  rw [if_pos h]
  have up : Sz st ls (m + 1) := ⟨Nat.le_succ_of_le z.kp, Nat.le_succ_of_le z.ks, Nat.le_succ_of_le z.ws, Nat.le_succ_of_le z.bn, Nat.le_succ_of_le z.bd, Nat.le_succ_of_le z.dn⟩
  by_cases hd : st.d = true
  · rw [if_pos hd, if_pos (show ls.dk = true by rw [← r.d]; exact hd)]
    exact ⟨rfl, r, up, rfl⟩
  rw [if_neg hd, if_neg (show ¬ ls.dk = true by rw [← r.d]; exact hd)]
  have hl : st.l = .int 0 ↔ ls.lf = 0 := by
    rcases r.l with ⟨e1, e2⟩ | ⟨j, _, e1, e2⟩
    · rw [e1, e2]
      exact ⟨(fun x => by cases x), (fun x => by cases x)⟩
    · rw [e1, e2]
      exact ⟨fun x => by injection x, fun x => by rw [x]⟩
  by_cases h0 : ls.lf = 0
  · rw [if_pos (hl.mpr h0), if_pos h0]
    have q := rel_spoil (i := i) r (bd := putK (dropK ls.bd (.inl i)) (.inl i) (.bl true)) fun j => put_drop_some _ _ _
    refine ⟨rfl, ⟨q.vp, q.vs, q.ws, rfl, q.l, q.fl, q.ok⟩, ⟨?_, ?_, Nat.le_succ_of_le z.ws, ?_, ?_, Nat.le_succ_of_le z.dn⟩, rfl⟩
    · exact Nat.le_succ_of_le (Nat.le_trans (drop_le _ _) z.kp)
    · exact Nat.le_trans (put_le _ _ _) (Nat.succ_le_succ (Nat.le_trans (drop_le _ _) z.ks))
    · exact Nat.le_succ_of_le (Nat.le_trans (drop_le _ _) z.bn)
    · exact Nat.le_trans (put_le _ _ _) (Nat.succ_le_succ (Nat.le_trans (drop_le _ _) z.bd))
  · rw [if_neg (fun x => h0 (hl.mp x)), if_neg h0]
    refine ⟨rfl, ⟨fun j => ?_, fun j => ?_, ?_, r.d, ?_, ?_, fun j u e => ?_⟩, ⟨?_, ?_, ?_, ?_, ?_, ?_⟩, rfl⟩
    · show valV (putK (dropK st.kp (.inl i)) (.inl i) v) _ = valV (putK (dropK ls.bn (.inl i)) (.inl i) v) _
      rw [valV_put, valV_put, valV_drop, valV_drop, r.vp]
    · show (valV (dropK st.ks (.inl i)) _).isSome = (valV (dropK ls.bd (.inl i)) _).isSome
      rw [valV_drop, valV_drop]
      split
      · rfl
      · exact r.vs j
    · show st.ws ++ [V.int i] = ls.dn ++ [V.int i]
      rw [r.ws]
    · rcases r.l with ⟨e1, e2⟩ | ⟨j, hj, e1, e2⟩
      · refine .inl ⟨by show dec st.l = _; rw [e1]; rfl, ?_⟩
        show ls.lf - (if decide (ls.lf > 0) = true then 1 else 0) = -1
        rw [e2]
        decide
      · refine .inr ⟨j - 1, by omega, by show dec st.l = _; rw [e1]; rfl, ?_⟩
        show ls.lf - (if decide (ls.lf > 0) = true then 1 else 0) = j - 1
        rw [e2, if_pos (decide_eq_true (by omega))]
    · show (st.ws ++ [V.int i]).all flatV = true
      rw [List.all_append, r.fl]
      rfl
    · have e : valV (putK (dropK ls.bn (.inl i)) (.inl i) v) (.inl j) = some u := e
      rw [valV_put, valV_drop] at e
      split at e
      · cases e
        exact hv
      · exact r.ok j u e
    · exact Nat.le_trans (put_le _ _ _) (Nat.succ_le_succ (Nat.le_trans (drop_le _ _) z.kp))
    · exact Nat.le_succ_of_le (Nat.le_trans (drop_le _ _) z.ks)
    · show (st.ws ++ [_]).length ≤ _
      rw [List.length_append]
      exact Nat.succ_le_succ z.ws
    · exact Nat.le_trans (put_le _ _ _) (Nat.succ_le_succ (Nat.le_trans (drop_le _ _) z.bn))
    · exact Nat.le_succ_of_le (Nat.le_trans (drop_le _ _) z.bd)
    · show (ls.dn ++ [_]).length ≤ _
      rw [List.length_append]
      exact Nat.succ_le_succ z.dn
theorem rel_okR (r : RelR st ls) : ∀ x ∈ rDu ls i, okV x := by
  unfold rDu
  intro x hx
  split at hx
  · rcases List.mem_cons.mp hx with rfl | hx
    · exact .inl rfl
    · rw [List.mem_singleton.mp hx]; exact .inl rfl
  split at hx
  · rcases List.mem_cons.mp hx with rfl | hx
    · exact .inl rfl
    · rw [List.mem_singleton.mp hx]; exact .inl rfl
  split at hx
  · rename_i v e
    rcases List.mem_cons.mp hx with rfl | hx
    · exact .inl rfl
    · rw [List.mem_singleton.mp hx]; exact r.ok i v e
  · rcases List.mem_cons.mp hx with rfl | hx
    · exact .inl rfl
    · rw [List.mem_singleton.mp hx]; exact .inl rfl
theorem okW : ∀ x ∈ (wDu ls i v).1, okV x := by
  unfold wDu
  intro x hx
  split at hx
  · rcases List.mem_cons.mp hx with rfl | hx
    · exact .inl rfl
    · rw [List.mem_singleton.mp hx]; exact .inl rfl
  split at hx
  · rcases List.mem_cons.mp hx with rfl | hx
    · exact .inl rfl
    · rw [List.mem_singleton.mp hx]; exact .inl rfl
  · rcases List.mem_cons.mp hx with rfl | hx
    · exact .inl rfl
    · rw [List.mem_singleton.mp hx]; exact .inl rfl
theorem okH : ∀ x ∈ (hDu ls i).1, okV x := by
  unfold hDu
  intro x hx
  split at hx
  · rcases List.mem_cons.mp hx with rfl | hx
    · exact .inl rfl
    · rw [List.mem_singleton.mp hx]; exact .inl rfl
  · rcases List.mem_cons.mp hx with rfl | hx
    · exact .inl rfl
    · rw [List.mem_singleton.mp hx]; exact .inl rfl
/-! ### a floor and what is kept beside it -/
structure AD where
  p : Addr
  pc : Addr
  sp : Addr
  wr : Addr
  q : Addr
  b : Addr
  a : Addr
  d : Addr
abbrev AD.f (A : AD) : List Addr := [A.p, A.pc, A.sp, A.wr]
abbrev AD.s (A : AD) : List Addr := [A.q, A.b, A.a, A.d]
abbrev AD.l (A : AD) : List Addr := A.f ++ A.s
structure Pr (R : FS → LS → Prop) (c : Cl) (H : Hp) (A : AD) (n : Int) (m : Nat) (st : FS) (ls : LS) : Prop where
  fl : FlAt c.F H A.p A.pc A.sp A.wr st
  sa : StAt H A.q A.b A.a A.d ls
  dj : ∀ x ∈ A.f, x ∉ A.s
  rel : R st ls
  sz : Sz st ls m
  hn : st.n = n
theorem Sx.sub {l l' : List Addr} {H H' : Hp} (s : Sx l H H') (h : ∀ x ∈ l, x ∈ l') : Sx l' H H' := fun b o n e => s b o (fun m => n (h b m)) e
theorem Sx.f {A : AD} {H H' : Hp} (s : Sx A.f H H') : Sx A.l H H' := s.sub fun x h => List.mem_append.mpr (.inl h)
theorem Sx.s {A : AD} {H H' : Hp} (s : Sx A.s H H') : Sx A.l H H' := s.sub fun x h => List.mem_append.mpr (.inr h)
section
variable {R R' : FS → LS → Prop} {c : Cl} {H H' : Hp} {A B : AD} {n : Int}
theorem Pr.free (h : Pr R c H A n m st ls) {x : Addr} (e : H x = none) : x ∉ A.l := fun k => by
  rcases List.mem_append.mp k with k | k
  · exact FlAt.free h.fl e k
  · exact h.sa.free e k
theorem Pr.keep (h : Pr R c H A n m st ls) (k : ∀ x ∈ A.l, ∀ o, H x = some o → H' x = some o) : Pr R c H' A n m st ls :=
  ⟨h.fl.keep fun x hx => k x (List.mem_append.mpr (.inl hx)), h.sa.keep fun x hx => k x (List.mem_append.mpr (.inr hx)), h.dj, h.rel, h.sz, h.hn⟩
theorem Pr.mono (h : Pr R c H A n m st ls) (s : Same H H') : Pr R c H' A n m st ls := h.keep fun x _ o e => s x o e
theorem Pr.apart (h : Pr R c H B n m st ls) (s : Sx A.l H H') (d : ∀ x ∈ A.l, x ∉ B.l) : Pr R c H' B n m st ls := h.keep fun x hx o e => s x o (fun k => d x k hx) e
theorem Pr.sF (h : Pr R c H A n m st ls) (s : Sx A.f H H') : StAt H' A.q A.b A.a A.d ls := h.sa.keep fun x hx o e => s x o (fun k => h.dj x k hx) e
theorem Pr.fS (h : Pr R c H A n m st ls) (s : Sx A.s H H') : FlAt c.F H' A.p A.pc A.sp A.wr st := h.fl.keep fun x hx o e => s x o (h.dj x hx) e
theorem Pr.back (h : Pr R c H A n m st ls) (r : R' st ls) : Pr R' c H A n m st ls := ⟨h.fl, h.sa, h.dj, r, h.sz, h.hn⟩
theorem Pr.toR (h : Pr RelS c H A n m st ls) : Pr RelR c H A n m st ls := h.back h.rel.r
theorem Pr.up (h : Pr R c H A n m st ls) : Pr R c H A n (m + 1) st ls :=
  ⟨h.fl, h.sa, h.dj, h.rel, ⟨Nat.le_succ_of_le h.sz.kp, Nat.le_succ_of_le h.sz.ks, Nat.le_succ_of_le h.sz.ws, Nat.le_succ_of_le h.sz.bn, Nat.le_succ_of_le h.sz.bd, Nat.le_succ_of_le h.sz.dn⟩, h.hn⟩
end
end
end FL
namespace K3
open PySem L2 PyProof.Rows
def top (i : Nat) : Stmt := PySem.Challenge.pw_clonewood_k03_a_floor.main.body.getD i (.Pass ⟨0, 0, 0, 0⟩)
abbrev sINF : Stmt := inClass (top 3) 0
abbrev sINP : Stmt := inClass (top 4) 0
abbrev sINI : Stmt := inClass (top 5) 0
abbrev sISO : Stmt := inClass (top 6) 0
abbrev sWho : Stmt := top 8
abbrev sWth : Stmt := top 9
abbrev sFIn : Stmt := inClass (top 13) 0
abbrev sWri : Stmt := inClass (top 13) 1
abbrev sRea : Stmt := inClass (top 13) 2
abbrev sCut : Stmt := inClass (top 13) 3
abbrev sPon : Stmt := inClass (top 13) 4
abbrev sIsD : Stmt := inClass (top 13) 5
abbrev sWrs : Stmt := inClass (top 13) 6
abbrev sHar : Stmt := inClass (top 13) 7
abbrev sLos : Stmt := inClass (top 13) 8
abbrev sCop : Stmt := inClass (top 13) 9
abbrev sNPl : Stmt := inClass (top 13) 10
abbrev sNPo : Stmt := inClass (top 13) 11
abbrev sSpo : Stmt := inClass (top 13) 12
abbrev sCle : Stmt := inClass (top 13) 13
abbrev sCel : Stmt := top 15
abbrev sStu : Stmt := top 16
abbrev sRDu : Stmt := top 17
abbrev sDon : Stmt := top 18
abbrev sWDu : Stmt := top 19
abbrev sHDu : Stmt := top 20
abbrev sPow : Stmt := top 21
abbrev sSta : Stmt := top 22
abbrev sSte : Stmt := top 23
abbrev sRds : Stmt := top 24
abbrev sLaw : Stmt := top 25
/-- what the top has of names -/
structure Txt (mg : Str → Option Value) : Prop where
  isi : mg "isinstance" = none
  int : mg "int" = none
  str : mg "str" = none
  bol : mg "bool" = none
  len : mg "len" = none
  rng : mg "range" = none
  lst : mg "list" = none
  dct : mg "dict" = none
  vae : mg "ValueError" = none
  few : ∃ t, mg "FEWEST_PLACES" = some (.int 4 t)
  mst : ∃ t, mg "MOST_PLACES" = some (.int 600 t)
end K3
set_option maxHeartbeats 4000000
namespace K3
open PySem L2 FL
section
variable {P : Program} {w : World} {K : PySem.W.Frag} {mg : Str → Option Value} {base : Heap} {f : Addr} {fd : FuncData} {c : Cl}
theorem scWho : FnScope ["thing"] ["thing"] (defScope sWho) := ⟨rfl, rfl, rfl, by decide +kernel, rfl, by decide +kernel, by decide +kernel⟩
theorem ok_Who (F : Fun K "is_whole" "is_whole" sWho f fd) (T : Txt mg) : FnOk P w K mg base CX0 1 f fd ["thing"] spWho0 := by
  refine F.ok scWho (fun vs H Q E h => ?_) (fun cdv A outer s H vs Q E hr h => ?_)
  · obtain ⟨x, rfl, _⟩ := h
    rfl
  obtain ⟨x, rfl, hT, q⟩ := h
  obtain ⟨t, ty, k1, k2⟩ := hT.ty (K := K)
  refine ⟨_, (pss_one (ps_ret (pe_and (pe_callB call_isinst rfl T.isi PyProof.Rows.boot_isinstance (pa_cons (pv 0) (pa_cons (pe_bltn (v := .ty "int") rfl T.int PyProof.Rows.boot_int rfl) pa_nil))) (pe_one (pe_not (pe_callB call_isinst rfl T.isi PyProof.Rows.boot_isinstance (pa_cons (pv 0) (pa_cons (pe_bltn (v := .ty "bool") rfl T.bol PyProof.Rows.boot_bool rfl) pa_nil)))))))), ?_⟩
  refine ⟨_, rfl, x, "int", t, isI0 x, rfl, ty, k1, _, rfl, ?_⟩
  unfold who0 at q
  refine ite2 (fun c => ?_) (fun c => ?_)
  · refine ⟨_, rfl, x, "bool", t, isB0 x, rfl, ty, k2, _, rfl, ?_⟩
    rw [c] at q
    exact q
  · rw [Bool.not_eq_true] at c
    rw [c] at q
    exact q
theorem scWth : FnScope ["thing", "low", "high"] ["thing", "low", "high"] (defScope sWth) := ⟨rfl, rfl, rfl, by decide +kernel, rfl, by decide +kernel, by decide +kernel⟩
theorem ok_Wth (F : Fun K "is_within" "is_within" sWth f fd) {fW : Addr} {dW : FuncData} (hWho : Has K mg "is_whole" sWho ["thing"] fW dW) (GWho : FnOk P w K mg base CX0 1 fW dW ["thing"] spWho0) : FnOk P w K mg base CX0 2 f fd ["thing", "low", "high"] spWth0 := by
  refine F.ok scWth (fun vs H Q E h => ?_) (fun cdv A outer s H vs Q E hr h => ?_)
  · obtain ⟨x, l, h, rfl, _⟩ := h
    rfl
  obtain ⟨x, l, h, rfl, hT, q⟩ := h
  refine ⟨_, (pss_one (ps_ret (pe_and (pe_call GWho (hr.mono (by decide)) rfl hWho.nm hWho.fn.kp hWho.bd .nil pass0 (pa_cons (pv 0) pa_nil)) (pe_one (pe_chain op_le op_le (pv 1) (pv 0) (pv 2)))))), ?_⟩
  refine ⟨_, rfl, x, rfl, hT, _, rfl, ?_⟩
  rcases hT with ⟨n, rfl⟩ | ⟨z, rfl⟩ | ⟨b, rfl⟩ | rfl | ⟨a, z, rfl, _⟩ | ⟨a, z, rfl, _⟩ | ⟨a, z, rfl, _⟩
  · refine iteT ?_
    refine ⟨_, rfl, _, rfl, _, _, rfl, rfl, _, rfl, ?_⟩
    have q' : Q (.bl (decide (l ≤ n) && decide (n ≤ h))) H := q
    refine ite2 (fun c => ?_) (fun c => ?_)
    · rw [c] at q'
      exact ⟨_, rfl, _, _, rfl, rfl, q'⟩
    · rw [Bool.not_eq_true] at c
      rw [c] at q'
      exact q'
  all_goals exact iteF q
/-! ### the exceptions' __init__ -/
theorem scINF : FnScope ["self", "many"] ["self", "many"] (defScope sINF) := ⟨rfl, rfl, rfl, by decide +kernel, rfl, by decide +kernel, by decide +kernel⟩
theorem ok_INF {C : Addr} (F : Fun K "__init__" "NoFloor.__init__" sINF f fd) (cl : XCls K C) (tk : PySem.W.takerIn K C "many" = some none) : FnOk P w K mg base CX0 1 f fd ["self", "many"] (spX C "many") := by
  refine F.ok scINF (fun vs H Q E h => ?_) (fun cdv A outer s H vs Q E hr h => ?_)
  · obtain ⟨e, x, rfl, _⟩ := h
    rfl
  obtain ⟨e, x, rfl, he, q⟩ := h
  refine ⟨_, (pss_one (ps_xf1 (pv 0) (pv 1) rfl)), ?_⟩
  exact ⟨_, rfl, _, rfl, e, C, rfl, he, cl, tk, fun dx hd => q dx hd⟩
theorem scINP : FnScope ["self", "place"] ["self", "place"] (defScope sINP) := ⟨rfl, rfl, rfl, by decide +kernel, rfl, by decide +kernel, by decide +kernel⟩
theorem ok_INP {C : Addr} (F : Fun K "__init__" "NoPlace.__init__" sINP f fd) (cl : XCls K C) (tk : PySem.W.takerIn K C "place" = some none) : FnOk P w K mg base CX0 1 f fd ["self", "place"] (spX C "place") := by
  refine F.ok scINP (fun vs H Q E h => ?_) (fun cdv A outer s H vs Q E hr h => ?_)
  · obtain ⟨e, x, rfl, _⟩ := h
    rfl
  obtain ⟨e, x, rfl, he, q⟩ := h
  refine ⟨_, (pss_one (ps_xf1 (pv 0) (pv 1) rfl)), ?_⟩
  exact ⟨_, rfl, _, rfl, e, C, rfl, he, cl, tk, fun dx hd => q dx hd⟩
theorem scINI : FnScope ["self", "place"] ["self", "place"] (defScope sINI) := ⟨rfl, rfl, rfl, by decide +kernel, rfl, by decide +kernel, by decide +kernel⟩
theorem ok_INI {C : Addr} (F : Fun K "__init__" "NoPiece.__init__" sINI f fd) (cl : XCls K C) (tk : PySem.W.takerIn K C "place" = some none) : FnOk P w K mg base CX0 1 f fd ["self", "place"] (spX C "place") := by
  refine F.ok scINI (fun vs H Q E h => ?_) (fun cdv A outer s H vs Q E hr h => ?_)
  · obtain ⟨e, x, rfl, _⟩ := h
    rfl
  obtain ⟨e, x, rfl, he, q⟩ := h
  refine ⟨_, (pss_one (ps_xf1 (pv 0) (pv 1) rfl)), ?_⟩
  exact ⟨_, rfl, _, rfl, e, C, rfl, he, cl, tk, fun dx hd => q dx hd⟩
theorem scISO : FnScope ["self", "place"] ["self", "place"] (defScope sISO) := ⟨rfl, rfl, rfl, by decide +kernel, rfl, by decide +kernel, by decide +kernel⟩
theorem ok_ISO {C : Addr} (F : Fun K "__init__" "Spoilt.__init__" sISO f fd) (cl : XCls K C) (tk : PySem.W.takerIn K C "place" = some none) : FnOk P w K mg base CX0 1 f fd ["self", "place"] (spX C "place") := by
  refine F.ok scISO (fun vs H Q E h => ?_) (fun cdv A outer s H vs Q E hr h => ?_)
  · obtain ⟨e, x, rfl, _⟩ := h
    rfl
  obtain ⟨e, x, rfl, he, q⟩ := h
  refine ⟨_, (pss_one (ps_xf1 (pv 0) (pv 1) rfl)), ?_⟩
  exact ⟨_, rfl, _, rfl, e, C, rfl, he, cl, tk, fun dx hd => q dx hd⟩
variable {fNF fNP fNI fSO fWth fNPl fNPo fSpo fCle : Addr} {dNF dNP dNI dSO dWth dNPl dNPo dSpo dCle : FuncData} {bm : List Value}
/-! ### Floor.__init__ -/
theorem scFIn : FnScope ["self", "many"] ["self", "many"] (defScope sFIn) := ⟨rfl, rfl, rfl, by decide +kernel, rfl, by decide +kernel, by decide +kernel⟩
theorem ok_FIn (F : Fun K "__init__" "Floor.__init__" sFIn f fd) (cl : Cls K c.F) (na : Na K c.F) (hWth : Has K mg "is_within" sWth ["thing", "low", "high"] fWth dWth) (GWth : FnOk P w K mg base CX0 2 fWth dWth ["thing", "low", "high"] spWth0)
    (hNF : XHas K mg "NoFloor" sINF c.NF bm fNF dNF ["self", "many"]) (GNF : FnOk P w K mg base CX0 1 fNF dNF ["self", "many"] (spX c.NF "many")) (T : Txt mg) : FnOk P w K mg base (CXw P w) 3 f fd ["self", "many"] (spFIn c) := by
  refine F.okX scFIn (fun vs H Q E h => ?_) (fun cdv A outer s H vs Q E hr h => ?_)
  · obtain ⟨p, dx, x, rfl, _⟩ := h
    rfl
  obtain ⟨p, dx, x, rfl, hp, ty, q, qe⟩ := h
  obtain ⟨t1, few⟩ := T.few
  obtain ⟨t2, mst⟩ := T.mst
  have hlv : Leaves (cxOf (CXw P w) P w K mg base ["self", "many"] "Floor.__init__" (defScope sFIn) f cdv A outer s H E) E := leaves_fn
  refine ⟨_, (pss_cons (ps_if (pt_not (pt_val (pe_call GWth (hr.mono (by decide)) rfl hWth.nm hWth.fn.kp hWth.bd .nil pass0 (pa_cons (pv 1) (pa_cons (pe_glob (v := .int 4) rfl few ⟨_, rfl⟩) (pa_cons (pe_glob (v := .int 600) rfl mst ⟨_, rfl⟩) pa_nil))))))
    (pss_one (ps_raise hNF.xm.ob hNF.be hr.hd hlv (pe_exc hNF.xm GNF (hr.mono (by decide)) rfl hNF.nm hNF.bd .nil pass0 (pa_cons (pv 1) pa_nil))))
    pss_nil)
    (pss_cons (ps_fld (pv 0) (pv 1) rfl)
    (pss_cons (ps_fld (pv 0) pe_dnewK rfl)
    (pss_cons (ps_fld (pv 0) pe_dnewK rfl)
    (pss_cons (ps_fld (pv 0) (pe_lst pa_nil) rfl)
    (pss_cons (ps_fld (pv 0) pe_bl rfl)
    (pss_one (ps_fld (pv 0) pe_non rfl)))))))), ?_⟩
  refine ⟨_, rfl, x, _, _, rfl, ty, _, rfl, ?_⟩
  cases hw : wth0 x 4 600 with
  | false => exact iteT ⟨_, rfl, fun e he => raise1 (fun ea d H' s' e1 e2 => qe hw ea d H' s' e1 e2) e he⟩
  | true =>
    obtain ⟨n, rfl, h4, h6⟩ := wth0_int hw
    refine iteF ?_
    refine ⟨_, rfl, _, rfl, p, c.F, dx, _, rfl, hp, cl, na.many, (by show 0 < 1000; decide), ?_⟩
    refine (fun pc hpc => ⟨_, rfl, p, c.F, dx, _, rfl, by rw [upd_ne (ne_of_none upd_same hpc)]; exact upd_same, cl, na.pieces, (by show 1 < 1000; decide), ?_⟩)
    refine (fun sp hsp => ⟨_, rfl, p, c.F, dx, _, rfl, by rw [upd_ne (ne_of_none upd_same hsp)]; exact upd_same, cl, na.spoilt, (by show 2 < 1000; decide), ?_⟩)
    refine ⟨by decide, fun wr hwr => ⟨_, rfl, p, c.F, dx, _, rfl, by rw [upd_ne (ne_of_none upd_same hwr)]; exact upd_same, cl, na.written, (by show 3 < 1000; decide), ?_⟩⟩
    refine ⟨_, rfl, p, c.F, dx, _, rfl, upd_same, cl, na.dark, (by show 4 < 1000; decide), ?_⟩
    refine ⟨_, rfl, p, c.F, dx, _, rfl, upd_same, cl, na.left, (by show 5 < 1000; decide), ?_⟩
    obtain ⟨c1, c2⟩ := new_free hpc
    obtain ⟨s1, s2⟩ := new_free hsp
    obtain ⟨s3, s4⟩ := new_free s2
    obtain ⟨s5, s6⟩ := new_free s4
    obtain ⟨w1, w2⟩ := new_free hwr
    obtain ⟨w3, w4⟩ := new_free w2
    obtain ⟨w5, w6⟩ := new_free w4
    obtain ⟨w7, w8⟩ := new_free w6
    obtain ⟨w9, w10⟩ := new_free w8
    refine q n rfl h4 h6 pc sp wr _ c2 s6 w10 ⟨⟨dx, upd_same⟩, ?_, ?_, ?_, Ne.symm s3⟩ ?_
    · rw [upd_ne c1, upd_ne c1, upd_ne c1, upd_ne (Ne.symm w7), upd_ne c1, upd_ne (Ne.symm s3), upd_ne c1, upd_same]
      rfl
    · rw [upd_ne s1, upd_ne s1, upd_ne s1, upd_ne (Ne.symm w3), upd_ne s1, upd_same]
      rfl
    · rw [upd_ne w1, upd_ne w1, upd_ne w1, upd_same]
      rfl
    · intro b o nb e
      have n0 : b ≠ p := fun z => nb (by rw [z]; simp)
      rw [upd_ne n0, upd_ne n0, upd_ne n0, upd_ne (ne_of_none e w10), upd_ne n0, upd_ne (ne_of_none e s6), upd_ne n0, upd_ne (ne_of_none e c2), upd_ne n0]
      exact e
/-! ### need_place, need_power -/
theorem scNPl : FnScope ["self", "place"] ["self", "place"] (defScope sNPl) := ⟨rfl, rfl, rfl, by decide +kernel, rfl, by decide +kernel, by decide +kernel⟩
theorem ok_NPl (F : Fun K "need_place" "Floor.need_place" sNPl f fd) (cl : Cls K c.F) (na : Na K c.F) (hWth : Has K mg "is_within" sWth ["thing", "low", "high"] fWth dWth) (GWth : FnOk P w K mg base CX0 2 fWth dWth ["thing", "low", "high"] spWth0)
    (hNP : XHas K mg "NoPlace" sINP c.NP bm fNP dNP ["self", "place"]) (GNP : FnOk P w K mg base CX0 1 fNP dNP ["self", "place"] (spX c.NP "place")) : FnOk P w K mg base (CXw P w) 3 f fd ["self", "place"] (mSp c gNPl) := by
  refine F.okX scNPl (fun vs H Q E h => ?_) (fun cdv A outer s H vs Q E hr h => ?_)
  · obtain ⟨p, pc, sp, wr, st, x, rfl, _⟩ := h
    rfl
  obtain ⟨p, pc, sp, wr, st, x, rfl, fl, _, ty, fi⟩ := h
  obtain ⟨dx, hp⟩ := fl.at_
  have hlv : Leaves (cxOf (CXw P w) P w K mg base ["self", "place"] "Floor.need_place" (defScope sNPl) f cdv A outer s H E) E := leaves_fn
  refine ⟨_, (pss_one (ps_if (pt_not (pt_val (pe_call GWth (hr.mono (by decide)) rfl hWth.nm hWth.fn.kp hWth.bd .nil pass0 (pa_cons (pv 1) (pa_cons pe_int (pa_cons (pe_op op_sub (pe_fld (pv 0) rfl) pe_int) pa_nil))))))
    (pss_one (ps_raise hNP.xm.ob hNP.be hr.hd hlv (pe_exc hNP.xm GNP (hr.mono (by decide)) rfl hNP.nm hNP.bd .nil pass0 (pa_cons (pv 1) pa_nil))))
    pss_nil)), ?_⟩
  refine ⟨_, rfl, _, rfl, p, c.F, dx, _, _, rfl, hp, cl, na.many, rfl, _, _, rfl, rfl, x, _, _, rfl, ty, _, rfl, ?_⟩
  cases hw : wth0 x 0 (st.n - 1) with
  | true =>
    rw [gNPl_t hw] at fi
    exact iteF (fi H fl (Sx.refl _ H))
  | false =>
    rw [gNPl_f hw] at fi
    exact iteT ⟨_, rfl, fun e he => raise1 (fun ea d H' s' e1 e2 => fi H' (fl.mono s') (Sx.of s') ea d e1 e2) e he⟩
theorem scNPo : FnScope ["self"] ["self"] (defScope sNPo) := ⟨rfl, rfl, rfl, by decide +kernel, rfl, by decide +kernel, by decide +kernel⟩
theorem ok_NPo (F : Fun K "need_power" "Floor.need_power" sNPo f fd) (cl : Cls K c.F) (na : Na K c.F) (hPG : X0Has K mg "PowerGone" c.PG bm) : FnOk P w K mg base (CXw P w) 1 f fd ["self"] (mSp0 c gNPo) := by
  refine F.okX scNPo (fun vs H Q E h => ?_) (fun cdv A outer s H vs Q E hr h => ?_)
  · obtain ⟨p, pc, sp, wr, st, rfl, _⟩ := h
    rfl
  obtain ⟨p, pc, sp, wr, st, rfl, fl, fi⟩ := h
  obtain ⟨dx, hp⟩ := fl.at_
  have hlv : Leaves (cxOf (CXw P w) P w K mg base ["self"] "Floor.need_power" (defScope sNPo) f cdv A outer s H E) E := leaves_fn
  refine ⟨_, (pss_one (ps_if (pt_val (pe_fld (pv 0) rfl))
    (pss_one (ps_raise hPG.ob hPG.be hr.hd hlv (pe_exc0 hPG.xm rfl hPG.nm)))
    pss_nil)), ?_⟩
  refine ⟨_, rfl, p, c.F, dx, _, _, rfl, hp, cl, na.dark, rfl, _, rfl, ?_⟩
  unfold gNPo at fi
  cases hd : st.d with
  | false =>
    rw [hd, if_neg (by decide)] at fi
    exact iteF (fi H fl (Sx.refl _ H))
  | true =>
    rw [hd, if_pos rfl] at fi
    exact iteT (raise0 fun ea H' s' e1 => fi H' (fl.mono s') (Sx.of s') ea e1)
/-! ### clean, spoil -/
theorem scCle : FnScope ["self", "place"] ["self", "place"] (defScope sCle) := ⟨rfl, rfl, rfl, by decide +kernel, rfl, by decide +kernel, by decide +kernel⟩
theorem ok_Cle (F : Fun K "clean" "Floor.clean" sCle f fd) (cl : Cls K c.F) (na : Na K c.F) : FnOk P w K mg base CX0 1 f fd ["self", "place"] (mSpK c cln) := by
  refine F.ok scCle (fun vs H Q E h => ?_) (fun cdv A outer s H vs Q E hr h => ?_)
  · obtain ⟨p, pc, sp, wr, st, i, rfl, _⟩ := h
    rfl
  obtain ⟨p, pc, sp, wr, st, i, rfl, fl, _, fi⟩ := h
  obtain ⟨dx, hp⟩ := fl.at_
  refine ⟨_, (pss_cons (ps_expr (pe_dpop2 (pe_fld (pv 0) rfl) (pv 1) pe_non ⟨rfl, rfl, rfl, rfl⟩))
    (pss_one (ps_expr (pe_dpop2 (pe_fld (pv 0) rfl) (pv 1) pe_non ⟨rfl, rfl, rfl, rfl⟩)))), ?_⟩
  have two : ∀ H1, FlAt c.F H1 p pc sp wr { st with kp := dropK st.kp (.inl i) } → Sx [p, pc, sp, wr] H H1 → tDPop2 (tFld K (tVar 0) "spoilt") (tVar 1) (tC .non) [some (.ref p), some (.int i)] H1 (fun _ H' => Q .non H') := by
    intro H1 fl1 s1
    obtain ⟨dx1, hp1⟩ := fl1.at_
    refine ⟨_, rfl, p, c.F, dx1, _, _, rfl, hp1, cl, na.spoilt, rfl, sp, rfl, .inl ⟨_, .inl fl1.ks⟩, _, rfl, st.ks, .inl i, fl1.ks, rfl, fun v e => ?_, fun e => ?_⟩
    · exact fi _ (fl1.setKs _) (s1.trans (Sx.upd (by simp)))
    · refine fi _ ?_ s1
      unfold cln
      rw [drop_none (kvs := st.ks) e]
      exact fl1
  refine ⟨_, rfl, p, c.F, dx, _, _, rfl, hp, cl, na.pieces, rfl, pc, rfl, .inl ⟨_, .inl fl.kp⟩, _, rfl, st.kp, .inl i, fl.kp, rfl, fun v e => ?_, fun e => ?_⟩
  · exact two _ (fl.setKp _) (Sx.upd (by simp))
  · refine two _ ?_ (Sx.refl _ H)
    rw [drop_none e]
    exact fl
theorem scSpo : FnScope ["self", "place"] ["self", "place"] (defScope sSpo) := ⟨rfl, rfl, rfl, by decide +kernel, rfl, by decide +kernel, by decide +kernel⟩
theorem ok_Spo (F : Fun K "spoil" "Floor.spoil" sSpo f fd) (cl : Cls K c.F) (na : Na K c.F) (hCle : MHas K c.F "clean" "Floor.clean" sCle ["self", "place"] fCle dCle) (GCle : FnOk P w K mg base CX0 1 fCle dCle ["self", "place"] (mSpK c cln)) :
    FnOk P w K mg base CX0 2 f fd ["self", "place"] (mSpK c spl) := by
  refine F.ok scSpo (fun vs H Q E h => ?_) (fun cdv A outer s H vs Q E hr h => ?_)
  · obtain ⟨p, pc, sp, wr, st, i, rfl, _⟩ := h
    rfl
  obtain ⟨p, pc, sp, wr, st, i, rfl, fl, sm, fi⟩ := h
  obtain ⟨dx, hp⟩ := fl.at_
  have hu := hu_of hr
  refine ⟨_, (pss_cons (ps_expr (pe_meth (pv 0) cl hCle.me GCle (hr.mono (by decide)) hCle.bd .nil pass0 (pa_cons (pv 1) pa_nil)))
    (pss_one (ps_dput hu (pe_fld (pv 0) rfl) (pv 1) pe_bl rfl))), ?_⟩
  refine ⟨_, rfl, p, dx, _, rfl, hp, rfl, _, rfl, p, pc, sp, wr, st, i, rfl, fl, sm, fun H1 fl1 s1 => ?_⟩
  obtain ⟨dx1, hp1⟩ := fl1.at_
  have hl : (dropK st.ks (Sum.inl i)).length < sizeLine := small (by have := drop_le st.ks (Sum.inl i); have := sm.ks; omega)
  exact ⟨_, rfl, p, c.F, dx1, _, _, rfl, hp1, cl, na.spoilt, rfl, _, rfl, sp, _, rfl, DPut.k (k := .inl i) fl1.ks hl, fi _ (fl1.setKs _) (s1.trans (Sx.upd (by simp)))⟩
/-! ### write -/
theorem scWri : FnScope ["self", "place", "stuff"] ["self", "place", "stuff"] (defScope sWri) := ⟨rfl, rfl, rfl, by decide +kernel, rfl, by decide +kernel, by decide +kernel⟩
theorem ok_Wri (F : Fun K "write" "Floor.write" sWri f fd) (cl : Cls K c.F) (na : Na K c.F) (hNPl : MHas K c.F "need_place" "Floor.need_place" sNPl ["self", "place"] fNPl dNPl) (GNPl : FnOk P w K mg base (CXw P w) 3 fNPl dNPl ["self", "place"] (mSp c gNPl))
    (hNPo : MHas K c.F "need_power" "Floor.need_power" sNPo ["self"] fNPo dNPo) (GNPo : FnOk P w K mg base (CXw P w) 1 fNPo dNPo ["self"] (mSp0 c gNPo)) (hCle : MHas K c.F "clean" "Floor.clean" sCle ["self", "place"] fCle dCle) (GCle : FnOk P w K mg base CX0 1 fCle dCle ["self", "place"] (mSpK c cln))
    (hSpo : MHas K c.F "spoil" "Floor.spoil" sSpo ["self", "place"] fSpo dSpo) (GSpo : FnOk P w K mg base CX0 2 fSpo dSpo ["self", "place"] (mSpK c spl)) (hPG : X0Has K mg "PowerGone" c.PG bm) : FnOk P w K mg base (CXw P w) 4 f fd ["self", "place", "stuff"] (spWri c) := by
  refine F.okX scWri (fun vs H Q E h => ?_) (fun cdv A outer s H vs Q E hr h => ?_)
  · obtain ⟨p, pc, sp, wr, st, x, v, rfl, _⟩ := h
    rfl
  obtain ⟨p, pc, sp, wr, st, x, v, rfl, fl, sm, ty, fi⟩ := h
  obtain ⟨dx, hp⟩ := fl.at_
  have hu := hu_of hr
  have hlv : Leaves (cxOf (CXw P w) P w K mg base ["self", "place", "stuff"] "Floor.write" (defScope sWri) f cdv A outer s H E) E := leaves_fn
  refine ⟨_, (pss_cons (ps_expr (pe_meth (pv 0) cl hNPl.me GNPl (hr.mono (by decide)) hNPl.bd .nil (passes_of hlv) (pa_cons (pv 1) pa_nil)))
    (pss_cons (ps_expr (pe_meth0 (pv 0) cl hNPo.me GNPo (hr.mono (by decide)) hNPo.bd .nil (passes_of hlv)))
    (pss_cons (ps_if (pt_cmpR op_eq (pe_fld (pv 0) rfl) pe_int (nomark _))
    (pss_cons (ps_expr (pe_meth (pv 0) cl hSpo.me GSpo (hr.mono (by decide)) hSpo.bd .nil pass0 (pa_cons (pv 1) pa_nil)))
    (pss_cons (ps_fld (pv 0) pe_bl rfl)
    (pss_one (ps_raise hPG.ob hPG.be hr.hd hlv (pe_exc0 hPG.xm rfl hPG.nm)))))
    pss_nil)
    (pss_cons (ps_if (pt_cmpR op_notN (pe_fld (pv 0) rfl) pe_non (nomark _))
    (pss_one (ps_fld (pv 0) (pe_op op_sub (pe_fld (pv 0) rfl) pe_int) rfl))
    pss_nil)
    (pss_cons (ps_expr (pe_meth (pv 0) cl hCle.me GCle (hr.mono (by decide)) hCle.bd .nil pass0 (pa_cons (pv 1) pa_nil)))
    (pss_cons (ps_dput hu (pe_fld (pv 0) rfl) (pv 1) (pv 2) rfl)
    (pss_one (ps_expr (pe_bm PySem.F.plainAttrs_list PySem.F.slot_list_append PySem.F.type_list_append mt_append (pe_fld (pv 0) rfl) (pa_cons (pv 1) pa_nil)))))))))), ?_⟩
  refine ⟨_, rfl, p, dx, _, rfl, hp, rfl, _, rfl, p, pc, sp, wr, st, x, rfl, fl, sm, ty, ?_⟩
  unfold fWrite at fi
  cases hw : isP st x with
  | false =>
    rw [hw, if_neg (by decide)] at fi
    rw [gNPl_f hw]
    exact fun H' fl' s' ea d e1 e2 => fi H' fl' s' ea d e1 e2
  | true =>
    obtain ⟨i, rfl, h0, h1⟩ := wth0_int hw
    rw [hw, if_pos rfl] at fi
    rw [gNPl_t hw]
    intro H1 fl1 s1
    obtain ⟨dx1, hp1⟩ := fl1.at_
    refine ⟨_, rfl, p, dx1, _, rfl, hp1, rfl, p, pc, sp, wr, st, rfl, fl1, ?_⟩
    unfold gNPo
    cases hd : st.d with
    | true =>
      rw [if_pos hd] at fi
      rw [if_pos rfl]
      exact fun H' fl' s' ea e1 => fi H' fl' (s1.trans s') ea e1
    | false =>
      rw [if_neg (show ¬ st.d = true by rw [hd]; decide)] at fi
      rw [if_neg (by decide)]
      intro H2 fl2 s2
      obtain ⟨dx2, hp2⟩ := fl2.at_
      have s02 := s1.trans s2
      have hsc : scal st.l (.int 0) = true := by rcases sm.l with e | ⟨j, e⟩ <;> rw [e] <;> rfl
      refine ⟨_, rfl, p, c.F, dx2, _, _, rfl, hp2, cl, na.left, rfl, hsc, _, rfl, ite2 (fun b => ?_) (fun b => ?_)⟩
      · have b : st.l = .int 0 := of_decide_eq_true b
        rw [if_pos b] at fi
        refine ⟨_, rfl, p, dx2, _, rfl, hp2, rfl, _, rfl, p, pc, sp, wr, st, i, rfl, fl2, sm, fun H3 fl3 s3 => ?_⟩
        obtain ⟨dx3, hp3⟩ := fl3.at_
        refine ⟨_, rfl, p, c.F, dx3, _, rfl, hp3, cl, na.dark, (by show 6 < 1000; decide), ?_⟩
        have fl4 := fl3.setF dx3 true (spl st (.inl i)).l
        refine raise0 fun ea H' s' e1 => fi H' (fl4.mono s') (s02.trans (s3.trans ((Sx.upd (by simp)).trans (Sx.of s')))) ea e1
      · have b : ¬ st.l = .int 0 := fun e => b (decide_eq_true e)
        rw [if_neg b] at fi
        refine nx_in ?_
        dsimp only
        refine seq_in (if_rest (fun σ' H' => σ' = [some (.ref p), some (.int i), some v] ∧ FlAt c.F H' p pc sp wr { st with d := st.d, l := dec st.l } ∧ Sx [p, pc, sp, wr] H H') (fun σ' H' hR => ?_) (fun go => ?_))
        · obtain ⟨rfl, fl3, s3⟩ := hR
          obtain ⟨dx3, hp3⟩ := fl3.at_
          refine ⟨_, rfl, p, dx3, _, rfl, hp3, rfl, _, rfl, p, pc, sp, wr, _, i, rfl, fl3, ⟨sm.kp, sm.ks, sm.ws, ?_⟩, fun H4 fl4 s4 => ?_⟩
          · rcases sm.l with e | ⟨j, e⟩
            · exact .inl (by show dec st.l = _; rw [e]; rfl)
            · exact .inr ⟨j - 1, by show dec st.l = _; rw [e]; rfl⟩
          obtain ⟨dx4, hp4⟩ := fl4.at_
          have hl : (dropK st.kp (Sum.inl i)).length < sizeLine := small (by have := drop_le st.kp (Sum.inl i); have := sm.kp; omega)
          refine ⟨_, rfl, _, rfl, p, c.F, dx4, _, _, rfl, hp4, cl, na.pieces, rfl, _, rfl, pc, _, rfl, DPut.k (k := .inl i) fl4.kp hl, ?_⟩
          have fl5 := fl4.setKp (putK (dropK st.kp (Sum.inl i)) (Sum.inl i) v)
          obtain ⟨dx5, hp5⟩ := fl5.at_
          exact ⟨_, rfl, p, c.F, dx5, _, _, rfl, hp5, cl, na.written, rfl, .inl ⟨rfl, _, SqL.of fl5.ws⟩, _, rfl, wr, _, _, rfl, rfl, fl5.ws, small (by have := sm.ws; show st.ws.length ≤ _; omega), fi _ (fl5.setWs _) (s3.trans (s4.trans ((Sx.upd (by simp)).trans (Sx.upd (by simp)))))⟩
        · refine ⟨_, rfl, p, c.F, dx2, _, _, rfl, hp2, cl, na.left, rfl, rfl, _, rfl, ?_⟩
          rcases sm.l with e | ⟨j, e⟩
          · rw [e]
            refine iteF (go _ _ ⟨rfl, ?_, s02⟩)
            rw [e]
            have e2 : st = { st with d := st.d, l := dec .non } := by rw [show dec .non = st.l from e.symm]
            rw [← e2]
            exact fl2
          · rw [e]
            refine iteT ⟨_, rfl, p, c.F, dx2, _, .int j, rfl, hp2, cl, na.left, (by rw [← e]; rfl), _, _, rfl, rfl, _, rfl, p, c.F, dx2, _, rfl, hp2, cl, na.left, (by show 6 < 1000; decide), go _ _ ⟨rfl, ?_, s02.trans (Sx.upd (by simp))⟩⟩
            rw [e]
            exact fl2.setF dx2 st.d (.int (j - 1))
/-! ### read -/
theorem scRea : FnScope ["self", "place"] ["self", "place"] (defScope sRea) := ⟨rfl, rfl, rfl, by decide +kernel, rfl, by decide +kernel, by decide +kernel⟩
theorem ok_Rea (F : Fun K "read" "Floor.read" sRea f fd) (cl : Cls K c.F) (na : Na K c.F) (hNPl : MHas K c.F "need_place" "Floor.need_place" sNPl ["self", "place"] fNPl dNPl) (GNPl : FnOk P w K mg base (CXw P w) 3 fNPl dNPl ["self", "place"] (mSp c gNPl))
    (hNPo : MHas K c.F "need_power" "Floor.need_power" sNPo ["self"] fNPo dNPo) (GNPo : FnOk P w K mg base (CXw P w) 1 fNPo dNPo ["self"] (mSp0 c gNPo))
    (hSO : XHas K mg "Spoilt" sISO c.SO bm fSO dSO ["self", "place"]) (GSO : FnOk P w K mg base CX0 1 fSO dSO ["self", "place"] (spX c.SO "place")) (hNI : XHas K mg "NoPiece" sINI c.NI bm fNI dNI ["self", "place"]) (GNI : FnOk P w K mg base CX0 1 fNI dNI ["self", "place"] (spX c.NI "place")) :
    FnOk P w K mg base (CXw P w) 4 f fd ["self", "place"] (mSp c fRead) := by
  refine F.okX scRea (fun vs H Q E h => ?_) (fun cdv A outer s H vs Q E hr h => ?_)
  · obtain ⟨p, pc, sp, wr, st, x, rfl, _⟩ := h
    rfl
  obtain ⟨p, pc, sp, wr, st, x, rfl, fl, sm, ty, fi⟩ := h
  obtain ⟨dx, hp⟩ := fl.at_
  have hu := hu_of hr
  have hlv : Leaves (cxOf (CXw P w) P w K mg base ["self", "place"] "Floor.read" (defScope sRea) f cdv A outer s H E) E := leaves_fn
  refine ⟨_, (pss_cons (ps_expr (pe_meth (pv 0) cl hNPl.me GNPl (hr.mono (by decide)) hNPl.bd .nil (passes_of hlv) (pa_cons (pv 1) pa_nil)))
    (pss_cons (ps_expr (pe_meth0 (pv 0) cl hNPo.me GNPo (hr.mono (by decide)) hNPo.bd .nil (passes_of hlv)))
    (pss_cons (ps_if (pt_cmp (pc_din hu (pv 1) (pe_fld (pv 0) rfl)))
    (pss_one (ps_raise hSO.xm.ob hSO.be hr.hd hlv (pe_exc hSO.xm GSO (hr.mono (by decide)) rfl hSO.nm hSO.bd .nil pass0 (pa_cons (pv 1) pa_nil))))
    pss_nil)
    (pss_cons (ps_if (pt_cmp (pc_dnotin hu (pv 1) (pe_fld (pv 0) rfl)))
    (pss_one (ps_raise hNI.xm.ob hNI.be hr.hd hlv (pe_exc hNI.xm GNI (hr.mono (by decide)) rfl hNI.nm hNI.bd .nil pass0 (pa_cons (pv 1) pa_nil))))
    pss_nil)
    (pss_one (ps_ret (pe_dget hu (pe_fld (pv 0) rfl) (pv 1) (fun _ _ => rfl)))))))), ?_⟩
  refine ⟨_, rfl, p, dx, _, rfl, hp, rfl, _, rfl, p, pc, sp, wr, st, x, rfl, fl, sm, ty, ?_⟩
  unfold fRead at fi
  cases hw : isP st x with
  | false =>
    rw [hw, if_neg (by decide)] at fi
    rw [gNPl_f hw]
    exact fun H' fl' s' ea d e1 e2 => fi H' fl' s' ea d e1 e2
  | true =>
    obtain ⟨i, rfl, h0, h1⟩ := wth0_int hw
    rw [hw, if_pos rfl] at fi
    rw [gNPl_t hw]
    intro H1 fl1 s1
    obtain ⟨dx1, hp1⟩ := fl1.at_
    refine ⟨_, rfl, p, dx1, _, rfl, hp1, rfl, p, pc, sp, wr, st, rfl, fl1, ?_⟩
    unfold gNPo
    cases hd : st.d with
    | true =>
      rw [if_pos hd] at fi
      rw [if_pos rfl]
      exact fun H' fl' s' ea e1 => fi H' fl' (s1.trans s') ea e1
    | false =>
      rw [if_neg (show ¬ st.d = true by rw [hd]; decide)] at fi
      rw [if_neg (by decide)]
      intro H2 fl2 s2
      obtain ⟨dx2, hp2⟩ := fl2.at_
      have s02 := s1.trans s2
      have fi : Fin c H p pc sp wr (if (valV st.ks (Sum.inl i)).isSome = true then (Out.so (.int i), st) else match valV st.kp (Sum.inl i) with | some v => (Out.ok v, st) | none => (Out.pi (.int i), st)) Q E := fi
      refine ⟨_, rfl, _, rfl, p, c.F, dx2, _, _, rfl, hp2, cl, na.spoilt, rfl, sp, _, rfl, DGet.k (k := .inl i) fl2.ks, _, rfl, ite2 (fun b => ?_) (fun b => ?_)⟩
      · have b : (valV st.ks (Sum.inl i)).isSome = true := b
        rw [if_pos b] at fi
        exact ⟨_, rfl, fun e he => raise1 (fun ea d H' s' e1 e2 => fi H' (fl2.mono s') (s02.trans (Sx.of s')) ea d e1 e2) e he⟩
      · have b : ¬ (valV st.ks (Sum.inl i)).isSome = true := b
        rw [if_neg b] at fi
        refine ⟨_, rfl, _, rfl, p, c.F, dx2, _, _, rfl, hp2, cl, na.pieces, rfl, pc, _, rfl, DGet.k (k := .inl i) fl2.kp, _, rfl, ?_⟩
        have fi : Fin c H p pc sp wr (match valV st.kp (Sum.inl i) with | some v => (Out.ok v, st) | none => (Out.pi (.int i), st)) Q E := fi
        have g := DGet.k (k := .inl i) fl2.kp
        cases hv : valV st.kp (Sum.inl i) with
        | none =>
          rw [hv] at fi
          exact iteT ⟨_, rfl, fun e he => raise1 (fun ea d H' s' e1 e2 => fi H' (fl2.mono s') (s02.trans (Sx.of s')) ea d e1 e2) e he⟩
        | some v =>
          rw [hv] at fi g
          exact iteF ⟨_, rfl, p, c.F, dx2, _, _, rfl, hp2, cl, na.pieces, rfl, _, rfl, pc, v, rfl, g, fi H2 fl2 s02⟩
/-! ### harm, lose -/
theorem scHar : FnScope ["self", "place"] ["self", "place"] (defScope sHar) := ⟨rfl, rfl, rfl, by decide +kernel, rfl, by decide +kernel, by decide +kernel⟩
theorem ok_Har (F : Fun K "harm" "Floor.harm" sHar f fd) (cl : Cls K c.F) (na : Na K c.F) (hNPl : MHas K c.F "need_place" "Floor.need_place" sNPl ["self", "place"] fNPl dNPl) (GNPl : FnOk P w K mg base (CXw P w) 3 fNPl dNPl ["self", "place"] (mSp c gNPl))
    (hSpo : MHas K c.F "spoil" "Floor.spoil" sSpo ["self", "place"] fSpo dSpo) (GSpo : FnOk P w K mg base CX0 2 fSpo dSpo ["self", "place"] (mSpK c spl)) (hNI : XHas K mg "NoPiece" sINI c.NI bm fNI dNI ["self", "place"]) (GNI : FnOk P w K mg base CX0 1 fNI dNI ["self", "place"] (spX c.NI "place")) :
    FnOk P w K mg base (CXw P w) 4 f fd ["self", "place"] (mSp c fHarm) := by
  refine F.okX scHar (fun vs H Q E h => ?_) (fun cdv A outer s H vs Q E hr h => ?_)
  · obtain ⟨p, pc, sp, wr, st, x, rfl, _⟩ := h
    rfl
  obtain ⟨p, pc, sp, wr, st, x, rfl, fl, sm, ty, fi⟩ := h
  obtain ⟨dx, hp⟩ := fl.at_
  have hu := hu_of hr
  have hlv : Leaves (cxOf (CXw P w) P w K mg base ["self", "place"] "Floor.harm" (defScope sHar) f cdv A outer s H E) E := leaves_fn
  refine ⟨_, (pss_cons (ps_expr (pe_meth (pv 0) cl hNPl.me GNPl (hr.mono (by decide)) hNPl.bd .nil (passes_of hlv) (pa_cons (pv 1) pa_nil)))
    (pss_cons (ps_if (PW.pt (pw_and (pt_cmp (pc_dnotin hu (pv 1) (pe_fld (pv 0) rfl))) (pw_and1 (pt_cmp (pc_dnotin hu (pv 1) (pe_fld (pv 0) rfl))))))
    (pss_one (ps_raise hNI.xm.ob hNI.be hr.hd hlv (pe_exc hNI.xm GNI (hr.mono (by decide)) rfl hNI.nm hNI.bd .nil pass0 (pa_cons (pv 1) pa_nil))))
    pss_nil)
    (pss_one (ps_expr (pe_meth (pv 0) cl hSpo.me GSpo (hr.mono (by decide)) hSpo.bd .nil pass0 (pa_cons (pv 1) pa_nil)))))), ?_⟩
  refine ⟨_, rfl, p, dx, _, rfl, hp, rfl, _, rfl, p, pc, sp, wr, st, x, rfl, fl, sm, ty, ?_⟩
  unfold fHarm at fi
  cases hw : isP st x with
  | false =>
    rw [hw, if_neg (by decide)] at fi
    rw [gNPl_f hw]
    exact fun H' fl' s' ea d e1 e2 => fi H' fl' s' ea d e1 e2
  | true =>
    obtain ⟨i, rfl, h0, h1⟩ := wth0_int hw
    rw [hw, if_pos rfl] at fi
    rw [gNPl_t hw]
    intro H1 fl1 s1
    obtain ⟨dx1, hp1⟩ := fl1.at_
    have fi : Fin c H p pc sp wr (if (valV st.kp (Sum.inl i)).isSome = true ∨ (valV st.ks (Sum.inl i)).isSome = true then (Out.ok .non, spl st (Sum.inl i)) else (Out.pi (.int i), st)) Q E := fi
    have good : ((valV st.kp (Sum.inl i)).isSome = true ∨ (valV st.ks (Sum.inl i)).isSome = true) → mSpK c spl [.ref p, .int i] H1 (fun _ H' => Q .non H') E0 := by
      intro b
      rw [if_pos b] at fi
      exact ⟨p, pc, sp, wr, st, i, rfl, fl1, sm, fun H3 fl3 s3 => fi H3 fl3 (s1.trans s3)⟩
    refine ⟨_, rfl, _, rfl, p, c.F, dx1, _, _, rfl, hp1, cl, na.pieces, rfl, pc, _, rfl, DGet.k (k := .inl i) fl1.kp, _, rfl, ?_⟩
    cases hv : (valV st.kp (Sum.inl i)).isSome with
    | true =>
      exact iteF (iteF ⟨_, rfl, p, dx1, _, rfl, hp1, rfl, _, rfl, good (.inl hv)⟩)
    | false =>
      refine iteT ?_
      refine ⟨_, rfl, _, rfl, p, c.F, dx1, _, _, rfl, hp1, cl, na.spoilt, rfl, sp, _, rfl, DGet.k (k := .inl i) fl1.ks, _, rfl, ?_⟩
      cases hs : (valV st.ks (Sum.inl i)).isSome with
      | true => exact iteF ⟨_, rfl, p, dx1, _, rfl, hp1, rfl, _, rfl, good (.inr hs)⟩
      | false =>
        rw [hv, hs, if_neg (by simp)] at fi
        exact iteT ⟨_, rfl, fun e he => raise1 (fun ea d H' s' e1 e2 => fi H' (fl1.mono s') (s1.trans (Sx.of s')) ea d e1 e2) e he⟩
theorem scLos : FnScope ["self", "place"] ["self", "place"] (defScope sLos) := ⟨rfl, rfl, rfl, by decide +kernel, rfl, by decide +kernel, by decide +kernel⟩
theorem ok_Los (F : Fun K "lose" "Floor.lose" sLos f fd) (cl : Cls K c.F) (na : Na K c.F) (hNPl : MHas K c.F "need_place" "Floor.need_place" sNPl ["self", "place"] fNPl dNPl) (GNPl : FnOk P w K mg base (CXw P w) 3 fNPl dNPl ["self", "place"] (mSp c gNPl))
    (hCle : MHas K c.F "clean" "Floor.clean" sCle ["self", "place"] fCle dCle) (GCle : FnOk P w K mg base CX0 1 fCle dCle ["self", "place"] (mSpK c cln)) : FnOk P w K mg base (CXw P w) 4 f fd ["self", "place"] (mSp c fLose) := by
  refine F.okX scLos (fun vs H Q E h => ?_) (fun cdv A outer s H vs Q E hr h => ?_)
  · obtain ⟨p, pc, sp, wr, st, x, rfl, _⟩ := h
    rfl
  obtain ⟨p, pc, sp, wr, st, x, rfl, fl, sm, ty, fi⟩ := h
  obtain ⟨dx, hp⟩ := fl.at_
  have hlv : Leaves (cxOf (CXw P w) P w K mg base ["self", "place"] "Floor.lose" (defScope sLos) f cdv A outer s H E) E := leaves_fn
  refine ⟨_, (pss_cons (ps_expr (pe_meth (pv 0) cl hNPl.me GNPl (hr.mono (by decide)) hNPl.bd .nil (passes_of hlv) (pa_cons (pv 1) pa_nil)))
    (pss_one (ps_expr (pe_meth (pv 0) cl hCle.me GCle (hr.mono (by decide)) hCle.bd .nil pass0 (pa_cons (pv 1) pa_nil))))), ?_⟩
  refine ⟨_, rfl, p, dx, _, rfl, hp, rfl, _, rfl, p, pc, sp, wr, st, x, rfl, fl, sm, ty, ?_⟩
  unfold fLose at fi
  cases hw : isP st x with
  | false =>
    rw [hw, if_neg (by decide)] at fi
    rw [gNPl_f hw]
    exact fun H' fl' s' ea d e1 e2 => fi H' fl' s' ea d e1 e2
  | true =>
    obtain ⟨i, rfl, h0, h1⟩ := wth0_int hw
    rw [hw, if_pos rfl] at fi
    rw [gNPl_t hw]
    intro H1 fl1 s1
    obtain ⟨dx1, hp1⟩ := fl1.at_
    exact ⟨_, rfl, p, dx1, _, rfl, hp1, rfl, _, rfl, p, pc, sp, wr, st, i, rfl, fl1, sm, fun H3 fl3 s3 => fi H3 fl3 (s1.trans s3)⟩
/-! ### cut_after, power_on, is_dark, writes -/
theorem scCut : FnScope ["self", "many"] ["self", "many"] (defScope sCut) := ⟨rfl, rfl, rfl, by decide +kernel, rfl, by decide +kernel, by decide +kernel⟩
theorem ok_Cut (F : Fun K "cut_after" "Floor.cut_after" sCut f fd) (cl : Cls K c.F) (na : Na K c.F) : FnOk P w K mg base CX0 1 f fd ["self", "many"] (spCut c) := by
  refine F.ok scCut (fun vs H Q E h => ?_) (fun cdv A outer s H vs Q E hr h => ?_)
  · obtain ⟨p, pc, sp, wr, st, x, rfl, _⟩ := h
    rfl
  obtain ⟨p, pc, sp, wr, st, x, rfl, fl, fi⟩ := h
  obtain ⟨dx, hp⟩ := fl.at_
  refine ⟨_, (pss_one (ps_if (pt_not (pt_val (pe_fld (pv 0) rfl)))
    (pss_one (ps_fld (pv 0) (pv 1) rfl))
    pss_nil)), ?_⟩
  refine ⟨_, rfl, p, c.F, dx, _, _, rfl, hp, cl, na.dark, rfl, _, rfl, ?_⟩
  cases hd : st.d with
  | true =>
    rw [hd, if_pos rfl] at fi
    refine iteF (fi H ?_ (Sx.refl _ H))
    have e2 : st = { st with d := true, l := st.l } := by rw [← hd]
    rw [← e2]
    exact fl
  | false =>
    rw [hd, if_neg (by decide)] at fi
    refine iteT ⟨_, rfl, _, rfl, p, c.F, dx, _, rfl, hp, cl, na.left, (by show 6 < 1000; decide), fi _ ?_ (Sx.upd (by simp))⟩
    have e2 : putF "left" x (flF st pc sp wr) = flF { st with d := false, l := x } pc sp wr := by rw [put_left, hd]
    rw [e2]
    exact fl.setF dx false x
theorem scPon : FnScope ["self"] ["self"] (defScope sPon) := ⟨rfl, rfl, rfl, by decide +kernel, rfl, by decide +kernel, by decide +kernel⟩
theorem ok_Pon (F : Fun K "power_on" "Floor.power_on" sPon f fd) (cl : Cls K c.F) (na : Na K c.F) : FnOk P w K mg base CX0 1 f fd ["self"] (mSp0 c fun st => (.ok .non, { st with d := false, l := .non })) := by
  refine F.ok scPon (fun vs H Q E h => ?_) (fun cdv A outer s H vs Q E hr h => ?_)
  · obtain ⟨p, pc, sp, wr, st, rfl, _⟩ := h
    rfl
  obtain ⟨p, pc, sp, wr, st, rfl, fl, fi⟩ := h
  obtain ⟨dx, hp⟩ := fl.at_
  refine ⟨_, (pss_cons (ps_fld (pv 0) pe_bl rfl)
    (pss_one (ps_fld (pv 0) pe_non rfl))), ?_⟩
  exact ⟨_, rfl, p, c.F, dx, _, rfl, hp, cl, na.dark, (by show 6 < 1000; decide), _, rfl, p, c.F, dx, _, rfl, upd_same, cl, na.left, (by show 6 < 1000; decide), fi _ ((fl.setF dx false st.l).setF dx false .non) ((Sx.upd (by simp)).trans (Sx.upd (by simp)))⟩
theorem scIsD : FnScope ["self"] ["self"] (defScope sIsD) := ⟨rfl, rfl, rfl, by decide +kernel, rfl, by decide +kernel, by decide +kernel⟩
theorem ok_IsD (F : Fun K "is_dark" "Floor.is_dark" sIsD f fd) (cl : Cls K c.F) (na : Na K c.F) : FnOk P w K mg base CX0 1 f fd ["self"] (mSp0 c fun st => (.ok (.bl st.d), st)) := by
  refine F.ok scIsD (fun vs H Q E h => ?_) (fun cdv A outer s H vs Q E hr h => ?_)
  · obtain ⟨p, pc, sp, wr, st, rfl, _⟩ := h
    rfl
  obtain ⟨p, pc, sp, wr, st, rfl, fl, fi⟩ := h
  obtain ⟨dx, hp⟩ := fl.at_
  refine ⟨_, (pss_one (ps_ret (pe_fld (pv 0) rfl))), ?_⟩
  exact ⟨_, rfl, p, c.F, dx, _, _, rfl, hp, cl, na.dark, rfl, fi H fl (Sx.refl _ H)⟩
theorem scWrs : FnScope ["self"] ["self"] (defScope sWrs) := ⟨rfl, rfl, rfl, by decide +kernel, rfl, by decide +kernel, by decide +kernel⟩
theorem ok_Wrs (F : Fun K "writes" "Floor.writes" sWrs f fd) (cl : Cls K c.F) (na : Na K c.F) (T : Txt mg) : FnOk P w K mg base CX0 1 f fd ["self"] (spWrs c) := by
  refine F.ok scWrs (fun vs H Q E h => ?_) (fun cdv A outer s H vs Q E hr h => ?_)
  · obtain ⟨p, pc, sp, wr, st, rfl, _⟩ := h
    rfl
  obtain ⟨p, pc, sp, wr, st, rfl, fl, q⟩ := h
  obtain ⟨dx, hp⟩ := fl.at_
  refine ⟨_, (pss_one (ps_ret (pe_callTy call_list_of rfl T.lst PyProof.Rows.boot_list (pa_cons (pe_fld (pv 0) rfl) pa_nil)))), ?_⟩
  exact ⟨_, rfl, p, c.F, dx, _, _, rfl, hp, cl, na.written, rfl, wr, _, rfl, .inl (SqL.of fl.ws), q⟩
end
end K3
set_option maxHeartbeats 8000000
namespace K3
open PySem L2 FL
section
variable {P : Program} {w : World} {K : PySem.W.Frag} {mg : Str → Option Value} {base : Heap} {f : Addr} {fd : FuncData} {c : Cl}
variable {fWri fRea fHar fLos fCut fPon fIsD fWrs fFIn fStu fDon fRDu fWDu fHDu fPow fSta : Addr} {dWri dRea dHar dLos dCut dPon dIsD dWrs dFIn dStu dDon dRDu dWDu dHDu dPow dSta : FuncData}
/-! ### copied -/
def spCop (c : Cl) : Sp := fun vs H Q _ => ∃ (p pc sp wr : Addr) (st : FS), vs = [.ref p] ∧ FlAt c.F H p pc sp wr st ∧ 4 ≤ st.n ∧ st.n ≤ 600 ∧ ∀ (p2 pc2 sp2 wr2 : Addr) (H' : Hp), H p2 = none → H pc2 = none → H sp2 = none → H wr2 = none → FlAt c.F H' p2 pc2 sp2 wr2 ⟨st.n, st.kp, st.ks, [], false, .non⟩ → Same H H' → Q (.ref p2) H'
theorem scCop : FnScope ["self", "other"] ["self"] (defScope sCop) := ⟨rfl, rfl, rfl, by decide +kernel, rfl, by decide +kernel, by decide +kernel⟩
theorem ok_Cop (F : Fun K "copied" "Floor.copied" sCop f fd) (cl : Cls K c.F) (na : Na K c.F) (FInmk : Mk K c.F fFIn) (FInnm : mg "Floor" = some (.ref c.F)) (FInbd : Binds K dFIn ["self", "many"] []) (GFIn : FnOk P w K mg base (CXw P w) 3 fFIn dFIn ["self", "many"] (spFIn c)) (T : Txt mg) :
    FnOk P w K mg base CX0 5 f fd ["self"] (spCop c) := by
  refine F.ok scCop (fun vs H Q E h => ?_) (fun cdv A outer s H vs Q E hr h => ?_)
  · obtain ⟨p, pc, sp, wr, st, rfl, _⟩ := h
    rfl
  obtain ⟨p, pc, sp, wr, st, rfl, fl, h4, h6, q⟩ := h
  obtain ⟨dx, hp⟩ := fl.at_
  refine ⟨_, (pss_cons (ps_set (i := 1) scCop.nd rfl (Or.inl rfl) (pe_make FInmk GFIn (hr.mono (by decide)) rfl FInnm FInbd .nil passN (pa_cons (pe_fld (pv 0) rfl) pa_nil)))
    (pss_cons (ps_fld (pv 1) (pe_callTy call_dictD rfl T.dct PyProof.Rows.boot_dict (pa_cons (pe_fld (pv 0) rfl) pa_nil)) rfl)
    (pss_cons (ps_fld (pv 1) (pe_callTy call_dictD rfl T.dct PyProof.Rows.boot_dict (pa_cons (pe_fld (pv 0) rfl) pa_nil)) rfl)
    (pss_one (ps_ret (pv 1)))))), ?_⟩
  refine ⟨_, rfl, p, c.F, dx, _, _, rfl, hp, cl, na.many, rfl, fun p2 d2 hp2 hd2 nd2 => ?_⟩
  have sP : Same H (upd (upd H d2 (HO.own p2)) p2 (HO.ins c.F d2 [])) := (same_new hd2 _).trans (same_new (by rw [upd_ne (Ne.symm nd2)]; exact hp2) _)
  refine ⟨p2, d2, .int st.n, rfl, upd_same, Ty0.int _, fun n' en _ _ pcx spx wr2 H1 hpcx hspx hwr2 fl1 s1 => ⟨rfl, ?_⟩, fun z => by rw [wth0_in h4 h6] at z; cases z⟩
  injection en with en
  have fresh : ∀ b, H b = none → True := fun _ _ => trivial
  have k1 : Same H H1 := fun b o e => s1 b o (by simp; exact ne_of_none e hp2) (sP b o e)
  have flo := fl.mono k1
  obtain ⟨do1, ho1⟩ := flo.at_
  obtain ⟨dn1, hn1⟩ := fl1.at_
  refine ⟨_, rfl, p, c.F, do1, _, _, rfl, ho1, cl, na.pieces, rfl, pc, _, rfl, flo.kp, fun pc2 hpc2 => ?_⟩
  have np2 : p2 ≠ pc2 := ne_of_none hn1 hpc2
  refine ⟨_, rfl, p2, c.F, dn1, _, rfl, by rw [upd_ne np2]; exact hn1, cl, na.pieces, (by show 6 < 1000; decide), ?_⟩
  have npp : p ≠ p2 := ne_of_none hp hp2
  have hp3 : upd (upd H1 pc2 (HO.dK st.kp)) p2 (HO.ins c.F dn1 (putF "pieces" (.ref pc2) (flF (new n') pcx spx wr2))) p = some (.ins c.F do1 (flF st pc sp wr)) := by
    rw [upd_ne npp, upd_ne (ne_of_none ho1 hpc2)]
    exact ho1
  have nsp : sp ≠ p2 := ne_of_none fl.ks hp2
  have hs3 : upd (upd H1 pc2 (HO.dK st.kp)) p2 (HO.ins c.F dn1 (putF "pieces" (.ref pc2) (flF (new n') pcx spx wr2))) sp = some (.dK st.ks) := by
    rw [upd_ne nsp, upd_ne (ne_of_none flo.ks hpc2)]
    exact flo.ks
  refine ⟨_, rfl, p, c.F, do1, _, _, rfl, hp3, cl, na.spoilt, rfl, sp, _, rfl, hs3, fun sp2 hsp2 => ?_⟩
  obtain ⟨a1, a2⟩ := new_free hsp2
  obtain ⟨a3, a4⟩ := new_free a2
  refine ⟨_, rfl, p2, c.F, dn1, _, rfl, by rw [upd_ne (Ne.symm a1)]; exact upd_same, cl, na.spoilt, (by show 6 < 1000; decide), _, rfl, ?_⟩
  have e1 : ∀ x, H1 x = none → H x = none := fun x hx => k1.free hx
  refine q p2 pc2 sp2 wr2 _ hp2 (e1 _ hpc2) (e1 _ a4) (sP.free hwr2) ⟨⟨dn1, ?_⟩, ?_, ?_, ?_, Ne.symm a3⟩ fun b o e => ?_
  · rw [upd_same, ← en]
    rfl
  · rw [upd_ne (Ne.symm np2), upd_ne (Ne.symm a3), upd_ne (Ne.symm np2), upd_same]
  · rw [upd_ne a1, upd_same]
  · have h1 := fl1.ws
    have w1 : wr2 ≠ p2 := (fl1.n3).symm
    rw [upd_ne w1, upd_ne (ne_of_none h1 a4), upd_ne w1, upd_ne (ne_of_none h1 hpc2)]
    exact h1
  · have b1 := k1 b o e
    have b2 : b ≠ p2 := ne_of_none e hp2
    rw [upd_ne b2, upd_ne (ne_of_none b1 a4), upd_ne b2, upd_ne (ne_of_none b1 hpc2)]
    exact b1
/-! ### _law_cell_at, _law_stuff -/
def spCel (K : PySem.W.Frag) : Sp := fun vs H Q _ => ∃ (a : Addr) (ns : List Int) (k : Int), vs = [.ref a, .int k] ∧ 0 ≤ k ∧ SqL K H a (ns.map V.int) ∧ ∀ z : Int, Q (.int z) H
theorem scCel : FnScope ["_law_script", "_law_k"] ["_law_script", "_law_k"] (defScope sCel) := ⟨rfl, rfl, rfl, by decide +kernel, rfl, by decide +kernel, by decide +kernel⟩
theorem ok_Cel (F : Fun K "_law_cell_at" "_law_cell_at" sCel f fd) (T : Txt mg) : FnOk P w K mg base CX0 1 f fd ["_law_script", "_law_k"] (spCel K) := by
  refine F.ok scCel (fun vs H Q E h => ?_) (fun cdv A outer s H vs Q E hr h => ?_)
  · obtain ⟨a, ns, k, rfl, _⟩ := h
    rfl
  obtain ⟨a, ns, k, rfl, h0, hS, q⟩ := h
  refine ⟨_, (pss_cons (ps_if (pt_cmpR op_lt (pv 1) (pe_callB call_len_seq rfl T.len PySem.boot_len (pa_cons (pv 0) pa_nil)) (nomark _))
    (pss_one (ps_ret (pe_ix ix_list (pv 0) (pv 1) (fun _ _ => rfl))))
    pss_nil)
    (pss_one (ps_ret pe_int))), ?_⟩
  refine ⟨_, rfl, _, rfl, a, _, rfl, .inl hS, _, _, rfl, rfl, _, rfl, ?_⟩
  refine ite2 (fun c => ?_) (fun c => ?_)
  · have c' : k < (((ns.map V.int).length : Nat) : Int) := of_decide_eq_true c
    rw [List.length_map] at c'
    obtain ⟨j, rfl⟩ := Int.eq_ofNat_of_zero_le h0
    have hk : j < ns.length := by omega
    exact ⟨_, rfl, _, rfl, a, _, _, .int ns[j], rfl, rfl, hS, atI_nat (by simp [hk]), q _⟩
  · exact q 0
def spStu : Sp := fun vs H Q _ => ∃ (k : Int), vs = [.int k] ∧ ∀ (x : V) (H' : Hp), Same H H' → okV x → Q x H'
theorem scStu : FnScope ["_law_cell", "_law_number", "_law_some"] ["_law_cell"] (defScope sStu) := ⟨rfl, rfl, rfl, by decide +kernel, rfl, by decide +kernel, by decide +kernel⟩
theorem ok_Stu (F : Fun K "_law_stuff" "_law_stuff" sStu f fd) : FnOk P w K mg base CX0 1 f fd ["_law_cell"] spStu := by
  refine F.ok scStu (fun vs H Q E h => ?_) (fun cdv A outer s H vs Q E hr h => ?_)
  · obtain ⟨k, rfl, _⟩ := h
    rfl
  obtain ⟨k, rfl, q⟩ := h
  refine ⟨_, (pss_cons (ps_set (i := 1) scStu.nd rfl (Or.inl rfl) (pe_op op_mod (pv 0) pe_int))
    (pss_cons (ps_set (i := 2) scStu.nd rfl (Or.inl rfl) (pe_lst (pa_cons (pe_op op_mod (pe_op op_mul (pv 1) pe_int) pe_int) (pa_cons (pe_slice sl_str pe_str po_none (po_some (pe_op op_mod (pv 1) pe_int))) (pa_cons (pe_tup pa_nil) (pa_cons (pe_tup (pa_cons pe_str (pa_cons (pv 1) (pa_cons (pe_tup (pa_cons (pe_op op_mod (pv 1) pe_int) (pa_cons pe_int pa_nil))) pa_nil)))) pa_nil))))))
    (pss_one (ps_ret (pe_ix ix_list (pv 2) (pe_op op_mod (pe_op op_fdiv (pv 0) pe_int) pe_int) (fun _ _ => rfl)))))), ?_⟩
  refine ⟨_, rfl, _, _, rfl, rfl, (by show (0 : Int) < 1000003; decide), ?_⟩
  have n0 : (0 : Int) ≤ k % 1000003 := by omega
  have n1 : k % 1000003 < 1000003 := by omega
  dsimp only
  generalize k % 1000003 = n at n0 n1
  refine ⟨_, rfl, _, _, rfl, rfl, .inl ⟨by omega, by omega⟩, _, _, rfl, rfl, (by show (0 : Int) < 4294967296; decide), ?_⟩
  refine ⟨_, rfl, _, _, rfl, rfl, (by show (0 : Int) < 5; decide), _, rfl, _, rfl, by decide +kernel, ?_⟩
  refine ⟨by decide, fun t1 h1 => ?_⟩
  refine ⟨_, rfl, _, rfl, _, _, rfl, rfl, (by show (0 : Int) < 9; decide), (by show 2 ≤ sizeLine; decide), fun t2 h2 => ⟨(by show 3 ≤ sizeLine; decide), fun t3 h3 => ⟨(by show 4 ≤ sizeLine; decide), fun l hl => ?_⟩⟩⟩
  refine ⟨_, rfl, _, rfl, _, _, rfl, rfl, ⟨by decide, by decide⟩, _, _, rfl, rfl, (by show (0 : Int) < 4; decide), ?_⟩
  have j0 : (0 : Int) ≤ k / 7 % 4 := by omega
  have j1 : k / 7 % 4 < 4 := by omega
  dsimp only
  generalize k / 7 % 4 = j at j0 j1
  obtain e | e | e | e : j = 0 ∨ j = 1 ∨ j = 2 ∨ j = 3 := by omega
  all_goals subst e
  all_goals exact ⟨l, _, _, _, rfl, rfl, SqL.of upd_same, rfl, q _ _ ((same_new h1 _).trans ((same_new h2 _).trans ((same_new h3 _).trans (same_new hl _)))) (by first | exact .inl rfl | exact .inr ⟨_, rfl⟩)⟩
/-! ### what is due -/
def spRDu : Sp := fun vs H Q _ => ∃ (q0 b a d : Addr) (ls : LS) (i : Int), vs = [.ref q0, .int i] ∧ StAt H q0 b a d ls ∧ ∀ t, H t = none → Q (.ref t) (upd H t (.tup (rDu ls i)))
theorem scRDu : FnScope ["_law_state", "_law_place"] ["_law_state", "_law_place"] (defScope sRDu) := ⟨rfl, rfl, rfl, by decide +kernel, rfl, by decide +kernel, by decide +kernel⟩
theorem ok_RDu (F : Fun K "_law_read_due" "_law_read_due" sRDu f fd) : FnOk P w K mg base CX0 1 f fd ["_law_state", "_law_place"] spRDu := by
  refine F.ok scRDu (fun vs H Q E h => ?_) (fun cdv A outer s H vs Q E hr h => ?_)
  · obtain ⟨q0, b, a, d, ls, i, rfl, _⟩ := h
    rfl
  obtain ⟨q0, b, a, d, ls, i, rfl, sa, q⟩ := h
  have hu := hu_of hr
  refine ⟨_, (pss_cons (ps_if (pt_val (pe_dget hu (pv 0) pe_str (fun _ _ => rfl)))
    (pss_one (ps_ret (pe_tup (pa_cons pe_str (pa_cons (pe_un un_neg pe_int) pa_nil)))))
    pss_nil)
    (pss_cons (ps_if (pt_cmp (pc_din hu (pv 1) (pe_dget hu (pv 0) pe_str (fun _ _ => rfl))))
    (pss_one (ps_ret (pe_tup (pa_cons pe_str (pa_cons (pv 1) pa_nil)))))
    pss_nil)
    (pss_cons (ps_if (pt_cmp (pc_dnotin hu (pv 1) (pe_dget hu (pv 0) pe_str (fun _ _ => rfl))))
    (pss_one (ps_ret (pe_tup (pa_cons pe_str (pa_cons (pv 1) pa_nil)))))
    pss_nil)
    (pss_one (ps_ret (pe_tup (pa_cons pe_str (pa_cons (pe_dget hu (pe_dget hu (pv 0) pe_str (fun _ _ => rfl)) (pv 1) (fun _ _ => rfl)) pa_nil)))))))), ?_⟩
  unfold rDu at q
  refine ⟨_, rfl, q0, _, rfl, sa.gK, _, rfl, ite2 (fun x => ?_) (fun x => ?_)⟩
  · rw [if_pos x] at q
    exact ⟨_, rfl, (by show 2 ≤ sizeLine; decide), q⟩
  rw [if_neg x] at q
  refine ⟨_, rfl, _, rfl, q0, _, rfl, sa.gA, a, _, rfl, DGet.k (k := .inl i) sa.bd, _, rfl, ite2 (fun x => ?_) (fun x => ?_)⟩
  · rw [if_pos x] at q
    exact ⟨_, rfl, (by show 2 ≤ sizeLine; decide), q⟩
  rw [if_neg x] at q
  have g := DGet.k (k := .inl i) sa.bn
  refine ⟨_, rfl, _, rfl, q0, _, rfl, sa.gB, b, _, rfl, g, _, rfl, ?_⟩
  cases e : valV ls.bn (Sum.inl i) with
  | none =>
    rw [e] at q
    exact iteT ⟨_, rfl, (by show 2 ≤ sizeLine; decide), q⟩
  | some v =>
    rw [e] at q g
    exact iteF ⟨_, rfl, q0, _, rfl, sa.gB, _, rfl, b, v, rfl, g, (by show 2 ≤ sizeLine; decide), q⟩
def spWDu : Sp := fun vs H Q _ => ∃ (q0 b a d : Addr) (ls : LS) (i : Int) (v : V), vs = [.ref q0, .int i, v] ∧ StAt H q0 b a d ls ∧ ls.bn.length ≤ 10000 ∧ ls.bd.length ≤ 10000 ∧ ls.dn.length ≤ 10000 ∧ ∀ H' t, StAt H' q0 b a d (wDu ls i v).2 → Sx [q0, b, a, d] H H' → H' t = none → Q (.ref t) (upd H' t (.tup (wDu ls i v).1))
theorem scWDu : FnScope ["_law_state", "_law_place", "_law_stuff_here"] ["_law_state", "_law_place", "_law_stuff_here"] (defScope sWDu) := ⟨rfl, rfl, rfl, by decide +kernel, rfl, by decide +kernel, by decide +kernel⟩
theorem ok_WDu (F : Fun K "_law_write_due" "_law_write_due" sWDu f fd) (T : Txt mg) : FnOk P w K mg base CX0 1 f fd ["_law_state", "_law_place", "_law_stuff_here"] spWDu := by
  refine F.ok scWDu (fun vs H Q E h => ?_) (fun cdv A outer s H vs Q E hr h => ?_)
  · obtain ⟨q0, b, a, d, ls, i, v, rfl, _⟩ := h
    rfl
  obtain ⟨q0, b, a, d, ls, i, v, rfl, sa, z1, z2, z3, q⟩ := h
  have hu := hu_of hr
  refine ⟨_, (pss_cons (ps_if (pt_val (pe_dget hu (pv 0) pe_str (fun _ _ => rfl)))
    (pss_one (ps_ret (pe_tup (pa_cons pe_str (pa_cons (pe_un un_neg pe_int) pa_nil)))))
    pss_nil)
    (pss_cons (ps_expr (pe_dpop2 (pe_dget hu (pv 0) pe_str (fun _ _ => rfl)) (pv 1) pe_non ⟨rfl, rfl, rfl, rfl⟩))
    (pss_cons (ps_expr (pe_dpop2 (pe_dget hu (pv 0) pe_str (fun _ _ => rfl)) (pv 1) pe_non ⟨rfl, rfl, rfl, rfl⟩))
    (pss_cons (ps_if (pt_cmpR op_eq (pe_dget hu (pv 0) pe_str (fun _ _ => rfl)) pe_int (nomark _))
    (pss_cons (ps_dput hu (pe_dget hu (pv 0) pe_str (fun _ _ => rfl)) (pv 1) pe_bl rfl)
    (pss_cons (ps_dput hu (pv 0) pe_str pe_bl rfl)
    (pss_one (ps_ret (pe_tup (pa_cons pe_str (pa_cons (pe_un un_neg pe_int) pa_nil)))))))
    pss_nil)
    (pss_cons (ps_dput hu (pv 0) pe_str (pe_op op_sub (pe_dget hu (pv 0) pe_str (fun _ _ => rfl)) (pe_callTy call_int1 rfl T.int PyProof.Rows.boot_int (pa_cons (pe_cmpR op_gt (pe_dget hu (pv 0) pe_str (fun _ _ => rfl)) pe_int (nomark _)) pa_nil))) rfl)
    (pss_cons (ps_dput hu (pe_dget hu (pv 0) pe_str (fun _ _ => rfl)) (pv 1) (pv 2) rfl)
    (pss_cons (ps_expr (pe_bm PySem.F.plainAttrs_list PySem.F.slot_list_append PySem.F.type_list_append mt_append (pe_dget hu (pv 0) pe_str (fun _ _ => rfl)) (pa_cons (pv 1) pa_nil)))
    (pss_one (ps_ret (pe_tup (pa_cons pe_str (pa_cons pe_non pa_nil)))))))))))), ?_⟩
  unfold wDu at q
  refine ⟨_, rfl, q0, _, rfl, sa.gK, _, rfl, ite2 (fun x => ?_) (fun x => ?_)⟩
  · rw [if_pos x] at q
    exact ⟨_, rfl, (by show 2 ≤ sizeLine; decide), fun t ht => q H t sa (Sx.refl _ _) ht⟩
  rw [if_neg x] at q
  refine ⟨_, rfl, q0, _, rfl, sa.gB, b, rfl, .inl ⟨_, .inl sa.bn⟩, _, rfl, _, .inl i, sa.bn, rfl, pop_one (z := .non) sa.bn fun _ => ?_⟩
  have sa1 := sa.setBn (dropK ls.bn (.inl i))
  refine ⟨_, rfl, q0, _, rfl, sa1.gA, a, rfl, .inl ⟨_, .inl sa1.bd⟩, _, rfl, _, .inl i, sa1.bd, rfl, pop_one (z := .non) sa1.bd fun _ => ?_⟩
  have sa2 := sa1.setBd (dropK ls.bd (.inl i))
  have x2 : Sx [q0, b, a, d] H (upd (upd H b (HO.dK (dropK ls.bn (Sum.inl i)))) a (HO.dK (dropK ls.bd (Sum.inl i)))) := (Sx.upd (by simp)).trans (Sx.upd (by simp))
  generalize upd (upd H b (HO.dK (dropK ls.bn (Sum.inl i)))) a (HO.dK (dropK ls.bd (Sum.inl i))) = H2 at sa2 x2
  have l1 := drop_le ls.bn (.inl i)
  have l2 := drop_le ls.bd (.inl i)
  refine ⟨_, rfl, q0, _, rfl, sa2.gL, rfl, _, rfl, ite2 (fun x => ?_) (fun x => ?_)⟩
  · have x : V.int ls.lf = .int 0 := of_decide_eq_true x
    injection x with x
    rw [if_pos x] at q
    refine ⟨_, rfl, q0, _, rfl, sa2.gA, _, rfl, a, _, rfl, DPut.k (k := .inl i) sa2.bd (small (by show (dropK ls.bd (.inl i)).length ≤ _; omega)), ?_⟩
    have sa3 := sa2.setBd (putK (dropK ls.bd (.inl i)) (.inl i) (.bl true))
    refine ⟨_, rfl, q0, _, rfl, sa3.pK true, ?_⟩
    have sa4 := sa3.setQ ls.lf true
    exact ⟨_, rfl, (by show 2 ≤ sizeLine; decide), fun t ht => q _ t sa4 (x2.trans ((Sx.upd (by simp)).trans (Sx.upd (by simp)))) ht⟩
  · have x : ¬ ls.lf = 0 := fun e => x (decide_eq_true (by rw [e]))
    rw [if_neg x] at q
    refine ⟨_, rfl, q0, _, rfl, sa2.gL, _, rfl, q0, _, rfl, sa2.gL, _, _, rfl, rfl, .inr ⟨_, rfl, _, _, rfl, rfl, ?_⟩⟩
    refine ⟨_, rfl, q0, _, rfl, sa2.pL _, ?_⟩
    have sa3 := sa2.setQ (ls.lf - (if decide (ls.lf > 0) = true then 1 else 0)) ls.dk
    refine ⟨_, rfl, _, rfl, q0, _, rfl, sa3.gB, _, rfl, b, _, rfl, DPut.k (k := .inl i) sa3.bn (small (by show (dropK ls.bn (.inl i)).length ≤ _; omega)), ?_⟩
    have sa4 := sa3.setBn (putK (dropK ls.bn (.inl i)) (.inl i) v)
    refine ⟨_, rfl, q0, _, rfl, sa4.gD, .inl ⟨rfl, _, SqL.of sa4.dn⟩, _, rfl, d, _, _, rfl, rfl, sa4.dn, small (by show ls.dn.length ≤ _; omega), ?_⟩
    have sa5 := sa4.setDn (ls.dn ++ [.int i])
    exact ⟨(by show 2 ≤ sizeLine; decide), fun t ht => q _ t sa5 (x2.trans ((Sx.upd (by simp)).trans ((Sx.upd (by simp)).trans (Sx.upd (by simp))))) ht⟩
def spHDu : Sp := fun vs H Q _ => ∃ (q0 b a d : Addr) (ls : LS) (i : Int), vs = [.ref q0, .int i] ∧ StAt H q0 b a d ls ∧ ls.bd.length ≤ 10000 ∧ ∀ H' t, StAt H' q0 b a d (hDu ls i).2 → Sx [q0, b, a, d] H H' → H' t = none → Q (.ref t) (upd H' t (.tup (hDu ls i).1))
theorem scHDu : FnScope ["_law_state", "_law_place"] ["_law_state", "_law_place"] (defScope sHDu) := ⟨rfl, rfl, rfl, by decide +kernel, rfl, by decide +kernel, by decide +kernel⟩
theorem ok_HDu (F : Fun K "_law_harm_due" "_law_harm_due" sHDu f fd) : FnOk P w K mg base CX0 1 f fd ["_law_state", "_law_place"] spHDu := by
  refine F.ok scHDu (fun vs H Q E h => ?_) (fun cdv A outer s H vs Q E hr h => ?_)
  · obtain ⟨q0, b, a, d, ls, i, rfl, _⟩ := h
    rfl
  obtain ⟨q0, b, a, d, ls, i, rfl, sa, z2, q⟩ := h
  have hu := hu_of hr
  refine ⟨_, (pss_cons (ps_if (PW.pt (pw_and (pt_cmp (pc_dnotin hu (pv 1) (pe_dget hu (pv 0) pe_str (fun _ _ => rfl)))) (pw_and1 (pt_cmp (pc_dnotin hu (pv 1) (pe_dget hu (pv 0) pe_str (fun _ _ => rfl)))))))
    (pss_one (ps_ret (pe_tup (pa_cons pe_str (pa_cons (pv 1) pa_nil)))))
    pss_nil)
    (pss_cons (ps_expr (pe_dpop2 (pe_dget hu (pv 0) pe_str (fun _ _ => rfl)) (pv 1) pe_non ⟨rfl, rfl, rfl, rfl⟩))
    (pss_cons (ps_dput hu (pe_dget hu (pv 0) pe_str (fun _ _ => rfl)) (pv 1) pe_bl rfl)
    (pss_one (ps_ret (pe_tup (pa_cons pe_str (pa_cons pe_non pa_nil)))))))), ?_⟩
  refine seq_in (if_rest (fun σ' H' => σ' = [some (.ref q0), some (.int i)] ∧ H' = H ∧ ((valV ls.bn (.inl i)).isSome = true ∨ (valV ls.bd (.inl i)).isSome = true)) (fun σ' H' hR => ?_) (fun go => ?_))
  · obtain ⟨rfl, rfl, hb⟩ := hR
    unfold hDu at q
    rw [if_pos hb] at q
    refine ⟨_, rfl, q0, _, rfl, sa.gB, b, rfl, .inl ⟨_, .inl sa.bn⟩, _, rfl, _, .inl i, sa.bn, rfl, pop_one (z := .non) sa.bn fun _ => ?_⟩
    have sa1 := sa.setBn (dropK ls.bn (.inl i))
    refine ⟨_, rfl, q0, _, rfl, sa1.gA, _, rfl, a, _, rfl, DPut.k (k := .inl i) sa1.bd (small (by show ls.bd.length ≤ _; omega)), ?_⟩
    have sa2 := sa1.setBd (putK ls.bd (.inl i) (.bl true))
    exact ⟨(by show 2 ≤ sizeLine; decide), fun t ht => q _ t sa2 ((Sx.upd (by simp)).trans (Sx.upd (by simp))) ht⟩
  · refine ⟨_, rfl, _, rfl, q0, _, rfl, sa.gB, b, _, rfl, DGet.k (k := .inl i) sa.bn, _, rfl, ?_⟩
    cases e1 : (valV ls.bn (Sum.inl i)).isSome with
    | true => exact iteF (iteF (go _ _ ⟨rfl, rfl, .inl e1⟩))
    | false =>
      refine iteT ⟨_, rfl, _, rfl, q0, _, rfl, sa.gA, a, _, rfl, DGet.k (k := .inl i) sa.bd, _, rfl, ?_⟩
      cases e2 : (valV ls.bd (Sum.inl i)).isSome with
      | true => exact iteF (go _ _ ⟨rfl, rfl, .inr e2⟩)
      | false =>
        unfold hDu at q
        rw [e1, e2, if_neg (by simp)] at q
        exact iteT ⟨_, rfl, (by show 2 ≤ sizeLine; decide), fun t ht => q H t sa (Sx.refl _ _) ht⟩
/-! ### _law_done -/
structure Xs (K : PySem.W.Frag) (mg : Str → Option Value) (c : Cl) : Prop where
  oW : XOb K c.W tailVE
  nW : mg "WoodError" = some (.ref c.W)
  oNP : XOb K c.NP (wl c.W)
  oPG : XOb K c.PG (wl c.W)
  nPG : mg "PowerGone" = some (.ref c.PG)
  oSO : XOb K c.SO (wl c.W)
  nSO : mg "Spoilt" = some (.ref c.SO)
  clSO : XCls K c.SO
  naSO : NoAttr K c.SO "place"
  oNI : XOb K c.NI (wl c.W)
  nNI : mg "NoPiece" = some (.ref c.NI)
  clNI : XCls K c.NI
  naNI : NoAttr K c.NI "place"
  nd : [c.W, c.PG, c.NP, c.NI, c.SO].Nodup
theorem wl_be (W : Addr) : (wl W).contains (.type "BaseException") = true := by simp [wl, tailVE]
theorem ve_be : tailVE.contains (.type "BaseException") = true := by simp [tailVE]
def wT : Nat → Str
  | 0 => "write"
  | 1 => "read"
  | _ => "harm"
def fDo (st : FS) (y : Nat) (x v : V) : Out × FS := match y with
  | 0 => fWrite st x v
  | 1 => fRead st x
  | _ => fHarm st x
def spDon (c : Cl) : Sp := fun vs H Q _ => ∃ (p pc sp wr : Addr) (st : FS) (y : Nat) (x v : V), vs = [.ref p, .str (wT y), x, v] ∧ y < 3 ∧ FlAt c.F H p pc sp wr st ∧ Sm st ∧ Ty0 H x ∧ ∀ H' t, FlAt c.F H' p pc sp wr (fDo st y x v).2 → Sx [p, pc, sp, wr] H H' → H' t = none → Q (.ref t) (upd H' t (.tup (outT (fDo st y x v).1)))
theorem dW1 : decide (V.str (wT 0) = V.str "read") = false := by decide +kernel
theorem dW2 : decide (V.str (wT 0) = V.str "harm") = false := by decide +kernel
theorem dR1 : decide (V.str (wT 1) = V.str "read") = true := by decide +kernel
theorem dH1 : decide (V.str (wT 2) = V.str "read") = false := by decide +kernel
theorem dH2 : decide (V.str (wT 2) = V.str "harm") = true := by decide +kernel
theorem scDon : FnScope ["_law_floor", "_law_way", "_law_place", "_law_stuff_here", "_law_told", "e"] ["_law_floor", "_law_way", "_law_place", "_law_stuff_here"] (defScope sDon) := ⟨rfl, rfl, rfl, by decide +kernel, rfl, by decide +kernel, by decide +kernel⟩
theorem ok_Don (F : Fun K "_law_done" "_law_done" sDon f fd) (cl : Cls K c.F) (hWri : MHas K c.F "write" "Floor.write" sWri ["self", "place", "stuff"] fWri dWri) (GWri : FnOk P w K mg base (CXw P w) 4 fWri dWri ["self", "place", "stuff"] (spWri c))
    (hRea : MHas K c.F "read" "Floor.read" sRea ["self", "place"] fRea dRea) (GRea : FnOk P w K mg base (CXw P w) 4 fRea dRea ["self", "place"] (mSp c fRead)) (hHar : MHas K c.F "harm" "Floor.harm" sHar ["self", "place"] fHar dHar) (GHar : FnOk P w K mg base (CXw P w) 4 fHar dHar ["self", "place"] (mSp c fHarm))
    (S : Xs K mg c) (T : Txt mg) : FnOk P w K mg base CX0 5 f fd ["_law_floor", "_law_way", "_law_place", "_law_stuff_here"] (spDon c) := by
  refine F.ok scDon (fun vs H Q E h => ?_) (fun cdv A outer s H vs Q E hr h => ?_)
  · obtain ⟨p, pc, sp, wr, st, y, x, v, rfl, _⟩ := h
    rfl
  obtain ⟨p, pc, sp, wr, st, y, x, v, rfl, hy, fl, sm, ty, q⟩ := h
  obtain ⟨dx, hp⟩ := fl.at_
  have nd := S.nd
  simp only [List.nodup_cons, List.mem_cons, List.not_mem_nil, or_false, not_or, not_false_eq_true, List.nodup_nil, and_true] at nd
  obtain ⟨⟨w1, w2, w3, w4⟩, ⟨g1, g2, g3⟩, ⟨p1, p2⟩, i1⟩ := nd
  refine ⟨_, pss_one (ps_tryH (pb_one (pb_if (pt_cmpR op_eq (pv 1) pe_str (nomark _))
      (pb_one (pb_set (i := 4) scDon.nd rfl (Or.inl rfl) (px_meth (pv 0) cl hRea.me GRea hr hRea.bd .nil (pa_cons (pv 2) pa_nil))))
      (pb_one (pb_if (pt_cmpR op_eq (pv 1) pe_str (nomark _))
        (pb_one (pb_set (i := 4) scDon.nd rfl (Or.inl rfl) (px_meth (pv 0) cl hHar.me GHar hr hHar.bd .nil (pa_cons (pv 2) pa_nil))))
        (pb_one (pb_set (i := 4) scDon.nd rfl (Or.inl rfl) (px_meth (pv 0) cl hWri.me GWri hr hWri.bd .nil (pa_cons (pv 2) (pa_cons (pv 3) pa_nil)))))))))
    (phs_no (D := c.PG) (fun ea => pss_one (ps_ret (pe_tup (pa_cons pe_str (pa_cons (pe_un un_neg pe_int) pa_nil)))))
      (phs_as (D := c.SO) (i := 5) (fun ea => pss_one (ps_ret (pe_tup (pa_cons pe_str (pa_cons (pe_xf (pv 5) rfl) pa_nil)))))
        (phs_as (D := c.NI) (i := 5) (fun ea => pss_one (ps_ret (pe_tup (pa_cons pe_str (pa_cons (pe_xf (pv 5) rfl) pa_nil)))))
          (phs_no (D := c.W) (fun ea => pss_one (ps_ret (pe_tup (pa_cons pe_str (pa_cons (pe_un un_neg pe_int) pa_nil)))))
            phs_nil rfl S.nW S.oW ve_be)
          rfl S.nNI S.oNI (wl_be c.W) scDon.nd rfl rfl)
        rfl S.nSO S.oSO (wl_be c.W) scDon.nd rfl rfl)
      rfl S.nPG S.oPG (wl_be c.W))
    (pss_one (ps_ret (pe_tup (pa_cons pe_str (pa_cons (pv 4) pa_nil)))))), ?_⟩
  refine ⟨_, rfl, rfl, _, rfl, ?_⟩
  obtain e | e | e : y = 0 ∨ y = 1 ∨ y = 2 := by omega
  all_goals subst e
  · rw [dW1]
    refine iteF ⟨_, rfl, rfl, _, rfl, ?_⟩
    rw [dW2]
    refine iteF ⟨_, rfl, p, dx, _, rfl, hp, rfl, _, rfl, _, rfl, p, pc, sp, wr, st, x, v, rfl, fl, sm, ty, ?_⟩
    have q : ∀ H' t, FlAt c.F H' p pc sp wr (fWrite st x v).2 → Sx [p, pc, sp, wr] H H' → H' t = none → Q (.ref t) (upd H' t (.tup (outT (fWrite st x v).1))) := q
    generalize fWrite st x v = r at q
    obtain ⟨o, st'⟩ := r
    intro H' fl' s'
    cases o with
    | ok u => exact ⟨_, rfl, (by show 2 ≤ sizeLine; decide), fun t ht => q H' t fl' s' ht⟩
    | np z => exact fun ea dz e1 e2 => ⟨ea, c.NP, wl c.W, rfl, e1, S.oNP, _, false, S.oNP, cont_no (Ne.symm g1) w1, iteF ⟨_, false, S.oNP, cont_no p2 w4, iteF ⟨_, false, S.oNP, cont_no p1 w3, iteF ⟨_, true, S.oNP, cont_W, iteT ⟨_, rfl, (by show 2 ≤ sizeLine; decide), fun t ht => q H' t fl' s' ht⟩⟩⟩⟩⟩
    | pi z => exact fun ea dz e1 e2 => ⟨ea, c.NI, wl c.W, rfl, e1, S.oNI, _, false, S.oNI, cont_no (Ne.symm g2) w1, iteF ⟨_, false, S.oNI, cont_no i1 w4, iteF ⟨_, true, S.oNI, cont_self, iteT ⟨_, rfl, ea, c.NI, dz, _, z, rfl, e1, e2, S.clNI, S.naNI, by simp, (by show 2 ≤ sizeLine; decide), fun t ht => q H' t fl' s' ht⟩⟩⟩⟩
    | so z => exact fun ea dz e1 e2 => ⟨ea, c.SO, wl c.W, rfl, e1, S.oSO, _, false, S.oSO, cont_no (Ne.symm g3) w1, iteF ⟨_, true, S.oSO, cont_self, iteT ⟨_, rfl, ea, c.SO, dz, _, z, rfl, e1, e2, S.clSO, S.naSO, by simp, (by show 2 ≤ sizeLine; decide), fun t ht => q H' t fl' s' ht⟩⟩⟩
    | pg => exact fun ea e1 => ⟨ea, c.PG, wl c.W, rfl, e1, S.oPG, _, true, S.oPG, cont_self, iteT ⟨_, rfl, (by show 2 ≤ sizeLine; decide), fun t ht => q H' t fl' s' ht⟩⟩
  · rw [dR1]
    refine iteT ⟨_, rfl, p, dx, _, rfl, hp, rfl, _, rfl, p, pc, sp, wr, st, x, rfl, fl, sm, ty, ?_⟩
    have q : ∀ H' t, FlAt c.F H' p pc sp wr (fRead st x).2 → Sx [p, pc, sp, wr] H H' → H' t = none → Q (.ref t) (upd H' t (.tup (outT (fRead st x).1))) := q
    generalize fRead st x = r at q
    obtain ⟨o, st'⟩ := r
    intro H' fl' s'
    cases o with
    | ok u => exact ⟨_, rfl, (by show 2 ≤ sizeLine; decide), fun t ht => q H' t fl' s' ht⟩
    | np z => exact fun ea dz e1 e2 => ⟨ea, c.NP, wl c.W, rfl, e1, S.oNP, _, false, S.oNP, cont_no (Ne.symm g1) w1, iteF ⟨_, false, S.oNP, cont_no p2 w4, iteF ⟨_, false, S.oNP, cont_no p1 w3, iteF ⟨_, true, S.oNP, cont_W, iteT ⟨_, rfl, (by show 2 ≤ sizeLine; decide), fun t ht => q H' t fl' s' ht⟩⟩⟩⟩⟩
    | pi z => exact fun ea dz e1 e2 => ⟨ea, c.NI, wl c.W, rfl, e1, S.oNI, _, false, S.oNI, cont_no (Ne.symm g2) w1, iteF ⟨_, false, S.oNI, cont_no i1 w4, iteF ⟨_, true, S.oNI, cont_self, iteT ⟨_, rfl, ea, c.NI, dz, _, z, rfl, e1, e2, S.clNI, S.naNI, by simp, (by show 2 ≤ sizeLine; decide), fun t ht => q H' t fl' s' ht⟩⟩⟩⟩
    | so z => exact fun ea dz e1 e2 => ⟨ea, c.SO, wl c.W, rfl, e1, S.oSO, _, false, S.oSO, cont_no (Ne.symm g3) w1, iteF ⟨_, true, S.oSO, cont_self, iteT ⟨_, rfl, ea, c.SO, dz, _, z, rfl, e1, e2, S.clSO, S.naSO, by simp, (by show 2 ≤ sizeLine; decide), fun t ht => q H' t fl' s' ht⟩⟩⟩
    | pg => exact fun ea e1 => ⟨ea, c.PG, wl c.W, rfl, e1, S.oPG, _, true, S.oPG, cont_self, iteT ⟨_, rfl, (by show 2 ≤ sizeLine; decide), fun t ht => q H' t fl' s' ht⟩⟩
  · rw [dH1]
    refine iteF ⟨_, rfl, rfl, _, rfl, ?_⟩
    rw [dH2]
    refine iteT ⟨_, rfl, p, dx, _, rfl, hp, rfl, _, rfl, p, pc, sp, wr, st, x, rfl, fl, sm, ty, ?_⟩
    have q : ∀ H' t, FlAt c.F H' p pc sp wr (fHarm st x).2 → Sx [p, pc, sp, wr] H H' → H' t = none → Q (.ref t) (upd H' t (.tup (outT (fHarm st x).1))) := q
    generalize fHarm st x = r at q
    obtain ⟨o, st'⟩ := r
    intro H' fl' s'
    cases o with
    | ok u => exact ⟨_, rfl, (by show 2 ≤ sizeLine; decide), fun t ht => q H' t fl' s' ht⟩
    | np z => exact fun ea dz e1 e2 => ⟨ea, c.NP, wl c.W, rfl, e1, S.oNP, _, false, S.oNP, cont_no (Ne.symm g1) w1, iteF ⟨_, false, S.oNP, cont_no p2 w4, iteF ⟨_, false, S.oNP, cont_no p1 w3, iteF ⟨_, true, S.oNP, cont_W, iteT ⟨_, rfl, (by show 2 ≤ sizeLine; decide), fun t ht => q H' t fl' s' ht⟩⟩⟩⟩⟩
    | pi z => exact fun ea dz e1 e2 => ⟨ea, c.NI, wl c.W, rfl, e1, S.oNI, _, false, S.oNI, cont_no (Ne.symm g2) w1, iteF ⟨_, false, S.oNI, cont_no i1 w4, iteF ⟨_, true, S.oNI, cont_self, iteT ⟨_, rfl, ea, c.NI, dz, _, z, rfl, e1, e2, S.clNI, S.naNI, by simp, (by show 2 ≤ sizeLine; decide), fun t ht => q H' t fl' s' ht⟩⟩⟩⟩
    | so z => exact fun ea dz e1 e2 => ⟨ea, c.SO, wl c.W, rfl, e1, S.oSO, _, false, S.oSO, cont_no (Ne.symm g3) w1, iteF ⟨_, true, S.oSO, cont_self, iteT ⟨_, rfl, ea, c.SO, dz, _, z, rfl, e1, e2, S.clSO, S.naSO, by simp, (by show 2 ≤ sizeLine; decide), fun t ht => q H' t fl' s' ht⟩⟩⟩
    | pg => exact fun ea e1 => ⟨ea, c.PG, wl c.W, rfl, e1, S.oPG, _, true, S.oPG, cont_self, iteT ⟨_, rfl, (by show 2 ≤ sizeLine; decide), fun t ht => q H' t fl' s' ht⟩⟩
theorem isN_true {Q : VK} {H : Hp} (h : Q (.bl true) H) : Q (.bl (decide (V.non = V.non))) H := by rw [decide_eq_true rfl]; exact h
theorem k0_ll (K : PySem.W.Frag) : PySem.W.kitOne K (.type "list") (.type "list") = some true := by kernel_rfl
/-! ### _law_power, _law_stands -/
def spPow (c : Cl) : Sp := fun vs H Q _ => ∃ (A : AD) (n : Int) (m : Nat) (st : FS) (ls : LS) (y j : Int), vs = [.ref A.p, .ref A.q, .int y, .int j] ∧ 0 ≤ j ∧ Pr RelS c H A n m st ls ∧ ∀ H' st' ls', Pr RelS c H' A n m st' ls' → Sx A.l H H' → Q (.bl true) H'
theorem scPow : FnScope ["_law_floor", "_law_state", "_law_way", "_law_many"] ["_law_floor", "_law_state", "_law_way", "_law_many"] (defScope sPow) := ⟨rfl, rfl, rfl, by decide +kernel, rfl, by decide +kernel, by decide +kernel⟩
theorem ok_Pow (F : Fun K "_law_power" "_law_power" sPow f fd) (cl : Cls K c.F) (hCut : MHas K c.F "cut_after" "Floor.cut_after" sCut ["self", "many"] fCut dCut) (GCut : FnOk P w K mg base CX0 1 fCut dCut ["self", "many"] (spCut c))
    (hPon : MHas K c.F "power_on" "Floor.power_on" sPon ["self"] fPon dPon) (GPon : FnOk P w K mg base CX0 1 fPon dPon ["self"] (mSp0 c fun st => (.ok .non, { st with d := false, l := .non }))) : FnOk P w K mg base CX0 2 f fd ["_law_floor", "_law_state", "_law_way", "_law_many"] (spPow c) := by
  refine F.ok scPow (fun vs H Q E h => ?_) (fun cdv A0 outer s H vs Q E hr h => ?_)
  · obtain ⟨A, n, m, st, ls, y, j, rfl, _⟩ := h
    rfl
  obtain ⟨A, n, m, st, ls, y, j, rfl, hj, pr, q⟩ := h
  have hu := hu_of hr
  refine ⟨_, (pss_cons (ps_if (pt_cmpR op_lt (pv 2) pe_int (nomark _))
    (pss_cons (ps_dput hu (pv 1) pe_str (pe_un un_neg pe_int) rfl)
    (pss_cons (ps_dput hu (pv 1) pe_str pe_bl rfl)
    (pss_one (ps_ret (pe_cmpR op_isN (pe_meth0 (pv 0) cl hPon.me GPon (hr.mono (by decide)) hPon.bd .nil pass0) pe_non (nomark _))))))
    pss_nil)
    (pss_cons (ps_if (pt_not (pt_val (pe_dget hu (pv 1) pe_str (fun _ _ => rfl))))
    (pss_one (ps_dput hu (pv 1) pe_str (pv 3) rfl))
    pss_nil)
    (pss_one (ps_ret (pe_cmpR op_isN (pe_meth (pv 0) cl hCut.me GCut (hr.mono (by decide)) hCut.bd .nil pass0 (pa_cons (pv 3) pa_nil)) pe_non (nomark _)))))), ?_⟩
  refine ⟨_, rfl, _, _, rfl, rfl, _, rfl, ite2 (fun x => ?_) (fun x => ?_)⟩
  · refine ⟨_, rfl, _, rfl, A.q, _, rfl, pr.sa.pL (-1), ?_⟩
    have sa1 := pr.sa.setQ (-1) ls.dk
    refine ⟨_, rfl, A.q, _, rfl, sa1.pK false, ?_⟩
    have sa2 := sa1.setQ (-1) false
    have x2 : Sx A.s H (upd (upd H A.q (HO.dK (lsD A.b A.a A.d { ls with lf := -1, dk := ls.dk }))) A.q (HO.dK (lsD A.b A.a A.d { ls with lf := -1, dk := false }))) := (Sx.upd (by simp)).trans (Sx.upd (by simp))
    have fl2 := pr.fS x2
    obtain ⟨d2, e2⟩ := fl2.at_
    refine ⟨_, rfl, A.p, d2, _, rfl, e2, rfl, A.p, A.pc, A.sp, A.wr, st, rfl, fl2, fun H3 fl3 s3 => ⟨rfl, isN_true ?_⟩⟩
    refine q H3 { st with d := false, l := .non } { ls with lf := -1, dk := false } ⟨fl3, ?_, pr.dj, ⟨pr.rel.vp, pr.rel.vs, pr.rel.ws, rfl, .inl ⟨rfl, rfl⟩, pr.rel.fl, pr.rel.ok⟩, ⟨pr.sz.kp, pr.sz.ks, pr.sz.ws, pr.sz.bn, pr.sz.bd, pr.sz.dn⟩, pr.hn⟩ (x2.s.trans s3.f)
    exact sa2.keep fun x hx o e => s3 x o (fun k => pr.dj x k hx) e
  · refine nx_in ?_
    dsimp only
    refine seq_in (if_rest (fun σ' H' => σ' = [some (.ref A.p), some (.ref A.q), some (.int y), some (.int j)] ∧ StAt H' A.q A.b A.a A.d { ls with lf := if ls.dk = true then ls.lf else j, dk := ls.dk } ∧ Sx A.s H H') (fun σ' H' hR => ?_) (fun go => ?_))
    · obtain ⟨rfl, sa1, x1⟩ := hR
      have fl1 := pr.fS x1
      obtain ⟨d1, e1⟩ := fl1.at_
      refine ⟨_, rfl, A.p, d1, _, rfl, e1, rfl, _, rfl, A.p, A.pc, A.sp, A.wr, st, .int j, rfl, fl1, fun H3 fl3 s3 => ⟨rfl, isN_true ?_⟩⟩
      refine q H3 _ { ls with lf := if ls.dk = true then ls.lf else j, dk := ls.dk } ⟨fl3, sa1.keep fun x hx o e => s3 x o (fun k => pr.dj x k hx) e, pr.dj, ⟨pr.rel.vp, pr.rel.vs, pr.rel.ws, pr.rel.d, ?_, pr.rel.fl, pr.rel.ok⟩, ⟨pr.sz.kp, pr.sz.ks, pr.sz.ws, pr.sz.bn, pr.sz.bd, pr.sz.dn⟩, pr.hn⟩ (x1.s.trans s3.f)
      show ((if st.d = true then st.l else .int j) = .non ∧ (if ls.dk = true then ls.lf else j) = -1) ∨ ∃ k : Int, 0 ≤ k ∧ (if st.d = true then st.l else .int j) = .int k ∧ (if ls.dk = true then ls.lf else j) = k
      rw [pr.rel.d]
      by_cases hd : ls.dk = true
      · rw [if_pos hd, if_pos hd]
        exact pr.rel.l
      · rw [if_neg hd, if_neg hd]
        exact .inr ⟨j, hj, rfl, rfl⟩
    · refine ⟨_, rfl, A.q, _, rfl, pr.sa.gK, _, rfl, ?_⟩
      cases hd : ls.dk with
      | true =>
        refine iteF (go _ _ ⟨rfl, ?_, Sx.refl _ _⟩)
        rw [hd, if_pos rfl]
        have e : ls = { ls with lf := ls.lf, dk := true } := by rw [← hd]
        rw [← e]
        exact pr.sa
      | false =>
        refine iteT ⟨_, rfl, _, rfl, A.q, _, rfl, pr.sa.pL j, go _ _ ⟨rfl, ?_, Sx.upd (by simp)⟩⟩
        rw [hd, if_neg (by decide)]
        exact pr.sa.setQ j false
def spSta (c : Cl) : Sp := fun vs H Q _ => ∃ (A : AD) (n : Int) (m : Nat) (st : FS) (ls : LS), vs = [.ref A.p, .ref A.q] ∧ m ≤ 10000 ∧ Pr RelR c H A n m st ls ∧ ∀ H', Pr RelR c H' A n m st ls → Sx A.l H H' → Q (.bl true) H'
theorem scSta : FnScope ["_law_floor", "_law_state", "_law_told"] ["_law_floor", "_law_state"] (defScope sSta) := ⟨rfl, rfl, rfl, by decide +kernel, rfl, by decide +kernel, by decide +kernel⟩
theorem ok_Sta (F : Fun K "_law_stands" "_law_stands" sSta f fd) (cl : Cls K c.F) (hIsD : MHas K c.F "is_dark" "Floor.is_dark" sIsD ["self"] fIsD dIsD) (GIsD : FnOk P w K mg base CX0 1 fIsD dIsD ["self"] (mSp0 c fun st => (.ok (.bl st.d), st)))
    (hWrs : MHas K c.F "writes" "Floor.writes" sWrs ["self"] fWrs dWrs) (GWrs : FnOk P w K mg base CX0 1 fWrs dWrs ["self"] (spWrs c)) (T : Txt mg) : FnOk P w K mg base CX0 2 f fd ["_law_floor", "_law_state"] (spSta c) := by
  refine F.ok scSta (fun vs H Q E h => ?_) (fun cdv A0 outer s H vs Q E hr h => ?_)
  · obtain ⟨A, n, m, st, ls, rfl, _⟩ := h
    rfl
  obtain ⟨A, n, m, st, ls, rfl, hm, pr, q⟩ := h
  have hu := hu_of hr
  obtain ⟨d0, e0⟩ := pr.fl.at_
  refine ⟨_, (pss_cons (ps_set (i := 2) scSta.nd rfl (Or.inl rfl) (pe_meth0 (pv 0) cl hWrs.me GWrs (hr.mono (by decide)) hWrs.bd .nil pass0))
    (pss_cons (ps_if (PW.pt (pw_or (pt_not (pt_val (pe_callB call_isinst rfl T.isi PyProof.Rows.boot_isinstance (pa_cons (pv 2) (pa_cons (pe_bltn (v := .ty "list") rfl T.lst PyProof.Rows.boot_list rfl) pa_nil))))) (pw_or (pt_cmpR (op_neL (hu_of hr |> Nat.lt_of_succ_lt)) (pv 2) (pe_dget hu (pv 1) pe_str (fun _ _ => rfl)) (nomark _)) (pw_or1 (pt_not (pt_val (pe_callB call_isinst rfl T.isi PyProof.Rows.boot_isinstance (pa_cons (pe_meth0 (pv 0) cl hIsD.me GIsD (hr.mono (by decide)) hIsD.bd .nil pass0) (pa_cons (pe_bltn (v := .ty "bool") rfl T.bol PyProof.Rows.boot_bool rfl) pa_nil)))))))))
    (pss_one (ps_ret pe_bl))
    pss_nil)
    (pss_cons (ps_expr (pe_bm PySem.F.plainAttrs_list PySem.F.slot_list_append PySem.F.type_list_append mt_append (pv 2) (pa_cons (pe_un un_neg pe_int) pa_nil)))
    (pss_one (ps_ret (pe_cmpR op_eq (pe_meth0 (pv 0) cl hIsD.me GIsD (hr.mono (by decide)) hIsD.bd .nil pass0) (pe_dget hu (pv 1) pe_str (fun _ _ => rfl)) (nomark _))))))), ?_⟩
  refine ⟨_, rfl, A.p, d0, _, rfl, e0, rfl, A.p, A.pc, A.sp, A.wr, st, rfl, pr.fl, fun lw hlw => ?_⟩
  have pr1 := pr.mono (same_new hlw (HO.lst st.ws))
  have nl : lw ∉ A.l := pr.free hlw
  have nlf : lw ∉ A.f := fun k => nl (List.mem_append.mpr (.inl k))
  refine ⟨_, rfl, _, "list", _, true, rfl, .lst upd_same, k0_ll K, _, rfl, iteF ?_⟩
  refine ⟨_, rfl, _, rfl, A.q, _, rfl, pr1.sa.gD, lw, A.d, _, _, rfl, rfl, SqL.of upd_same, SqL.of pr1.sa.dn, pr.rel.fl, by rw [← pr.rel.ws]; exact pr.rel.fl, _, rfl, ?_⟩
  rw [← pr.rel.ws, eqVs_refl0 pr.rel.fl]
  refine iteF ?_
  obtain ⟨d1, e1⟩ := pr1.fl.at_
  refine ⟨_, rfl, A.p, d1, _, rfl, e1, rfl, A.p, A.pc, A.sp, A.wr, st, rfl, pr1.fl, fun H2 fl2 s2 => ?_⟩
  refine ⟨_, "bool", _, true, rfl, .bl _, k0_bb K, _, rfl, iteF ?_⟩
  have l2 : H2 lw = some (.lst st.ws) := s2 _ _ nlf upd_same
  have pr2 : Pr RelR c H2 A n m st ls := ⟨fl2, pr1.sF s2, pr.dj, pr.rel, pr.sz, pr.hn⟩
  refine ⟨_, rfl, .inl ⟨rfl, _, SqL.of l2⟩, _, rfl, lw, _, _, rfl, rfl, l2, small (by have := pr.sz.ws; omega), ?_⟩
  have pr3 : Pr RelR c (upd H2 lw (HO.lst (st.ws ++ [V.int (-1)]))) A n m st ls := pr2.keep fun x hx o e => by
    rw [upd_ne fun z => nl (by rw [← z]; exact hx)]
    exact e
  obtain ⟨d3, e3⟩ := pr3.fl.at_
  refine ⟨_, rfl, A.p, d3, _, rfl, e3, rfl, A.p, A.pc, A.sp, A.wr, st, rfl, pr3.fl, fun H4 fl4 s4 => ?_⟩
  have sa4 := pr3.sF s4
  refine ⟨_, rfl, A.q, _, rfl, sa4.gK, rfl, ?_⟩
  rw [pr.rel.d, decide_eq_true rfl]
  refine q H4 ⟨fl4, sa4, pr.dj, pr.rel, pr.sz, pr.hn⟩ fun b o nb e => ?_
  have nbf : b ∉ A.f := fun k => nb (List.mem_append.mpr (.inl k))
  refine s4 b o nbf ?_
  rw [upd_ne (ne_of_none e hlw)]
  exact s2 b o nbf (same_new hlw _ _ _ e)
/-! ### _law_step -/
def spSte (c : Cl) : Sp := fun vs H Q _ => ∃ (A : AD) (n : Int) (m : Nat) (st : FS) (ls : LS) (k i : Int), vs = [.ref A.p, .ref A.q, .int k, .int i] ∧ m ≤ 9000 ∧ 0 ≤ i ∧ i ≤ n - 1 ∧ Pr RelS c H A n m st ls ∧ ∀ H' st' ls', Pr RelS c H' A n (m + 1) st' ls' → Sx A.l H H' → Q (.bl true) H'
theorem scSte : FnScope ["_law_floor", "_law_state", "_law_cell", "_law_place", "_law_way", "_law_stuff_here"] ["_law_floor", "_law_state", "_law_cell", "_law_place"] (defScope sSte) := ⟨rfl, rfl, rfl, by decide +kernel, rfl, by decide +kernel, by decide +kernel⟩
theorem ok_Ste (F : Fun K "_law_step" "_law_step" sSte f fd) (cl : Cls K c.F) (hStu : Has K mg "_law_stuff" sStu ["_law_cell"] fStu dStu) (GStu : FnOk P w K mg base CX0 1 fStu dStu ["_law_cell"] spStu)
    (hDon : Has K mg "_law_done" sDon ["_law_floor", "_law_way", "_law_place", "_law_stuff_here"] fDon dDon) (GDon : FnOk P w K mg base CX0 5 fDon dDon ["_law_floor", "_law_way", "_law_place", "_law_stuff_here"] (spDon c))
    (hRDu : Has K mg "_law_read_due" sRDu ["_law_state", "_law_place"] fRDu dRDu) (GRDu : FnOk P w K mg base CX0 1 fRDu dRDu ["_law_state", "_law_place"] spRDu)
    (hWDu : Has K mg "_law_write_due" sWDu ["_law_state", "_law_place", "_law_stuff_here"] fWDu dWDu) (GWDu : FnOk P w K mg base CX0 1 fWDu dWDu ["_law_state", "_law_place", "_law_stuff_here"] spWDu)
    (hHDu : Has K mg "_law_harm_due" sHDu ["_law_state", "_law_place"] fHDu dHDu) (GHDu : FnOk P w K mg base CX0 1 fHDu dHDu ["_law_state", "_law_place"] spHDu)
    (hPow : Has K mg "_law_power" sPow ["_law_floor", "_law_state", "_law_way", "_law_many"] fPow dPow) (GPow : FnOk P w K mg base CX0 2 fPow dPow ["_law_floor", "_law_state", "_law_way", "_law_many"] (spPow c))
    (hLos : MHas K c.F "lose" "Floor.lose" sLos ["self", "place"] fLos dLos) (GLos : FnOk P w K mg base (CXw P w) 4 fLos dLos ["self", "place"] (mSp c fLose)) :
    FnOk P w K mg base CX0 6 f fd ["_law_floor", "_law_state", "_law_cell", "_law_place"] (spSte c) := by
  refine F.ok scSte (fun vs H Q E h => ?_) (fun cdv A0 outer s H vs Q E hr h => ?_)
  · obtain ⟨A, n, m, st, ls, k, i, rfl, _⟩ := h
    rfl
  obtain ⟨A, n, m, st, ls, k, i, rfl, hm, hi0, hi1, pr0, q⟩ := h
  have hu := hu_of hr
  refine ⟨_, (pss_cons (ps_set (i := 4) scSte.nd rfl (Or.inl rfl) (pe_op op_mod (pv 2) pe_int))
    (pss_cons (ps_set (i := 5) scSte.nd rfl (Or.inl rfl) (pe_call GStu (hr.mono (by decide)) rfl hStu.nm hStu.fn.kp hStu.bd .nil pass0 (pa_cons (pe_op op_fdiv (pv 2) pe_int) pa_nil)))
    (pss_cons (ps_if (pt_cmpR op_lt (pv 4) pe_int (nomark _))
    (pss_one (ps_ret (pe_cmpR (op_eqD (hu40 hr)) (pe_call GDon (hr.mono (by decide)) rfl hDon.nm hDon.fn.kp hDon.bd .nil pass0 (pa_cons (pv 0) (pa_cons pe_str (pa_cons (pv 3) (pa_cons (pv 5) pa_nil))))) (pe_call GWDu (hr.mono (by decide)) rfl hWDu.nm hWDu.fn.kp hWDu.bd .nil pass0 (pa_cons (pv 1) (pa_cons (pv 3) (pa_cons (pv 5) pa_nil)))) (nomark _))))
    pss_nil)
    (pss_cons (ps_if (PW.pt (pw_or (pt_cmpR op_eq (pv 4) pe_int (nomark _)) (pw_or1 (pt_cmpR op_eq (pv 4) pe_int (nomark _)))))
    (pss_one (ps_ret (pe_cmpR (op_eqD (hu40 hr)) (pe_call GDon (hr.mono (by decide)) rfl hDon.nm hDon.fn.kp hDon.bd .nil pass0 (pa_cons (pv 0) (pa_cons pe_str (pa_cons (pv 3) (pa_cons (pv 5) pa_nil))))) (pe_call GRDu (hr.mono (by decide)) rfl hRDu.nm hRDu.fn.kp hRDu.bd .nil pass0 (pa_cons (pv 1) (pa_cons (pv 3) pa_nil))) (nomark _))))
    pss_nil)
    (pss_cons (ps_if (pt_cmpR op_eq (pv 4) pe_int (nomark _))
    (pss_one (ps_ret (pe_cmpR (op_eqD (hu40 hr)) (pe_call GDon (hr.mono (by decide)) rfl hDon.nm hDon.fn.kp hDon.bd .nil pass0 (pa_cons (pv 0) (pa_cons pe_str (pa_cons (pv 3) (pa_cons (pv 5) pa_nil))))) (pe_call GHDu (hr.mono (by decide)) rfl hHDu.nm hHDu.fn.kp hHDu.bd .nil pass0 (pa_cons (pv 1) (pa_cons (pv 3) pa_nil))) (nomark _))))
    pss_nil)
    (pss_cons (ps_if (pt_cmpR op_eq (pv 4) pe_int (nomark _))
    (pss_cons (ps_expr (pe_dpop2 (pe_dget hu (pv 1) pe_str (fun _ _ => rfl)) (pv 3) pe_non ⟨rfl, rfl, rfl, rfl⟩))
    (pss_cons (ps_expr (pe_dpop2 (pe_dget hu (pv 1) pe_str (fun _ _ => rfl)) (pv 3) pe_non ⟨rfl, rfl, rfl, rfl⟩))
    (pss_one (ps_ret (pe_cmpR op_isN (pe_meth (pv 0) cl hLos.me GLos (hr.mono (by decide)) hLos.bd .nil passN (pa_cons (pv 3) pa_nil)) pe_non (nomark _))))))
    pss_nil)
    (pss_one (ps_ret (pe_call GPow (hr.mono (by decide)) rfl hPow.nm hPow.fn.kp hPow.bd .nil pass0 (pa_cons (pv 0) (pa_cons (pv 1) (pa_cons (pe_op op_sub (pv 4) pe_int) (pa_cons (pe_op op_mod (pe_op op_fdiv (pv 2) pe_int) pe_int) pa_nil))))))))))))), ?_⟩
  refine ⟨_, rfl, _, _, rfl, rfl, (by show (0 : Int) < 10; decide), ?_⟩
  have y0 : (0 : Int) ≤ k % 10 := by omega
  have y1 : k % 10 < 10 := by omega
  dsimp only
  generalize k % 10 = y at y0 y1
  refine ⟨_, rfl, _, _, rfl, rfl, ⟨by decide, by decide⟩, k / 60, rfl, fun v H1 s1 hv => ?_⟩
  have pr := pr0.mono s1
  have x1 : Sx A.l H H1 := Sx.of s1
  have hP : isP st (.int i) = true := wth0_in hi0 (by rw [pr.hn]; exact hi1)
  have sm := pr.rel.sm pr.sz (by omega)
  have z := pr.sz
  refine ⟨_, rfl, _, _, rfl, rfl, _, rfl, ite2 (fun b => ?_) (fun b => ?_)⟩
  · obtain ⟨r1, r2, r3, r4⟩ := rel_write (v := v) pr.rel pr.sz hv hP
    refine ⟨_, rfl, _, rfl, _, rfl, A.p, A.pc, A.sp, A.wr, st, 0, .int i, v, rfl, by decide, pr.fl, sm, Ty0.int i, fun H2 t1 fl2 s2 ht1 => ?_⟩
    have sa2 := pr.sF s2
    have n1 := sa2.free ht1
    have n1' := FlAt.free fl2 ht1
    refine ⟨_, rfl, _, rfl, _, rfl, A.q, A.b, A.a, A.d, ls, i, v, rfl, sa2.mono (same_new ht1 _), by have := z.bn; omega, by have := z.bd; omega, by have := z.dn; omega, fun H3 t2 sa3 s3 ht2 => ?_⟩
    have e1 : H3 t1 = some (.tup (wDu ls i v).1) := by
      rw [← r1]
      exact s3 _ _ n1 upd_same
    refine ⟨0, eqvS_tup (xs := (wDu ls i v).1) (by rw [upd_ne (ne_of_none e1 ht2)]; exact e1) upd_same okW, by decide, ?_⟩
    have fl3 : FlAt c.F H3 A.p A.pc A.sp A.wr (fWrite st (.int i) v).2 := (fl2.mono (same_new ht1 _)).keep fun x hx o e => s3 x o (pr.dj x hx) e
    exact q _ _ _ ⟨fl3.mono (same_new ht2 _), sa3.mono (same_new ht2 _), pr.dj, r2, r3, r4.trans pr.hn⟩ (x1.trans (s2.f.trans ((Sx.of (same_new ht1 _)).trans (s3.s.trans (Sx.of (same_new ht2 _))))))
  have b0 : ¬ y < 3 := fun e => b (decide_eq_true e)
  have eqi : ∀ (u u' : Int), decide (V.int u = V.int u') = decide (u = u') := fun u u' => decide_eq_decide.mpr ⟨fun e => by injection e, fun e => by rw [e]⟩
  by_cases h34 : y = 3 ∨ y = 4
  · obtain ⟨r0, r1⟩ := rel_read pr.rel.r hP
    have main : ∀ {D : Ends}, D.rt = Q → (tRet (tOp (fun x y H Q => ∃ n, EqvS K H n x y ∧ n ≤ 20 ∧ Q (.bl true) H) (tCall (spDon c) [] E0 (tCons (tVar 0) (tCons (tC (.str "read")) (tCons (tVar 3) (tCons (tVar 5) tNil))))) (tCall spRDu [] E0 (tCons (tVar 1) (tCons (tVar 3) tNil))))) D [some (.ref A.p), some (.ref A.q), some (.int k), some (.int i), some (.int y), some v] H1 := by
      intro D hD
      refine ⟨_, rfl, _, rfl, _, rfl, A.p, A.pc, A.sp, A.wr, st, 1, .int i, v, rfl, by decide, pr.fl, sm, Ty0.int i, fun H2 t1 fl2 s2 ht1 => ?_⟩
      have sa2 := pr.sF s2
      have fl2 : FlAt c.F H2 A.p A.pc A.sp A.wr (fRead st (.int i)).2 := fl2
      rw [r0] at fl2
      refine ⟨_, rfl, _, rfl, A.q, A.b, A.a, A.d, ls, i, rfl, sa2.mono (same_new ht1 _), fun t2 ht2 => ?_⟩
      have e1 : upd H2 t1 (HO.tup (outT (fRead st (.int i)).1)) t1 = some (.tup (rDu ls i)) := by rw [← r1]; exact upd_same
      refine ⟨0, eqvS_tup (xs := rDu ls i) (by rw [upd_ne (ne_of_none e1 ht2)]; exact e1) upd_same (rel_okR pr.rel.r), by decide, ?_⟩
      rw [hD]
      have pr2 : Pr RelS c H2 A n m st ls := ⟨fl2, sa2, pr.dj, pr.rel, pr.sz, pr.hn⟩
      exact q _ _ _ ((pr2.mono (same_new ht1 _)).mono (same_new ht2 _)).up (x1.trans (s2.f.trans ((Sx.of (same_new ht1 _)).trans (Sx.of (same_new ht2 _)))))
    refine ⟨_, rfl, rfl, _, rfl, ?_⟩
    rw [eqi]
    rcases h34 with e | e
    · rw [decide_eq_true e]
      exact iteT (iteT (main rfl))
    · rw [decide_eq_false (by omega : ¬ y = 3)]
      refine iteF ⟨_, rfl, rfl, _, rfl, ?_⟩
      rw [eqi, decide_eq_true e]
      exact iteT (main rfl)
  have n3 : ¬ y = 3 := fun e => h34 (.inl e)
  have n4 : ¬ y = 4 := fun e => h34 (.inr e)
  refine ⟨_, rfl, rfl, _, rfl, ?_⟩
  rw [eqi, decide_eq_false n3]
  refine iteF ⟨_, rfl, rfl, _, rfl, ?_⟩
  rw [eqi, decide_eq_false n4]
  refine iteF ?_
  refine ⟨_, rfl, rfl, _, rfl, ?_⟩
  rw [eqi]
  refine ite2 (fun b => ?_) (fun b => ?_)
  · obtain ⟨r1, r2, r3, r4⟩ := rel_harm pr.rel pr.sz hP
    refine ⟨_, rfl, _, rfl, _, rfl, A.p, A.pc, A.sp, A.wr, st, 2, .int i, v, rfl, by decide, pr.fl, sm, Ty0.int i, fun H2 t1 fl2 s2 ht1 => ?_⟩
    have sa2 := pr.sF s2
    have n1 := sa2.free ht1
    refine ⟨_, rfl, _, rfl, A.q, A.b, A.a, A.d, ls, i, rfl, sa2.mono (same_new ht1 _), by have := z.bd; omega, fun H3 t2 sa3 s3 ht2 => ?_⟩
    have e1 : H3 t1 = some (.tup (hDu ls i).1) := by
      rw [← r1]
      exact s3 _ _ n1 upd_same
    refine ⟨0, eqvS_tup (xs := (hDu ls i).1) (by rw [upd_ne (ne_of_none e1 ht2)]; exact e1) upd_same okH, by decide, ?_⟩
    have fl3 : FlAt c.F H3 A.p A.pc A.sp A.wr (fHarm st (.int i)).2 := (fl2.mono (same_new ht1 _)).keep fun x hx o e => s3 x o (pr.dj x hx) e
    exact q _ _ _ ⟨fl3.mono (same_new ht2 _), sa3.mono (same_new ht2 _), pr.dj, r2, r3, r4.trans pr.hn⟩ (x1.trans (s2.f.trans ((Sx.of (same_new ht1 _)).trans (s3.s.trans (Sx.of (same_new ht2 _))))))
  refine ⟨_, rfl, rfl, _, rfl, ?_⟩
  rw [eqi]
  refine ite2 (fun b6 => ?_) (fun b6 => ?_)
  · have sa := pr.sa
    refine ⟨_, rfl, A.q, _, rfl, sa.gB, A.b, rfl, .inl ⟨_, .inl sa.bn⟩, _, rfl, _, .inl i, sa.bn, rfl, pop_one (z := .non) sa.bn fun _ => ?_⟩
    have sa1 := sa.setBn (dropK ls.bn (.inl i))
    refine ⟨_, rfl, A.q, _, rfl, sa1.gA, A.a, rfl, .inl ⟨_, .inl sa1.bd⟩, _, rfl, _, .inl i, sa1.bd, rfl, pop_one (z := .non) sa1.bd fun _ => ?_⟩
    have sa2 := sa1.setBd (dropK ls.bd (.inl i))
    have x2 : Sx A.s H1 (upd (upd H1 A.b (HO.dK (dropK ls.bn (Sum.inl i)))) A.a (HO.dK (dropK ls.bd (Sum.inl i)))) := (Sx.upd (by simp)).trans (Sx.upd (by simp))
    have fl2 := pr.fS x2
    obtain ⟨d2, e2⟩ := fl2.at_
    refine ⟨_, rfl, A.p, d2, _, rfl, e2, rfl, _, rfl, A.p, A.pc, A.sp, A.wr, st, .int i, rfl, fl2, sm, Ty0.int i, ?_⟩
    unfold fLose
    rw [if_pos hP]
    intro H3 fl3 s3
    refine ⟨rfl, isN_true ?_⟩
    refine q H3 _ _ ⟨fl3, sa2.keep fun x hx o e => s3 x o (fun k => pr.dj x k hx) e, pr.dj, rel_clean pr.rel, ⟨?_, ?_, Nat.le_succ_of_le z.ws, ?_, ?_, Nat.le_succ_of_le z.dn⟩, pr.hn⟩ (x1.trans (x2.s.trans s3.f))
    · exact Nat.le_succ_of_le (Nat.le_trans (drop_le _ _) z.kp)
    · exact Nat.le_succ_of_le (Nat.le_trans (drop_le _ _) z.ks)
    · exact Nat.le_succ_of_le (Nat.le_trans (drop_le _ _) z.bn)
    · exact Nat.le_succ_of_le (Nat.le_trans (drop_le _ _) z.bd)
  refine ⟨_, rfl, _, rfl, _, rfl, _, _, rfl, rfl, _, rfl, _, _, rfl, rfl, ⟨by decide, by decide⟩, _, _, rfl, rfl, (by show (0 : Int) < 5; decide), A, n, m, st, ls, _, _, rfl, by omega, pr, fun H3 st' ls' pr3 s3 => q H3 st' ls' pr3.up (x1.trans s3)⟩
/-! ### _law_reads -/
def spRds (c : Cl) : Sp := fun vs H Q _ => ∃ (A : AD) (n : Int) (m : Nat) (st : FS) (ls : LS) (pl : Addr) (is : List Int), vs = [.ref A.p, .ref A.q, .ref pl] ∧ m ≤ 9000 ∧ Pr RelR c H A n m st ls ∧ pl ∉ A.l ∧ H pl = some (.lst (is.map V.int)) ∧ (∀ i ∈ is, 0 ≤ i ∧ i ≤ n - 1) ∧ ∀ H', Pr RelR c H' A n m st ls → Sx A.l H H' → Q (.bl true) H'
theorem scRds : FnScope ["_law_floor", "_law_state", "_law_places", "_law_place"] ["_law_floor", "_law_state", "_law_places"] (defScope sRds) := ⟨rfl, rfl, rfl, by decide +kernel, rfl, by decide +kernel, by decide +kernel⟩
theorem ok_Rds (F : Fun K "_law_reads" "_law_reads" sRds f fd) (hDon : Has K mg "_law_done" sDon ["_law_floor", "_law_way", "_law_place", "_law_stuff_here"] fDon dDon) (GDon : FnOk P w K mg base CX0 5 fDon dDon ["_law_floor", "_law_way", "_law_place", "_law_stuff_here"] (spDon c))
    (hRDu : Has K mg "_law_read_due" sRDu ["_law_state", "_law_place"] fRDu dRDu) (GRDu : FnOk P w K mg base CX0 1 fRDu dRDu ["_law_state", "_law_place"] spRDu) (hSta : Has K mg "_law_stands" sSta ["_law_floor", "_law_state"] fSta dSta) (GSta : FnOk P w K mg base CX0 2 fSta dSta ["_law_floor", "_law_state"] (spSta c)) :
    FnOk P w K mg base CX0 6 f fd ["_law_floor", "_law_state", "_law_places"] (spRds c) := by
  refine F.ok scRds (fun vs H Q E h => ?_) (fun cdv A0 outer s H vs Q E hr h => ?_)
  · obtain ⟨A, n, m, st, ls, pl, is, rfl, _⟩ := h
    rfl
  obtain ⟨A, n, m, st, ls, pl, is, rfl, hm, pr, npl, hpl, hin, q⟩ := h
  have hu := hu_of hr
  have sm := pr.rel.sm pr.sz (by omega)
  refine ⟨_, (pss_cons (ps_for PassesOwn.never rfl (pi_list (pv 2)) (pg_name (i := 3) scRds.nd rfl (Or.inl rfl))
    (pss_one (ps_if (pt_cmpR (op_neD (hu40 hr)) (pe_call GDon (hr.mono (by decide)) rfl hDon.nm hDon.fn.kp hDon.bd .nil pass0 (pa_cons (pv 0) (pa_cons pe_str (pa_cons (pv 3) (pa_cons pe_int pa_nil))))) (pe_call GRDu (hr.mono (by decide)) rfl hRDu.nm hRDu.fn.kp hRDu.bd .nil pass0 (pa_cons (pv 1) (pa_cons (pv 3) pa_nil))) (nomark _))
    (pss_one (ps_ret pe_bl))
    pss_nil)))
    (pss_one (ps_ret (pe_call GSta (hr.mono (by decide)) rfl hSta.nm hSta.fn.kp hSta.bd .nil pass0 (pa_cons (pv 0) (pa_cons (pv 1) pa_nil)))))), ?_⟩
  refine ⟨_, rfl, pl, rfl, ⟨_, SqL.of hpl⟩, for_list (K := K) (a := pl) (xs := is.map V.int) (fun i σ H1 => ∃ o, σ = [some (.ref A.p), some (.ref A.q), some (.ref pl), o] ∧ Pr RelR c H1 A n m st ls ∧ Sx A.l H H1) ⟨none, rfl, pr, Sx.refl _ _⟩ (fun i σ H1 _ ⟨_, _, _, s1⟩ => SqL.of (s1 _ _ npl hpl)) ?_ ?_⟩
  · rintro j x σ H1 hj ⟨o, rfl, pr1, s1⟩
    rw [List.getElem?_map] at hj
    obtain ⟨i, hi, rfl⟩ := Option.map_eq_some_iff.mp hj
    obtain ⟨hi0, hi1⟩ := hin i (List.mem_of_getElem? hi)
    have hP : isP st (.int i) = true := wth0_in hi0 (by rw [pr.hn]; exact hi1)
    obtain ⟨r0, r1⟩ := rel_read pr.rel hP
    refine ⟨_, rfl, _, rfl, A.p, A.pc, A.sp, A.wr, st, 1, .int i, .int 0, rfl, by decide, pr1.fl, sm, Ty0.int i, fun H2 t1 fl2 s2 ht1 => ?_⟩
    have sa2 := pr1.sF s2
    have fl2 : FlAt c.F H2 A.p A.pc A.sp A.wr (fRead st (.int i)).2 := fl2
    rw [r0] at fl2
    refine ⟨_, rfl, _, rfl, A.q, A.b, A.a, A.d, ls, i, rfl, sa2.mono (same_new ht1 _), fun t2 ht2 => ?_⟩
    have e1 : upd H2 t1 (HO.tup (outT (fRead st (.int i)).1)) t1 = some (.tup (rDu ls i)) := by rw [← r1]; exact upd_same
    refine ⟨0, eqvS_tup (xs := rDu ls i) (by rw [upd_ne (ne_of_none e1 ht2)]; exact e1) upd_same (rel_okR pr.rel), by decide, _, rfl, iteF ?_⟩
    have pr2 : Pr RelR c H2 A n m st ls := ⟨fl2, sa2, pr.dj, pr.rel, pr.sz, pr.hn⟩
    exact ⟨_, rfl, (pr2.mono (same_new ht1 _)).mono (same_new ht2 _), s1.trans (s2.f.trans ((Sx.of (same_new ht1 _)).trans (Sx.of (same_new ht2 _))))⟩
  rintro σ H1 ⟨o, rfl, pr1, s1⟩
  exact ⟨_, rfl, _, rfl, A, n, m, st, ls, rfl, by omega, pr1, fun H2 pr2 s2 => q H2 pr2 (s1.trans s2)⟩
end
end K3
set_option maxHeartbeats 8000000
namespace FL
open PySem L2 PyProof.Rows
structure W2 (c : Cl) (H : Hp) (A B : AD) (n : Int) (m : Nat) (ks : List (Addr × HO)) : Prop where
  pa : ∃ st ls, Pr RelS c H A n m st ls
  pb : ∃ st ls, Pr RelS c H B n m st ls
  ab : A = B ∨ ∀ x ∈ A.l, x ∉ B.l
  ks : ∀ e ∈ ks, e.1 ∉ A.l ∧ e.1 ∉ B.l ∧ H e.1 = some e.2
section
variable {c : Cl} {H H' : Hp} {A B C : AD} {n : Int} {m : Nat} {ks : List (Addr × HO)}
theorem W2.swap (h : W2 c H A B n m ks) : W2 c H B A n m ks :=
  ⟨h.pb, h.pa, by rcases h.ab with e | e; exact .inl e.symm; exact .inr fun x hb ha => e x ha hb, fun e he => ⟨(h.ks e he).2.1, (h.ks e he).1, (h.ks e he).2.2⟩⟩
theorem W2.step {st : FS} {ls : LS} (h : W2 c H A B n m ks) (p : Pr RelS c H' A n (m + 1) st ls) (s : Sx A.l H H') : W2 c H' A B n (m + 1) ks := by
  refine ⟨⟨st, ls, p⟩, ?_, h.ab, fun e he => ⟨(h.ks e he).1, (h.ks e he).2.1, s _ _ (h.ks e he).1 (h.ks e he).2.2⟩⟩
  rcases h.ab with e | e
  · rw [← e]
    exact ⟨st, ls, p⟩
  · obtain ⟨st2, ls2, pb⟩ := h.pb
    exact ⟨st2, ls2, (pb.apart s e).up⟩
theorem W2.same {st : FS} {ls : LS} (h : W2 c H A B n m ks) (p : Pr RelS c H' A n m st ls) (s : Sx A.l H H') : W2 c H' A B n m ks := by
  refine ⟨⟨st, ls, p⟩, ?_, h.ab, fun e he => ⟨(h.ks e he).1, (h.ks e he).2.1, s _ _ (h.ks e he).1 (h.ks e he).2.2⟩⟩
  rcases h.ab with e | e
  · rw [← e]
    exact ⟨st, ls, p⟩
  · obtain ⟨st2, ls2, pb⟩ := h.pb
    exact ⟨st2, ls2, pb.apart s e⟩
theorem W2.copy {st : FS} {ls : LS} (h : W2 c H A B n m ks) (p : Pr RelS c H' C n m st ls) (fr : ∀ x ∈ C.l, H x = none) (s : Same H H') : W2 c H' C A n m ks := by
  obtain ⟨st2, ls2, pa⟩ := h.pa
  exact ⟨⟨st, ls, p⟩, ⟨st2, ls2, pa.mono s⟩, .inr fun x hx => pa.free (fr x hx), fun e he => ⟨fun k => ne_of_none (h.ks e he).2.2 (fr _ k) rfl, (h.ks e he).1, s _ _ (h.ks e he).2.2⟩⟩
end
theorem merge_ls (b a d : Addr) : mergeK [] [(.inr "borne", .ref b), (.inr "bad", .ref a), (.inr "done", .ref d), (.inr "left", .int (-1)), (.inr "dark", .bl false)] = lsD b a d ⟨[], [], [], -1, false⟩ := rfl
theorem lsD_eq (b a d : Addr) (x y : List (Key × V)) (z : List V) : lsD b a d ⟨x, y, z, -1, false⟩ = lsD b a d ⟨[], [], [], -1, false⟩ := rfl
/-- a new floor, and what is kept beside it -/
theorem rel_new (n : Int) : RelS (new n) ⟨[], [], [], -1, false⟩ := ⟨fun _ => rfl, fun _ => rfl, rfl, rfl, .inl ⟨rfl, rfl⟩, rfl, fun i v e => by cases e⟩
theorem rel_copy {st : FS} {ls : LS} (r : RelS st ls) : RelS ⟨st.n, st.kp, st.ks, [], false, .non⟩ ⟨ls.bn, ls.bd, [], -1, false⟩ := ⟨r.vp, r.vs, rfl, rfl, .inl ⟨rfl, rfl⟩, rfl, r.ok⟩
end FL
namespace K3
open PySem L2 FL
section
variable {P : Program} {w : World} {K : PySem.W.Frag} {mg : Str → Option Value} {base : Heap} {f : Addr} {fd : FuncData} {c : Cl}
variable {fCel fPon fCop fSte fSta fRds fFIn : Addr} {dCel dPon dCop dSte dSta dRds dFIn : FuncData}
def spLaw (K : PySem.W.Frag) : Sp := fun vs H Q _ => ∃ (a : Addr) (ns : List Int), vs = [.ref a] ∧ SqL K H a (ns.map V.int) ∧ ns.length ≤ 63 ∧ ∀ H', Q (.bl true) H'
theorem scLaw : FnScope ["_law_script", "_law_many", "_law_places", "_law_floor", "_law_state", "_law_elder", "_law_kept", "_law_cell"] ["_law_script"] (defScope sLaw) := ⟨rfl, rfl, rfl, by decide +kernel, rfl, by decide +kernel, by decide +kernel⟩
theorem ok_law (F : Fun K "law" "law" sLaw f fd) (cl : Cls K c.F) (na : Na K c.F) (FInmk : Mk K c.F fFIn) (FInnm : mg "Floor" = some (.ref c.F)) (FInbd : Binds K dFIn ["self", "many"] []) (GFIn : FnOk P w K mg base (CXw P w) 3 fFIn dFIn ["self", "many"] (spFIn c))
    (hCel : Has K mg "_law_cell_at" sCel ["_law_script", "_law_k"] fCel dCel) (GCel : FnOk P w K mg base CX0 1 fCel dCel ["_law_script", "_law_k"] (spCel K))
    (hPon : MHas K c.F "power_on" "Floor.power_on" sPon ["self"] fPon dPon) (GPon : FnOk P w K mg base CX0 1 fPon dPon ["self"] (mSp0 c fun st => (.ok .non, { st with d := false, l := .non })))
    (hCop : MHas K c.F "copied" "Floor.copied" sCop ["self"] fCop dCop) (GCop : FnOk P w K mg base CX0 5 fCop dCop ["self"] (spCop c))
    (hSte : Has K mg "_law_step" sSte ["_law_floor", "_law_state", "_law_cell", "_law_place"] fSte dSte) (GSte : FnOk P w K mg base CX0 6 fSte dSte ["_law_floor", "_law_state", "_law_cell", "_law_place"] (spSte c))
    (hSta : Has K mg "_law_stands" sSta ["_law_floor", "_law_state"] fSta dSta) (GSta : FnOk P w K mg base CX0 2 fSta dSta ["_law_floor", "_law_state"] (spSta c))
    (hRds : Has K mg "_law_reads" sRds ["_law_floor", "_law_state", "_law_places"] fRds dRds) (GRds : FnOk P w K mg base CX0 6 fRds dRds ["_law_floor", "_law_state", "_law_places"] (spRds c)) (T : Txt mg) :
    FnOk P w K mg base CX0 7 f fd ["_law_script"] (spLaw K) := by
  refine F.ok scLaw (fun vs H Q E h => ?_) (fun cdv A outer s H vs Q E hr h => ?_)
  · obtain ⟨a, ns, rfl, _⟩ := h
    rfl
  obtain ⟨a, ns, rfl, hS, h63, q⟩ := h
  have hu := hu_of hr
  refine ⟨_, (pss_cons (ps_set (i := 1) scLaw.nd rfl (Or.inr rfl) (pe_op op_add pe_int (pe_op op_mod (pe_call GCel (hr.mono (by decide)) rfl hCel.nm hCel.fn.kp hCel.bd .nil pass0 (pa_cons (pv 0) (pa_cons pe_int pa_nil))) pe_int)))
    (pss_cons (ps_set (i := 2) scLaw.nd rfl (Or.inl rfl) (pe_op op_cat (pe_comp [0, 1] ["_law_script", "_law_many"] (pi_range1 rfl T.rng (pa_cons pe_int pa_nil)) (fun _ _ _ _ _ _ => pts_nil)
          (fun _ _ _ _ _ _ => (pe_op op_mod (pe_op op_fdivB (pe_op op_fdiv (pe_call GCel (hr.mono (by decide)) rfl hCel.nm hCel.fn.kp hCel.bd .nil pass0 (pa_cons (pv 1) (pa_cons pe_int pa_nil))) pe_int) (pe_op op_add (pv 0) pe_int)) (pv 2)))
          rfl (by decide +kernel) (by decide +kernel) rfl (by decide +kernel) (fun j y hj => by
            match j, hj with
            | 0, hj => cases hj; exact ⟨0, rfl, rfl, rfl, .inl rfl⟩ 
            | 1, hj => cases hj; exact ⟨1, rfl, rfl, rfl, .inl rfl⟩) rfl (by decide +kernel) rfl) (pe_lst (pa_cons (pe_op op_sub (pv 1) pe_int) pa_nil))))
    (pss_cons (ps_set (i := 3) scLaw.nd rfl (Or.inl rfl) (pe_make FInmk GFIn (hr.mono (by decide)) rfl FInnm FInbd .nil passN (pa_cons (pv 1) pa_nil)))
    (@pss_cons _ _ _ _ _ (@ps_set _ _ 4 _ _ _ _ scLaw.nd rfl (Or.inl rfl) (@pe_disp5 _ _ _ _ _ _ _ _ _ _ _ _ _ _ _ _ _ _ _ _ _ _ _ rfl pe_str pe_dnewK pe_str pe_dnewK pe_str (pe_lst pa_nil) pe_str (pe_un un_neg pe_int) pe_str pe_bl) (by rfl) (.inl rfl))
    (pss_cons (ps_set (i := 5) scLaw.nd rfl (Or.inl rfl) (pv 3))
    (pss_cons (ps_set (i := 6) scLaw.nd rfl (Or.inl rfl) (pv 4))
    (pss_cons (ps_for PassesOwn.never rfl (pi_list (pe_slice sl_list (pv 0) (po_some pe_int) (po_some pe_int))) (pg_name (i := 7) scLaw.nd rfl (Or.inl rfl))
    (pss_cons (ps_if (pt_cmpR op_eq (pe_op op_mod (pe_op op_fdiv (pv 7) pe_int) pe_int) pe_int (nomark _))
    (pss_cons (ps_set (i := 5) scLaw.nd rfl (Or.inl rfl) (pv 3))
    (pss_cons (ps_set (i := 6) scLaw.nd rfl (Or.inl rfl) (pv 4))
    (pss_cons (ps_set (i := 3) scLaw.nd rfl (Or.inl rfl) (pe_meth0 (pv 5) cl hCop.me GCop (hr.mono (by decide)) hCop.bd .nil pass0))
    (@pss_one _ _ _ (@ps_set _ _ 4 _ _ _ _ scLaw.nd rfl (Or.inl rfl) (@pe_disp5 _ _ _ _ _ _ _ _ _ _ _ _ _ _ _ _ _ _ _ _ _ _ _ rfl pe_str (pe_callTy call_dictD rfl T.dct PyProof.Rows.boot_dict (pa_cons (pe_dget hu (pv 6) pe_str (fun _ _ => rfl)) pa_nil)) pe_str (pe_callTy call_dictD rfl T.dct PyProof.Rows.boot_dict (pa_cons (pe_dget hu (pv 6) pe_str (fun _ _ => rfl)) pa_nil)) pe_str (pe_lst pa_nil) pe_str (pe_un un_neg pe_int) pe_str pe_bl) (by rfl) (.inl rfl))))))
    pss_nil)
    (pss_cons (ps_if (pt_cmpR op_eq (pe_op op_mod (pe_op op_fdiv (pv 7) pe_int) pe_int) pe_int (nomark _))
    (pss_cons (ps_par (i := 3) (j := 5) rfl scLaw.nd rfl rfl (by decide) rfl rfl (pa_cons (pv 5) (pa_cons (pv 3) pa_nil)) rfl)
    (pss_one (ps_par (i := 4) (j := 6) rfl scLaw.nd rfl rfl (by decide) rfl rfl (pa_cons (pv 6) (pa_cons (pv 4) pa_nil)) rfl)))
    pss_nil)
    (pss_cons (ps_if (pt_not (pt_val (pe_call GSte (hr.mono (by decide)) rfl hSte.nm hSte.fn.kp hSte.bd .nil pass0 (pa_cons (pv 3) (pa_cons (pv 4) (pa_cons (pv 7) (pa_cons (pe_ix ix_list (pv 2) (pe_op op_mod (pe_op op_fdiv (pv 7) pe_int) pe_int) (fun _ _ => rfl)) pa_nil)))))))
    (pss_one (ps_ret pe_bl))
    pss_nil)
    (pss_one (ps_if (PW.pt (pw_or (pt_not (pt_val (pe_call GSta (hr.mono (by decide)) rfl hSta.nm hSta.fn.kp hSta.bd .nil pass0 (pa_cons (pv 5) (pa_cons (pv 6) pa_nil))))) (pw_or1 (pt_not (pt_val (pe_call GSta (hr.mono (by decide)) rfl hSta.nm hSta.fn.kp hSta.bd .nil pass0 (pa_cons (pv 3) (pa_cons (pv 4) pa_nil))))))))
    (pss_one (ps_ret pe_bl))
    pss_nil))))))
    (pss_cons (ps_if (PW.pt (pw_or (pt_cmpR op_ne (pe_fld (pv 3) rfl) (pv 1) (nomark _)) (pw_or (pt_not (pt_val (pe_call GRds (hr.mono (by decide)) rfl hRds.nm hRds.fn.kp hRds.bd .nil pass0 (pa_cons (pv 3) (pa_cons (pv 4) (pa_cons (pv 2) pa_nil)))))) (pw_or1 (pt_not (pt_val (pe_call GRds (hr.mono (by decide)) rfl hRds.nm hRds.fn.kp hRds.bd .nil pass0 (pa_cons (pv 5) (pa_cons (pv 6) (pa_cons (pv 2) pa_nil))))))))))
    (pss_one (ps_ret pe_bl))
    pss_nil)
    (pss_cons (ps_expr (pe_meth0 (pv 3) cl hPon.me GPon (hr.mono (by decide)) hPon.bd .nil pass0))
    (pss_cons (ps_dput hu (pv 4) pe_str pe_bl rfl)
    (pss_one (ps_ret (pe_call GRds (hr.mono (by decide)) rfl hRds.nm hRds.fn.kp hRds.bd .nil pass0 (pa_cons (pv 3) (pa_cons (pv 4) (pa_cons (pv 2) pa_nil)))))))))))))))), ?_⟩
  refine ⟨_, rfl, a, ns, 0, rfl, by decide, hS, fun z => ⟨_, _, rfl, rfl, (by show (0 : Int) < 597; decide), _, _, rfl, rfl, ?_⟩⟩
  have n4 : (4 : Int) ≤ 4 + z % 597 := by omega
  have n6 : 4 + z % 597 ≤ 600 := by omega
  dsimp only
  generalize 4 + z % 597 = n at n4 n6
  -- the places
  refine ⟨_, rfl, by decide, by decide, fun pz hpz => ?_⟩
  refine comp_by 5 (fun i ys H2 => ∃ l : List Int, ys = l.map V.int ∧ l.length = i ∧ (∀ y ∈ l, 0 ≤ y ∧ y ≤ n - 1) ∧ H2 = upd H pz (.lst ys)) ⟨[], rfl, rfl, (fun _ z => nomatch z), rfl⟩ ?_ ?_
  · rintro i ys H2 hi ⟨l, rfl, hl, hb, rfl⟩
    refine ⟨hi, ?_⟩
    rintro v H3 ⟨rfl, rfl⟩
    refine ttT ?_
    have hd1 : (0 : Int) < 0 + (i : Int) + 1 ∧ (0 + (i : Int) + 1).natAbs.log2 < 9000 := by
      refine ⟨by omega, ?_⟩
      have h2 : (0 + (i : Int) + 1).natAbs ≤ 12 := by omega
      have h3 : (0 + (i : Int) + 1).natAbs.log2 ≤ Nat.log2 12 := by
        generalize (0 + (i : Int) + 1).natAbs = m at h2
        rcases Nat.eq_zero_or_pos m with h | h
        · rw [h]; decide
        · exact Nat.le_of_lt_succ ((Nat.log2_lt (by omega)).mpr (Nat.lt_of_le_of_lt h2 (by decide)))
      exact Nat.lt_of_le_of_lt h3 (by decide)
    refine ⟨_, rfl, a, ns, 0, rfl, by decide, sqL_keep hS (fun o e => same_new hpz _ _ _ e), fun z0 => ⟨_, _, rfl, rfl, ⟨by decide, by decide⟩, _, rfl, _, _, rfl, rfl, _, _, rfl, rfl, hd1, _, rfl, _, _, rfl, rfl, (by omega : (0 : Int) < n), upd_same, ?_, ?_⟩⟩
    · rw [List.length_map]
      exact small (by omega)
    · refine ⟨l ++ [z0 / 597 / (0 + (i : Int) + 1) % n], ?_, ?_, ?_, upd_upd⟩
      · rw [List.map_append]
        rfl
      · rw [List.length_append, hl]
        rfl
      · intro y hy
        rcases List.mem_append.mp hy with hy | hy
        · exact hb y hy
        · rw [List.mem_singleton.mp hy]
          have r0 : (0 : Int) ≤ z0 / 597 / (0 + (i : Int) + 1) % n := Int.emod_nonneg _ (by omega)
          have r1 := Int.emod_lt_of_pos (z0 / 597 / (0 + (i : Int) + 1)) (by omega : (0 : Int) < n)
          exact ⟨r0, by omega⟩
  rintro ys H2 ⟨l, rfl, hl, hb, rfl⟩
  refine ⟨Nat.le_refl _, ?_⟩
  refine ⟨_, rfl, _, _, rfl, rfl, (by show 1 ≤ sizeLine; decide), fun pz2 hpz2 => ?_⟩
  have nz := ne_of_none (upd_same (H := H) (a := pz) (o := HO.lst (l.map V.int))) hpz2
  refine ⟨pz, pz2, _, _, rfl, rfl, by rw [upd_ne nz]; exact upd_same, upd_same, ?_, fun pl hpl => ?_⟩
  · rw [List.length_map, hl]
    show 5 + 1 ≤ sizeLine
    decide
  have sA : Same H (upd (upd (upd H pz (HO.lst (l.map V.int))) pz2 (HO.lst [V.int (n - 1)])) pl (HO.lst (l.map V.int ++ [V.int (n - 1)]))) := (same_new hpz _).trans ((same_new hpz2 _).trans (same_new hpl _))
  have eA : upd (upd (upd H pz (HO.lst (l.map V.int))) pz2 (HO.lst [V.int (n - 1)])) pl (HO.lst (l.map V.int ++ [V.int (n - 1)])) pl = some (.lst ((l ++ [n - 1]).map V.int)) := by
    rw [upd_same, List.map_append]
    rfl
  have hl6 : (l ++ [n - 1]).length = 6 := by rw [List.length_append, hl]; rfl
  have hb6 : ∀ i ∈ l ++ [n - 1], 0 ≤ i ∧ i ≤ n - 1 := by
    intro i hi
    rcases List.mem_append.mp hi with hi | hi
    · exact hb i hi
    · rw [List.mem_singleton.mp hi]
      exact ⟨by omega, Int.le_refl _⟩
  generalize l ++ [n - 1] = is at eA hl6 hb6
  generalize upd (upd (upd H pz (HO.lst (l.map V.int))) pz2 (HO.lst [V.int (n - 1)])) pl (HO.lst (l.map V.int ++ [V.int (n - 1)])) = H0 at sA eA
  -- the floor
  refine ⟨_, rfl, fun p dp hp hdp ndp => ?_⟩
  have sP : Same H0 (upd (upd H0 dp (HO.own p)) p (HO.ins c.F dp [])) := (same_new hdp _).trans (same_new (by rw [upd_ne (Ne.symm ndp)]; exact hp) _)
  refine ⟨p, dp, .int n, rfl, upd_same, Ty0.int n, fun n' en _ _ pc sp wr H1 hpc hsp hwr fl1 s1 => ⟨rfl, ?_⟩, fun z => by rw [wth0_in n4 n6] at z; cases z⟩
  injection en with en
  subst en
  have k1 : Same H0 H1 := fun b o e => s1 b o (by simp; exact ne_of_none e hp) (sP b o e)
  -- what is kept
  refine (fun q0 hq0 => ?_)
  refine (fun b hb0 => ?_)
  refine (fun a' ha0 => ?_)
  refine ⟨by decide, fun d hd0 => ?_⟩
  obtain ⟨b1, b2⟩ := new_free hb0
  obtain ⟨a1, a2⟩ := new_free ha0
  obtain ⟨a3, a4⟩ := new_free a2
  obtain ⟨d1, d2⟩ := new_free hd0
  obtain ⟨d3, d4⟩ := new_free d2
  obtain ⟨d5, d6⟩ := new_free d4
  refine ⟨_, rfl, ?_⟩
  refine ⟨by rw [upd_ne (Ne.symm d5), upd_ne (Ne.symm a3), upd_ne (Ne.symm b1), upd_same], [(.inr "borne", .ref b), (.inr "bad", .ref a'), (.inr "done", .ref d), (.inr "left", .int (-1)), (.inr "dark", .bl false)], rfl, (by show 5 ≤ 15; decide), ?_⟩
  rw [merge_ls]
  have sQ : Same H1 (upd (upd (upd (upd (upd H1 q0 (HO.dK [])) b (HO.dK [])) a' (HO.dK [])) d (HO.lst [])) q0 (HO.dK (lsD b a' d ⟨[], [], [], -1, false⟩))) := fun x o e => by
    rw [upd_ne (ne_of_none e hq0), upd_ne (ne_of_none e d6), upd_ne (ne_of_none e a4), upd_ne (ne_of_none e b2), upd_ne (ne_of_none e hq0)]
    exact e
  have st0 : StAt (upd (upd (upd (upd (upd H1 q0 (HO.dK [])) b (HO.dK [])) a' (HO.dK [])) d (HO.lst [])) q0 (HO.dK (lsD b a' d ⟨[], [], [], -1, false⟩))) q0 b a' d ⟨[], [], [], -1, false⟩ := by
    refine ⟨upd_same, ?_, ?_, ?_, Ne.symm b1, Ne.symm a3, Ne.symm a1⟩
    · rw [upd_ne b1, upd_ne (Ne.symm d3), upd_ne (Ne.symm a1), upd_same]
    · rw [upd_ne a3, upd_ne (Ne.symm d1), upd_same]
    · rw [upd_ne d5, upd_same]
  generalize upd (upd (upd (upd (upd H1 q0 (HO.dK [])) b (HO.dK [])) a' (HO.dK [])) d (HO.lst [])) q0 (HO.dK (lsD b a' d ⟨[], [], [], -1, false⟩)) = H2 at sQ st0
  have A0 : W2 c H2 ⟨p, pc, sp, wr, q0, b, a', d⟩ ⟨p, pc, sp, wr, q0, b, a', d⟩ n 0 [(pl, .lst (is.map V.int))] := by
    have fl2 := fl1.mono sQ
    have pr : Pr RelS c H2 ⟨p, pc, sp, wr, q0, b, a', d⟩ n 0 (new n) ⟨[], [], [], -1, false⟩ := by
      refine ⟨fl2, st0, fun x hx k => ?_, rel_new n, ⟨Nat.le_refl _, Nat.le_refl _, Nat.le_refl _, Nat.le_refl _, Nat.le_refl _, Nat.le_refl _⟩, rfl⟩
      have fx : H1 x = none := by
        simp at k
        rcases k with k | k | k | k <;> rw [k] <;> assumption
      exact FlAt.free fl1 fx hx
    refine ⟨⟨_, _, pr⟩, ⟨_, _, pr⟩, .inl rfl, fun e he => ?_⟩
    rw [List.mem_singleton.mp he]
    have ep : H1 pl = some (.lst (is.map V.int)) := k1 _ _ eA
    have nn : pl ∉ AD.l ⟨p, pc, sp, wr, q0, b, a', d⟩ := fun k => by
      simp at k
      rcases k with k | k | k | k | k | k | k | k
      · exact ne_of_none eA hp k
      · exact ne_of_none (sP _ _ eA) hpc k
      · exact ne_of_none (sP _ _ eA) hsp k
      · exact ne_of_none (sP _ _ eA) hwr k
      · exact ne_of_none ep hq0 k
      · exact ne_of_none ep b2 k
      · exact ne_of_none ep a4 k
      · exact ne_of_none ep d6 k
    exact ⟨nn, nn, sQ _ _ ep⟩
  have hS2 : SqL K H2 a (ns.map V.int) := sqL_keep hS fun o e => sQ _ _ (k1 _ _ (sA _ _ e))
  refine ⟨_, rfl, _, rfl, ?_⟩
  -- the loop
  refine ⟨_, rfl, _, rfl, _, rfl, a, _, rfl, hS2, fun sl hsl => ?_⟩
  have len60 : (cutV (ns.map V.int) (some 1) (some 61)).length ≤ 63 := Nat.le_trans (cutV_length _ _ _) (by rw [List.length_map]; exact h63)
  have A1 : W2 c (upd H2 sl (HO.lst (cutV (ns.map V.int) (some 1) (some 61)))) ⟨p, pc, sp, wr, q0, b, a', d⟩ ⟨p, pc, sp, wr, q0, b, a', d⟩ n 0 [(pl, .lst (is.map V.int)), (sl, .lst (cutV (ns.map V.int) (some 1) (some 61)))] := by
    obtain ⟨st, ls, pr⟩ := A0.pa
    have nn := pr.free hsl
    have pr' := pr.mono (same_new hsl (HO.lst (cutV (ns.map V.int) (some 1) (some 61))))
    refine ⟨⟨_, _, pr'⟩, ⟨_, _, pr'⟩, .inl rfl, fun e he => ?_⟩
    rcases List.mem_cons.mp he with rfl | he
    · have k := A0.ks (pl, .lst (is.map V.int)) (by simp)
      exact ⟨k.1, k.2.1, same_new hsl _ _ _ k.2.2⟩
    · rw [List.mem_singleton.mp he]
      exact ⟨nn, nn, upd_same⟩
  generalize hcut : cutV (ns.map V.int) (some 1) (some 61) = cut at A1 len60
  have hci : ∀ i x, cut[i]? = some x → ∃ k : Int, x = V.int k := fun i x e => by rw [← hcut] at e; exact cut_mem e
  refine ⟨sl, rfl, ⟨_, SqL.of upd_same⟩, for_list (K := K) (a := sl) (xs := cut) (fun i σ H3 => ∃ (A B : AD) (o : Option V), σ = [some (.ref a), some (.int n), some (.ref pl), some (.ref A.p), some (.ref A.q), some (.ref B.p), some (.ref B.q), o] ∧ W2 c H3 A B n i [(pl, .lst (is.map V.int)), (sl, .lst cut)])
    ⟨_, _, none, rfl, A1⟩ (fun i σ H3 _ ⟨A, B, o, _, w2⟩ => SqL.of (w2.ks (sl, .lst cut) (by simp)).2.2) ?_ ?_⟩
  · rintro i x σ H3 hi ⟨A, B, o, rfl, w2⟩
    obtain ⟨k, rfl⟩ := hci i x hi
    have hil : i < 63 := by
      obtain ⟨hl, _⟩ := List.getElem?_eq_some_iff.mp hi
      omega
    -- a copy
    refine seq_in (if_rest (fun σ' H' => ∃ (A B : AD), σ' = [some (.ref a), some (.int n), some (.ref pl), some (.ref A.p), some (.ref A.q), some (.ref B.p), some (.ref B.q), some (.int k)] ∧ W2 c H' A B n i [(pl, .lst (is.map V.int)), (sl, .lst cut)]) (fun σ' H' hR => ?_) (fun go => ?_))
    rotate_left
    · refine ⟨_, rfl, _, _, rfl, rfl, ⟨by decide, by decide⟩, _, _, rfl, rfl, (by show (0 : Int) < 16; decide), rfl, _, rfl, ite2 (fun x => ?_) (fun x => ?_)⟩
      rotate_left
      · exact go _ _ ⟨A, B, rfl, w2⟩
      obtain ⟨st, ls, pr⟩ := w2.pa
      refine ⟨_, rfl, _, rfl, ?_⟩
      obtain ⟨dA, eA'⟩ := pr.fl.at_
      refine ⟨_, rfl, A.p, dA, _, rfl, eA', rfl, A.p, A.pc, A.sp, A.wr, st, rfl, pr.fl, by rw [pr.hn]; exact n4, by rw [pr.hn]; exact n6, fun p2 pc2 sp2 wr2 H4 f1 f2 f3 f4 fl4 s4 => ?_⟩
      have pr4 := pr.mono s4
      refine (fun q2 hq2 => ?_)
      have sq2 := same_new hq2 (HO.dK [])
      have pq := pr4.mono sq2
      refine ⟨_, rfl, A.q, _, rfl, pq.sa.gB, A.b, _, rfl, pq.sa.bn, fun b5 hb5 => ?_⟩
      have pq5 := pq.mono (same_new hb5 (HO.dK ls.bn))
      refine ⟨_, rfl, A.q, _, rfl, pq5.sa.gA, A.a, _, rfl, pq5.sa.bd, fun a5 ha5 => ?_⟩
      refine ⟨by decide, fun d5' hd5 => ?_⟩
      obtain ⟨b1, b2⟩ := new_free hb5
      obtain ⟨a1, a2⟩ := new_free ha5
      obtain ⟨a3, a4⟩ := new_free a2
      obtain ⟨d1, d2⟩ := new_free hd5
      obtain ⟨d3, d4⟩ := new_free d2
      obtain ⟨d5, d6⟩ := new_free d4
      refine ⟨_, rfl, ?_⟩
      refine ⟨by rw [upd_ne (Ne.symm d5), upd_ne (Ne.symm a3), upd_ne (Ne.symm b1), upd_same], [(.inr "borne", .ref b5), (.inr "bad", .ref a5), (.inr "done", .ref d5'), (.inr "left", .int (-1)), (.inr "dark", .bl false)], rfl, (by show 5 ≤ 15; decide), ?_⟩
      rw [merge_ls, ← lsD_eq b5 a5 d5' ls.bn ls.bd []]
      have sQ : Same H4 (upd (upd (upd (upd (upd H4 q2 (HO.dK [])) b5 (HO.dK ls.bn)) a5 (HO.dK ls.bd)) d5' (HO.lst [])) q2 (HO.dK (lsD b5 a5 d5' ⟨ls.bn, ls.bd, [], -1, false⟩))) := fun x o e => by
        rw [upd_ne (ne_of_none e hq2), upd_ne (ne_of_none e d6), upd_ne (ne_of_none e a4), upd_ne (ne_of_none e b2), upd_ne (ne_of_none e hq2)]
        exact e
      have st0 : StAt (upd (upd (upd (upd (upd H4 q2 (HO.dK [])) b5 (HO.dK ls.bn)) a5 (HO.dK ls.bd)) d5' (HO.lst [])) q2 (HO.dK (lsD b5 a5 d5' ⟨ls.bn, ls.bd, [], -1, false⟩))) q2 b5 a5 d5' ⟨ls.bn, ls.bd, [], -1, false⟩ := by
        refine ⟨upd_same, ?_, ?_, ?_, Ne.symm b1, Ne.symm a3, Ne.symm a1⟩
        · rw [upd_ne b1, upd_ne (Ne.symm d3), upd_ne (Ne.symm a1), upd_same]
        · rw [upd_ne a3, upd_ne (Ne.symm d1), upd_same]
        · rw [upd_ne d5, upd_same]
      generalize upd (upd (upd (upd (upd H4 q2 (HO.dK [])) b5 (HO.dK ls.bn)) a5 (HO.dK ls.bd)) d5' (HO.lst [])) q2 (HO.dK (lsD b5 a5 d5' ⟨ls.bn, ls.bd, [], -1, false⟩)) = H5 at sQ st0
      have fr4 : ∀ x ∈ AD.s ⟨p2, pc2, sp2, wr2, q2, b5, a5, d5'⟩, H4 x = none := fun x hx => by
        simp at hx
        rcases hx with hx | hx | hx | hx <;> rw [hx] <;> assumption
      have prC : Pr RelS c H5 ⟨p2, pc2, sp2, wr2, q2, b5, a5, d5'⟩ n i ⟨st.n, st.kp, st.ks, [], false, .non⟩ ⟨ls.bn, ls.bd, [], -1, false⟩ :=
        ⟨fl4.mono sQ, st0, fun x hx kx => FlAt.free fl4 (fr4 x kx) hx, rel_copy pr.rel, ⟨pr.sz.kp, pr.sz.ks, Nat.zero_le _, pr.sz.bn, pr.sz.bd, Nat.zero_le _⟩, pr.hn⟩
      refine go _ _ ⟨⟨p2, pc2, sp2, wr2, q2, b5, a5, d5'⟩, A, rfl, w2.copy prC (fun x hx => ?_) (s4.trans sQ)⟩
      rcases List.mem_append.mp hx with hx | hx
      · simp at hx
        rcases hx with hx | hx | hx | hx <;> rw [hx] <;> assumption
      · exact s4.free (fr4 x hx)
    obtain ⟨A, B, rfl, w2⟩ := hR
    -- a swap
    refine seq_in (if_rest (fun σ' H'' => ∃ (A B : AD), σ' = [some (.ref a), some (.int n), some (.ref pl), some (.ref A.p), some (.ref A.q), some (.ref B.p), some (.ref B.q), some (.int k)] ∧ W2 c H'' A B n i [(pl, .lst (is.map V.int)), (sl, .lst cut)]) (fun σ' H'' hR => ?_) (fun go => ?_))
    rotate_left
    · refine ⟨_, rfl, _, _, rfl, rfl, ⟨by decide, by decide⟩, _, _, rfl, rfl, (by show (0 : Int) < 2; decide), rfl, _, rfl, ite2 (fun x => ?_) (fun x => ?_)⟩
      · exact ⟨_, rfl, _, rfl, _, _, rfl, _, rfl, _, rfl, _, _, rfl, go _ _ ⟨B, A, rfl, w2.swap⟩⟩
      · exact go _ _ ⟨A, B, rfl, w2⟩
    obtain ⟨A, B, rfl, w2⟩ := hR
    -- a step
    obtain ⟨st, ls, pr⟩ := w2.pa
    have kp := w2.ks (pl, .lst (is.map V.int)) (by simp)
    have kp2 : H'' pl = some (.lst (is.map V.int)) := kp.2.2
    refine ⟨_, rfl, _, rfl, _, rfl, _, rfl, _, rfl, _, _, rfl, rfl, ⟨by decide, by decide⟩, _, _, rfl, rfl, (by show (0 : Int) < 6; decide), ?_⟩
    have j0 : (0 : Int) ≤ k / 10 % 6 := by omega
    have j1 : k / 10 % 6 < 6 := by omega
    dsimp only
    generalize k / 10 % 6 = j at j0 j1
    obtain ⟨j', rfl⟩ := Int.eq_ofNat_of_zero_le j0
    have hj : j' < is.length := by omega
    have hb' := hb6 is[j'] (List.getElem_mem hj)
    refine ⟨pl, _, _, .int is[j'], rfl, rfl, SqL.of kp2, atI_nat (by simp [hj]), A, n, i, st, ls, k, is[j'], rfl, by omega, hb'.1, hb'.2, pr, fun H4 st' ls' pr4 s4 => ⟨_, rfl, iteF ?_⟩⟩
    have w4 := w2.step pr4 s4
    -- both stand
    obtain ⟨stB, lsB, prB⟩ := w4.pb
    refine ⟨_, rfl, _, rfl, B, n, i + 1, stB, lsB, rfl, by omega, prB.toR, fun H5 pr5 s5 => ⟨_, rfl, iteF ?_⟩⟩
    have w5 := (w4.swap.same (pr5.back prB.rel) s5).swap
    obtain ⟨stA, lsA, prA⟩ := w5.pa
    refine ⟨_, rfl, _, rfl, A, n, i + 1, stA, lsA, rfl, by omega, prA.toR, fun H6 pr6 s6 => ⟨_, rfl, iteF ?_⟩⟩
    exact ⟨A, B, _, rfl, w5.same (pr6.back prA.rel) s6⟩
  rintro σ H3 ⟨A, B, o, rfl, w2⟩
  -- at the end
  generalize cut.length = m at w2 len60
  obtain ⟨st, ls, pr⟩ := w2.pa
  obtain ⟨dA, eA'⟩ := pr.fl.at_
  refine ⟨_, rfl, A.p, c.F, dA, _, _, rfl, eA', cl, na.many, rfl, _, rfl, rfl, _, rfl, ?_⟩
  rw [pr.hn, decide_eq_true rfl]
  refine iteF ?_
  have kp := w2.ks (pl, .lst (is.map V.int)) (by simp)
  refine ⟨_, rfl, _, rfl, _, rfl, A, n, m, st, ls, pl, is, rfl, by omega, pr.toR, kp.1, kp.2.2, hb6, fun H4 pr4 s4 => ⟨_, rfl, iteF ?_⟩⟩
  have w4 := w2.same (pr4.back pr.rel) s4
  obtain ⟨stB, lsB, prB⟩ := w4.pb
  have kp4 := w4.ks (pl, .lst (is.map V.int)) (by simp)
  refine ⟨_, rfl, _, rfl, _, rfl, B, n, m, stB, lsB, pl, is, rfl, by omega, prB.toR, kp4.2.1, kp4.2.2, hb6, fun H5 pr5 s5 => ⟨_, rfl, iteF ?_⟩⟩
  have w5 := (w4.swap.same (pr5.back prB.rel) s5).swap
  obtain ⟨stA, lsA, prA⟩ := w5.pa
  obtain ⟨d5, e5⟩ := prA.fl.at_
  refine ⟨_, rfl, A.p, d5, _, rfl, e5, rfl, A.p, A.pc, A.sp, A.wr, stA, rfl, prA.fl, fun H6 fl6 s6 => ?_⟩
  have sa6 := prA.sF s6
  refine ⟨_, rfl, A.q, _, rfl, sa6.pK false, ?_⟩
  have sa7 := sa6.setQ lsA.lf false
  have x7 : Sx A.s H6 (upd H6 A.q (HO.dK (lsD A.b A.a A.d { lsA with lf := lsA.lf, dk := false }))) := Sx.upd (by simp)
  have kp5 := w5.ks (pl, .lst (is.map V.int)) (by simp)
  have p6 : upd H6 A.q (HO.dK (lsD A.b A.a A.d { lsA with lf := lsA.lf, dk := false })) pl = some (.lst (is.map V.int)) := x7.s _ _ kp5.1 (s6.f _ _ kp5.1 kp5.2.2)
  have fl7 := fl6.keep fun x hx o e => x7 x o (prA.dj x hx) e
  exact ⟨_, rfl, _, rfl, _, rfl, A, n, m, _, _, pl, is, rfl, by omega, ⟨fl7, sa7, prA.dj, ⟨prA.rel.vp, prA.rel.vs, prA.rel.ws, rfl, prA.rel.fl, prA.rel.ok, .inl rfl⟩, ⟨prA.sz.kp, prA.sz.ks, prA.sz.ws, prA.sz.bn, prA.sz.bd, prA.sz.dn⟩, prA.hn⟩, kp5.1, p6, hb6, fun H8 _ _ => q H8⟩
end
end K3
set_option maxHeartbeats 8000000
namespace K3
open PySem L2
open FL
theorem all_mk {l : PySem.W.OpenLaw} {w : World} {K : PySem.W.Frag} {h : Heap} {mg : Str → Option Value} {fa fWho fWth fCel fStu fRDu fDon fWDu fHDu fPow fSta fSte fRds fLaw W NW PG NPG NF NNF fINF NP NNP fINP NI NNI fINI SO NSO fISO CF fFIn fWri fRea fCut fPon fIsD fWrs fHar fLos fNPl fNPo fSpo fCle fCop : Addr} (X : K.In h) (G : h.Ns mainGlobals mg) (hfa : mg "law" = some (.ref fa))
    {odWho anWho odWth anWth odCel anCel odStu anStu odRDu anRDu odDon anDon odWDu anWDu odHDu anHDu odPow anPow odSta anSta odSte anSte odRds anRds odLaw anLaw odINF anINF odINP anINP odINI anINI odISO anISO odFIn anFIn odWri anWri odRea anRea odCut anCut odPon anPon odIsD anIsD odWrs anWrs odHar anHar odLos anLos odNPl anNPl odNPo anNPo odSpo anSpo odCle anCle odCop anCop odNW odNPG : Option Addr} {slWho slWth slCel slStu slRDu slDon slWDu slHDu slPow slSta slSte slRds slLaw slINF slINP slINI slISO slFIn slWri slRea slCut slPon slIsD slWrs slHar slLos slNPl slNPo slSpo slCle slCop slNW slNPG : Array (Option Value)} {ocWho kVWho dcWho pmWho cdWho ctWho ocWth kVWth dcWth pmWth cdWth ctWth ocCel kVCel dcCel pmCel cdCel ctCel ocStu kVStu dcStu pmStu cdStu ctStu ocRDu kVRDu dcRDu pmRDu cdRDu ctRDu ocDon kVDon dcDon pmDon cdDon ctDon ocWDu kVWDu dcWDu pmWDu cdWDu ctWDu ocHDu kVHDu dcHDu pmHDu cdHDu ctHDu ocPow kVPow dcPow pmPow cdPow ctPow ocSta kVSta dcSta pmSta cdSta ctSta ocSte kVSte dcSte pmSte cdSte ctSte ocRds kVRds dcRds pmRds cdRds ctRds ocLaw kVLaw dcLaw pmLaw cdLaw ctLaw ocINF kVINF dcINF pmINF cdINF ctINF ocINP kVINP dcINP pmINP cdINP ctINP ocINI kVINI dcINI pmINI cdINI ctINI ocISO kVISO dcISO pmISO cdISO ctISO ocFIn kVFIn dcFIn pmFIn cdFIn ctFIn ocWri kVWri dcWri pmWri cdWri ctWri ocRea kVRea dcRea pmRea cdRea ctRea ocCut kVCut dcCut pmCut cdCut ctCut ocPon kVPon dcPon pmPon cdPon ctPon ocIsD kVIsD dcIsD pmIsD cdIsD ctIsD ocWrs kVWrs dcWrs pmWrs cdWrs ctWrs ocHar kVHar dcHar pmHar cdHar ctHar ocLos kVLos dcLos pmLos cdLos ctLos ocNPl kVNPl dcNPl pmNPl cdNPl ctNPl ocNPo kVNPo dcNPo pmNPo cdNPo ctNPo ocSpo kVSpo dcSpo pmSpo cdSpo ctSpo ocCle kVCle dcCle pmCle cdCle ctCle ocCop kVCop dcCop pmCop cdCop ctCop ocNW ocNPG : Value} {esNW esNPG : Array DictEntry} {epNW epNPG : Nat} {gt0 gt1 : Tok}
    {nmW qW nmPG qPG nmNF qNF nmNP qNP nmNI qNI nmSO qSO : Str} {bsW subW bsPG subPG bsNF subNF bsNP subNP bsNI subNI bsSO subSO : List Value} {hdW abW abPG abNF abNP abNI abSO : Bool} {snW snPG snNF snNP snNI snSO : List Str} {colW colPG colNF colNP colNI colSO : Option Bool} {ddW ddPG ddNF ddNP ddNI ddSO : Option Addr} {x0W x1W x2W x3W x5W x0PG x1PG x2PG x3PG x5PG x0NF x1NF x2NF x3NF x5NF x0NP x1NP x2NP x3NP x5NP x0NI x1NI x2NI x3NI x5NI x0SO x1SO x2SO x3SO x5SO : Option Value}
    (aWho : PySem.W.nsIn K mainGlobals "is_whole" = some (some (.ref fWho)))
    (lWho : K.lookup fWho = some ⟨ocWho, odWho, .func (PySem.W.fnOf "is_whole" "is_whole" (defArgs sWho) (defBody sWho) (defScope sWho) .none kVWho dcWho pmWho anWho cdWho ctWho), slWho⟩)
    (cWho : PySem.W.codeIn K cdWho "is_whole" = true)
    (kWho : PySem.W.keepIn K (.ref fWho) = true)
    (aWth : PySem.W.nsIn K mainGlobals "is_within" = some (some (.ref fWth)))
    (lWth : K.lookup fWth = some ⟨ocWth, odWth, .func (PySem.W.fnOf "is_within" "is_within" (defArgs sWth) (defBody sWth) (defScope sWth) .none kVWth dcWth pmWth anWth cdWth ctWth), slWth⟩)
    (cWth : PySem.W.codeIn K cdWth "is_within" = true)
    (kWth : PySem.W.keepIn K (.ref fWth) = true)
    (aCel : PySem.W.nsIn K mainGlobals "_law_cell_at" = some (some (.ref fCel)))
    (lCel : K.lookup fCel = some ⟨ocCel, odCel, .func (PySem.W.fnOf "_law_cell_at" "_law_cell_at" (defArgs sCel) (defBody sCel) (defScope sCel) .none kVCel dcCel pmCel anCel cdCel ctCel), slCel⟩)
    (cCel : PySem.W.codeIn K cdCel "_law_cell_at" = true)
    (kCel : PySem.W.keepIn K (.ref fCel) = true)
    (aStu : PySem.W.nsIn K mainGlobals "_law_stuff" = some (some (.ref fStu)))
    (lStu : K.lookup fStu = some ⟨ocStu, odStu, .func (PySem.W.fnOf "_law_stuff" "_law_stuff" (defArgs sStu) (defBody sStu) (defScope sStu) .none kVStu dcStu pmStu anStu cdStu ctStu), slStu⟩)
    (cStu : PySem.W.codeIn K cdStu "_law_stuff" = true)
    (kStu : PySem.W.keepIn K (.ref fStu) = true)
    (aRDu : PySem.W.nsIn K mainGlobals "_law_read_due" = some (some (.ref fRDu)))
    (lRDu : K.lookup fRDu = some ⟨ocRDu, odRDu, .func (PySem.W.fnOf "_law_read_due" "_law_read_due" (defArgs sRDu) (defBody sRDu) (defScope sRDu) .none kVRDu dcRDu pmRDu anRDu cdRDu ctRDu), slRDu⟩)
    (cRDu : PySem.W.codeIn K cdRDu "_law_read_due" = true)
    (kRDu : PySem.W.keepIn K (.ref fRDu) = true)
    (aDon : PySem.W.nsIn K mainGlobals "_law_done" = some (some (.ref fDon)))
    (lDon : K.lookup fDon = some ⟨ocDon, odDon, .func (PySem.W.fnOf "_law_done" "_law_done" (defArgs sDon) (defBody sDon) (defScope sDon) .none kVDon dcDon pmDon anDon cdDon ctDon), slDon⟩)
    (cDon : PySem.W.codeIn K cdDon "_law_done" = true)
    (kDon : PySem.W.keepIn K (.ref fDon) = true)
    (aWDu : PySem.W.nsIn K mainGlobals "_law_write_due" = some (some (.ref fWDu)))
    (lWDu : K.lookup fWDu = some ⟨ocWDu, odWDu, .func (PySem.W.fnOf "_law_write_due" "_law_write_due" (defArgs sWDu) (defBody sWDu) (defScope sWDu) .none kVWDu dcWDu pmWDu anWDu cdWDu ctWDu), slWDu⟩)
    (cWDu : PySem.W.codeIn K cdWDu "_law_write_due" = true)
    (kWDu : PySem.W.keepIn K (.ref fWDu) = true)
    (aHDu : PySem.W.nsIn K mainGlobals "_law_harm_due" = some (some (.ref fHDu)))
    (lHDu : K.lookup fHDu = some ⟨ocHDu, odHDu, .func (PySem.W.fnOf "_law_harm_due" "_law_harm_due" (defArgs sHDu) (defBody sHDu) (defScope sHDu) .none kVHDu dcHDu pmHDu anHDu cdHDu ctHDu), slHDu⟩)
    (cHDu : PySem.W.codeIn K cdHDu "_law_harm_due" = true)
    (kHDu : PySem.W.keepIn K (.ref fHDu) = true)
    (aPow : PySem.W.nsIn K mainGlobals "_law_power" = some (some (.ref fPow)))
    (lPow : K.lookup fPow = some ⟨ocPow, odPow, .func (PySem.W.fnOf "_law_power" "_law_power" (defArgs sPow) (defBody sPow) (defScope sPow) .none kVPow dcPow pmPow anPow cdPow ctPow), slPow⟩)
    (cPow : PySem.W.codeIn K cdPow "_law_power" = true)
    (kPow : PySem.W.keepIn K (.ref fPow) = true)
    (aSta : PySem.W.nsIn K mainGlobals "_law_stands" = some (some (.ref fSta)))
    (lSta : K.lookup fSta = some ⟨ocSta, odSta, .func (PySem.W.fnOf "_law_stands" "_law_stands" (defArgs sSta) (defBody sSta) (defScope sSta) .none kVSta dcSta pmSta anSta cdSta ctSta), slSta⟩)
    (cSta : PySem.W.codeIn K cdSta "_law_stands" = true)
    (kSta : PySem.W.keepIn K (.ref fSta) = true)
    (aSte : PySem.W.nsIn K mainGlobals "_law_step" = some (some (.ref fSte)))
    (lSte : K.lookup fSte = some ⟨ocSte, odSte, .func (PySem.W.fnOf "_law_step" "_law_step" (defArgs sSte) (defBody sSte) (defScope sSte) .none kVSte dcSte pmSte anSte cdSte ctSte), slSte⟩)
    (cSte : PySem.W.codeIn K cdSte "_law_step" = true)
    (kSte : PySem.W.keepIn K (.ref fSte) = true)
    (aRds : PySem.W.nsIn K mainGlobals "_law_reads" = some (some (.ref fRds)))
    (lRds : K.lookup fRds = some ⟨ocRds, odRds, .func (PySem.W.fnOf "_law_reads" "_law_reads" (defArgs sRds) (defBody sRds) (defScope sRds) .none kVRds dcRds pmRds anRds cdRds ctRds), slRds⟩)
    (cRds : PySem.W.codeIn K cdRds "_law_reads" = true)
    (kRds : PySem.W.keepIn K (.ref fRds) = true)
    (aLaw : PySem.W.nsIn K mainGlobals "law" = some (some (.ref fLaw)))
    (lLaw : K.lookup fLaw = some ⟨ocLaw, odLaw, .func (PySem.W.fnOf "law" "law" (defArgs sLaw) (defBody sLaw) (defScope sLaw) .none kVLaw dcLaw pmLaw anLaw cdLaw ctLaw), slLaw⟩)
    (cLaw : PySem.W.codeIn K cdLaw "law" = true)
    (kLaw : PySem.W.keepIn K (.ref fLaw) = true)
    (aW : PySem.W.nsIn K mainGlobals "WoodError" = some (some (.ref W)))
    (lW : K.lookup W = some (excClassObj nmW qW W NW bsW [.type "ValueError", .type "Exception", .type "BaseException", .type "object"] hdW snW subW abW colW ddW x0W x1W x2W x3W x5W "ValueError.__new__"))
    (tNW : K.lookup NW = some ⟨ocNW, odNW, .dict esNW epNW, slNW⟩)
    (tCW : (esNW.all fun e => match e.key with | .str _ _ => true | _ => false) = true)
    (tDW : PySem.W.nsIn K NW "__init__" = some none)
    (hn : PySem.W.specialIn K (.builtin "object.__class__") "__get__" = some (some (.builtin "getset_descriptor.__get__")))
    (tk : PySem.W.takesIn K (.builtin "object.__class__") = some true)
    (aPG : PySem.W.nsIn K mainGlobals "PowerGone" = some (some (.ref PG)))
    (lPG : K.lookup PG = some (excClassObj nmPG qPG PG NPG bsPG [.ref W, .type "ValueError", .type "Exception", .type "BaseException", .type "object"] true snPG subPG abPG colPG ddPG x0PG x1PG x2PG x3PG x5PG "ValueError.__new__"))
    (kPG : PySem.W.keepIn K (.ref PG) = true)
    (saPG : PySem.W.findIn K (.ref PG) "__setattr__" = some (some (.builtin "object.__setattr__")))
    (gaPG : PySem.W.findIn K (.ref PG) "__getattribute__" = some (some (.builtin "BaseException.__getattribute__")))
    (gtPG : PySem.W.findIn K (.ref PG) "__getattr__" = some none)
    (caPG : PySem.W.findIn K (.ref PG) "__class__" = some (some (.builtin "object.__class__")))
    (tNPG : K.lookup NPG = some ⟨ocNPG, odNPG, .dict esNPG epNPG, slNPG⟩)
    (tCPG : (esNPG.all fun e => match e.key with | .str _ _ => true | _ => false) = true)
    (tDPG : PySem.W.nsIn K NPG "__init__" = some none)
    (aNF : PySem.W.nsIn K mainGlobals "NoFloor" = some (some (.ref NF)))
    (lNF : K.lookup NF = some (excClassObj nmNF qNF NF NNF bsNF [.ref W, .type "ValueError", .type "Exception", .type "BaseException", .type "object"] true snNF subNF abNF colNF ddNF x0NF x1NF x2NF x3NF x5NF "ValueError.__new__"))
    (kNF : PySem.W.keepIn K (.ref NF) = true)
    (saNF : PySem.W.findIn K (.ref NF) "__setattr__" = some (some (.builtin "object.__setattr__")))
    (gaNF : PySem.W.findIn K (.ref NF) "__getattribute__" = some (some (.builtin "BaseException.__getattribute__")))
    (gtNF : PySem.W.findIn K (.ref NF) "__getattr__" = some none)
    (caNF : PySem.W.findIn K (.ref NF) "__class__" = some (some (.builtin "object.__class__")))
    (naNF_0 : PySem.W.findIn K (.ref NF) "many" = some none)
    (iCNF : PySem.W.findIn K (.ref NF) "__init__" = some (some (.ref fINF)))
    (nINF : PySem.W.isFn K (.ref fINF) = true)
    (lINF : K.lookup fINF = some ⟨ocINF, odINF, .func (PySem.W.fnOf "__init__" "NoFloor.__init__" (defArgs sINF) (defBody sINF) (defScope sINF) .none kVINF dcINF pmINF anINF cdINF ctINF), slINF⟩)
    (cINF : PySem.W.codeIn K cdINF "NoFloor.__init__" = true)
    (kINF : PySem.W.keepIn K (.ref fINF) = true)
    (aNP : PySem.W.nsIn K mainGlobals "NoPlace" = some (some (.ref NP)))
    (lNP : K.lookup NP = some (excClassObj nmNP qNP NP NNP bsNP [.ref W, .type "ValueError", .type "Exception", .type "BaseException", .type "object"] true snNP subNP abNP colNP ddNP x0NP x1NP x2NP x3NP x5NP "ValueError.__new__"))
    (kNP : PySem.W.keepIn K (.ref NP) = true)
    (saNP : PySem.W.findIn K (.ref NP) "__setattr__" = some (some (.builtin "object.__setattr__")))
    (gaNP : PySem.W.findIn K (.ref NP) "__getattribute__" = some (some (.builtin "BaseException.__getattribute__")))
    (gtNP : PySem.W.findIn K (.ref NP) "__getattr__" = some none)
    (caNP : PySem.W.findIn K (.ref NP) "__class__" = some (some (.builtin "object.__class__")))
    (naNP_0 : PySem.W.findIn K (.ref NP) "place" = some none)
    (iCNP : PySem.W.findIn K (.ref NP) "__init__" = some (some (.ref fINP)))
    (nINP : PySem.W.isFn K (.ref fINP) = true)
    (lINP : K.lookup fINP = some ⟨ocINP, odINP, .func (PySem.W.fnOf "__init__" "NoPlace.__init__" (defArgs sINP) (defBody sINP) (defScope sINP) .none kVINP dcINP pmINP anINP cdINP ctINP), slINP⟩)
    (cINP : PySem.W.codeIn K cdINP "NoPlace.__init__" = true)
    (kINP : PySem.W.keepIn K (.ref fINP) = true)
    (aNI : PySem.W.nsIn K mainGlobals "NoPiece" = some (some (.ref NI)))
    (lNI : K.lookup NI = some (excClassObj nmNI qNI NI NNI bsNI [.ref W, .type "ValueError", .type "Exception", .type "BaseException", .type "object"] true snNI subNI abNI colNI ddNI x0NI x1NI x2NI x3NI x5NI "ValueError.__new__"))
    (kNI : PySem.W.keepIn K (.ref NI) = true)
    (saNI : PySem.W.findIn K (.ref NI) "__setattr__" = some (some (.builtin "object.__setattr__")))
    (gaNI : PySem.W.findIn K (.ref NI) "__getattribute__" = some (some (.builtin "BaseException.__getattribute__")))
    (gtNI : PySem.W.findIn K (.ref NI) "__getattr__" = some none)
    (caNI : PySem.W.findIn K (.ref NI) "__class__" = some (some (.builtin "object.__class__")))
    (naNI_0 : PySem.W.findIn K (.ref NI) "place" = some none)
    (iCNI : PySem.W.findIn K (.ref NI) "__init__" = some (some (.ref fINI)))
    (nINI : PySem.W.isFn K (.ref fINI) = true)
    (lINI : K.lookup fINI = some ⟨ocINI, odINI, .func (PySem.W.fnOf "__init__" "NoPiece.__init__" (defArgs sINI) (defBody sINI) (defScope sINI) .none kVINI dcINI pmINI anINI cdINI ctINI), slINI⟩)
    (cINI : PySem.W.codeIn K cdINI "NoPiece.__init__" = true)
    (kINI : PySem.W.keepIn K (.ref fINI) = true)
    (aSO : PySem.W.nsIn K mainGlobals "Spoilt" = some (some (.ref SO)))
    (lSO : K.lookup SO = some (excClassObj nmSO qSO SO NSO bsSO [.ref W, .type "ValueError", .type "Exception", .type "BaseException", .type "object"] true snSO subSO abSO colSO ddSO x0SO x1SO x2SO x3SO x5SO "ValueError.__new__"))
    (kSO : PySem.W.keepIn K (.ref SO) = true)
    (saSO : PySem.W.findIn K (.ref SO) "__setattr__" = some (some (.builtin "object.__setattr__")))
    (gaSO : PySem.W.findIn K (.ref SO) "__getattribute__" = some (some (.builtin "BaseException.__getattribute__")))
    (gtSO : PySem.W.findIn K (.ref SO) "__getattr__" = some none)
    (caSO : PySem.W.findIn K (.ref SO) "__class__" = some (some (.builtin "object.__class__")))
    (naSO_0 : PySem.W.findIn K (.ref SO) "place" = some none)
    (iCSO : PySem.W.findIn K (.ref SO) "__init__" = some (some (.ref fISO)))
    (nISO : PySem.W.isFn K (.ref fISO) = true)
    (lISO : K.lookup fISO = some ⟨ocISO, odISO, .func (PySem.W.fnOf "__init__" "Spoilt.__init__" (defArgs sISO) (defBody sISO) (defScope sISO) .none kVISO dcISO pmISO anISO cdISO ctISO), slISO⟩)
    (cISO : PySem.W.codeIn K cdISO "Spoilt.__init__" = true)
    (kISO : PySem.W.keepIn K (.ref fISO) = true)
    (nd : (W :: [PG, NF, NP, NI, SO] : List Addr).Nodup)
    (aCF : PySem.W.nsIn K mainGlobals "Floor" = some (some (.ref CF)))
    (pgCF : PySem.W.plainGet K CF Str.empty = true)
    (hdCF : PySem.W.hasDictIn K CF = true)
    (poCF : PySem.W.plainOver K CF = true)
    (saCF : PySem.W.findIn K (.ref CF) "__setattr__" = some (some (.builtin "object.__setattr__")))
    (kCF : PySem.W.keepIn K (.ref CF) = true)
    (naCF_0 : PySem.W.findIn K (.ref CF) "many" = some none)
    (naCF_1 : PySem.W.findIn K (.ref CF) "pieces" = some none)
    (naCF_2 : PySem.W.findIn K (.ref CF) "spoilt" = some none)
    (naCF_3 : PySem.W.findIn K (.ref CF) "written" = some none)
    (naCF_4 : PySem.W.findIn K (.ref CF) "dark" = some none)
    (naCF_5 : PySem.W.findIn K (.ref CF) "left" = some none)
    (mkCF : PySem.W.makesIn K CF = true)
    (iiCF : PySem.W.findIn K (.ref CF) "__init__" = some (some (.ref fFIn)))
    (ifCF : PySem.W.isFn K (.ref fFIn) = true)
    (lFIn : K.lookup fFIn = some ⟨ocFIn, odFIn, .func (PySem.W.fnOf "__init__" "Floor.__init__" (defArgs sFIn) (defBody sFIn) (defScope sFIn) .none kVFIn dcFIn pmFIn anFIn cdFIn ctFIn), slFIn⟩)
    (cFIn : PySem.W.codeIn K cdFIn "Floor.__init__" = true)
    (kFIn : PySem.W.keepIn K (.ref fFIn) = true)
    (amWri : PySem.W.findIn K (.ref CF) "write" = some (some (.ref fWri)))
    (fmWri : PySem.W.isFn K (.ref fWri) = true)
    (lWri : K.lookup fWri = some ⟨ocWri, odWri, .func (PySem.W.fnOf "write" "Floor.write" (defArgs sWri) (defBody sWri) (defScope sWri) .none kVWri dcWri pmWri anWri cdWri ctWri), slWri⟩)
    (cWri : PySem.W.codeIn K cdWri "Floor.write" = true)
    (kWri : PySem.W.keepIn K (.ref fWri) = true)
    (amRea : PySem.W.findIn K (.ref CF) "read" = some (some (.ref fRea)))
    (fmRea : PySem.W.isFn K (.ref fRea) = true)
    (lRea : K.lookup fRea = some ⟨ocRea, odRea, .func (PySem.W.fnOf "read" "Floor.read" (defArgs sRea) (defBody sRea) (defScope sRea) .none kVRea dcRea pmRea anRea cdRea ctRea), slRea⟩)
    (cRea : PySem.W.codeIn K cdRea "Floor.read" = true)
    (kRea : PySem.W.keepIn K (.ref fRea) = true)
    (amCut : PySem.W.findIn K (.ref CF) "cut_after" = some (some (.ref fCut)))
    (fmCut : PySem.W.isFn K (.ref fCut) = true)
    (lCut : K.lookup fCut = some ⟨ocCut, odCut, .func (PySem.W.fnOf "cut_after" "Floor.cut_after" (defArgs sCut) (defBody sCut) (defScope sCut) .none kVCut dcCut pmCut anCut cdCut ctCut), slCut⟩)
    (cCut : PySem.W.codeIn K cdCut "Floor.cut_after" = true)
    (kCut : PySem.W.keepIn K (.ref fCut) = true)
    (amPon : PySem.W.findIn K (.ref CF) "power_on" = some (some (.ref fPon)))
    (fmPon : PySem.W.isFn K (.ref fPon) = true)
    (lPon : K.lookup fPon = some ⟨ocPon, odPon, .func (PySem.W.fnOf "power_on" "Floor.power_on" (defArgs sPon) (defBody sPon) (defScope sPon) .none kVPon dcPon pmPon anPon cdPon ctPon), slPon⟩)
    (cPon : PySem.W.codeIn K cdPon "Floor.power_on" = true)
    (kPon : PySem.W.keepIn K (.ref fPon) = true)
    (amIsD : PySem.W.findIn K (.ref CF) "is_dark" = some (some (.ref fIsD)))
    (fmIsD : PySem.W.isFn K (.ref fIsD) = true)
    (lIsD : K.lookup fIsD = some ⟨ocIsD, odIsD, .func (PySem.W.fnOf "is_dark" "Floor.is_dark" (defArgs sIsD) (defBody sIsD) (defScope sIsD) .none kVIsD dcIsD pmIsD anIsD cdIsD ctIsD), slIsD⟩)
    (cIsD : PySem.W.codeIn K cdIsD "Floor.is_dark" = true)
    (kIsD : PySem.W.keepIn K (.ref fIsD) = true)
    (amWrs : PySem.W.findIn K (.ref CF) "writes" = some (some (.ref fWrs)))
    (fmWrs : PySem.W.isFn K (.ref fWrs) = true)
    (lWrs : K.lookup fWrs = some ⟨ocWrs, odWrs, .func (PySem.W.fnOf "writes" "Floor.writes" (defArgs sWrs) (defBody sWrs) (defScope sWrs) .none kVWrs dcWrs pmWrs anWrs cdWrs ctWrs), slWrs⟩)
    (cWrs : PySem.W.codeIn K cdWrs "Floor.writes" = true)
    (kWrs : PySem.W.keepIn K (.ref fWrs) = true)
    (amHar : PySem.W.findIn K (.ref CF) "harm" = some (some (.ref fHar)))
    (fmHar : PySem.W.isFn K (.ref fHar) = true)
    (lHar : K.lookup fHar = some ⟨ocHar, odHar, .func (PySem.W.fnOf "harm" "Floor.harm" (defArgs sHar) (defBody sHar) (defScope sHar) .none kVHar dcHar pmHar anHar cdHar ctHar), slHar⟩)
    (cHar : PySem.W.codeIn K cdHar "Floor.harm" = true)
    (kHar : PySem.W.keepIn K (.ref fHar) = true)
    (amLos : PySem.W.findIn K (.ref CF) "lose" = some (some (.ref fLos)))
    (fmLos : PySem.W.isFn K (.ref fLos) = true)
    (lLos : K.lookup fLos = some ⟨ocLos, odLos, .func (PySem.W.fnOf "lose" "Floor.lose" (defArgs sLos) (defBody sLos) (defScope sLos) .none kVLos dcLos pmLos anLos cdLos ctLos), slLos⟩)
    (cLos : PySem.W.codeIn K cdLos "Floor.lose" = true)
    (kLos : PySem.W.keepIn K (.ref fLos) = true)
    (amNPl : PySem.W.findIn K (.ref CF) "need_place" = some (some (.ref fNPl)))
    (fmNPl : PySem.W.isFn K (.ref fNPl) = true)
    (lNPl : K.lookup fNPl = some ⟨ocNPl, odNPl, .func (PySem.W.fnOf "need_place" "Floor.need_place" (defArgs sNPl) (defBody sNPl) (defScope sNPl) .none kVNPl dcNPl pmNPl anNPl cdNPl ctNPl), slNPl⟩)
    (cNPl : PySem.W.codeIn K cdNPl "Floor.need_place" = true)
    (kNPl : PySem.W.keepIn K (.ref fNPl) = true)
    (amNPo : PySem.W.findIn K (.ref CF) "need_power" = some (some (.ref fNPo)))
    (fmNPo : PySem.W.isFn K (.ref fNPo) = true)
    (lNPo : K.lookup fNPo = some ⟨ocNPo, odNPo, .func (PySem.W.fnOf "need_power" "Floor.need_power" (defArgs sNPo) (defBody sNPo) (defScope sNPo) .none kVNPo dcNPo pmNPo anNPo cdNPo ctNPo), slNPo⟩)
    (cNPo : PySem.W.codeIn K cdNPo "Floor.need_power" = true)
    (kNPo : PySem.W.keepIn K (.ref fNPo) = true)
    (amSpo : PySem.W.findIn K (.ref CF) "spoil" = some (some (.ref fSpo)))
    (fmSpo : PySem.W.isFn K (.ref fSpo) = true)
    (lSpo : K.lookup fSpo = some ⟨ocSpo, odSpo, .func (PySem.W.fnOf "spoil" "Floor.spoil" (defArgs sSpo) (defBody sSpo) (defScope sSpo) .none kVSpo dcSpo pmSpo anSpo cdSpo ctSpo), slSpo⟩)
    (cSpo : PySem.W.codeIn K cdSpo "Floor.spoil" = true)
    (kSpo : PySem.W.keepIn K (.ref fSpo) = true)
    (amCle : PySem.W.findIn K (.ref CF) "clean" = some (some (.ref fCle)))
    (fmCle : PySem.W.isFn K (.ref fCle) = true)
    (lCle : K.lookup fCle = some ⟨ocCle, odCle, .func (PySem.W.fnOf "clean" "Floor.clean" (defArgs sCle) (defBody sCle) (defScope sCle) .none kVCle dcCle pmCle anCle cdCle ctCle), slCle⟩)
    (cCle : PySem.W.codeIn K cdCle "Floor.clean" = true)
    (kCle : PySem.W.keepIn K (.ref fCle) = true)
    (amCop : PySem.W.findIn K (.ref CF) "copied" = some (some (.ref fCop)))
    (fmCop : PySem.W.isFn K (.ref fCop) = true)
    (lCop : K.lookup fCop = some ⟨ocCop, odCop, .func (PySem.W.fnOf "copied" "Floor.copied" (defArgs sCop) (defBody sCop) (defScope sCop) .none kVCop dcCop pmCop anCop cdCop ctCop), slCop⟩)
    (cCop : PySem.W.codeIn K cdCop "Floor.copied" = true)
    (kCop : PySem.W.keepIn K (.ref fCop) = true)
    (z0 : PySem.W.nsIn K mainGlobals "isinstance" = some none)
    (z1 : PySem.W.nsIn K mainGlobals "int" = some none)
    (z2 : PySem.W.nsIn K mainGlobals "str" = some none)
    (z3 : PySem.W.nsIn K mainGlobals "bool" = some none)
    (z4 : PySem.W.nsIn K mainGlobals "len" = some none)
    (z5 : PySem.W.nsIn K mainGlobals "range" = some none)
    (z6 : PySem.W.nsIn K mainGlobals "list" = some none)
    (z7 : PySem.W.nsIn K mainGlobals "dict" = some none)
    (z8 : PySem.W.nsIn K mainGlobals "ValueError" = some none)
    (gl0 : PySem.W.nsIn K mainGlobals "FEWEST_PLACES" = some (some (.int 4 gt0)))
    (gl1 : PySem.W.nsIn K mainGlobals "MOST_PLACES" = some (some (.int 600 gt1))) :
    ∃ fd : FuncData, (∀ (s : Shared) (v : Value), BindsTo s fd ⟨[v], []⟩ [("_law_script", v)]) ∧ ∀ base : Heap, K.In base → base.Ns mainGlobals mg → FnOk l.prog w K mg base CX0 7 fa fd ["_law_script"] (spLaw K) := by
  have e := hfa.symm.trans (PySem.W.mg_of X G aLaw)
  cases e
  have T : Txt mg := ⟨PySem.W.mg_none_of X G z0, PySem.W.mg_none_of X G z1, PySem.W.mg_none_of X G z2, PySem.W.mg_none_of X G z3, PySem.W.mg_none_of X G z4, PySem.W.mg_none_of X G z5, PySem.W.mg_none_of X G z6, PySem.W.mg_none_of X G z7, PySem.W.mg_none_of X G z8, ⟨_, PySem.W.mg_of X G gl0⟩, ⟨_, PySem.W.mg_of X G gl1⟩⟩
  have FWho := fun_mk (st := sWho) lWho cWho kWho
  have hWho : Has K mg "is_whole" sWho ["thing"] fWho _ := ⟨FWho, FWho.binds (ps := ["thing"]) fun _ _ _ _ _ _ us hl => match us, hl with | [_], _ => rfl, PySem.W.mg_of X G aWho⟩
  have FWth := fun_mk (st := sWth) lWth cWth kWth
  have hWth : Has K mg "is_within" sWth ["thing", "low", "high"] fWth _ := ⟨FWth, FWth.binds (ps := ["thing", "low", "high"]) fun _ _ _ _ _ _ us hl => match us, hl with | [_, _, _], _ => rfl, PySem.W.mg_of X G aWth⟩
  have FCel := fun_mk (st := sCel) lCel cCel kCel
  have hCel : Has K mg "_law_cell_at" sCel ["_law_script", "_law_k"] fCel _ := ⟨FCel, FCel.binds (ps := ["_law_script", "_law_k"]) fun _ _ _ _ _ _ us hl => match us, hl with | [_, _], _ => rfl, PySem.W.mg_of X G aCel⟩
  have FStu := fun_mk (st := sStu) lStu cStu kStu
  have hStu : Has K mg "_law_stuff" sStu ["_law_cell"] fStu _ := ⟨FStu, FStu.binds (ps := ["_law_cell"]) fun _ _ _ _ _ _ us hl => match us, hl with | [_], _ => rfl, PySem.W.mg_of X G aStu⟩
  have FRDu := fun_mk (st := sRDu) lRDu cRDu kRDu
  have hRDu : Has K mg "_law_read_due" sRDu ["_law_state", "_law_place"] fRDu _ := ⟨FRDu, FRDu.binds (ps := ["_law_state", "_law_place"]) fun _ _ _ _ _ _ us hl => match us, hl with | [_, _], _ => rfl, PySem.W.mg_of X G aRDu⟩
  have FDon := fun_mk (st := sDon) lDon cDon kDon
  have hDon : Has K mg "_law_done" sDon ["_law_floor", "_law_way", "_law_place", "_law_stuff_here"] fDon _ := ⟨FDon, FDon.binds (ps := ["_law_floor", "_law_way", "_law_place", "_law_stuff_here"]) fun _ _ _ _ _ _ us hl => match us, hl with | [_, _, _, _], _ => rfl, PySem.W.mg_of X G aDon⟩
  have FWDu := fun_mk (st := sWDu) lWDu cWDu kWDu
  have hWDu : Has K mg "_law_write_due" sWDu ["_law_state", "_law_place", "_law_stuff_here"] fWDu _ := ⟨FWDu, FWDu.binds (ps := ["_law_state", "_law_place", "_law_stuff_here"]) fun _ _ _ _ _ _ us hl => match us, hl with | [_, _, _], _ => rfl, PySem.W.mg_of X G aWDu⟩
  have FHDu := fun_mk (st := sHDu) lHDu cHDu kHDu
  have hHDu : Has K mg "_law_harm_due" sHDu ["_law_state", "_law_place"] fHDu _ := ⟨FHDu, FHDu.binds (ps := ["_law_state", "_law_place"]) fun _ _ _ _ _ _ us hl => match us, hl with | [_, _], _ => rfl, PySem.W.mg_of X G aHDu⟩
  have FPow := fun_mk (st := sPow) lPow cPow kPow
  have hPow : Has K mg "_law_power" sPow ["_law_floor", "_law_state", "_law_way", "_law_many"] fPow _ := ⟨FPow, FPow.binds (ps := ["_law_floor", "_law_state", "_law_way", "_law_many"]) fun _ _ _ _ _ _ us hl => match us, hl with | [_, _, _, _], _ => rfl, PySem.W.mg_of X G aPow⟩
  have FSta := fun_mk (st := sSta) lSta cSta kSta
  have hSta : Has K mg "_law_stands" sSta ["_law_floor", "_law_state"] fSta _ := ⟨FSta, FSta.binds (ps := ["_law_floor", "_law_state"]) fun _ _ _ _ _ _ us hl => match us, hl with | [_, _], _ => rfl, PySem.W.mg_of X G aSta⟩
  have FSte := fun_mk (st := sSte) lSte cSte kSte
  have hSte : Has K mg "_law_step" sSte ["_law_floor", "_law_state", "_law_cell", "_law_place"] fSte _ := ⟨FSte, FSte.binds (ps := ["_law_floor", "_law_state", "_law_cell", "_law_place"]) fun _ _ _ _ _ _ us hl => match us, hl with | [_, _, _, _], _ => rfl, PySem.W.mg_of X G aSte⟩
  have FRds := fun_mk (st := sRds) lRds cRds kRds
  have hRds : Has K mg "_law_reads" sRds ["_law_floor", "_law_state", "_law_places"] fRds _ := ⟨FRds, FRds.binds (ps := ["_law_floor", "_law_state", "_law_places"]) fun _ _ _ _ _ _ us hl => match us, hl with | [_, _, _], _ => rfl, PySem.W.mg_of X G aRds⟩
  have FLaw := fun_mk (st := sLaw) lLaw cLaw kLaw
  have oW : XOb K W tailVE := ⟨_, _, _, _, _, _, _, _, _, _, _, _, _, _, _, lW⟩
  have tlW : PySem.W.tailIn K tailVE (.ref W :: tailVE) = true := tail_own lW (ns_ok tNW tCW) tDW (tail_ve K)
  have oPG : XOb K PG (wl W) := ⟨_, _, _, _, _, _, _, _, _, _, _, _, _, _, _, lPG⟩
  have clPG : XCls K PG := ⟨⟨_, by unfold PySem.W.clsIn; rw [lPG], .own PG (.own W .ve), rfl⟩, saPG, gaPG, gtPG, caPG, hn, tk⟩
  have hPG : X0Has K mg "PowerGone" PG (wl W) := ⟨⟨oPG, tail_own lPG (ns_ok tNPG tCPG) tDPG tlW, kPG⟩, oPG, (by simp [wl, tailVE]), PySem.W.mg_of X G aPG⟩
  have oNF : XOb K NF (wl W) := ⟨_, _, _, _, _, _, _, _, _, _, _, _, _, _, _, lNF⟩
  have clNF : XCls K NF := ⟨⟨_, by unfold PySem.W.clsIn; rw [lNF], .own NF (.own W .ve), rfl⟩, saNF, gaNF, gtNF, caNF, hn, tk⟩
  have FINF := fun_mk (st := sINF) lINF cINF kINF
  have hNF : XHas K mg "NoFloor" sINF NF (wl W) fINF _ ["self", "many"] := ⟨⟨oNF, tlW, iCNF, nINF, kNF⟩, clNF, (by simp [wl, tailVE]), PySem.W.mg_of X G aNF, FINF, FINF.binds (ps := ["self", "many"]) fun _ _ _ _ _ _ us hl => match us, hl with | [_, _], _ => rfl⟩
  have oNP : XOb K NP (wl W) := ⟨_, _, _, _, _, _, _, _, _, _, _, _, _, _, _, lNP⟩
  have clNP : XCls K NP := ⟨⟨_, by unfold PySem.W.clsIn; rw [lNP], .own NP (.own W .ve), rfl⟩, saNP, gaNP, gtNP, caNP, hn, tk⟩
  have FINP := fun_mk (st := sINP) lINP cINP kINP
  have hNP : XHas K mg "NoPlace" sINP NP (wl W) fINP _ ["self", "place"] := ⟨⟨oNP, tlW, iCNP, nINP, kNP⟩, clNP, (by simp [wl, tailVE]), PySem.W.mg_of X G aNP, FINP, FINP.binds (ps := ["self", "place"]) fun _ _ _ _ _ _ us hl => match us, hl with | [_, _], _ => rfl⟩
  have oNI : XOb K NI (wl W) := ⟨_, _, _, _, _, _, _, _, _, _, _, _, _, _, _, lNI⟩
  have clNI : XCls K NI := ⟨⟨_, by unfold PySem.W.clsIn; rw [lNI], .own NI (.own W .ve), rfl⟩, saNI, gaNI, gtNI, caNI, hn, tk⟩
  have FINI := fun_mk (st := sINI) lINI cINI kINI
  have hNI : XHas K mg "NoPiece" sINI NI (wl W) fINI _ ["self", "place"] := ⟨⟨oNI, tlW, iCNI, nINI, kNI⟩, clNI, (by simp [wl, tailVE]), PySem.W.mg_of X G aNI, FINI, FINI.binds (ps := ["self", "place"]) fun _ _ _ _ _ _ us hl => match us, hl with | [_, _], _ => rfl⟩
  have oSO : XOb K SO (wl W) := ⟨_, _, _, _, _, _, _, _, _, _, _, _, _, _, _, lSO⟩
  have clSO : XCls K SO := ⟨⟨_, by unfold PySem.W.clsIn; rw [lSO], .own SO (.own W .ve), rfl⟩, saSO, gaSO, gtSO, caSO, hn, tk⟩
  have FISO := fun_mk (st := sISO) lISO cISO kISO
  have hSO : XHas K mg "Spoilt" sISO SO (wl W) fISO _ ["self", "place"] := ⟨⟨oSO, tlW, iCSO, nISO, kSO⟩, clSO, (by simp [wl, tailVE]), PySem.W.mg_of X G aSO, FISO, FISO.binds (ps := ["self", "place"]) fun _ _ _ _ _ _ us hl => match us, hl with | [_, _], _ => rfl⟩
  have clCF : Cls K CF := ⟨pgCF, hdCF, poCF, saCF⟩
  have FFIn := fun_mk (st := sFIn) lFIn cFIn kFIn
  have FInbd := FFIn.binds (ps := ["self", "many"]) fun _ _ _ _ _ _ us hl => match us, hl with | [_, _], _ => rfl
  have FInmk : Mk K CF fFIn := ⟨mkCF, iiCF, ifCF, kCF⟩
  have FInnm : mg "Floor" = some (.ref CF) := PySem.W.mg_of X G aCF
  have FWri := fun_mk (st := sWri) lWri cWri kWri
  have hWri : MHas K CF "write" "Floor.write" sWri ["self", "place", "stuff"] fWri _ := ⟨FWri, FWri.binds (ps := ["self", "place", "stuff"]) fun _ _ _ _ _ _ us hl => match us, hl with | [_, _, _], _ => rfl, ⟨amWri, fmWri, kWri⟩⟩
  have FRea := fun_mk (st := sRea) lRea cRea kRea
  have hRea : MHas K CF "read" "Floor.read" sRea ["self", "place"] fRea _ := ⟨FRea, FRea.binds (ps := ["self", "place"]) fun _ _ _ _ _ _ us hl => match us, hl with | [_, _], _ => rfl, ⟨amRea, fmRea, kRea⟩⟩
  have FCut := fun_mk (st := sCut) lCut cCut kCut
  have hCut : MHas K CF "cut_after" "Floor.cut_after" sCut ["self", "many"] fCut _ := ⟨FCut, FCut.binds (ps := ["self", "many"]) fun _ _ _ _ _ _ us hl => match us, hl with | [_, _], _ => rfl, ⟨amCut, fmCut, kCut⟩⟩
  have FPon := fun_mk (st := sPon) lPon cPon kPon
  have hPon : MHas K CF "power_on" "Floor.power_on" sPon ["self"] fPon _ := ⟨FPon, FPon.binds (ps := ["self"]) fun _ _ _ _ _ _ us hl => match us, hl with | [_], _ => rfl, ⟨amPon, fmPon, kPon⟩⟩
  have FIsD := fun_mk (st := sIsD) lIsD cIsD kIsD
  have hIsD : MHas K CF "is_dark" "Floor.is_dark" sIsD ["self"] fIsD _ := ⟨FIsD, FIsD.binds (ps := ["self"]) fun _ _ _ _ _ _ us hl => match us, hl with | [_], _ => rfl, ⟨amIsD, fmIsD, kIsD⟩⟩
  have FWrs := fun_mk (st := sWrs) lWrs cWrs kWrs
  have hWrs : MHas K CF "writes" "Floor.writes" sWrs ["self"] fWrs _ := ⟨FWrs, FWrs.binds (ps := ["self"]) fun _ _ _ _ _ _ us hl => match us, hl with | [_], _ => rfl, ⟨amWrs, fmWrs, kWrs⟩⟩
  have FHar := fun_mk (st := sHar) lHar cHar kHar
  have hHar : MHas K CF "harm" "Floor.harm" sHar ["self", "place"] fHar _ := ⟨FHar, FHar.binds (ps := ["self", "place"]) fun _ _ _ _ _ _ us hl => match us, hl with | [_, _], _ => rfl, ⟨amHar, fmHar, kHar⟩⟩
  have FLos := fun_mk (st := sLos) lLos cLos kLos
  have hLos : MHas K CF "lose" "Floor.lose" sLos ["self", "place"] fLos _ := ⟨FLos, FLos.binds (ps := ["self", "place"]) fun _ _ _ _ _ _ us hl => match us, hl with | [_, _], _ => rfl, ⟨amLos, fmLos, kLos⟩⟩
  have FNPl := fun_mk (st := sNPl) lNPl cNPl kNPl
  have hNPl : MHas K CF "need_place" "Floor.need_place" sNPl ["self", "place"] fNPl _ := ⟨FNPl, FNPl.binds (ps := ["self", "place"]) fun _ _ _ _ _ _ us hl => match us, hl with | [_, _], _ => rfl, ⟨amNPl, fmNPl, kNPl⟩⟩
  have FNPo := fun_mk (st := sNPo) lNPo cNPo kNPo
  have hNPo : MHas K CF "need_power" "Floor.need_power" sNPo ["self"] fNPo _ := ⟨FNPo, FNPo.binds (ps := ["self"]) fun _ _ _ _ _ _ us hl => match us, hl with | [_], _ => rfl, ⟨amNPo, fmNPo, kNPo⟩⟩
  have FSpo := fun_mk (st := sSpo) lSpo cSpo kSpo
  have hSpo : MHas K CF "spoil" "Floor.spoil" sSpo ["self", "place"] fSpo _ := ⟨FSpo, FSpo.binds (ps := ["self", "place"]) fun _ _ _ _ _ _ us hl => match us, hl with | [_, _], _ => rfl, ⟨amSpo, fmSpo, kSpo⟩⟩
  have FCle := fun_mk (st := sCle) lCle cCle kCle
  have hCle : MHas K CF "clean" "Floor.clean" sCle ["self", "place"] fCle _ := ⟨FCle, FCle.binds (ps := ["self", "place"]) fun _ _ _ _ _ _ us hl => match us, hl with | [_, _], _ => rfl, ⟨amCle, fmCle, kCle⟩⟩
  have FCop := fun_mk (st := sCop) lCop cCop kCop
  have hCop : MHas K CF "copied" "Floor.copied" sCop ["self"] fCop _ := ⟨FCop, FCop.binds (ps := ["self"]) fun _ _ _ _ _ _ us hl => match us, hl with | [_], _ => rfl, ⟨amCop, fmCop, kCop⟩⟩
  refine ⟨PySem.W.fnOf "law" "law" (defArgs sLaw) (defBody sLaw) (defScope sLaw) .none kVLaw dcLaw pmLaw anLaw cdLaw ctLaw, fun s v => .of_eq rfl, fun base _ _ => ?_⟩
  let c : Cl := ⟨CF, W, PG, NF, NP, NI, SO⟩
  have cl : Cls K c.F := clCF
  have na : Na K c.F := ⟨naCF_0, naCF_1, naCF_2, naCF_3, naCF_4, naCF_5⟩
  have tkr : ∀ {C : Addr} {f : Str}, NoAttr K C f → PySem.W.takerIn K C f = some none := fun n => n.taker
  have GWho : FnOk l.prog w K mg base CX0 1 fWho _ ["thing"] spWho0 := ok_Who FWho T
  have GWth : FnOk l.prog w K mg base CX0 2 fWth _ ["thing", "low", "high"] spWth0 := ok_Wth FWth hWho GWho
  have GNF : FnOk l.prog w K mg base CX0 1 fINF _ ["self", "many"] (spX c.NF "many") := ok_INF FINF clNF (tkr naNF_0)
  have GNP : FnOk l.prog w K mg base CX0 1 fINP _ ["self", "place"] (spX c.NP "place") := ok_INP FINP clNP (tkr naNP_0)
  have GNI : FnOk l.prog w K mg base CX0 1 fINI _ ["self", "place"] (spX c.NI "place") := ok_INI FINI clNI (tkr naNI_0)
  have GSO : FnOk l.prog w K mg base CX0 1 fISO _ ["self", "place"] (spX c.SO "place") := ok_ISO FISO clSO (tkr naSO_0)
  have GFIn : FnOk l.prog w K mg base (CXw l.prog w) 3 fFIn _ ["self", "many"] (spFIn c) := ok_FIn (c := c) FFIn cl na hWth GWth hNF GNF T
  have GNPl : FnOk l.prog w K mg base (CXw l.prog w) 3 fNPl _ ["self", "place"] (mSp c gNPl) := ok_NPl (c := c) FNPl cl na hWth GWth hNP GNP
  have GNPo : FnOk l.prog w K mg base (CXw l.prog w) 1 fNPo _ ["self"] (mSp0 c gNPo) := ok_NPo (c := c) FNPo cl na hPG
  have GCle : FnOk l.prog w K mg base CX0 1 fCle _ ["self", "place"] (mSpK c cln) := ok_Cle (c := c) FCle cl na
  have GSpo : FnOk l.prog w K mg base CX0 2 fSpo _ ["self", "place"] (mSpK c spl) := ok_Spo (c := c) FSpo cl na hCle GCle
  have GWri : FnOk l.prog w K mg base (CXw l.prog w) 4 fWri _ ["self", "place", "stuff"] (spWri c) := ok_Wri (c := c) FWri cl na hNPl GNPl hNPo GNPo hCle GCle hSpo GSpo hPG
  have GRea : FnOk l.prog w K mg base (CXw l.prog w) 4 fRea _ ["self", "place"] (mSp c fRead) := ok_Rea (c := c) FRea cl na hNPl GNPl hNPo GNPo hSO GSO hNI GNI
  have GHar : FnOk l.prog w K mg base (CXw l.prog w) 4 fHar _ ["self", "place"] (mSp c fHarm) := ok_Har (c := c) FHar cl na hNPl GNPl hSpo GSpo hNI GNI
  have GLos : FnOk l.prog w K mg base (CXw l.prog w) 4 fLos _ ["self", "place"] (mSp c fLose) := ok_Los (c := c) FLos cl na hNPl GNPl hCle GCle
  have GCut : FnOk l.prog w K mg base CX0 1 fCut _ ["self", "many"] (spCut c) := ok_Cut (c := c) FCut cl na
  have GPon : FnOk l.prog w K mg base CX0 1 fPon _ ["self"] (mSp0 c fun st => (.ok .non, { st with d := false, l := .non })) := ok_Pon (c := c) FPon cl na
  have GIsD : FnOk l.prog w K mg base CX0 1 fIsD _ ["self"] (mSp0 c fun st => (.ok (.bl st.d), st)) := ok_IsD (c := c) FIsD cl na
  have GWrs : FnOk l.prog w K mg base CX0 1 fWrs _ ["self"] (spWrs c) := ok_Wrs (c := c) FWrs cl na T
  have S : Xs K mg c := ⟨oW, PySem.W.mg_of X G aW, oNP, oPG, PySem.W.mg_of X G aPG, oSO, PySem.W.mg_of X G aSO, clSO, naSO_0, oNI, PySem.W.mg_of X G aNI, clNI, naNI_0, (by simp only [List.nodup_cons, List.mem_cons, List.not_mem_nil, or_false, not_or, not_false_eq_true, List.nodup_nil, and_true] at nd; show [W, PG, NP, NI, SO].Nodup; simp [nd])⟩
  have GCop : FnOk l.prog w K mg base CX0 5 fCop _ ["self"] (spCop c) := ok_Cop (c := c) FCop cl na FInmk FInnm FInbd GFIn T
  have GCel : FnOk l.prog w K mg base CX0 1 fCel _ ["_law_script", "_law_k"] (spCel K) := ok_Cel FCel T
  have GStu : FnOk l.prog w K mg base CX0 1 fStu _ ["_law_cell"] spStu := ok_Stu FStu
  have GRDu : FnOk l.prog w K mg base CX0 1 fRDu _ ["_law_state", "_law_place"] spRDu := ok_RDu FRDu
  have GWDu : FnOk l.prog w K mg base CX0 1 fWDu _ ["_law_state", "_law_place", "_law_stuff_here"] spWDu := ok_WDu FWDu T
  have GHDu : FnOk l.prog w K mg base CX0 1 fHDu _ ["_law_state", "_law_place"] spHDu := ok_HDu FHDu
  have GDon : FnOk l.prog w K mg base CX0 5 fDon _ ["_law_floor", "_law_way", "_law_place", "_law_stuff_here"] (spDon c) := ok_Don (c := c) FDon cl hWri GWri hRea GRea hHar GHar S T
  have GPow : FnOk l.prog w K mg base CX0 2 fPow _ ["_law_floor", "_law_state", "_law_way", "_law_many"] (spPow c) := ok_Pow (c := c) FPow cl hCut GCut hPon GPon
  have GSta : FnOk l.prog w K mg base CX0 2 fSta _ ["_law_floor", "_law_state"] (spSta c) := ok_Sta (c := c) FSta cl hIsD GIsD hWrs GWrs T
  have GSte : FnOk l.prog w K mg base CX0 6 fSte _ ["_law_floor", "_law_state", "_law_cell", "_law_place"] (spSte c) := ok_Ste (c := c) FSte cl hStu GStu hDon GDon hRDu GRDu hWDu GWDu hHDu GHDu hPow GPow hLos GLos
  have GRds : FnOk l.prog w K mg base CX0 6 fRds _ ["_law_floor", "_law_state", "_law_places"] (spRds c) := ok_Rds (c := c) FRds hDon GDon hRDu GRDu hSta GSta
  exact ok_law (c := c) FLaw cl na FInmk FInnm FInbd GFIn hCel GCel hPon GPon hCop GCop hSte GSte hSta GSta hRds GRds T
theorem walk {l : PySem.W.OpenLaw} {q : Program} {loose : List Str} {XP : (Str → Option Value) → Heap → Prop} {YP : World → Heap → Prop} {d : DefRec} {K : Params → PySem.W.Frag} (hn : l.most = some 63) (hdf : d.params.defaults = [])
    (hY : ∀ (w : World) (h : Heap), YP w h → (K w.params).In h)
    (F : ∀ (w : World) (mg : Str → Option Value) (fa : Addr) (h : Heap), (K w.params).In h → h.Ns mainGlobals mg → mg d.name = some (.ref fa) →
      ∃ fd : FuncData, (∀ (s : Shared) (u : Value), BindsTo s fd ⟨[u], []⟩ [("_law_script", u)]) ∧ ∀ base : Heap, (K w.params).In base → base.Ns mainGlobals mg → FnOk l.prog w (K w.params) mg base CX0 7 fa fd ["_law_script"] (spLaw (K w.params))) :
    PySem.W.WalkO q loose XP YP l.row.toRowW d [] (fun f vs => PySem.call f vs) :=
  L2.walk_of (n := 63) (k := 7) (x := "_law_script") (CX := fun _ => CX0) (sp := fun w => spLaw (K w.params)) hn (by decide) hdf ⟨fun _ => rfl, by decide, by decide⟩ hY F (fun _ _ a ns hl _ hS => ⟨a, ns, rfl, hS, hl, fun _ => rfl⟩) fun _ _ _ _ _ z => z
end K3
open PySem PySem.W PyProof.Rows
set_option maxRecDepth 100000 in
set_option maxHeartbeats 0 in
theorem PySem.Challenge.cw_clonewood_k03_a_floor_holds : PySem.Challenge.rw_clonewood_k03_a_floor.Holds := by
  w_on; o_law; k_head; (case hw => w_witness2)
  k_fill
  refine K3.walk (l := PySem.Challenge.rw_clonewood_k03_a_floor) rfl rfl (fun w h Y => PySem.W.kIn_of Y) ?F
  case F =>
    intro w mg fa h KX G hmg
    refine' K3.all_mk KX G hmg ?aWho ?lWho ?cWho ?kWho ?aWth ?lWth ?cWth ?kWth ?aCel ?lCel ?cCel ?kCel ?aStu ?lStu ?cStu ?kStu ?aRDu ?lRDu ?cRDu ?kRDu ?aDon ?lDon ?cDon ?kDon ?aWDu ?lWDu ?cWDu ?kWDu ?aHDu ?lHDu ?cHDu ?kHDu ?aPow ?lPow ?cPow ?kPow ?aSta ?lSta ?cSta ?kSta ?aSte ?lSte ?cSte ?kSte ?aRds ?lRds ?cRds ?kRds ?aLaw ?lLaw ?cLaw ?kLaw ?aW ?lW ?tNW ?tCW ?tDW ?hn ?tk ?aPG ?lPG ?kPG ?saPG ?gaPG ?gtPG ?caPG ?tNPG ?tCPG ?tDPG ?aNF ?lNF ?kNF ?saNF ?gaNF ?gtNF ?caNF ?naNF_0 ?iCNF ?nINF ?lINF ?cINF ?kINF ?aNP ?lNP ?kNP ?saNP ?gaNP ?gtNP ?caNP ?naNP_0 ?iCNP ?nINP ?lINP ?cINP ?kINP ?aNI ?lNI ?kNI ?saNI ?gaNI ?gtNI ?caNI ?naNI_0 ?iCNI ?nINI ?lINI ?cINI ?kINI ?aSO ?lSO ?kSO ?saSO ?gaSO ?gtSO ?caSO ?naSO_0 ?iCSO ?nISO ?lISO ?cISO ?kISO ?nd ?aCF ?pgCF ?hdCF ?poCF ?saCF ?kCF ?naCF_0 ?naCF_1 ?naCF_2 ?naCF_3 ?naCF_4 ?naCF_5 ?mkCF ?iiCF ?ifCF ?lFIn ?cFIn ?kFIn ?amWri ?fmWri ?lWri ?cWri ?kWri ?amRea ?fmRea ?lRea ?cRea ?kRea ?amCut ?fmCut ?lCut ?cCut ?kCut ?amPon ?fmPon ?lPon ?cPon ?kPon ?amIsD ?fmIsD ?lIsD ?cIsD ?kIsD ?amWrs ?fmWrs ?lWrs ?cWrs ?kWrs ?amHar ?fmHar ?lHar ?cHar ?kHar ?amLos ?fmLos ?lLos ?cLos ?kLos ?amNPl ?fmNPl ?lNPl ?cNPl ?kNPl ?amNPo ?fmNPo ?lNPo ?cNPo ?kNPo ?amSpo ?fmSpo ?lSpo ?cSpo ?kSpo ?amCle ?fmCle ?lCle ?cCle ?kCle ?amCop ?fmCop ?lCop ?cCop ?kCop ?z0 ?z1 ?z2 ?z3 ?z4 ?z5 ?z6 ?z7 ?z8 ?gl0 ?gl1
    (case aWho => k_is)
    (case lWho => k_is)
    (case cWho => k_is)
    (case kWho => k_is)
    (case aWth => k_is)
    (case lWth => k_is)
    (case cWth => k_is)
    (case kWth => k_is)
    (case aCel => k_is)
    (case lCel => k_is)
    (case cCel => k_is)
    (case kCel => k_is)
    (case aStu => k_is)
    (case lStu => k_is)
    (case cStu => k_is)
    (case kStu => k_is)
    (case aRDu => k_is)
    (case lRDu => k_is)
    (case cRDu => k_is)
    (case kRDu => k_is)
    (case aDon => k_is)
    (case lDon => k_is)
    (case cDon => k_is)
    (case kDon => k_is)
    (case aWDu => k_is)
    (case lWDu => k_is)
    (case cWDu => k_is)
    (case kWDu => k_is)
    (case aHDu => k_is)
    (case lHDu => k_is)
    (case cHDu => k_is)
    (case kHDu => k_is)
    (case aPow => k_is)
    (case lPow => k_is)
    (case cPow => k_is)
    (case kPow => k_is)
    (case aSta => k_is)
    (case lSta => k_is)
    (case cSta => k_is)
    (case kSta => k_is)
    (case aSte => k_is)
    (case lSte => k_is)
    (case cSte => k_is)
    (case kSte => k_is)
    (case aRds => k_is)
    (case lRds => k_is)
    (case cRds => k_is)
    (case kRds => k_is)
    (case aLaw => k_is)
    (case lLaw => k_is)
    (case cLaw => k_is)
    (case kLaw => k_is)
    (case aW => k_is)
    (case lW => k_is)
    (case tNW => k_is)
    (case tCW => first | rfl | decide | simp)
    (case tDW => k_is)
    (case hn => k_is)
    (case tk => k_is)
    (case aPG => k_is)
    (case lPG => k_is)
    (case kPG => k_is)
    (case saPG => k_is)
    (case gaPG => k_is)
    (case gtPG => k_is)
    (case caPG => k_is)
    (case tNPG => k_is)
    (case tCPG => first | rfl | decide | simp)
    (case tDPG => k_is)
    (case aNF => k_is)
    (case lNF => k_is)
    (case kNF => k_is)
    (case saNF => k_is)
    (case gaNF => k_is)
    (case gtNF => k_is)
    (case caNF => k_is)
    (case naNF_0 => k_is)
    (case iCNF => k_is)
    (case nINF => k_is)
    (case lINF => k_is)
    (case cINF => k_is)
    (case kINF => k_is)
    (case aNP => k_is)
    (case lNP => k_is)
    (case kNP => k_is)
    (case saNP => k_is)
    (case gaNP => k_is)
    (case gtNP => k_is)
    (case caNP => k_is)
    (case naNP_0 => k_is)
    (case iCNP => k_is)
    (case nINP => k_is)
    (case lINP => k_is)
    (case cINP => k_is)
    (case kINP => k_is)
    (case aNI => k_is)
    (case lNI => k_is)
    (case kNI => k_is)
    (case saNI => k_is)
    (case gaNI => k_is)
    (case gtNI => k_is)
    (case caNI => k_is)
    (case naNI_0 => k_is)
    (case iCNI => k_is)
    (case nINI => k_is)
    (case lINI => k_is)
    (case cINI => k_is)
    (case kINI => k_is)
    (case aSO => k_is)
    (case lSO => k_is)
    (case kSO => k_is)
    (case saSO => k_is)
    (case gaSO => k_is)
    (case gtSO => k_is)
    (case caSO => k_is)
    (case naSO_0 => k_is)
    (case iCSO => k_is)
    (case nISO => k_is)
    (case lISO => k_is)
    (case cISO => k_is)
    (case kISO => k_is)
    (case nd => first | decide | decide +kernel)
    (case aCF => k_is)
    (case pgCF => k_is)
    (case hdCF => k_is)
    (case poCF => k_is)
    (case saCF => k_is)
    (case kCF => k_is)
    (case naCF_0 => k_is)
    (case naCF_1 => k_is)
    (case naCF_2 => k_is)
    (case naCF_3 => k_is)
    (case naCF_4 => k_is)
    (case naCF_5 => k_is)
    (case mkCF => k_is)
    (case iiCF => k_is)
    (case ifCF => k_is)
    (case lFIn => k_is)
    (case cFIn => k_is)
    (case kFIn => k_is)
    (case amWri => k_is)
    (case fmWri => k_is)
    (case lWri => k_is)
    (case cWri => k_is)
    (case kWri => k_is)
    (case amRea => k_is)
    (case fmRea => k_is)
    (case lRea => k_is)
    (case cRea => k_is)
    (case kRea => k_is)
    (case amCut => k_is)
    (case fmCut => k_is)
    (case lCut => k_is)
    (case cCut => k_is)
    (case kCut => k_is)
    (case amPon => k_is)
    (case fmPon => k_is)
    (case lPon => k_is)
    (case cPon => k_is)
    (case kPon => k_is)
    (case amIsD => k_is)
    (case fmIsD => k_is)
    (case lIsD => k_is)
    (case cIsD => k_is)
    (case kIsD => k_is)
    (case amWrs => k_is)
    (case fmWrs => k_is)
    (case lWrs => k_is)
    (case cWrs => k_is)
    (case kWrs => k_is)
    (case amHar => k_is)
    (case fmHar => k_is)
    (case lHar => k_is)
    (case cHar => k_is)
    (case kHar => k_is)
    (case amLos => k_is)
    (case fmLos => k_is)
    (case lLos => k_is)
    (case cLos => k_is)
    (case kLos => k_is)
    (case amNPl => k_is)
    (case fmNPl => k_is)
    (case lNPl => k_is)
    (case cNPl => k_is)
    (case kNPl => k_is)
    (case amNPo => k_is)
    (case fmNPo => k_is)
    (case lNPo => k_is)
    (case cNPo => k_is)
    (case kNPo => k_is)
    (case amSpo => k_is)
    (case fmSpo => k_is)
    (case lSpo => k_is)
    (case cSpo => k_is)
    (case kSpo => k_is)
    (case amCle => k_is)
    (case fmCle => k_is)
    (case lCle => k_is)
    (case cCle => k_is)
    (case kCle => k_is)
    (case amCop => k_is)
    (case fmCop => k_is)
    (case lCop => k_is)
    (case cCop => k_is)
    (case kCop => k_is)
    (case z0 => k_is)
    (case z1 => k_is)
    (case z2 => k_is)
    (case z3 => k_is)
    (case z4 => k_is)
    (case z5 => k_is)
    (case z6 => k_is)
    (case z7 => k_is)
    (case z8 => k_is)
    (case gl0 => k_is)
    (case gl1 => k_is)
#print axioms PySem.Challenge.cw_clonewood_k03_a_floor_holds
