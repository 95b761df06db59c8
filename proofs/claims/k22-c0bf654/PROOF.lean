import PyProof.Rows.All
import Wide.All
import OpenK.AllK
import Wide.FinOn
import Lean
import PyProof.EqAt
import PyProof.EqKinds
import PyProof.NeKinds
import PyProof.TupleCall
import PySem.Challenge.RW_clonewood_k22_what_is_a_knot
import PyProof.Rows.Range3
set_option Elab.async false
set_option linter.all false
set_option maxRecDepth 100000
/-! THE HAND LAYER, for ints, bools, texts, own classes, LISTS and tuples (index, slices, in, append, pop ..), calls, loops. Paste it whole ahead of your own text; what your proof does not reach may be deleted. -/
namespace L2
open PySem PySem.Spec PyProof.Rows

/-- a key: an int or a str -/
abbrev Key := Sum Int Str
def keyIs : Key → Value → Bool
  | .inl k, v => Value.isInt k v
  | .inr x, v => Value.isStrOf x v
def keyH (w : World) : Key → Int
  | .inl k => hashInt k
  | .inr x => hashStr w x
theorem keyIs_shape : ∀ {k : Key} {v : Value}, keyIs k v = true → (∃ i t, k = Sum.inl i ∧ v = Value.int i t) ∨ (∃ x t, k = Sum.inr x ∧ v = Value.str x t)
  | .inl i, v, h => by
    obtain ⟨t, e⟩ := Value.isInt_shape (k := i) (v := v) h
    exact .inl ⟨i, t, rfl, e⟩
  | .inr x, v, h => by
    obtain ⟨t, e⟩ := Value.isStrOf_shape (x := x) (v := v) h
    exact .inr ⟨x, t, rfl, e⟩
theorem key_ll (a b : Int) : decide ((Sum.inl a : Key) = Sum.inl b) = (a == b) := by
  by_cases e : a = b
  · subst e; simp
  · have h : ¬ (Sum.inl a : Key) = Sum.inl b := fun q => e (Sum.inl.inj q)
    rw [decide_eq_false h]
    exact (beq_eq_false_iff_ne.mpr e).symm
theorem key_rr (a b : Str) : decide ((Sum.inr a : Key) = Sum.inr b) = decide (a = b) := by
  by_cases e : a = b
  · subst e; simp
  · have h : ¬ (Sum.inr a : Key) = Sum.inr b := fun q => e (Sum.inr.inj q)
    rw [decide_eq_false h, decide_eq_false e]
theorem key_lr (a : Int) (b : Str) : decide ((Sum.inl a : Key) = Sum.inr b) = false := decide_eq_false (fun q => nomatch q)
theorem key_rl (a : Str) (b : Int) : decide ((Sum.inr a : Key) = Sum.inl b) = false := decide_eq_false (fun q => nomatch q)

def mixKind (prog : Program) (w : World) : PySem.KeyKind prog w Key where
  is := keyIs
  hash := keyH w
  inj := fun v a b ha hb => by
    rcases keyIs_shape ha with ⟨i, t, rfl, rfl⟩ | ⟨x, t, rfl, rfl⟩
    · rcases keyIs_shape hb with ⟨j, u, rfl, e⟩ | ⟨y, u, rfl, e⟩
      · injection e with e1 _; rw [e1]
      · exact nomatch e
    · rcases keyIs_shape hb with ⟨j, u, rfl, e⟩ | ⟨y, u, rfl, e⟩
      · exact nomatch e
      · injection e with e1 _; rw [e1]
  byValue := fun k v h => by
    rcases keyIs_shape h with ⟨i, t, rfl, rfl⟩ | ⟨x, t, rfl, rfl⟩ <;> rfl
  pyHash := fun hv h => by
    rcases keyIs_shape hv with ⟨i, t, rfl, rfl⟩ | ⟨x, t, rfl, rfl⟩
    · exact wpAny_pyHash_int h
    · exact wpAny_pyHash_str h
  eqBool := fun hu hv h => by
    rcases keyIs_shape hu with ⟨i, t, rfl, rfl⟩ | ⟨x, t, rfl, rfl⟩
    · rcases keyIs_shape hv with ⟨j, u, rfl, rfl⟩ | ⟨y, u, rfl, rfl⟩
      · rw [key_ll] at h; exact wpAny_eqBool_int h
      · rw [key_lr] at h; exact SeqAt.EqAt.int_str i t y u _ _ _ _ h
    · rcases keyIs_shape hv with ⟨j, u, rfl, rfl⟩ | ⟨y, u, rfl, rfl⟩
      · rw [key_rl] at h; exact SeqAt.EqAt.str_int x t j u _ _ _ _ h
      · rw [key_rr] at h; exact wpAny_eqBool_str h
  «strs» := fun k x t v h => by
    rcases keyIs_shape h with ⟨i, u, rfl, e⟩ | ⟨y, u, rfl, e⟩
    · exact nomatch e
    · injection e with e1 _
      subst e1
      cases v <;> rfl

end L2

namespace L2
open PySem PySem.Spec PyProof.Rows

/-- a value, without the heap -/
inductive V where
  | non | bl (b : Bool) | int (i : Int) | str (x : Str) | byt (b : Array UInt8) | flt (b : UInt64) | ref (a : Addr) | ty (n : String)
  deriving DecidableEq

def RelV : V → Value → Prop
  | .non, u => u = Value.none
  | .bl b, u => u = Value.bool b
  | .int i, u => ∃ t, u = Value.int i t
  | .str x, u => ∃ t, u = Value.str x t
  | .byt b, u => ∃ t, u = Value.bytes b t
  | .flt b, u => ∃ t, u = Value.float b t
  | .ref a, u => u = Value.ref a
  | .ty n, u => u = Value.type n

abbrev Vals : List V → List Value → Prop := Paired RelV
theorem Vals.length {xs : List V} {us : List Value} (r : Vals xs us) : xs.length = us.length := Paired.length r
theorem Vals.get : ∀ {xs : List V} {us : List Value} {i : Nat} {x : V}, Vals xs us → xs[i]? = some x → ∃ u, us[i]? = some u ∧ RelV x u
  | _, _, _, _, .nil, e => by simp at e
  | _, _, 0, _, .cons r _, e => by simp at e; subst e; exact ⟨_, rfl, r⟩
  | _, _, i + 1, x, .cons _ t, e => by
    obtain ⟨u, h1, h2⟩ := Vals.get (i := i) (x := x) t (by simpa using e)
    exact ⟨u, by simpa using h1, h2⟩
theorem Vals.set {x : V} {u : Value} (r : RelV x u) : ∀ {xs : List V} {us : List Value} (i : Nat), Vals xs us → Vals (xs.set i x) (us.set i u)
  | _, _, _, .nil => .nil
  | _, _, 0, .cons _ t => .cons r t
  | _, _, i + 1, .cons q t => .cons q (Vals.set r i t)
theorem Vals.append : ∀ {xs ys : List V} {us ws : List Value}, Vals xs us → Vals ys ws → Vals (xs ++ ys) (us ++ ws)
  | _, _, _, _, .nil, s => s
  | _, _, _, _, .cons r t, s => .cons r (Vals.append t s)
theorem Vals.take : ∀ {xs : List V} {us : List Value} (n : Nat), Vals xs us → Vals (xs.take n) (us.take n)
  | _, _, 0, _ => .nil
  | _, _, _ + 1, .nil => .nil
  | _, _, n + 1, .cons r t => .cons r (Vals.take n t)
theorem Vals.drop : ∀ {xs : List V} {us : List Value} (n : Nat), Vals xs us → Vals (xs.drop n) (us.drop n)
  | _, _, 0, r => r
  | _, _, _ + 1, .nil => .nil
  | _, _, n + 1, .cons _ t => Vals.drop n t
def RelO : Option V → Option Value → Prop
  | some v, some u => RelV v u
  | none, none => True
  | _, _ => False
def KV {κ : Type} : List (κ × V) → List (κ × Value) → Prop := Paired fun (p : κ × V) (q : κ × Value) => p.1 = q.1 ∧ RelV p.2 q.2

/-- a key of a dict (00_mix): an int or a text -/
def kV : Key → V
  | .inl i => .int i
  | .inr x => .str x

/-- what stands at a tracked address -/
inductive HO where
  /-- a list -/
  | lst (xs : List V)
  /-- a tuple (never changes) -/
  | tup (xs : List V)
  /-- a dict whose keys are ints and texts; one whose keys are tuples of ints and texts (the empty one is both) -/
  | dK (kvs : List (Key × V)) | dT (kvs : List (List Key × V))
  /-- a set of ints: its members, its size -/
  | set (S : Int → Bool) (n : Nat)
  /-- an instance of the class at C, its dict at dx, its attributes -/
  | ins (C dx : Addr) (fs : List (Str × V))
  /-- the dict of the instance at x -/
  | own (x : Addr)
  /-- the dict of an exception -/
  | xd (fs : List (Str × V))
  /-- a bound method, f of x -/
  | met (f x : Addr)
  /-- a range object lo, lo + 1, .. below hi -/
  | rng (lo hi : Int)
  /-- a thing that is known to the object (the script; a dict while a loop walks it): read, never written while it is so -/
  | frz (o : Obj) (u : HO)
  /-- a code object's table -/
  | tbl (ps : Array Value)
  /-- any other thing, by what is true of its one object (a def of one's own: SetO a S n := HO.ext fun h => ..) -/
  | ext (φ : Heap → Prop)

abbrev Hp := Addr → Option HO
def upd (H : Hp) (a : Addr) (o : HO) : Hp := fun b => if b = a then some o else H b
theorem upd_same {H : Hp} {a : Addr} {o : HO} : upd H a o a = some o := by unfold upd; rw [if_pos rfl]
theorem upd_ne {H : Hp} {a b : Addr} {o : HO} (h : b ≠ a) : upd H a o b = H b := by unfold upd; rw [if_neg h]
theorem upd_upd {H : Hp} {a : Addr} {o u : HO} : upd (upd H a o) a u = upd H a u := by
  funext b; unfold upd; split <;> rfl
theorem ne_of_none {H : Hp} {a b : Addr} {o : HO} (h : H a = some o) (h' : H b = none) : a ≠ b := by
  intro e; subst e; rw [h] at h'; cases h'

section
variable (P : Program) (w : World)
def ObjOk (H : Hp) (h : Heap) (a : Addr) : HO → Prop
  | .lst xs => xs.length ≤ sizeLine ∧ ∃ (its : List Value) (n : Nat), Vals xs its ∧ h.get? a = some { cls := .type "list", data := .seq its.toArray n }
  | .tup xs => xs.length ≤ sizeLine ∧ ∃ its : List Value, Vals xs its ∧ IsTup h a its.toArray
  | .dK kvs => kvs.length ≤ sizeLine ∧ (a == sysModules) = false ∧ ∃ vs, KV kvs vs ∧ h.DictOf (mixKind P w) a vs
  | .dT kvs => kvs.length ≤ sizeLine ∧ (a == sysModules) = false ∧ ∃ xs : List (List Key × Addr × Value),
      Paired (fun (p : List Key × V) (q : List Key × Addr × Value) => p.1 = q.1 ∧ H q.2.1 = some (.tup (p.1.map kV)) ∧ RelV p.2 q.2.2) kvs xs ∧
      ∃ o es ep, h.get? a = some o ∧ o.ExactDict ∧ o.data = .dict es ep ∧ es.toList = xs.map (entryOfKey (tupleKind (mixKind P w))) ∧ (xs.map (·.1)).Nodup
  | .set S n => h.SetOf (intKind P w) a S n
  | .ins C dx fs => H dx = some (.own a) ∧ fs.length ≤ 1000 ∧ dx ≠ a ∧ h.get? a = some (PySem.W.instObj C dx) ∧
      ∃ mA, h.Ns1 dx mA ∧ (∀ f, RelO (fs.lookup f) (mA f)) ∧ PySem.Within mA (fs.map (·.1))
  | .own _ => ∃ o, h.get? a = some o
  | .xd fs => ∃ mA, h.Ns1 a mA ∧ ∀ f, RelO (fs.lookup f) (mA f)
  | .rng lo hi => ∃ t u v, h.get? a = some { cls := .type "range", data := .fields #[.int lo t, .int hi u, .int 1 v] }
  | .frz o u => h.get? a = some o ∧ ObjOk H h a u
  | .tbl ps => h.get? a = some { cls := .none, data := .fields ps }
  | .met f x => h.get? a = some (PySem.W.methodObj (.ref f) (.ref x))
  | .ext φ => φ h ∧ (∃ o, h.get? a = some o) ∧ ∀ h1 h2 : Heap, φ h1 → (∀ o, h1.get? a = some o → h2.get? a = some o) → φ h2
/-- the abstract heap is held -/
def HOk (H : Hp) (h : Heap) : Prop := ∀ a o, H a = some o → ObjOk P w H h a o
end

section
variable {P : Program} {w : World} {H H' : Hp} {h h' : Heap} {a : Addr} {o : HO}
theorem ObjOk.lt (x : ObjOk P w H h a o) : a < h.objs.size := by
  cases o with
  | lst xs => obtain ⟨_, _, _, _, e⟩ := x; exact Heap.lt_size e
  | tup xs => obtain ⟨_, _, _, p⟩ := x; exact p.lt
  | dK kvs => obtain ⟨_, _, _, _, o, _, _, e, _⟩ := x; exact Heap.lt_size e
  | dT kvs => obtain ⟨_, _, _, _, o, _, _, e, _⟩ := x; exact Heap.lt_size e
  | set S n => obtain ⟨o, _, _, _, e, _⟩ := x; exact Heap.lt_size e
  | ins C dx fs => obtain ⟨_, _, _, e, _⟩ := x; exact Heap.lt_size e
  | own y => obtain ⟨_, e⟩ := x; exact Heap.lt_size e
  | xd fs => obtain ⟨_, ⟨_, _, _, e, _⟩, _⟩ := x; exact Heap.lt_size e
  | rng lo hi => obtain ⟨_, _, _, e⟩ := x; exact Heap.lt_size e
  | frz ob u => obtain ⟨e, _⟩ := x; exact Heap.lt_size e
  | tbl ps => exact Heap.lt_size (show h.get? a = some _ from x)
  | met f y => exact Heap.lt_size (show h.get? a = some _ from x)
  | ext φ => obtain ⟨_, ⟨_, e⟩, _⟩ := x; exact Heap.lt_size e
theorem Paired.mapP {α β : Type} {F G : α → β → Prop} : ∀ {l₁ : List α} {l₂ : List β}, Paired F l₁ l₂ → (∀ a b, F a b → G a b) → Paired G l₁ l₂
  | _, _, .nil, _ => .nil
  | _, _, .cons r t, f => .cons (f _ _ r) (Paired.mapP t f)
/-- what an object's description leans on: its own object, its own dict, the tuples -/
theorem ObjOk.stay (x : ObjOk P w H h a o) (k : ∀ b u, (b = a ∨ H b = some (.own a)) → h.get? b = some u → h'.get? b = some u)
    (ho : ∀ b, H b = some (.own a) → H' b = some (.own a)) (ht : ∀ b xs, H b = some (.tup xs) → H' b = some (.tup xs)) : ObjOk P w H' h' a o := by
  induction o with
  | lst xs => obtain ⟨z, its, n, r, e⟩ := x; exact ⟨z, its, n, r, k _ _ (.inl rfl) e⟩
  | tup xs => obtain ⟨z, its, r, ob, e, c⟩ := x; exact ⟨z, its, r, ob, k _ _ (.inl rfl) e, c⟩
  | dK kvs => obtain ⟨z, y, vs, r, ob, es, ep, e, c⟩ := x; exact ⟨z, y, vs, r, ob, es, ep, k _ _ (.inl rfl) e, c⟩
  | dT kvs =>
    obtain ⟨z, y, xs, r, ob, es, ep, e, c⟩ := x
    exact ⟨z, y, xs, Paired.mapP r fun p q z => ⟨z.1, ht _ _ z.2.1, z.2.2⟩, ob, es, ep, k _ _ (.inl rfl) e, c⟩
  | set S n => obtain ⟨ob, es, ep, t, e, c⟩ := x; exact ⟨ob, es, ep, t, k _ _ (.inl rfl) e, c⟩
  | ins C dx fs =>
    obtain ⟨d, z, ne, e, mA, ⟨od, es, ep, e2, c⟩, r⟩ := x
    exact ⟨ho _ d, z, ne, k _ _ (.inl rfl) e, mA, ⟨od, es, ep, k _ _ (.inr d) e2, c⟩, r⟩
  | own y => obtain ⟨ob, e⟩ := x; exact ⟨ob, k _ _ (.inl rfl) e⟩
  | xd fs => obtain ⟨mA, ⟨od, es, ep, e, c⟩, r⟩ := x; exact ⟨mA, ⟨od, es, ep, k _ _ (.inl rfl) e, c⟩, r⟩
  | rng lo hi => obtain ⟨t, u, v, e⟩ := x; exact ⟨t, u, v, k _ _ (.inl rfl) e⟩
  | frz ob u ih => obtain ⟨e, q⟩ := x; exact ⟨k _ _ (.inl rfl) e, ih q⟩
  | tbl ps =>
    have e : h.get? a = some { cls := .none, data := .fields ps } := x
    show h'.get? a = some { cls := .none, data := .fields ps }
    exact k a _ (.inl rfl) e
  | met f y =>
    have e : h.get? a = some (PySem.W.methodObj (.ref f) (.ref y)) := x
    show h'.get? a = some (PySem.W.methodObj (.ref f) (.ref y))
    exact k a _ (.inl rfl) e
  | ext φ => obtain ⟨p, ⟨o, e⟩, st⟩ := x; exact ⟨st _ _ p fun o q => k _ _ (.inl rfl) q, ⟨o, k _ _ (.inl rfl) e⟩, st⟩
theorem HOk.lt (x : HOk P w H h) (e : H a = some o) : a < h.objs.size := (x a o e).lt
theorem HOk.fresh (x : HOk P w H h) (e : h.objs.size ≤ a) : H a = none := by
  cases q : H a with
  | none => rfl
  | some u => exact absurd (Nat.lt_of_lt_of_le (x.lt q) e) (Nat.lt_irrefl _)
/-- every object of the heap is kept -/
theorem HOk.kept (x : HOk P w H h) (k : ∀ b u, h.get? b = some u → h'.get? b = some u) : HOk P w H h' := fun a o e =>
  (x a o e).stay (fun b u _ q => k b u q) (fun _ q => q) fun _ _ q => q
/-- a new object is laid and tracked -/
theorem HOk.laid (x : HOk P w H h) (k : ∀ b u, h.get? b = some u → h'.get? b = some u) (hp : h.objs.size ≤ a) (new : ObjOk P w (upd H a o) h' a o) : HOk P w (upd H a o) h' := fun b u e => by
  have hn := x.fresh hp
  by_cases hb : b = a
  · subst hb; rw [upd_same] at e; cases e; exact new
  · rw [upd_ne hb] at e
    exact (x b u e).stay (fun c v _ q => k c v q) (fun c q => by rw [upd_ne (ne_of_none q hn)]; exact q) fun c xs q => by rw [upd_ne (ne_of_none q hn)]; exact q
end

/-- what may be read as u: it is u, or a known u -/
def Rd (H : Hp) (a : Addr) (u : HO) : Prop := H a = some u ∨ ∃ o, H a = some (.frz o u)
theorem Rd.ok {P : Program} {w : World} {H : Hp} {h : Heap} {a : Addr} {u : HO} (r : Rd H a u) (x : HOk P w H h) : ObjOk P w H h a u := by
  rcases r with r | ⟨o, r⟩
  · exact x a u r
  · obtain ⟨_, q⟩ := x a _ r
    exact q
/-- what may be written -/
def Mut : Option HO → Prop
  | some (.lst _) => True
  | some (.dK _) => True
  | some (.dT _) => True
  | some (.set _ _) => True
  | some (.ins _ _ _) => True
  | some (.ext _) => True
  | _ => False
section
variable {P : Program} {w : World} {H : Hp} {h h' : Heap} {x e : Addr} {o' : HO}
/-- the object at e is changed: x itself, or the dict of the instance x -/
theorem HOk.write (ok : HOk P w H h) (mu : Mut (H x)) (he : e = x ∨ H e = some (.own x)) (k : ∀ b u, b ≠ e → h.get? b = some u → h'.get? b = some u) (heo : ∃ u, h'.get? e = some u)
    (new : ObjOk P w (upd H x o') h' x o') : HOk P w (upd H x o') h' := fun b u q => by
  have nown : ∀ c y, H c = some (.own y) → c ≠ x := fun c y r z => by subst z; rw [r] at mu; exact mu
  have ntup : ∀ c xs, H c = some (.tup xs) → c ≠ x := fun c xs r z => by subst z; rw [r] at mu; exact mu
  by_cases hb : b = x
  · subst hb; rw [upd_same] at q; cases q; exact new
  · rw [upd_ne hb] at q
    by_cases hbe : b = e
    · have q' : H b = some (.own x) := by
        rcases he with z | z
        · exact absurd (hbe.trans z) hb
        · rw [hbe]; exact z
      rw [q] at q'; cases q'
      obtain ⟨v, hv⟩ := heo
      exact ⟨v, by rw [hbe]; exact hv⟩
    · refine (ok b u q).stay (fun c v hc r => k c v ?_ r) (fun c r => by rw [upd_ne (nown c b r)]; exact r) fun c xs r => by rw [upd_ne (ntup c xs r)]; exact r
      rcases hc with rfl | hc
      · exact hbe
      · rintro rfl
        rcases he with z | z
        · exact nown c b hc z
        · rw [hc] at z; cases z; exact hb rfl
end

/-! ### kept unless tracked; of the frames at fs (the callers') the slots may change (an exception that passes writes there); of the records at ex (iterators) nothing is said -/
structure Un (fs ex : List Addr) (H H' : Hp) (h h' : Heap) : Prop where
  keep : ∀ b o, h.get? b = some o → H b = none → b ∉ fs → b ∉ ex → h'.get? b = some o
  slot : ∀ b o, h.get? b = some o → H b = none → b ∈ fs → b ∉ ex → ∃ sl, h'.get? b = some { o with slots := sl }
  free : ∀ b o, h.get? b = some o → H b = none → b ∉ ex → H' b = none
  there : ∀ b o, h.get? b = some o → b ∉ ex → ∃ o', h'.get? b = some o'
  tups : ∀ b xs, H b = some (.tup xs) → H' b = some (.tup xs)
  frzs : ∀ b o u, H b = some (.frz o u) → H' b = some (.frz o u)
  tbls : ∀ b ps, H b = some (.tbl ps) → ∃ more, H' b = some (.tbl (ps ++ more))
section
variable {fs fs' ex ex' : List Addr} {H H1 H2 : Hp} {h h1 h2 h' : Heap} {a x e : Addr} {o : HO}
theorem Un.any (u : Un fs ex H H1 h h1) {b : Addr} {ob : Obj} (q : h.get? b = some ob) (n : H b = none) (hx : b ∉ ex) : ∃ sl, h1.get? b = some { ob with slots := sl } := by
  by_cases hb : b ∈ fs
  · exact u.slot b ob q n hb hx
  · exact ⟨ob.slots, u.keep b ob q n hb hx⟩
theorem Un.kept (k : ∀ b u, h.get? b = some u → h'.get? b = some u) : Un fs ex H H h h' :=
  ⟨fun b ob q _ _ _ => k b ob q, fun b ob q _ _ _ => ⟨ob.slots, k b ob q⟩, fun _ _ _ n _ => n, fun b ob q _ => ⟨ob, k b ob q⟩, fun _ _ q => q, fun _ _ _ q => q, fun _ ps q => ⟨#[], by rw [q]; simp⟩⟩
theorem Un.refl : Un fs ex H H h h := Un.kept fun _ _ q => q
theorem Un.laid (k : ∀ b u, h.get? b = some u → h'.get? b = some u) (hp : h.objs.size ≤ a) (hn : H a = none) : Un fs ex H (upd H a o) h h' where
  keep := fun b u q _ _ _ => k b u q
  slot := fun b u q _ _ _ => ⟨u.slots, k b u q⟩
  free := fun b u q n _ => by rw [upd_ne (Nat.ne_of_lt (Nat.lt_of_lt_of_le (Heap.lt_size q) hp))]; exact n
  there := fun b u q _ => ⟨u, k b u q⟩
  tups := fun b xs q => by rw [upd_ne (ne_of_none q hn)]; exact q
  frzs := fun b u xs q => by rw [upd_ne (ne_of_none q hn)]; exact q
  tbls := fun b ps q => ⟨#[], by rw [upd_ne (ne_of_none q hn), q]; simp⟩
theorem Un.write (mu : Mut (H x)) (he : e = x ∨ H e = some (.own x)) (k : ∀ b u, b ≠ e → h.get? b = some u → h'.get? b = some u) (heo : ∃ u, h'.get? e = some u) : Un fs ex H (upd H x o) h h' := by
  have hx : ∀ b, H b = none → b ≠ x := fun b n z => by subst z; rw [n] at mu; exact mu
  have hb : ∀ b, H b = none → b ≠ e := fun b n z => by
    subst z
    rcases he with r | r
    · exact hx b n r
    · rw [n] at r; cases r
  have hm : ∀ b u, H b = some u → ¬ Mut (some u) → b ≠ x := fun b u q nm z => by subst z; rw [q] at mu; exact nm mu
  refine ⟨fun b u q n _ _ => k b u (hb b n) q, fun b u q n _ _ => ⟨u.slots, k b u (hb b n) q⟩, fun b u q n _ => by rw [upd_ne (hx b n)]; exact n, fun b u q _ => ?_,
    fun b xs q => by rw [upd_ne (hm b _ q fun z => z)]; exact q, fun b u xs q => by rw [upd_ne (hm b _ q fun z => z)]; exact q, fun b ps q => ⟨#[], by rw [upd_ne (hm b _ q fun z => z), q]; simp⟩⟩
  by_cases hbe : b = e
  · subst hbe; exact heo
  · exact ⟨u, k b u hbe q⟩
end

/-! ### the heap without what is tracked -/
def trk (h : Heap) (H : Hp) : List Addr := (List.range h.objs.size).filter fun a => (H a).isSome
def hidT (h : Heap) (H : Hp) : Heap := PySem.W.hideAll h (trk h H)
theorem hidT_size (h : Heap) (H : Hp) : (hidT h H).objs.size = h.objs.size := PySem.W.hideAll_size _ _
theorem hidT_get {h : Heap} {H : Hp} {b : Addr} {o : Obj} (e : h.get? b = some o) (n : H b = none) : (hidT h H).get? b = some o :=
  PySem.W.hideAll_get _ e fun hm => by
    have q : (H b).isSome = true := (List.mem_filter.mp hm).2
    rw [n] at q; simp at q
theorem of_hidT {h : Heap} {H : Hp} {b : Addr} {o : Obj} (e : (hidT h H).get? b = some o) : h.get? b = some o ∧ H b = none := by
  have e' : h.get? b = some o := PySem.W.of_hideAll (trk h H) e
  refine ⟨e', ?_⟩
  cases q : H b with
  | none => rfl
  | some x =>
    have hm : b ∈ trk h H := List.mem_filter.mpr ⟨List.mem_range.mpr (Heap.lt_size e'), by simp [q]⟩
    have z : (hidT h H).get? b = none := PySem.W.hideAll_none (trk h H) hm
    rw [z] at e; cases e

/-! ### OpenK's ledger, filled with every new object but one -/
end L2

namespace L2
open PySem PySem.Spec PyProof.Rows

/-- the module's facts, over the base: the heap at the law's entry without what is tracked there -/
structure Mod (K : PySem.W.Frag) (mg : Str → Option Value) (base : Heap) : Prop where
  kin : K.In base
  glob : base.Ns mainGlobals mg
  blt : ∃ mb, base.Ns builtinsNs mb ∧ ∀ x : Str, x ≠ "__name__" → mb x = bootBuiltins x
  nolimit : base.NoLimit

/-- the context: a def's body (or a comprehension's block) running. base: fixed through the whole law; s₀, H₀: the entry; outer: the frames whose slots others may change (a def's callers); stack: all frames that run;
   ex: iterators that were made ahead of the entry and are walked here (a comprehension's); fn: the names whose cells were made at the entry (a def: all; a comprehension's block: its own); calm: not within an except suite; pn: pins that every state bears; xe: what is wanted of an exception that leaves the code -/
structure Cx where
  prog : Program
  w : World
  K : PySem.W.Frag
  mg : Str → Option Value
  base : Heap
  A : Around
  N : List Str
  s₀ : Shared
  H₀ : Hp
  env : Env
  outer : List Env
  stack : List Env
  ex : List Addr
  fn : Str → Bool
  calm : Bool
  pn : List (Addr × Obj)
  xe : Value → Shared → Prop
/-- the callers' frames -/
def frs (l : List Env) : List Addr := l.filterMap (·.frame)
abbrev Cx.fs (X : Cx) : List Addr := frs X.outer

def Vis (sc : Scope) (x : Str) : Prop := sc.names.lookup x = some .local ∨ sc.names.lookup x = some .cell ∨ sc.names.lookup x = some .free
def Loc (sc : Scope) (x : Str) : Prop := sc.names.lookup x = some .local ∨ sc.names.lookup x = some .cell
def Look (env : Env) (h : Heap) (m : Str → Option Value) (x : Str) (u : Value) : Prop :=
  (env.kindOf x = some .local ∧ m x = some u) ∨ ((env.kindOf x = some .cell ∨ env.kindOf x = some .free) ∧ ∃ c, env.cells.lookup x = some c ∧ h.IsCell c (some u))

structure Cx.Ok (X : Cx) : Prop where
  mod : Mod X.K X.mg X.base
  kind : X.env.scope.kind = .function
  glob : X.env.globals = mainGlobals
  blt : X.env.builtins = builtinsNs
  above : X.s₀.heap.objs.size ≤ X.env.locals
  inj : ∀ x y c, X.env.cells.lookup x = some c → X.env.cells.lookup y = some c → x = y
  has : ∀ x, (X.env.kindOf x = some .cell ∨ X.env.kindOf x = some .free) → ∃ c, X.env.cells.lookup x = some c
  cab : ∀ x c, X.fn x = true → X.env.cells.lookup x = some c → X.s₀.heap.objs.size ≤ c
  hd : X.calm = true → X.A.handled = none
  frames : X.A.frames = some X.stack
  stk : X.stack = X.outer ∨ (X.stack = X.env :: X.outer ∧ X.env.frame = some X.env.locals)
  exf : ∀ b ∈ X.ex, b ≠ X.env.locals ∧ ∀ x c, X.env.cells.lookup x = some c → c ≠ b
  bs : ∀ b o, X.base.get? b = some o → X.s₀.heap.get? b = some o ∧ X.H₀ b = none
  bsz : X.base.objs.size ≤ X.s₀.heap.objs.size
  noex : ∀ b o, X.base.get? b = some o → b ∉ X.ex
  exfs : ∀ b ∈ X.ex, b ∉ X.fs
  funs : X.s₀.heap.FunFrames X.base X.outer
  frf : ∀ b ∈ X.fs, X.H₀ b = none

structure Inv (X : Cx) (pins : List (Addr × Obj)) (σ : List (Option V)) (H : Hp) (s : Shared) : Prop where
  ok : X.Ok
  os : s.os = X.s₀.os
  bare : AllBare s.gens
  base : Un X.fs X.ex X.H₀ H X.s₀.heap s.heap
  loc : ∃ m, s.heap.Ns X.env.locals m ∧ ∀ (i : Nat) (x : Str) (v : V), X.N[i]? = some x → σ[i]? = some (some v) → Vis X.env.scope x → ∃ u, RelV v u ∧ Look X.env s.heap m x u
  cell : ∀ x c, X.env.cells.lookup x = some c → ∃ v, s.heap.IsCell c v
  free : H X.env.locals = none
  freeC : ∀ x c, X.env.cells.lookup x = some c → H c = none
  pin : ∀ p ∈ X.pn ++ pins, s.heap.get? p.1 = some p.2 ∧ H p.1 = none ∧ p.1 ≠ X.env.locals ∧ p.1 ∉ X.fs ∧ ∀ v, p.2.data ≠ .cell v
  hok : HOk X.prog X.w H s.heap
  len : σ.length = X.N.length

section
variable {X : Cx} {pins : List (Addr × Obj)} {σ : List (Option V)} {H H' : Hp} {s : Shared} {h' : Heap}

theorem Cx.Ok.nofr (ok : X.Ok) {b : Addr} {o : Obj} (e : X.base.get? b = some o) : b ∉ X.fs := fun hb => by
  have := (ok.funs.mem hb).1
  rw [e] at this; cases this
theorem Inv.bs (I : Inv X pins σ H s) : ∀ b o, X.base.get? b = some o → s.heap.get? b = some o ∧ H b = none := fun b o e =>
  ⟨I.base.keep b o (I.ok.bs b o e).1 (I.ok.bs b o e).2 (I.ok.nofr e) (I.ok.noex b o e), I.base.free b o (I.ok.bs b o e).1 (I.ok.bs b o e).2 (I.ok.noex b o e)⟩
theorem Inv.bk (I : Inv X pins σ H s) : ∀ b o, X.base.get? b = some o → s.heap.get? b = some o := fun b o e => (I.bs b o e).1
theorem Inv.mod (I : Inv X pins σ H s) : Mod X.K X.mg X.base := I.ok.mod
theorem Inv.kIn (I : Inv X pins σ H s) : X.K.In s.heap := I.ok.mod.kin.keeps I.bk
theorem Inv.lt (I : Inv X pins σ H s) : X.env.locals < s.heap.objs.size := let ⟨_, hn, _⟩ := I.loc; hn.lt
theorem Inv.sz (I : Inv X pins σ H s) : X.s₀.heap.objs.size ≤ s.heap.objs.size := Nat.le_trans I.ok.above (Nat.le_of_lt I.lt)
theorem Inv.nofs (I : Inv X pins σ H s) {a : Addr} (h : s.heap.objs.size ≤ a) : a ∉ X.fs := fun hb => by
  obtain ⟨_, o, ho, _⟩ := I.ok.funs.mem hb
  exact absurd (Nat.lt_of_lt_of_le (Heap.lt_size ho) (Nat.le_trans I.sz h)) (Nat.lt_irrefl _)
theorem Inv.cne (I : Inv X pins σ H s) : ∀ x c, X.env.cells.lookup x = some c → c ≠ X.env.locals := fun x c e z => by
  obtain ⟨v, o, ho, hd⟩ := I.cell x c e
  obtain ⟨m, ⟨o', es, ep, ho', hd', _⟩, _⟩ := I.loc
  rw [z, ho'] at ho; cases ho; rw [hd'] at hd; cases hd
theorem Inv.funs (I : Inv X pins σ H s) : s.heap.FunFrames X.base X.outer := by
  have all : ∀ (l : List Env), (∀ b ∈ frs l, b ∈ X.fs) → X.s₀.heap.FunFrames X.base l → s.heap.FunFrames X.base l := by
    intro l
    induction l with
    | nil => intro _ _; trivial
    | cons env r ih =>
      intro hs hl
      obtain ⟨hk, ⟨L, o, hf, hn, ho, hd⟩, hr⟩ := hl
      have hL : L ∈ X.fs := hs L (by unfold frs; rw [List.filterMap_cons, hf]; exact List.mem_cons_self)
      obtain ⟨sl, e⟩ := I.base.slot L o ho (I.ok.frf L hL) hL fun z => I.ok.exfs L z hL
      exact ⟨hk, ⟨L, _, hf, hn, e, hd⟩, ih (fun b hb => hs b (by unfold frs; rw [List.filterMap_cons, hf]; exact List.mem_cons_of_mem _ hb)) hr⟩
  exact all X.outer (fun _ hb => hb) I.ok.funs

/-- the frames that run, for a call -/
theorem Inv.stack (I : Inv X pins σ H s) : s.heap.FunFrames X.base X.stack := by
  rcases I.ok.stk with e | ⟨e, hf⟩
  · rw [e]; exact I.funs
  · rw [e]
    obtain ⟨m, hn, _⟩ := I.loc
    refine .cons (by rw [I.ok.kind]; decide) hf hn ?_ I.funs
    exact Heap.get?_none_of_le (Nat.le_trans I.ok.bsz I.ok.above)
theorem Inv.stkSub (I : Inv X pins σ H s) : ∀ b ∈ frs X.stack, b ∈ X.env.locals :: X.fs := fun b hb => by
  rcases I.ok.stk with e | ⟨e, hf⟩
  · rw [e] at hb; exact List.mem_cons_of_mem _ hb
  · rw [e] at hb
    unfold frs at hb
    rw [List.filterMap_cons, hf] at hb
    exact hb
theorem Inv.stkFree (I : Inv X pins σ H s) : ∀ b ∈ frs X.stack, H b = none := fun b hb => by
  rcases List.mem_cons.mp (I.stkSub b hb) with e | hb
  · rw [e]; exact I.free
  · obtain ⟨_, o, ho, _⟩ := I.ok.funs.mem hb
    exact I.base.free b o ho (I.ok.frf b hb) fun z => I.ok.exfs b z hb

/-- THE STEP: the untracked objects but the frame and the records at ch are kept (the callers' frames up to slots), the frame's map is kept, the new abstract heap is held -/
theorem Inv.step {g' : Array GenState} {t' : Nat} {d' : Drawn} {ch : List Addr} (I : Inv X pins σ H s)
    (hch : ∀ b ∈ ch, (b ∈ X.ex ∨ X.s₀.heap.objs.size ≤ b) ∧ b ≠ X.env.locals ∧ (∀ x c, X.env.cells.lookup x = some c → c ≠ b) ∧ ∀ p ∈ X.pn ++ pins, p.1 ≠ b)
    (keep : ∀ b o, b ≠ X.env.locals → b ∉ X.fs → b ∉ ch → s.heap.get? b = some o → H b = none → h'.get? b = some o)
    (slot : ∀ b o, b ≠ X.env.locals → b ∈ X.fs → b ∉ ch → s.heap.get? b = some o → H b = none → ∃ sl, h'.get? b = some { o with slots := sl }) (free : ∀ b o, b ∉ ch → s.heap.get? b = some o → H b = none → H' b = none)
    (there : ∀ b o, b ∉ ch → s.heap.get? b = some o → ∃ o', h'.get? b = some o')
    (tups : ∀ b xs, H b = some (.tup xs) → H' b = some (.tup xs)) (frzs : ∀ b o u, H b = some (.frz o u) → H' b = some (.frz o u)) (tbls : ∀ b ps, H b = some (.tbl ps) → ∃ more, H' b = some (.tbl (ps ++ more)))
    (ns : ∀ m, s.heap.Ns X.env.locals m → h'.Ns X.env.locals m) (hok : HOk X.prog X.w H' h') (hg : AllBare g') :
    Inv X pins σ H' { s with heap := h', gens := g', drawn := d', toks := t' } := by
  have neL : ∀ b o, X.s₀.heap.get? b = some o → b ≠ X.env.locals := fun b o e => Nat.ne_of_lt (Nat.lt_of_lt_of_le (Heap.lt_size e) I.ok.above)
  have neC : ∀ b o, X.s₀.heap.get? b = some o → b ∉ X.ex → b ∉ ch := fun b o e hx hb => by
    rcases (hch b hb).1 with z | z
    · exact hx z
    · exact absurd (Nat.lt_of_lt_of_le (Heap.lt_size e) z) (Nat.lt_irrefl _)
  have cellK : ∀ x c, X.env.cells.lookup x = some c → ∀ v, s.heap.IsCell c v → h'.IsCell c v := fun x c e v ⟨o, ho, hd⟩ => by
    have nch : c ∉ ch := fun z => (hch c z).2.2.1 x c e rfl
    by_cases hc : c ∈ X.fs
    · obtain ⟨sl, q⟩ := slot c o (I.cne x c e) hc nch ho (I.freeC x c e)
      exact ⟨_, q, hd⟩
    · exact ⟨o, keep c o (I.cne x c e) hc nch ho (I.freeC x c e), hd⟩
  refine ⟨I.ok, I.os, hg, ⟨fun b o e n hb hx => ?_, fun b o e n hb hx => ?_, fun b o e n hx => ?_, fun b o e hx => ?_, fun b xs e => tups b xs (I.base.tups b xs e), fun b o xs e => frzs b o xs (I.base.frzs b o xs e), fun b ps e => ?_⟩, ?_, fun x c e => ?_, ?_, fun x c e => ?_, fun p hp => ?_, hok, I.len⟩
  · exact keep b o (neL b o e) hb (neC b o e hx) (I.base.keep b o e n hb hx) (I.base.free b o e n hx)
  · obtain ⟨sl, e1⟩ := I.base.slot b o e n hb hx
    obtain ⟨sl', e2⟩ := slot b _ (neL b o e) hb (neC b o e hx) e1 (I.base.free b o e n hx)
    exact ⟨sl', e2⟩
  · obtain ⟨o', e1⟩ := I.base.there b o e hx
    exact free b o' (neC b o e hx) e1 (I.base.free b o e n hx)
  · obtain ⟨o', e1⟩ := I.base.there b o e hx
    exact there b o' (neC b o e hx) e1
  · obtain ⟨m1, e1⟩ := I.base.tbls b ps e
    obtain ⟨m2, e2⟩ := tbls b _ e1
    exact ⟨m1 ++ m2, by rw [e2, Array.append_assoc]⟩
  · obtain ⟨m, hn, hl⟩ := I.loc
    refine ⟨m, ns m hn, fun i x v e1 e2 e3 => ?_⟩
    obtain ⟨u, r, l⟩ := hl i x v e1 e2 e3
    refine ⟨u, r, ?_⟩
    rcases l with l | ⟨k, c, e, z⟩
    · exact .inl l
    · exact .inr ⟨k, c, e, cellK x c e _ z⟩
  · obtain ⟨v, z⟩ := I.cell x c e
    exact ⟨v, cellK x c e v z⟩
  · obtain ⟨m, ⟨o, _, _, ho, _⟩, _⟩ := I.loc
    exact free _ o (fun z => (hch _ z).2.1 rfl) ho I.free
  · obtain ⟨v, o, ho, hd⟩ := I.cell x c e
    exact free c o (fun z => (hch c z).2.2.1 x c e rfl) ho (I.freeC x c e)
  · obtain ⟨e, n, ne, nf, d⟩ := I.pin p hp
    have nch : p.1 ∉ ch := fun z => (hch p.1 z).2.2.2 p hp rfl
    exact ⟨keep p.1 p.2 ne nf nch e n, free p.1 p.2 nch e n, ne, nf, d⟩
/-- .. where the frame's own object is kept too -/
theorem Inv.un {t' : Nat} (I : Inv X pins σ H s) (u : Un X.fs [] H H' s.heap h') (hok : HOk X.prog X.w H' h') : Inv X pins σ H' { s with heap := h', toks := t' } := by
  obtain ⟨m, ⟨o, es, ep, ho, r⟩, _⟩ := id I.loc
  obtain ⟨sl, hL⟩ := u.any ho I.free (by simp)
  exact I.step (g' := s.gens) (d' := s.drawn) (ch := []) (fun _ z => nomatch z) (fun b o _ hb _ e n => u.keep b o e n hb (by simp)) (fun b o _ hb _ e n => u.slot b o e n hb (by simp)) (fun b o _ e n => u.free b o e n (by simp)) (fun b o _ e => u.there b o e (by simp)) u.tups u.frzs u.tbls (fun m' hm => by
    obtain ⟨o', es', ep', ho', r'⟩ := hm
    rw [ho] at ho'; cases ho'
    exact ⟨_, es', ep', hL, r'⟩) hok I.bare
/-- behind a call (or a comprehension's block): the slots of this frame may have changed too, the records at ch may have turned -/
theorem Inv.call {g' : Array GenState} {t' : Nat} {d' : Drawn} {ch : List Addr} (I : Inv X pins σ H s) (u : Un (frs X.stack) ch H H' s.heap h') (hok : HOk X.prog X.w H' h') (hg : AllBare g')
    (hch : ∀ b ∈ ch, (b ∈ X.ex ∨ X.s₀.heap.objs.size ≤ b) ∧ b ≠ X.env.locals ∧ (∀ x c, X.env.cells.lookup x = some c → c ≠ b) ∧ ∀ p ∈ X.pn ++ pins, p.1 ≠ b) :
    Inv X pins σ H' { s with heap := h', gens := g', drawn := d', toks := t' } := by
  obtain ⟨m, ⟨o, es, ep, ho, r⟩, _⟩ := id I.loc
  obtain ⟨sl, hL⟩ := u.any ho I.free fun z => (hch _ z).2.1 rfl
  exact I.step (ch := ch) hch (fun b o hL hb hc e n => u.keep b o e n (fun z => (List.mem_cons.mp (I.stkSub b z)).elim hL hb) hc) (fun b o _ _ hc e n => u.any e n hc) (fun b o hc e n => u.free b o e n hc) (fun b o hc e => u.there b o e hc) u.tups u.frzs u.tbls (fun m' hm => by
    obtain ⟨o', es', ep', ho', r'⟩ := hm
    rw [ho] at ho'; cases ho'
    exact ⟨_, es', ep', hL, r'⟩) hok hg
/-- an untracked record of ours (an iterator) has turned -/
theorem Inv.turned {t' : Nat} {it : Addr} (I : Inv X pins σ H s) (k : ∀ b o, b ≠ it → s.heap.get? b = some o → h'.get? b = some o) (hn : H it = none) (hL : it ≠ X.env.locals)
    (h1 : it ∈ X.ex ∨ X.s₀.heap.objs.size ≤ it) (h2 : ∀ x c, X.env.cells.lookup x = some c → c ≠ it) (h3 : ∀ p ∈ X.pn ++ pins, p.1 ≠ it) : Inv X pins σ H { s with heap := h', toks := t' } := by
  have nit : ∀ b u, H b = some u → b ≠ it := fun b u e z => by rw [z, hn] at e; cases e
  refine I.step (g' := s.gens) (d' := s.drawn) (ch := [it]) (fun b hb => ?_) (fun b o _ _ hc e _ => k b o (fun z => hc (by simp [z])) e) (fun b o _ _ hc e _ => ⟨o.slots, k b o (fun z => hc (by simp [z])) e⟩) (fun _ _ _ _ n => n)
    (fun b o hc e => ⟨o, k b o (fun z => hc (by simp [z])) e⟩) (fun _ _ e => e) (fun _ _ _ e => e) (fun b ps e => ⟨#[], by rw [e]; simp⟩) (fun m hm => ?_) (fun b u e => ?_) I.bare
  · have e : b = it := by simpa using hb
    subst e
    exact ⟨h1, hL, h2, h3⟩
  · obtain ⟨o, es, ep, ho, r⟩ := hm
    exact ⟨o, es, ep, k _ o (Ne.symm hL) ho, r⟩
  · refine (I.hok b u e).stay (fun c v hc q => k c v ?_ q) (fun _ q => q) fun _ _ q => q
    rcases hc with z | z
    · rw [z]; exact nit b u e
    · exact nit c _ z
theorem Inv.tok (I : Inv X pins σ H s) (t : Nat) : Inv X pins σ H { s with toks := t } := I.un (h' := s.heap) (t' := t) Un.refl I.hok
/-- all objects kept -/
theorem Inv.kept {t' : Nat} (I : Inv X pins σ H s) (k : ∀ b u, s.heap.get? b = some u → h'.get? b = some u) : Inv X pins σ H { s with heap := h', toks := t' } := I.un (Un.kept k) (I.hok.kept k)
/-- a new object laid and tracked -/
theorem Inv.laid {a : Addr} {o : HO} {t' : Nat} (I : Inv X pins σ H s) (k : ∀ b u, s.heap.get? b = some u → h'.get? b = some u) (hp : s.heap.objs.size ≤ a) (new : ObjOk X.prog X.w (upd H a o) h' a o) :
    Inv X pins σ (upd H a o) { s with heap := h', toks := t' } := I.un (Un.laid k hp (I.hok.fresh hp)) (I.hok.laid k hp new)
/-- an object written -/
theorem Inv.write {x e : Addr} {o : HO} {t' : Nat} (I : Inv X pins σ H s) (mu : Mut (H x)) (he : e = x ∨ H e = some (.own x)) (k : ∀ b u, b ≠ e → s.heap.get? b = some u → h'.get? b = some u) (heo : ∃ u, h'.get? e = some u)
    (new : ObjOk X.prog X.w (upd H x o) h' x o) : Inv X pins σ (upd H x o) { s with heap := h', toks := t' } := I.un (Un.write mu he k heo) (I.hok.write mu he k heo new)
theorem Inv.pins_of {pins' : List (Addr × Obj)} (I : Inv X pins σ H s) (h : ∀ p ∈ pins', s.heap.get? p.1 = some p.2 ∧ H p.1 = none ∧ p.1 ≠ X.env.locals ∧ p.1 ∉ X.fs ∧ ∀ v, p.2.data ≠ .cell v) : Inv X pins' σ H s :=
  ⟨I.ok, I.os, I.bare, I.base, I.loc, I.cell, I.free, I.freeC, fun p hp => (List.mem_append.mp hp).elim (fun z => I.pin p (List.mem_append_left _ z)) (h p), I.hok, I.len⟩

theorem nodup_ix {N : List Str} (hN : N.Nodup) {i j : Nat} {x : Str} (a : N[i]? = some x) (b : N[j]? = some x) : i = j := by
  obtain ⟨h1, e1⟩ := List.getElem?_eq_some_iff.mp a
  obtain ⟨h2, e2⟩ := List.getElem?_eq_some_iff.mp b
  exact (List.getElem_inj hN).mp (e1.trans e2.symm)

/-- a name is stored; what changed -/
theorem store_ok2 {M : Model} {A : Around} {E : Value → Shared → Prop} {i : Nat} {x : Str} {v : V} {u : Value} {Q : Unit → Shared → Prop} (I : Inv X pins σ H s) (hN : X.N.Nodup) (hi : X.N[i]? = some x) (hx : Loc X.env.scope x) (r : RelV v u)
    (h : ∀ s', Inv X pins (σ.set i (some v)) H s' → (∃ a, Heap.SameBut a s.heap s'.heap ∧ (a = X.env.locals ∨ X.env.cells.lookup x = some a)) → Q () s') (hf : X.fn x = true ∨ X.env.scope.names.lookup x = some .local := by first | exact .inl rfl | exact .inr rfl | assumption) : wpAny M A (storeName X.env x u) Q E s := by
  obtain ⟨m, hn, hl⟩ := id I.loc
  have hcls : (X.env.scope.kind == .class || (X.env.scope.kind == .module && X.env.locals != X.env.globals)) = false := by rw [I.ok.kind]; rfl
  have hiσ : i < σ.length := by rw [I.len]; exact (List.getElem?_eq_some_iff.mp hi).1
  have cne := I.cne
  have tracked : ∀ {a : Addr} {h' : Heap}, (∃ o, s.heap.get? a = some o ∧ H a = none) → Heap.SameBut a s.heap h' → HOk X.prog X.w H h' := fun {a h'} ha hs b ob e => by
    obtain ⟨_, _, hfree⟩ := ha
    refine (I.hok b ob e).stay (fun c w' hc q => (hs.2 c ?_).trans q) (fun _ q => q) fun _ _ q => q
    rintro rfl
    rcases hc with rfl | hc
    · rw [hfree] at e; cases e
    · rw [hfree] at hc; cases hc
  rcases hx with hk | hk
  · refine wpAny_storeName_local hk hn (fun h' hn' hs => ?_) hcls
    obtain ⟨oL, _, _, hoL, _⟩ := id hn
    refine h _ ⟨I.ok, I.os, I.bare, ⟨fun b o e n hb hx => ?_, fun b o e n hb hx => ?_, I.base.free, fun b o e hx => ?_, I.base.tups, I.base.frzs, I.base.tbls⟩, ⟨_, hn', fun j y v' e1 e2 e3 => ?_⟩, fun y c e => ?_, I.free, I.freeC, fun p hp => ?_, tracked ⟨oL, hoL, I.free⟩ hs, by simpa using I.len⟩ ⟨_, hs, .inl rfl⟩
    · exact (hs.2 b (Nat.ne_of_lt (Nat.lt_of_lt_of_le (Heap.lt_size e) I.ok.above))).trans (I.base.keep b o e n hb hx)
    · obtain ⟨sl, e1⟩ := I.base.slot b o e n hb hx
      exact ⟨sl, (hs.2 b (Nat.ne_of_lt (Nat.lt_of_lt_of_le (Heap.lt_size e) I.ok.above))).trans e1⟩
    · obtain ⟨o', e1⟩ := I.base.there b o e hx
      exact ⟨o', (hs.2 b (Nat.ne_of_lt (Nat.lt_of_lt_of_le (Heap.lt_size e) I.ok.above))).trans e1⟩
    · by_cases hj : j = i
      · subst hj
        rw [hi] at e1; cases e1
        rw [List.getElem?_set_self hiσ] at e2
        cases e2
        exact ⟨u, r, .inl ⟨hk, by simp⟩⟩
      · rw [List.getElem?_set_ne (Ne.symm hj)] at e2
        obtain ⟨u', r', q⟩ := hl j y v' e1 e2 e3
        refine ⟨u', r', ?_⟩
        rcases q with ⟨k, e⟩ | ⟨k, c, e, z⟩
        · refine .inl ⟨k, ?_⟩
          have : y ≠ x := fun e => hj (nodup_ix hN e1 (e ▸ hi))
          simp [this, e]
        · exact .inr ⟨k, c, e, z.sameBut hs (cne y c e)⟩
    · obtain ⟨w', z⟩ := I.cell y c e
      exact ⟨w', z.sameBut hs (cne y c e)⟩
    · obtain ⟨e, n, ne, nf, d⟩ := I.pin p hp
      exact ⟨(hs.2 p.1 ne).trans e, n, ne, nf, d⟩
  · have hfn : X.fn x = true := by
      rcases hf with z | z
      · exact z
      · rw [z] at hk; cases hk
    obtain ⟨c, hc⟩ := I.ok.has x (.inl hk)
    obtain ⟨w', z⟩ := I.cell x c hc
    refine wpAny_storeName_cell I.ok.kind hk hc z (fun h' hc' hs => ?_)
    obtain ⟨oc, hoc, hocd⟩ := id z
    refine h { s with heap := h' } ⟨I.ok, I.os, I.bare, ⟨fun b o e n hb hx => ?_, fun b o e n hb hx => ?_, I.base.free, fun b o e hx => ?_, I.base.tups, I.base.frzs, I.base.tbls⟩, ⟨m, hn.sameBut hs (Ne.symm (cne x c hc)), fun j y v' e1 e2 e3 => ?_⟩, fun y c' e => ?_, I.free, I.freeC, fun p hp => ?_, tracked ⟨oc, hoc, I.freeC x c hc⟩ hs, by simpa using I.len⟩ ⟨c, hs, .inr hc⟩
    · exact (hs.2 b (Nat.ne_of_lt (Nat.lt_of_lt_of_le (Heap.lt_size e) (I.ok.cab x c hfn hc)))).trans (I.base.keep b o e n hb hx)
    · obtain ⟨sl, e1⟩ := I.base.slot b o e n hb hx
      exact ⟨sl, (hs.2 b (Nat.ne_of_lt (Nat.lt_of_lt_of_le (Heap.lt_size e) (I.ok.cab x c hfn hc)))).trans e1⟩
    · obtain ⟨o', e1⟩ := I.base.there b o e hx
      exact ⟨o', (hs.2 b (Nat.ne_of_lt (Nat.lt_of_lt_of_le (Heap.lt_size e) (I.ok.cab x c hfn hc)))).trans e1⟩
    · by_cases hj : j = i
      · subst hj
        rw [hi] at e1; cases e1
        rw [List.getElem?_set_self hiσ] at e2
        cases e2
        exact ⟨u, r, .inr ⟨.inl hk, c, hc, hc'⟩⟩
      · rw [List.getElem?_set_ne (Ne.symm hj)] at e2
        obtain ⟨u', r', q⟩ := hl j y v' e1 e2 e3
        refine ⟨u', r', ?_⟩
        rcases q with q | ⟨k, c', e, z'⟩
        · exact .inl q
        · refine .inr ⟨k, c', e, z'.sameBut hs ?_⟩
          rintro rfl
          exact hj (nodup_ix hN e1 (I.ok.inj _ _ _ e hc ▸ hi))
    · by_cases hcc : c' = c
      · subst hcc; exact ⟨_, hc'⟩
      · obtain ⟨w2, z2⟩ := I.cell y c' e
        exact ⟨w2, z2.sameBut hs hcc⟩
    · obtain ⟨e, n, ne, nf, d⟩ := I.pin p hp
      refine ⟨(hs.2 p.1 ?_).trans e, n, ne, nf, d⟩
      intro q
      rw [q, hoc] at e
      have q' : oc = p.2 := Option.some.inj e
      exact d w' (by rw [← q']; exact hocd)
theorem store_ok {M : Model} {A : Around} {E : Value → Shared → Prop} {i : Nat} {x : Str} {v : V} {u : Value} {Q : Unit → Shared → Prop} (I : Inv X pins σ H s) (hN : X.N.Nodup) (hi : X.N[i]? = some x) (hx : Loc X.env.scope x) (r : RelV v u)
    (h : ∀ s', Inv X pins (σ.set i (some v)) H s' → Q () s') (hf : X.fn x = true ∨ X.env.scope.names.lookup x = some .local := by first | exact .inl rfl | exact .inr rfl | assumption) : wpAny M A (storeName X.env x u) Q E s :=
  store_ok2 I hN hi hx r (fun s' I' _ => h s' I') hf
end

/-! ### the judgements -/
/-- an exception: its class, its own dict's address (where it has one), the abstract heap behind it -/
abbrev XK := Value → Option Addr → Hp → Prop
abbrev St := List (Option V)
abbrev VK := V → Hp → Prop
/-- an expression's reading; a test's; an argument list's -/
abbrev TE := St → Hp → VK → Prop
abbrev TT := St → Hp → (Bool → Hp → Prop) → Prop
abbrev TA := St → Hp → (List V → Hp → Prop) → Prop
/-- what is wanted behind a statement -/
structure Ends where
  nx : St → Hp → Prop
  rt : VK
  bk : St → Hp → Prop := fun _ _ => False
  ct : St → Hp → Prop := fun _ _ => False
abbrev TS := Ends → St → Hp → Prop

def EP (X : Cx) (pins : List (Addr × Obj)) (σ : St) (Q : VK) (u : Value) (s' : Shared) : Prop := ∃ v H', Inv X pins σ H' s' ∧ RelV v u ∧ Q v H'
def TP (X : Cx) (pins : List (Addr × Obj)) (σ : St) (Q : Bool → Hp → Prop) (b : Bool) (s' : Shared) : Prop := ∃ H', Inv X pins σ H' s' ∧ Q b H'
def AP (X : Cx) (pins : List (Addr × Obj)) (σ : St) (Q : List V → Hp → Prop) (us : List Value) (s' : Shared) : Prop := ∃ vs H', Inv X pins σ H' s' ∧ Vals vs us ∧ Q vs H'
def SP (X : Cx) (pins : List (Addr × Obj)) (D : Ends) (f : Flow) (s' : Shared) : Prop :=
  match f with
  | .next => ∃ σ' H', Inv X pins σ' H' s' ∧ D.nx σ' H'
  | .brk => ∃ σ' H', Inv X pins σ' H' s' ∧ D.bk σ' H'
  | .cont => ∃ σ' H', Inv X pins σ' H' s' ∧ D.ct σ' H'
  | .ret u => ∃ v σ' H', Inv X pins σ' H' s' ∧ RelV v u ∧ D.rt v H'

def PE (X : Cx) (e : Expr) (t : TE) : Prop :=
  ∀ (pins : List (Addr × Obj)) (s : Shared) (σ : St) (H : Hp) (Q : VK), Inv X pins σ H s → t σ H Q → wpAny (model X.prog X.w) X.A (eval e X.env) (EP X pins σ Q) X.xe s
def PT (X : Cx) (e : Expr) (t : TT) : Prop :=
  ∀ (pins : List (Addr × Obj)) (s : Shared) (σ : St) (H : Hp) (Q : Bool → Hp → Prop), Inv X pins σ H s → t σ H Q → wpAny (model X.prog X.w) X.A (isTrue e X.env (eval e X.env)) (TP X pins σ Q) X.xe s
/-- a test whatever its 'whole' is (and, or) -/
def PW (X : Cx) (e : Expr) (t : TT) : Prop :=
  ∀ (whole : Sem Value) (pins : List (Addr × Obj)) (s : Shared) (σ : St) (H : Hp) (Q : Bool → Hp → Prop), Inv X pins σ H s → t σ H Q → wpAny (model X.prog X.w) X.A (isTrue e X.env whole) (TP X pins σ Q) X.xe s
theorem PW.pt {X : Cx} {e : Expr} {t : TT} (h : PW X e t) : PT X e t := h _
/-- an argument list (no star), from the left -/
def PA (X : Cx) (es : List Expr) (t : TA) : Prop :=
  ∀ (pos : Pos) (pins : List (Addr × Obj)) (s : Shared) (σ : St) (H : Hp) (Q : List V → Hp → Prop), Inv X pins σ H s → t σ H Q → wpAny (model X.prog X.w) X.A (spliced (backTo pos (starEach es X.env))) (AP X pins σ Q) X.xe s
def PS (X : Cx) (st : Stmt) (t : TS) : Prop :=
  ∀ (pins : List (Addr × Obj)) (s : Shared) (σ : St) (H : Hp) (D : Ends), Inv X pins σ H s → t D σ H → wpAny (model X.prog X.w) X.A (exec st X.env) (SP X pins D) X.xe s
def PSs (X : Cx) (st : List Stmt) (t : TS) : Prop :=
  ∀ (pins : List (Addr × Obj)) (s : Shared) (σ : St) (H : Hp) (D : Ends), Inv X pins σ H s → t D σ H → wpAny (model X.prog X.w) X.A (execs st X.env) (SP X pins D) X.xe s
/-- weaken the end -/
theorem thn {α : Type} {t : Sem α} {Q Q' : α → Shared → Prop} {M : Model} {A : Around} {E : Value → Shared → Prop} {s : Shared} (h : wpAny M A t Q E s) (hQ : ∀ a s, Q a s → Q' a s) : wpAny M A t Q' E s := wpAny_mono h hQ fun _ _ x => x
end L2

namespace L2
open PySem PySem.Spec PyProof.Rows
section
variable {X : Cx}

/-- two expressions in a row -/
theorem bin {a b : Expr} {ta tb : TE} (ha : PE X a ta) (hb : PE X b tb) {pins : List (Addr × Obj)} {s : Shared} {σ : St} {H : Hp} {R : V → V → Hp → Prop} (I : Inv X pins σ H s) (h : ta σ H fun x H1 => tb σ H1 fun y H2 => R x y H2)
    {α : Type} {Q : α → Shared → Prop} {f : Value → Value → Sem α}
    (hf : ∀ v u s2 x y H2, Inv X pins σ H2 s2 → RelV x v → RelV y u → R x y H2 → wpAny (model X.prog X.w) X.A (f v u) Q X.xe s2) :
    wpAny (model X.prog X.w) X.A (eval a X.env) (fun v s₁ => wpAny (model X.prog X.w) X.A (eval b X.env) (fun u s₂ => wpAny (model X.prog X.w) X.A (f v u) Q X.xe s₂) X.xe s₁) X.xe s := by
  refine thn (ha pins s σ H _ I h) fun v s1 ⟨x, H1, I1, r1, q1⟩ => ?_
  refine thn (hb pins s1 σ H1 _ I1 q1) fun u s2 ⟨y, H2, I2, r2, q2⟩ => ?_
  exact hf v u s2 x y H2 I2 r1 r2 q2

/-! ### names and constants -/
def tVar (i : Nat) : TE := fun σ H Q => ∃ v, σ[i]? = some (some v) ∧ Q v H
def tC (v : V) : TE := fun _ H Q => Q v H
theorem pe_var {i : Nat} {x : Str} {pos : Pos} (hN : X.N[i]? = some x) (hv : Vis X.env.scope x) (hd : (x == ("__debug__" : Str)) = false := by decide) (hcd : (x == ("__classdict__" : Str)) = false := by decide) : PE X (.Name x pos) (tVar i) := by
  intro pins s σ H Q I h
  obtain ⟨v, e, h⟩ := h
  obtain ⟨m, hn, hl⟩ := I.loc
  obtain ⟨u, r, l⟩ := hl i x v hN e hv
  have fin : EP X pins σ Q u s := ⟨v, H, I, r, h⟩
  rcases l with ⟨hk, hm⟩ | ⟨hk, c, hc, hcell⟩
  · exact wpAny_Name (wpAny_loadName_local I.ok.kind hk hn hm fin) hd
  · rcases hk with hk | hk
    · exact wpAny_Name (wpAny_loadName_cell I.ok.kind hk hc hcell fin) hd
    · exact wpAny_Name (wpAny_loadName_free I.ok.kind hk hc hcell fin hcd) hd
theorem pe_int {i j pos} : PE X (.Constant (.int i) j pos) (tC (.int i)) := fun _ _ _ H _ I h => wpAny_Constant_int ⟨.int i, H, I.tok _, ⟨_, rfl⟩, h⟩
theorem pe_bl {b j pos} : PE X (.Constant (.bool b) j pos) (tC (.bl b)) := fun _ _ _ H _ I h => Constant_bool ⟨.bl b, H, I, rfl, h⟩
theorem pe_non {j pos} : PE X (.Constant .none j pos) (tC .non) := fun _ _ _ H _ I h => Constant_none ⟨.non, H, I, rfl, h⟩
theorem pe_str {x j pos} : PE X (.Constant (.str x) j pos) (tC (.str x)) := fun _ _ _ H _ I h => Calls.Constant_str ⟨.str x, H, I.tok _, ⟨_, rfl⟩, h⟩

/-- a global name of the def -/
def Gl (X : Cx) (x : Str) : Prop := X.env.kindOf x = some .globalImplicit
theorem ld_glob {E : Value → Shared → Prop} {pins : List (Addr × Obj)} {s : Shared} {σ : St} {H : Hp} {x : Str} {u : Value} {pos : Pos} {Q : Value → Shared → Prop} (I : Inv X pins σ H s) (hg : Gl X x) (hm : X.mg x = some u) (h : Q u s)
    (hd : (x == ("__debug__" : Str)) = false := by decide) : wpAny (model X.prog X.w) X.A (eval (.Name x pos) X.env) Q E s :=
  Calls.Name_function_global I.ok.kind hg (Calls.loadGlobal_global (by rw [I.ok.glob]; exact I.mod.glob.keeps I.bk) hm h) hd
theorem ld_blt {E : Value → Shared → Prop} {pins : List (Addr × Obj)} {s : Shared} {σ : St} {H : Hp} {x : Str} {u : Value} {pos : Pos} {Q : Value → Shared → Prop} (I : Inv X pins σ H s) (hg : Gl X x) (hm : X.mg x = none) (hv : bootBuiltins x = some u) (h : Q u s)
    (hn : x ≠ "__name__" := by decide) (hd : (x == ("__debug__" : Str)) = false := by decide) : wpAny (model X.prog X.w) X.A (eval (.Name x pos) X.env) Q E s := by
  obtain ⟨mb, h1, h2⟩ := I.mod.blt
  exact Calls.Name_function_global I.ok.kind hg (Calls.loadGlobal_builtin (by rw [I.ok.glob]; exact I.mod.glob.keeps I.bk) hm (by rw [I.ok.blt]; exact h1.keeps I.bk) ((h2 x hn).trans hv) h) hd
/-- a module's constant, a class, a function, as a value -/
theorem pe_glob {x : Str} {v : V} {u : Value} {pos : Pos} (hg : Gl X x) (hm : X.mg x = some u) (r : RelV v u) (hd : (x == ("__debug__" : Str)) = false := by decide) : PE X (.Name x pos) (tC v) :=
  fun _ _ _ H _ I h => ld_glob I hg hm ⟨v, H, I, r, h⟩ hd
theorem pe_bltn {x : Str} {v : V} {u : Value} {pos : Pos} (hg : Gl X x) (hm : X.mg x = none) (hv : bootBuiltins x = some u) (r : RelV v u) (hn : x ≠ "__name__" := by decide) (hd : (x == ("__debug__" : Str)) = false := by decide) : PE X (.Name x pos) (tC v) :=
  fun _ _ _ H _ I h => ld_blt I hg hm hv ⟨v, H, I, r, h⟩ hn hd

/-! ### arithmetic -/
variable {a b : Expr} {ta tb : TE} {pos : Pos}
/-! ### comparisons -/
def PC (X : Cx) (op : CmpOp) (a b : Expr) (t : TE) : Prop :=
  ∀ (pins : List (Addr × Obj)) (s : Shared) (σ : St) (H : Hp) (Q : VK), Inv X pins σ H s → t σ H Q →
    wpAny (model X.prog X.w) X.A (eval a X.env) (fun v s₁ => wpAny (model X.prog X.w) X.A (eval b X.env) (fun u s₂ => wpAny (model X.prog X.w) X.A (compareOp op v u) (EP X pins σ Q) X.xe s₂) X.xe s₁) X.xe s
/-- a comparison as a value, as a test -/
def tB (t : TE) : TT := fun σ H Q => t σ H fun x H1 => ∃ c, x = .bl c ∧ Q c H1
theorem pt_cmp {op : CmpOp} {t : TE} (h : PC X op a b t) (h1 : behindInMarks op b = false := by first | exact nobehind _ (by decide) (by decide) | rfl) : PT X (.Compare a [op] [b] pos) (tB t) := by
  intro pins s σ H Q I hw
  refine wpAny_isTrue_Compare1 (thn (h pins s σ H _ I hw) fun v s1 h1 => thn h1 fun u s2 h2 => thn h2 fun c s3 ⟨x, H1, I1, r1, q1⟩ => ?_) h1
  obtain ⟨d, rfl, q⟩ := q1
  cases r1
  exact wpAny_truthy_bool ⟨H1, I1, q⟩
/-- an expression whose value is a bool, as a test -/
theorem pt_val {e : Expr} {t : TE} (h : PE X e t) (he : ∀ whole, isTrue e X.env whole = (do let v ← whole; standAt e.pos; holding [v] (truthy v)) := by intro _; rfl) : PT X e (tB t) := by
  intro pins s σ H Q I hw
  refine isTrue_plain (thn (h pins s σ H _ I hw) fun v s1 ⟨x, H1, I1, r1, q1⟩ => ?_) (he _)
  obtain ⟨d, rfl, q⟩ := q1
  cases r1
  exact wpAny_truthy_bool ⟨H1, I1, q⟩

/-! ### and, or, not -/
variable {tA tB' : TT} {rest : List Expr}
def tAnd (t u : TT) : TT := fun σ H Q => t σ H fun c H1 => if c = true then u σ H1 Q else Q false H1
def tOr (t u : TT) : TT := fun σ H Q => t σ H fun c H1 => if c = true then Q true H1 else u σ H1 Q
def tNot (t : TT) : TT := fun σ H Q => t σ H fun c H1 => Q (!c) H1
theorem pw_and1 (ha : PT X a tA) : PW X (.BoolOp .And [a] pos) tA := by
  intro wh pins s σ H Q I h
  refine isTrue_and (thn (ha pins s σ H Q I h) fun c s1 e => ?_)
  cases c with
  | true => exact isTrue_and_nil e
  | false => exact e
theorem pw_or1 (ha : PT X a tA) : PW X (.BoolOp .Or [a] pos) tA := by
  intro wh pins s σ H Q I h
  refine isTrue_or (thn (ha pins s σ H Q I h) fun c s1 e => ?_)
  cases c with
  | false => exact isTrue_or_nil e
  | true => exact e
theorem pw_and (ha : PT X a tA) (hb : PW X (.BoolOp .And (b :: rest) pos) tB') : PW X (.BoolOp .And (a :: b :: rest) pos) (tAnd tA tB') := by
  intro wh pins s σ H Q I h
  refine isTrue_and (thn (ha pins s σ H _ I h) fun c s1 ⟨H1, I1, q1⟩ => ?_)
  cases c with
  | true => exact hb wh pins s1 σ H1 Q I1 q1
  | false => exact ⟨H1, I1, q1⟩
theorem pw_or (ha : PT X a tA) (hb : PW X (.BoolOp .Or (b :: rest) pos) tB') : PW X (.BoolOp .Or (a :: b :: rest) pos) (tOr tA tB') := by
  intro wh pins s σ H Q I h
  refine isTrue_or (thn (ha pins s σ H _ I h) fun c s1 ⟨H1, I1, q1⟩ => ?_)
  cases c with
  | true => exact ⟨H1, I1, q1⟩
  | false => exact hb wh pins s1 σ H1 Q I1 q1
theorem pt_not (ha : PT X a tA) : PT X (.UnaryOp .Not a pos) (tNot tA) := by
  intro pins s σ H Q I h
  exact isTrue_not (ha pins s σ H (fun c H1 => Q (!c) H1) I h)
/-- .. as values (bools) -/
def tAndV (ta tb : TE) : TE := fun σ H Q => ta σ H fun x H1 => ∃ c, x = .bl c ∧ if c = true then tb σ H1 Q else Q (.bl false) H1
def tNotV (ta : TE) : TE := fun σ H Q => ta σ H fun x H1 => ∃ c, x = .bl c ∧ Q (.bl (!c)) H1
theorem pe_one {op} {t : TE} (h : PE X a t) : PE X (.BoolOp op [a] pos) t := fun pins s σ H Q I hw => BoolOp_one (h pins s σ H Q I hw)
theorem pe_and (ha : PE X a ta) (hb : PE X (.BoolOp .And (b :: rest) pos) tb) : PE X (.BoolOp .And (a :: b :: rest) pos) (tAndV ta tb) := by
  intro pins s σ H Q I h
  refine BoolOp_and (thn (ha pins s σ H _ I h) fun v s1 ⟨x, H1, I1, r1, q1⟩ => ?_)
  obtain ⟨c, rfl, q1⟩ := q1
  cases r1
  refine wpAny_truthy_bool ?_
  cases c with
  | true => exact hb pins s1 σ H1 Q I1 q1
  | false => exact ⟨.bl false, H1, I1, rfl, q1⟩
theorem pe_not (ha : PE X a ta) : PE X (.UnaryOp .Not a pos) (tNotV ta) := by
  intro pins s σ H Q I h
  refine UnaryOp_ (thn (ha pins s σ H _ I h) fun v s1 ⟨x, H1, I1, r1, q1⟩ => ?_)
  obtain ⟨c, rfl, q1⟩ := q1
  cases r1
  exact not_of (wpAny_truthy_bool ⟨.bl (!c), H1, I1, rfl, q1⟩)
end
end L2

namespace L2
open PySem PySem.Spec PyProof.Rows

/-! ### a list, a tuple that is read: tracked, frozen, or an object of the module -/
def SqL (K : PySem.W.Frag) (H : Hp) (a : Addr) (xs : List V) : Prop :=
  Rd H a (.lst xs) ∨
    ∃ (o : Obj) (its : Array Value) (n : Nat), K.lookup a = some o ∧ o.cls = .type "list" ∧ o.dict = none ∧ o.data = .seq its n ∧ its.size ≤ sizeLine ∧ Vals xs its.toList
def SqT (K : PySem.W.Frag) (H : Hp) (a : Addr) (xs : List V) : Prop :=
  Rd H a (.tup xs) ∨
    ∃ (o : Obj) (its : Array Value) (n : Nat), K.lookup a = some o ∧ o.cls = .type "tuple" ∧ o.data = .seq its n ∧ its.size ≤ sizeLine ∧ Vals xs its.toList
def absV : Value → Option V
  | .none => some .non
  | .bool b => some (.bl b)
  | .int i _ => some (.int i)
  | .str x _ => some (.str x)
  | .bytes b _ => some (.byt b)
  | .float b _ => some (.flt b)
  | .ref a => some (.ref a)
  | .type n => some (.ty n)
  | _ => none
theorem RelV.abs {x : V} {u : Value} (r : RelV x u) : absV u = some x := by
  cases x with
  | non => cases r; rfl
  | bl _ => cases r; rfl
  | int _ => obtain ⟨t, rfl⟩ := r; rfl
  | str _ => obtain ⟨t, rfl⟩ := r; rfl
  | byt _ => obtain ⟨t, rfl⟩ := r; rfl
  | flt _ => obtain ⟨t, rfl⟩ := r; rfl
  | ref _ => cases r; rfl
  | ty _ => cases r; rfl
theorem RelV.inj {x y : V} {u : Value} (r : RelV x u) (q : RelV y u) : x = y := Option.some.inj (r.abs.symm.trans q.abs)
theorem Vals.inj : ∀ {xs ys : List V} {us : List Value}, Vals xs us → Vals ys us → xs = ys
  | _, _, _, .nil, .nil => rfl
  | _, _, _, .cons r t, .cons r' t' => by rw [r.inj r', Vals.inj t t']
section
variable {X : Cx} {pins : List (Addr × Obj)} {σ : St} {H : Hp} {s : Shared} {a : Addr} {xs ys : List V}
theorem SqL.of {K : PySem.W.Frag} (h : H a = some (.lst xs)) : SqL K H a xs := .inl (.inl h)
theorem SqT.of {K : PySem.W.Frag} (h : H a = some (.tup xs)) : SqT K H a xs := .inl (.inl h)
theorem Inv.list (I : Inv X pins σ H s) (h : SqL X.K H a xs) : ∃ its : List Value, Vals xs its ∧ PlainL s.heap a its.toArray ∧ xs.length ≤ sizeLine := by
  rcases h with h | ⟨o, its, n, hk, hc, hd, hs, hz, r⟩
  · obtain ⟨z, its, n, r, e⟩ := h.ok I.hok
    exact ⟨its, r, ⟨_, n, e, rfl, rfl, rfl⟩, z⟩
  · refine ⟨its.toList, r, ⟨o, n, I.kIn a o hk, hc, hd, by simpa using hs⟩, ?_⟩
    have e := r.length
    simp only [Array.length_toList] at e
    omega
theorem Inv.tuple (I : Inv X pins σ H s) (h : SqT X.K H a xs) : ∃ its : List Value, Vals xs its ∧ IsTup s.heap a its.toArray ∧ xs.length ≤ sizeLine := by
  rcases h with h | ⟨o, its, n, hk, hc, hs, hz, r⟩
  · obtain ⟨z, its, r, p⟩ := h.ok I.hok
    exact ⟨its, r, p, z⟩
  · refine ⟨its.toList, r, ⟨o, I.kIn a o hk, hc, n, by simpa using hs⟩, ?_⟩
    have e := r.length
    simp only [Array.length_toList] at e
    omega
theorem Inv.list_inj (I : Inv X pins σ H s) (h : SqL X.K H a xs) (h' : SqL X.K H a ys) : xs = ys := by
  obtain ⟨its, r, ⟨o, n, e, _, _, d⟩, _⟩ := I.list h
  obtain ⟨its', r', ⟨o', n', e', _, _, d'⟩, _⟩ := I.list h'
  rw [e] at e'; cases e'
  rw [d] at d'
  injection d' with d1 _
  have : its = its' := by simpa using congrArg Array.toList d1
  subst this
  exact r.inj r'
theorem Inv.tuple_inj (I : Inv X pins σ H s) (h : SqT X.K H a xs) (h' : SqT X.K H a ys) : xs = ys := by
  obtain ⟨its, r, ⟨o, e, _, n, d⟩, _⟩ := I.tuple h
  obtain ⟨its', r', ⟨o', e', _, n', d'⟩, _⟩ := I.tuple h'
  rw [e] at e'; cases e'
  rw [d] at d'
  injection d' with d1 _
  have : its = its' := by simpa using congrArg Array.toList d1
  subst this
  exact r.inj r'
end

/-! ### another wish about exceptions -/
abbrev Cx.wish (X : Cx) (E : Value → Shared → Prop) : Cx := { X with xe := E }
/-- no exception leaves -/
abbrev Cx.nox (X : Cx) : Cx := X.wish fun _ _ => False
theorem Cx.Ok.wish {X : Cx} (ok : X.Ok) (E : Value → Shared → Prop) : (X.wish E).Ok :=
  ⟨ok.mod, ok.kind, ok.glob, ok.blt, ok.above, ok.inj, ok.has, ok.cab, ok.hd, ok.frames, ok.stk, ok.exf, ok.bs, ok.bsz, ok.noex, ok.exfs, ok.funs, ok.frf⟩
theorem Cx.Ok.unwish {X : Cx} {E : Value → Shared → Prop} (ok : (X.wish E).Ok) : X.Ok :=
  ⟨ok.mod, ok.kind, ok.glob, ok.blt, ok.above, ok.inj, ok.has, ok.cab, ok.hd, ok.frames, ok.stk, ok.exf, ok.bs, ok.bsz, ok.noex, ok.exfs, ok.funs, ok.frf⟩
section
variable {X : Cx} {pins : List (Addr × Obj)} {σ : St} {H : Hp} {s : Shared} {E : Value → Shared → Prop}
theorem Inv.wish (I : Inv X pins σ H s) (E : Value → Shared → Prop) : Inv (X.wish E) pins σ H s := ⟨I.ok.wish E, I.os, I.bare, I.base, I.loc, I.cell, I.free, I.freeC, I.pin, I.hok, I.len⟩
theorem Inv.unwish (I : Inv (X.wish E) pins σ H s) : Inv X pins σ H s := ⟨I.ok.unwish, I.os, I.bare, I.base, I.loc, I.cell, I.free, I.freeC, I.pin, I.hok, I.len⟩
theorem SP.unwish {D : Ends} {f : Flow} {s' : Shared} (h : SP (X.wish E) pins D f s') : SP X pins D f s' := by
  cases f with
  | next => obtain ⟨σ', H', I, q⟩ := h; exact ⟨σ', H', I.unwish, q⟩
  | brk => obtain ⟨σ', H', I, q⟩ := h; exact ⟨σ', H', I.unwish, q⟩
  | cont => obtain ⟨σ', H', I, q⟩ := h; exact ⟨σ', H', I.unwish, q⟩
  | ret u => obtain ⟨v, σ', H', I, r, q⟩ := h; exact ⟨v, σ', H', I.unwish, r, q⟩
theorem PSs.nox {st : List Stmt} {t : TS} (h : PSs X.nox st t) : PSs X st t := fun pins s σ H D I hw =>
  wpAny_mono (h pins s σ H D (I.wish _) hw) (fun _ _ q => q.unwish) fun _ _ z => False.elim z
end

/-! ### blocks and small statements -/
section
variable {X : Cx} {st : Stmt} {rest : List Stmt} {t u : TS} {e : Expr} {te : TE} {pos : Pos}
def tNext : TS := fun D σ H => D.nx σ H
def tSeq (t u : TS) : TS := fun D σ H => t { D with nx := u D } σ H
theorem pss_nil : PSs X [] tNext := fun _ _ σ H _ I h => wpAny_execs_nil ⟨σ, H, I, h⟩
theorem pss_cons (h1 : PS X st t) (h2 : PSs X rest u) : PSs X (st :: rest) (tSeq t u) := by
  intro pins s σ H D I h
  refine wpAny_execs_cons (thn (h1 pins s σ H { D with nx := u D } I h) fun f s1 q => ?_)
  cases f with
  | next =>
    obtain ⟨σ', H', I', q⟩ := q
    exact h2 pins s1 σ' H' D I' q
  | ret v => exact q
  | brk => exact q
  | cont => exact q
theorem pss_one (h1 : PS X st t) : PSs X [st] t := by
  intro pins s σ H D I h
  refine wpAny_execs_cons (thn (h1 pins s σ H D I h) fun f s1 q => ?_)
  cases f with
  | next => exact wpAny_execs_nil q
  | ret v => exact q
  | brk => exact q
  | cont => exact q
def tBreak : TS := fun D σ H => D.bk σ H
theorem ps_break : PS X (.Break pos) tBreak := fun _ _ σ H _ I h => wpAny_Break ⟨σ, H, I, h⟩
/-- in a def's body nothing is shown -/
theorem Inv.quiet {pins : List (Addr × Obj)} {σ : St} {H : Hp} {s : Shared} (I : Inv X pins σ H s) : interactive X.env = false := by simp [interactive, I.ok.kind]
/-- an expression whose value is dropped -/
def tDrop (te : TE) : TS := fun D σ H => te σ H fun _ H1 => D.nx σ H1
theorem ps_expr (he : PE X e te) (hs : swapsWith e none pos.line X.env = pure false := by rfl) : PS X (.Expr e pos) (tDrop te) := by
  intro pins s σ H D I h
  exact wpAny_Expr_any (thn (he pins s σ H _ I h) fun v s1 ⟨x, H1, I1, r1, q1⟩ => ⟨σ, H1, I1, q1⟩) I.quiet hs
def tRet (te : TE) : TS := fun D σ H => te σ H D.rt
theorem ps_ret (he : PE X e te) : PS X (.Return (some e) pos) (tRet te) := by
  intro pins s σ H D I h
  exact wpAny_Return_some (thn (he pins s σ H _ I h) fun v s1 ⟨x, H1, I1, r1, q1⟩ => ⟨x, σ, H1, I1, r1, q1⟩)
def tRetN : TS := fun D _ H => D.rt .non H
theorem ps_retN : PS X (.Return none pos) tRetN := fun _ _ σ H _ I h => wpAny_Return_none ⟨.non, σ, H, I, rfl, h⟩
def tIfS (c : TT) (t u : TS) : TS := fun D σ H => c σ H fun b H1 => if b = true then t D σ H1 else u D σ H1
theorem ps_if {c : Expr} {a b : List Stmt} {tc : TT} (hc : PT X c tc) (ha : PSs X a t) (hb : PSs X b u) : PS X (.If c a b pos) (tIfS tc t u) := by
  intro pins s σ H D I h
  refine wpAny_If (thn (hc pins s σ H _ I h) fun d s1 ⟨H1, I1, q1⟩ => ?_)
  cases d with
  | true => exact ha pins s1 σ H1 D I1 q1
  | false => exact hb pins s1 σ H1 D I1 q1
end

/-! ### targets -/
abbrev TG := V → St → Hp → (St → Hp → Prop) → Prop
abbrev TGs := List V → St → Hp → (St → Hp → Prop) → Prop
def PG (X : Cx) (target : Expr) (t : TG) : Prop :=
  ∀ (pins : List (Addr × Obj)) (s : Shared) (σ : St) (H : Hp) (v : V) (u : Value) (Q : St → Hp → Prop), Inv X pins σ H s → RelV v u → t v σ H Q →
    wpAny (model X.prog X.w) X.A (assign target X.env u) (fun _ s' => ∃ σ' H', Inv X pins σ' H' s' ∧ Q σ' H') X.xe s
/-- several targets, one after another -/
def PGs (X : Cx) (ts : List Expr) (t : TGs) : Prop :=
  ∀ (pins : List (Addr × Obj)) (s : Shared) (σ : St) (H : Hp) (vs : List V) (us : List Value) (Q : St → Hp → Prop), Inv X pins σ H s → Vals vs us → t vs σ H Q →
    wpAny (model X.prog X.w) X.A (assignInOrder ((assignEach ts X.env).map (·.2)) us) (fun _ s' => ∃ σ' H', Inv X pins σ' H' s' ∧ Q σ' H') X.xe s
/-- o[i] = v, by values -/
abbrev TSet := V → V → V → Hp → (Hp → Prop) → Prop
def PSet (X : Cx) (t : TSet) : Prop :=
  ∀ (pins : List (Addr × Obj)) (s : Shared) (σ : St) (H : Hp) (o i v : V) (ov iv u : Value) (Q : Hp → Prop), Inv X pins σ H s → RelV o ov → RelV i iv → RelV v u → t o i v H Q →
    wpAny (model X.prog X.w) X.A (setItem ov iv u) (fun _ s' => ∃ H', Inv X pins σ H' s' ∧ Q H') X.xe s
section
variable {X : Cx} {pos : Pos}
def gName (i : Nat) : TG := fun v σ H Q => Q (σ.set i (some v)) H
theorem pg_name {i : Nat} {x : Str} (hN : X.N.Nodup) (hi : X.N[i]? = some x) (hx : Loc X.env.scope x) (hf : X.fn x = true ∨ X.env.scope.names.lookup x = some .local := by first | exact .inl rfl | exact .inr rfl | assumption) : PG X (.Name x pos) (gName i) := by
  intro pins s σ H v u Q I r h
  exact wpAny_assign_Name (store_ok I hN hi hx r (fun s' I' => ⟨_, H, I', h⟩) hf)
def gNil : TGs := fun vs σ H Q => vs = [] ∧ Q σ H
def gCons (t : TG) (u : TGs) : TGs := fun vs σ H Q => ∃ v r, vs = v :: r ∧ t v σ H fun σ' H' => u r σ' H' Q
theorem pgs_nil : PGs X [] gNil := by
  intro pins s σ H vs us Q I r h
  obtain ⟨e, h⟩ := h
  subst e
  cases r
  exact assignInOrder_nil ⟨σ, H, I, h⟩
theorem pgs_cons {e : Expr} {es : List Expr} {t : TG} {u : TGs} (h1 : PG X e t) (h2 : PGs X es u)
    (hs : (assignEach (e :: es) X.env).map (·.2) = assign e X.env :: (assignEach es X.env).map (·.2) := by rfl) : PGs X (e :: es) (gCons t u) := by
  intro pins s σ H vs us Q I r h
  obtain ⟨v, vr, e1, h⟩ := h
  subst e1
  cases r with
  | cons r rr =>
    rw [hs]
    refine assignInOrder_cons (thn (h1 pins s σ H _ _ _ I r h) fun _ s1 ⟨σ1, H1, I1, q1⟩ => ?_)
    exact h2 pins s1 σ1 H1 _ _ Q I1 rr q1
/-- (a, b, ..) = a tuple of that length -/
def gTup (K : PySem.W.Frag) (n : Nat) (t : TGs) : TG := fun v σ H Q => ∃ a xs, v = .ref a ∧ SqT K H a xs ∧ xs.length = n ∧ t xs σ H Q
theorem pg_tup {es : List Expr} {k : Nat} {t : TGs} {n : Nat} (hc : X.calm = true) (h : PGs X es t)
    (hn : (assignEach es X.env).length = n := by rfl) (hst : (assignEach es X.env).findIdx? (·.1) = none := by rfl) : PG X (.Tuple es k pos) (gTup X.K n t) := by
  intro pins s σ H v u Q I r hw
  obtain ⟨a, xs, e1, hq, hl, hw⟩ := hw
  subst e1
  cases r
  obtain ⟨its, rv, ht, hz⟩ := I.tuple hq
  refine assign_Tuple_tuple (I.ok.hd hc) ht (by simp [hn, ← hl, rv.length]) hst fun h' hx => ?_
  have I1 : Inv X pins σ H { s with heap := h' } := I.kept (t' := s.toks) fun b o e => hx b o (Nat.ne_of_lt (Heap.lt_size e)) e
  exact h pins _ σ H xs _ Q I1 (by simpa using rv) hw
/-- o[i] = .. -/
def gSub (to ti : TE) (t : TSet) : TG := fun v σ H Q => to σ H fun o H1 => ti σ H1 fun i H2 => t o i v H2 fun H3 => Q σ H3
theorem pg_sub {o i : Expr} {to ti : TE} {t : TSet} (ho : PE X o to) (hi : PE X i ti) (hs : PSet X t)
    (ha : ∀ v, assign (.Subscript o i pos) X.env v = (do
      let ov ← holding [v] (eval o X.env)
      let iv ← holding [v, ov] (eval i X.env)
      standAt pos
      holding [v, ov, iv] (setItem ov iv v)
      release [v, ov, iv] []) := by intro _; rfl) : PG X (.Subscript o i pos) (gSub to ti t) := by
  intro pins s σ H v u Q I r h
  rw [ha]
  refine wpAny_bind (wpAny_holding (thn (ho pins s σ H _ I h) fun ov s1 ⟨x, H1, I1, r1, q1⟩ => ?_))
  refine wpAny_bind (wpAny_holding (thn (hi pins s1 σ H1 _ I1 q1) fun iv s2 ⟨y, H2, I2, r2, q2⟩ => ?_))
  refine wpAny_bind (wpAny_standAt (wpAny_bind (wpAny_holding (thn (hs pins s2 σ H2 x y v ov iv u _ I2 r1 r2 r q2) fun _ s3 ⟨H3, I3, q3⟩ => ?_))))
  exact wpAny_release ⟨σ, H3, I3, q3⟩
/-- target = value -/
def tAsg (te : TE) (g : TG) : TS := fun D σ H => te σ H fun x H1 => g x σ H1 D.nx
theorem ps_asg {tg e : Expr} {te : TE} {g : TG} (he : PE X e te) (hg : PG X tg g) (hs : swapsWithSole [tg] e pos.line X.env = pure false := by rfl) (hw : swappedStores [tg] e X.env = pure none := by rfl)
    (h1 : (assignEach [tg] X.env).map (·.2) = [assign tg X.env] := by rfl) : PS X (.Assign [tg] e pos) (tAsg te g) := by
  intro pins s σ H D I h
  refine wpAny_Assign_stores (thn (he pins s σ H _ I h) fun v s1 ⟨x, H1, I1, r1, q1⟩ => ?_) hs hw
  rw [h1]
  exact thn (hg pins s1 σ H1 x v _ I1 r1 q1) fun _ s2 q => q
/-- name = value -/
theorem ps_set {i : Nat} {x : Str} {e : Expr} {te : TE} {pos' : Pos} (hN : X.N.Nodup) (hi : X.N[i]? = some x) (hx : Loc X.env.scope x) (he : PE X e te) (hs : swapsWith e (some (.Name x pos')) pos.line X.env = pure false := by rfl) (hf : X.fn x = true ∨ X.env.scope.names.lookup x = some .local := by first | exact .inl rfl | exact .inr rfl | assumption) :
    PS X (.Assign [.Name x pos'] e pos) (tAsg te (gName i)) := by
  intro pins s σ H D I h
  refine wpAny_Assign_Name (thn (he pins s σ H _ I h) fun v s1 ⟨y, H1, I1, r1, q1⟩ => ?_) hs
  exact store_ok I1 hN hi hx r1 (fun s2 I2 => ⟨_, H1, I2, q1⟩) hf
end

/-! ### while -/
section
variable {X : Cx} {pos : Pos}
end

/-! ### what a loop or a comprehension walks -/
/-- at turn i: it yields x (the heap may grow), or it stops -/
structure It where
  go : Nat → Hp → Prop
  yld : Nat → Hp → V → Hp → Prop
  stop : Nat → Hp → Prop
/-- the iterator's own objects may turn: they are not the frame's, not pinned, younger than the entry (or a comprehension's own) -/
def FpOk (X : Cx) (pins : List (Addr × Obj)) (H : Hp) (b : Addr) : Prop :=
  H b = none ∧ b ≠ X.env.locals ∧ b ∉ X.fs ∧ (b ∈ X.ex ∨ X.s₀.heap.objs.size ≤ b) ∧ (∀ x c, X.env.cells.lookup x = some c → c ≠ b) ∧ ∀ p ∈ X.pn ++ pins, p.1 ≠ b
theorem Inv.fpOk {X : Cx} {pins : List (Addr × Obj)} {σ : St} {H H' : Hp} {s : Shared} {b : Addr} (I : Inv X pins σ H s) (hb : s.heap.objs.size ≤ b) (hn : H' b = none) : FpOk X pins H' b := by
  refine ⟨hn, Nat.ne_of_gt (Nat.lt_of_lt_of_le I.lt hb), I.nofs hb, .inr (Nat.le_trans I.sz hb), fun x c e z => ?_, fun p hp z => ?_⟩
  · obtain ⟨v, q⟩ := I.cell x c e
    exact absurd (Nat.lt_of_lt_of_le q.lt (by rw [z]; exact hb)) (Nat.lt_irrefl _)
  · exact absurd (Nat.lt_of_lt_of_le (Heap.lt_size (I.pin p hp).1) (by rw [z]; exact hb)) (Nat.lt_irrefl _)
/-- what is handled stands with no context -/
def HandQ (X : Cx) (s : Shared) : Prop := ∃ (ea : Addr) (o : Obj) (vs : Array Value), X.A.handled = some (.ref ea) ∧ s.heap.get? ea = some o ∧ o.data = .fields vs ∧ vs[2]? = some .none
/-- where an iterator may end: nothing is handled; hb: or what is handled has no context -/
def EndQ (hb : Bool) (X : Cx) (s : Shared) : Prop := X.A.handled = none ∨ (hb = true ∧ HandQ X s)
theorem EndQ.none {X : Cx} {s : Shared} (h : EndQ false X s) : X.A.handled = Option.none := by
  rcases h with h | ⟨z, _⟩
  · exact h
  · cases z
structure Turn (P : Program) (w : World) (K : PySem.W.Frag) (tg : Expr) (J : It) (fp : List Addr) (it : Addr) (tn : Nat → Heap → Prop) (hb : Bool := false) : Prop where
  mem : it ∈ fp
  obj : ∀ i h, tn i h → ∀ b ∈ fp, ∃ o, h.get? b = some o ∧ ∀ v, o.data ≠ .cell v
  keep : ∀ i h h', tn i h → (∀ b ∈ fp, ∀ o, h.get? b = some o → h'.get? b = some o) → tn i h'
  item : ∀ (X : Cx), X.prog = P → X.w = w → X.K = K → ∀ (s : Shared), EndQ hb X s → ∀ (i : Nat) (pins : List (Addr × Obj)) (σ : St) (H : Hp) (E : Value → Shared → Prop), Inv X pins σ H s → (∀ b ∈ fp, FpOk X pins H b) → tn i s.heap → J.go i H →
    wpAny (model P w) X.A (pyNext (.ref it)) (fun r s1 => ∃ u, r = some u ∧
      wpAny (model P w) X.A (letOwnedTupleGo tg (.ref it) u) (fun _ s2 => ∃ x H', Inv X pins σ H' s2 ∧ RelV x u ∧ J.yld i H x H' ∧ tn (i + 1) s2.heap ∧ ∀ b ∈ fp, H' b = none) E s1) E s
  done : ∀ (X : Cx), X.prog = P → X.w = w → X.K = K → ∀ (s : Shared), EndQ hb X s → ∀ (i : Nat) (pins : List (Addr × Obj)) (σ : St) (H : Hp) (E : Value → Shared → Prop), Inv X pins σ H s → (∀ b ∈ fp, FpOk X pins H b) → tn i s.heap → J.stop i H →
    wpAny (model P w) X.A (pyNext (.ref it)) (fun r s1 => r = none ∧ Inv X pins σ H s1) E s
  self : ∀ (A : Around) (i : Nat) (s : Shared) (Q : Value → Shared → Prop) (E : Value → Shared → Prop), tn i s.heap → Q (.ref it) s → wpAny (model P w) A (pyIter (.ref it)) Q E s
abbrev TI := St → Hp → (It → Hp → Prop) → Prop
/-- an iterator has come -/
def PIE (X : Cx) (pins : List (Addr × Obj)) (σ : St) (tg : Expr) (R : It → Hp → Prop) (hb : Bool) (itv : Value) (s2 : Shared) : Prop :=
  ∃ (it : Addr) (fp : List Addr) (tn : Nat → Heap → Prop) (J : It) (H' : Hp), itv = .ref it ∧ Inv X pins σ H' s2 ∧ Turn X.prog X.w X.K tg J fp it tn hb ∧ tn 0 s2.heap ∧ (∀ b ∈ fp, FpOk X pins H' b) ∧ R J H'
def PI (X : Cx) (tg iter : Expr) (wi : TI) (hb : Bool := false) : Prop :=
  ∀ (pins : List (Addr × Obj)) (s : Shared) (σ : St) (H : Hp) (R : It → Hp → Prop), Inv X pins σ H s → wi σ H R →
    wpAny (model X.prog X.w) X.A (eval iter X.env) (fun v s1 => wpAny (model X.prog X.w) X.A (pyIter v) (PIE X pins σ tg R hb) X.xe s1) X.xe s

/-- the step ahead of the store is nothing for an iterator that keeps no tuple -/
theorem go_of {M : Model} {A : Around} {E : Value → Shared → Prop} {s : Shared} {tg : Expr} {it : Addr} {u : Value} {o : Obj} {n : String} {vs : Array Value} {Q : Unit → Shared → Prop} (ho : s.heap.get? it = some o) (hc : o.cls = .type n) (hd : o.data = .fields vs)
    (hn : ["enumerate", "zip", "dict_itemiterator", "dict_reverseitemiterator", "odict_iterator", "itertools.zip_longest", "itertools.pairwise"].contains n = false) (hQ : Q () s) : wpAny M A (letOwnedTupleGo tg (.ref it) u) Q E s := by
  unfold letOwnedTupleGo
  cases tg <;> first
    | exact wpAny_pure hQ
    | (cases u <;> first
        | exact wpAny_pure hQ
        | (refine wpAny_bind (wpAny_load ho ?_)
           rw [hc, hd]
           show wpAny M A (if (["enumerate", "zip", "dict_itemiterator", "dict_reverseitemiterator", "odict_iterator", "itertools.zip_longest", "itertools.pairwise"].contains n && vs[0]? == some (rawInt _)) = true then _ else _) Q E s
           rw [if_neg (by intro h; rw [hn, Bool.false_and] at h; cases h)]
           exact wpAny_pure hQ))

/-- the list at a, as it stands at each turn (a loop may append to it) -/
def Itl (K : PySem.W.Frag) (a : Addr) : It :=
  ⟨fun i H => ∃ xs x, SqL K H a xs ∧ xs[i]? = some x, fun i H x H' => H' = H ∧ ∀ xs, SqL K H a xs → xs[i]? = some x, fun i H => ∃ xs, SqL K H a xs ∧ xs.length ≤ i⟩
def Itt (K : PySem.W.Frag) (a : Addr) : It :=
  ⟨fun i H => ∃ xs x, SqT K H a xs ∧ xs[i]? = some x, fun i H x H' => H' = H ∧ ∀ xs, SqT K H a xs → xs[i]? = some x, fun i H => ∃ xs, SqT K H a xs ∧ xs.length ≤ i⟩
/-- lo, lo + 1, .. (n of them) -/
def Itr (lo : Int) (n : Nat) : It := ⟨fun i _ => i < n, fun i H x H' => H' = H ∧ x = .int (lo + i), fun i _ => n ≤ i⟩
theorem turn_list {P : Program} {w : World} {K : PySem.W.Frag} {tg : Expr} (a it : Addr) : Turn P w K tg (Itl K a) [it] it (fun i h => h.IsListIter it a i) where
  mem := by simp
  obj := fun i h st b hb => by
    have e : b = it := by simpa using hb
    subst e
    obtain ⟨o, e, c, d⟩ := st
    exact ⟨o, e, fun v z => by rw [d] at z; cases z⟩
  keep := fun i h h' st k => st.at fun o e => k it (by simp) o e
  item := by
    intro X hP hw hK s hc i pins σ H E I hf st hg
    subst hP hw hK
    obtain ⟨xs, x, hq, hx⟩ := hg
    obtain ⟨its, rv, p, hz⟩ := I.list hq
    obtain ⟨u, hu, ru⟩ := rv.get hx
    obtain ⟨f0, f1, f2, f3, f4, f5⟩ := hf it (by simp)
    refine wpAny_pyNext_list_item st p.isList (x := u) (by simpa using hu) fun h' st' sb => ?_
    have I1 : Inv X pins σ H { s with heap := h' } := I.turned (t' := s.toks) (fun b o hb e => (sb.2 b hb).trans e) f0 f1 f3 f4 f5
    obtain ⟨o, e, c, d⟩ := id st'
    exact ⟨u, rfl, go_of (s := { s with heap := h' }) e c d (by decide) ⟨x, H, I1, ru, ⟨rfl, fun ys hy => by rw [I.list_inj hy hq]; exact hx⟩, st', fun b hb => (hf b hb).1⟩⟩
  done := by
    intro X hP hw hK s hc i pins σ H E I hf st hg
    subst hP hw hK
    obtain ⟨xs, hq, hx⟩ := hg
    obtain ⟨its, rv, p, hz⟩ := I.list hq
    obtain ⟨f0, f1, f2, f3, f4, f5⟩ := hf it (by simp)
    have hl := rv.length
    exact wpAny_pyNext_list_end hc.none st p.isList (by simp; omega) fun h' eb => ⟨rfl, I.turned (t' := s.toks) (fun b o hb e => eb b o hb e) f0 f1 f3 f4 f5⟩
  self := fun _ _ _ _ _ st h => wpAny_pyIter_listiter st h
theorem turn_tuple {P : Program} {w : World} {K : PySem.W.Frag} {tg : Expr} (a it : Addr) : Turn P w K tg (Itt K a) [it] it (fun i h => h.IsTupleIter it a i) where
  mem := by simp
  obj := fun i h st b hb => by
    have e : b = it := by simpa using hb
    subst e
    obtain ⟨o, e, c, d⟩ := st
    exact ⟨o, e, fun v z => by rw [d] at z; cases z⟩
  keep := fun i h h' st k => st.at fun o e => k it (by simp) o e
  item := by
    intro X hP hw hK s hc i pins σ H E I hf st hg
    subst hP hw hK
    obtain ⟨xs, x, hq, hx⟩ := hg
    obtain ⟨its, rv, p, hz⟩ := I.tuple hq
    obtain ⟨u, hu, ru⟩ := rv.get hx
    obtain ⟨f0, f1, f2, f3, f4, f5⟩ := hf it (by simp)
    refine wpAny_pyNext_tuple_item st (show s.heap.IsTuple a its.toArray from p) (x := u) (by simpa using hu) fun h' st' sb => ?_
    have I1 : Inv X pins σ H { s with heap := h' } := I.turned (t' := s.toks) (fun b o hb e => (sb.2 b hb).trans e) f0 f1 f3 f4 f5
    obtain ⟨o, e, c, d⟩ := id st'
    exact ⟨u, rfl, go_of (s := { s with heap := h' }) e c d (by decide) ⟨x, H, I1, ru, ⟨rfl, fun ys hy => by rw [I.tuple_inj hy hq]; exact hx⟩, st', fun b hb => (hf b hb).1⟩⟩
  done := by
    intro X hP hw hK s hc i pins σ H E I hf st hg
    subst hP hw hK
    obtain ⟨xs, hq, hx⟩ := hg
    obtain ⟨its, rv, p, hz⟩ := I.tuple hq
    obtain ⟨f0, f1, f2, f3, f4, f5⟩ := hf it (by simp)
    have hl := rv.length
    exact wpAny_pyNext_tuple_end hc.none st (show s.heap.IsTuple a its.toArray from p) (by simp; omega) fun h' eb => ⟨rfl, I.turned (t' := s.toks) (fun b o hb e => eb b o hb e) f0 f1 f3 f4 f5⟩
  self := fun _ _ _ _ _ st h => wpAny_pyIter_tupleiter st h
section
variable {prog : Program} {w : World} {A : Around} {E : Value → Shared → Prop} {s : Shared} {e ea it : Addr} {o oe : Obj} {us vs : Array Value}
theorem ent_unchain : entryFor table "proto.unchain" = some Builtin.«proto.unchain» := entryFor_of_tree (by kernel_rfl)
/-- a new exception is raised while another one is handled, which has no context -/
theorem raise_hand {α : Type} {Q : α → Shared → Prop} (hh : A.handled = some (.ref ea)) (hea : s.heap.get? ea = some oe) (hd : oe.data = .fields vs) (h2 : vs[2]? = some .none) (he : s.heap.get? e = some o) (hde : o.data = .fields us) (hsz : 2 < us.size) (hne : ea ≠ e)
    (hE : E (.ref e) { s with heap := s.heap.update e (Obj.mapFields (·.setIfInBounds 2 (.ref ea))) }) : wpAny (model prog w) A (raiseNew (.ref e) : Sem α) Q E s := by
  have n : (Value.ref ea != Value.ref e) = true := by simp [hne]
  unfold raiseNew
  refine wpAny_bind (wpAny_handled ?_)
  rw [hh]
  show wpAny _ _ (if (Value.ref ea != Value.ref e) = true then _ else _) _ _ _
  rw [if_pos n]
  refine wpAny_bind (wpAny_holding (wpAny_runValue (codeAny_builtin ent_unchain ?_)))
  show wpAny _ _ (field (.ref ea) 2 >>= _) _ _ _
  refine wpAny_bind (wpAny_field hea hd h2 ?_)
  show wpAny _ _ (if (Value.none == Value.none) = true then _ else _) _ _ _
  rw [if_pos (show (Value.none == Value.none) = true from rfl)]
  refine wpAny_pure ?_
  exact wpAny_bind (wpAny_setField he hde hsz (wpAny_throw hE))
/-- a range's end, while an exception is handled -/
theorem range_end_hand {x left step : Int} {Q : Option Value → Shared → Prop} (hh : A.handled = some (.ref ea)) (hea : s.heap.get? ea = some oe) (hd : oe.data = .fields vs) (h2 : vs[2]? = some .none) (hit : IsRangeIter s.heap it x left step) (hleft : left ≤ 0)
    (hQ : ∀ h', Heap.ExtBut it s.heap h' → Q none { s with heap := h' }) : wpAny (model prog w) A (pyNext (.ref it)) Q E s := by
  have hT : s.TypeIs (.ref it) "range_iterator" := ⟨_, hit, rfl⟩
  have lt := Heap.lt_size hea
  unfold pyNext; refine wpAny_bind (wpAny_attempt (wpAny_callSpecial?_slot (name := Str.ofString "__next__") hT F.slot_range_iterator_next (wpAny_call_entry F.slot_range_iterator_next hT F.entry_range_iterator_next ?_ (F.args_range_iterator_next_1 _))))
  show wpAny _ _ (field (.ref it) 0 >>= _) _ _ s; refine wpAny_bind (wpAny_field hit rfl (x := rawInt x) rfl ?_); show wpAny _ _ (field (.ref it) 1 >>= _) _ _ s; refine wpAny_bind (wpAny_field hit rfl (x := rawInt left) rfl ?_)
  show wpAny _ _ (field (.ref it) 2 >>= _) _ _ s; refine wpAny_bind (wpAny_field hit rfl (x := rawInt step) rfl ?_); show wpAny _ _ (if left ≤ 0 then _ else _) _ _ s; rw [if_pos hleft]
  refine wpAny_bind (wpAny_rule (wpAny_bind ?_)); show wpAny _ _ (newExc (.type "StopIteration") [] >>= _) _ _ _; refine wpAny_bind ?_; simp only [newExc, newTuple]
  refine wpAny_bind (wpAny_newObj_type ?_ (by size_fits)); refine wpAny_bind (m := firstArgMember _ _) (wpAny_of_eq (a := Value.none) (by first | rfl | (simp only [firstArgMember]; rfl)) ?_); refine wpAny_newObj_type ?_ (by size_fits)
  refine raise_hand (oe := oe) (vs := vs) (by first | exact hh | exact (show A.in1.handled = _ from hh)) (Heap.get?_push_of_some _ (Heap.get?_push_of_some _ hea)) hd h2 (Heap.get?_push_size _ rfl) rfl (by simp; omega) (Nat.ne_of_lt (by rw [Heap.size_push]; exact Nat.lt_succ_of_lt lt)) ?_
  refine wpAny_bind (wpAny_isInstance (T := "StopIteration") (b := true) ⟨_, Heap.get?_update_self _ (Heap.get?_push_size _ rfl) rfl, rfl⟩ isSubtype_stop ?_)
  refine wpAny_pure (hQ _ fun b ob hb q => ?_)
  rw [Heap.get?_update_other _ _ (Nat.ne_of_gt (by rw [Heap.size_push]; exact Nat.lt_succ_of_lt (Heap.lt_size q)))]
  exact Heap.get?_push_of_some _ (Heap.get?_push_of_some _ q)
end
theorem turn_range {P : Program} {w : World} {K : PySem.W.Frag} {tg : Expr} (it : Addr) (lo : Int) (n : Nat) {hb : Bool} : Turn P w K tg (Itr lo n) [it] it (fun i h => IsRangeIter h it (lo + (i : Nat) * 1) ((n : Int) - (i : Nat)) 1) hb where
  mem := by simp
  obj := fun i h st b hb => by
    have e : b = it := by simpa using hb
    subst e
    exact ⟨_, st, fun v z => by
      have z' : Data.fields _ = Data.cell v := z
      cases z'⟩
  keep := fun i h h' st k => k it (by simp) _ st
  item := by
    intro X hP hw hK s hc i pins σ H E I hf st hg
    subst hP hw hK
    obtain ⟨f0, f1, f2, f3, f4, f5⟩ := hf it (by simp)
    have hi : i < n := hg
    refine wpAny_pyNext_range_item st (by omega) fun h' st' sb => ?_
    have I1 : Inv X pins σ H { s with heap := h', toks := s.toks + 1 } := I.turned (fun b o hb e => (sb.2 b hb).trans e) f0 f1 f3 f4 f5
    have e1 : lo + ((i : Nat) : Int) * 1 + 1 = lo + ((i + 1 : Nat) : Int) * 1 := by omega
    have e2 : (n : Int) - ((i : Nat) : Int) - 1 = (n : Int) - ((i + 1 : Nat) : Int) := by omega
    rw [e1, e2] at st'
    refine ⟨_, rfl, go_of (s := { s with heap := h', toks := s.toks + 1 }) (n := "range_iterator") st' rfl rfl (by decide) ⟨.int (lo + i), H, I1, ⟨s.toks, ?_⟩, ⟨rfl, rfl⟩, st', fun b hb => (hf b hb).1⟩⟩
    rw [Int.mul_one]
  done := by
    intro X hP hw hK s hc i pins σ H E I hf st hg
    subst hP hw hK
    obtain ⟨f0, f1, f2, f3, f4, f5⟩ := hf it (by simp)
    have hi : (n : Int) - ((i : Nat) : Int) ≤ 0 := by have : n ≤ i := hg; omega
    rcases hc with hc | ⟨_, ea, o, vs, h1, h2, h3, h4⟩
    · exact wpAny_pyNext_range_end hc st hi fun h' eb => ⟨rfl, I.turned (t' := s.toks) (fun b o hb e => eb b o hb e) f0 f1 f3 f4 f5⟩
    · exact range_end_hand h1 h2 h3 h4 st hi fun h' eb => ⟨rfl, I.turned (t' := s.toks) (fun b o hb e => eb b o hb e) f0 f1 f3 f4 f5⟩
  self := fun _ _ _ _ _ st h => wpAny_pyIter_rangeiter st h
end L2

namespace L2
open PySem PySem.Spec PyProof.Rows
section
variable {X : Cx} {tg : Expr}
def iList (K : PySem.W.Frag) (tl : TE) : TI := fun σ H R => tl σ H fun x H1 => ∃ a, x = .ref a ∧ (∃ xs, SqL K H1 a xs) ∧ R (Itl K a) H1
def iTup (K : PySem.W.Frag) (tl : TE) : TI := fun σ H R => tl σ H fun x H1 => ∃ a, x = .ref a ∧ (∃ xs, SqT K H1 a xs) ∧ R (Itt K a) H1
theorem pi_list {l : Expr} {tl : TE} (hl : PE X l tl) : PI X tg l (iList X.K tl) := by
  intro pins s σ H R I h
  refine thn (hl pins s σ H _ I h) fun v s1 ⟨x, H1, I1, r1, q1⟩ => ?_
  obtain ⟨a, e, ⟨xs, hq⟩, q⟩ := q1
  subst e
  cases r1
  obtain ⟨its, rv, p, hz⟩ := I1.list hq
  refine wpAny_pyIter_list p.isList ?_
  refine ⟨s1.heap.objs.size, [s1.heap.objs.size], _, _, H1, rfl, I1.kept (t' := s1.toks) fun b o e => Heap.get?_push_of_some _ e, turn_list a _, ⟨_, Heap.get?_push_size _ rfl, rfl, rfl⟩, fun b hb => ?_, q⟩
  have e : b = s1.heap.objs.size := by simpa using hb
  subst e
  exact I1.fpOk (Nat.le_refl _) (I1.hok.fresh (Nat.le_refl _))
theorem pi_tup {l : Expr} {tl : TE} (hl : PE X l tl) : PI X tg l (iTup X.K tl) := by
  intro pins s σ H R I h
  refine thn (hl pins s σ H _ I h) fun v s1 ⟨x, H1, I1, r1, q1⟩ => ?_
  obtain ⟨a, e, ⟨xs, hq⟩, q⟩ := q1
  subst e
  cases r1
  obtain ⟨its, rv, p, hz⟩ := I1.tuple hq
  refine wpAny_pyIter_tuple (show s1.heap.IsTuple a its.toArray from p) ?_
  refine ⟨s1.heap.objs.size, [s1.heap.objs.size], _, _, H1, rfl, I1.kept (t' := s1.toks) fun b o e => Heap.get?_push_of_some _ e, turn_tuple a _, ⟨_, Heap.get?_push_size _ rfl, rfl, rfl⟩, fun b hb => ?_, q⟩
  have e : b = s1.heap.objs.size := by simpa using hb
  subst e
  exact I1.fpOk (Nat.le_refl _) (I1.hok.fresh (Nat.le_refl _))
/-- a range object just made, walked -/
theorem range_it {hb : Bool} {pins : List (Addr × Obj)} {σ : St} {H : Hp} {s : Shared} {R : It → Hp → Prop} {E : Value → Shared → Prop} {lo hi : Int} {t u v : Tok} {tk : Nat} (I : Inv X pins σ H s) (h1 : -(2 ^ 62) ≤ lo) (h2 : lo < 2 ^ 62) (h3 : -(2 ^ 62) ≤ hi) (h4 : hi < 2 ^ 62)
    (q : R (Itr lo (hi - lo).toNat) H) : wpAny (model X.prog X.w) X.A (pyIter (.ref s.heap.objs.size)) (PIE X pins σ tg R hb) E { s with heap := s.heap.push { cls := .type "range", data := .fields #[.int lo t, .int hi u, .int 1 v] }, toks := tk } := by
  refine wpAny_pyIter_range (IsRange.new ..) (small_one h1 h2 h3 h4) ?_
  have I1 : Inv X pins σ H { s with heap := s.heap.push { cls := .type "range", data := .fields #[.int lo t, .int hi u, .int 1 v] }, toks := tk } := I.kept fun b o e => Heap.get?_push_of_some _ e
  refine ⟨(s.heap.push { cls := .type "range", data := .fields #[.int lo t, .int hi u, .int 1 v] }).objs.size, [(s.heap.push { cls := .type "range", data := .fields #[.int lo t, .int hi u, .int 1 v] }).objs.size], _, _, H, rfl,
    I1.kept (t' := tk) fun b o e => Heap.get?_push_of_some _ e, turn_range _ lo (hi - lo).toNat, ?_, fun b hb => ?_, q⟩
  · have e1 : lo + ((0 : Nat) : Int) * 1 = lo := by simp
    have e2 : (((hi - lo).toNat : Nat) : Int) - ((0 : Nat) : Int) = Builtin.Range.rangeSize lo hi 1 := by rw [rangeSize_one]; split <;> omega
    show IsRangeIter _ _ (lo + ((0 : Nat) : Int) * 1) ((((hi - lo).toNat : Nat) : Int) - ((0 : Nat) : Int)) 1
    rw [e1, e2]
    exact Heap.get?_push_size _ rfl
  · have e : b = (s.heap.push { cls := .type "range", data := .fields #[.int lo t, .int hi u, .int 1 v] }).objs.size := by simpa using hb
    subst e
    exact I1.fpOk (Nat.le_refl _) (I1.hok.fresh (Nat.le_refl _))
def iRng1 (ta : TA) : TI := fun σ H R => ta σ H fun vs H1 => ∃ j : Int, vs = [.int j] ∧ -(2 ^ 62) ≤ j ∧ j < 2 ^ 62 ∧ R (Itr 0 j.toNat) H1
theorem pi_range1 {hb : Bool} {a : Expr} {ta : TA} {p pos : Pos} (hg : Gl X "range") (hm : X.mg "range" = none) (ha : PA X [a] ta) (hs : starEach [a] X.env = [(false, eval a X.env)] := by rfl) : PI X tg (.Call (.Name "range" p) [a] [] pos) (iRng1 ta) hb := by
  intro pins s σ H R I h
  refine Call_ (ld_blt I hg hm boot_range (PyProof.Rows.callWith_type1 (thn (ha pos pins s σ H _ I h) fun us s1 ⟨vs, H1, I1, r1, q1⟩ => ?_) hs rfl))
  obtain ⟨j, e, q1, q2, q⟩ := q1
  subst e
  cases r1 with
  | cons r rr =>
    cases rr
    obtain ⟨t, rfl⟩ := r
    exact call_range_1 (range_it I1 (by omega) (by omega) q1 q2 (by simpa using q))
/-! ### for -/
/-- W: the invariant by the turn and a measure; N: what the body is to reach -/
def tFor (wi : TI) (g : TG) (tb : TS) : TS := fun D σ H => wi σ H fun J H1 => ∃ W : Nat → Nat → St → Hp → Prop, (∃ m, W 0 m σ H1) ∧ ∀ i m σ H, W i m σ H →
  (J.stop i H ∧ D.nx σ H) ∨ (J.go i H ∧ ∃ N : St → Hp → Prop, (∀ σ' H', N σ' H' → ∃ m', m' < m ∧ W (i + 1) m' σ' H') ∧ ∀ x H', J.yld i H x H' → g x σ H' fun σ2 H2 => tb { D with nx := N, ct := N, bk := D.nx } σ2 H2)
/-- the records at fp as they stand -/
def pinsAt (fp : List Addr) (h : Heap) : List (Addr × Obj) := fp.filterMap fun b => (h.get? b).map fun o => (b, o)
theorem mem_pinsAt {fp : List Addr} {h : Heap} {b : Addr} {o : Obj} (hb : b ∈ fp) (e : h.get? b = some o) : (b, o) ∈ pinsAt fp h := List.mem_filterMap.mpr ⟨b, hb, by rw [e]; rfl⟩
theorem of_pinsAt {fp : List Addr} {h : Heap} {p : Addr × Obj} (hp : p ∈ pinsAt fp h) : p.1 ∈ fp ∧ h.get? p.1 = some p.2 := by
  obtain ⟨b, hb, e⟩ := List.mem_filterMap.mp hp
  cases q : h.get? b with
  | none => rw [q] at e; cases e
  | some o =>
    rw [q] at e
    have e' : (b, o) = p := Option.some.inj e
    subst e'
    exact ⟨hb, q⟩
theorem Inv.pinned {pins : List (Addr × Obj)} {σ : St} {H : Hp} {s : Shared} {fp : List Addr} (I : Inv X pins σ H s) (hf : ∀ b ∈ fp, FpOk X pins H b) (ho : ∀ b ∈ fp, ∃ o, s.heap.get? b = some o ∧ ∀ v, o.data ≠ .cell v) : Inv X (pins ++ pinsAt fp s.heap) σ H s :=
  I.pins_of fun p hp => (List.mem_append.mp hp).elim (fun z => I.pin p (List.mem_append_right _ z)) fun z => by
    obtain ⟨hb, e⟩ := of_pinsAt z
    obtain ⟨f0, f1, f2, _⟩ := hf p.1 hb
    obtain ⟨o, e', d⟩ := ho p.1 hb
    rw [e] at e'; cases e'
    exact ⟨e, f0, f1, f2, d⟩
theorem Inv.unpinned {pins pl : List (Addr × Obj)} {σ : St} {H : Hp} {s : Shared} (I : Inv X (pins ++ pl) σ H s) : Inv X pins σ H s := I.pins_of fun p hp => I.pin p (List.mem_append_right _ (List.mem_append_left _ hp))
theorem ps_for {iter : Expr} {body : List Stmt} {wi : TI} {g : TG} {tb : TS} {pos : Pos} (hp : PassesOwn (model X.prog X.w) X.A X.env X.xe) (hc : X.calm = true) (hi : PI X tg iter wi) (hg : PG X tg g) (hb : PSs X body tb)
    (hs : ∀ x, foldedSetIterable iter X.env x = pure x := by intro _; rfl) : PS X (.For tg iter body [] pos) (tFor wi g tb) := by
  intro pins s σ H D I h
  refine wpAny_For (thn (hi pins s σ H _ I h) fun v s1 h1 => thn h1 fun itv s2 h2 => ?_) hs
  obtain ⟨it, fp, tn, J, H2, e, I2, T, st2, f2, W, ⟨m0, w0⟩, turn⟩ := h2
  subst e
  -- what stays true of the iterator's objects through the loop
  have stat : ∀ {H' : Hp}, (∀ b ∈ fp, H' b = none) → ∀ b ∈ fp, FpOk X pins H' b := fun hn b hb => ⟨hn b hb, (f2 b hb).2⟩
  refine codeAny_forLoop_any (fun n s' => ∃ i σ' H', Inv X pins σ' H' s' ∧ tn i s'.heap ∧ (∀ b ∈ fp, H' b = none) ∧ W i n σ' H') ?_ m0 ⟨0, σ, H2, I2, st2, fun b hb => (f2 b hb).1, w0⟩
  rintro n s3 ⟨i, σ3, H3, I3, st3, fr3, w3⟩
  rcases turn i n σ3 H3 w3 with ⟨stop, qn⟩ | ⟨go, N, hN, step⟩
  · refine wpAny_passesOwn hp (thn (T.done X rfl rfl rfl s3 (.inl (I3.ok.hd hc)) i pins σ3 H3 X.xe I3 (stat fr3) st3 stop) fun r s4 ⟨hr, I4⟩ => ?_)
    subst hr
    exact wpAny_execs_nil ⟨σ3, H3, I4, qn⟩
  · refine wpAny_passesOwn hp (thn (T.item X rfl rfl rfl s3 (.inl (I3.ok.hd hc)) i pins σ3 H3 X.xe I3 (stat fr3) st3 go) fun r s4 ⟨u, hr, h4⟩ => ?_)
    subst hr
    refine wpAny_passesOwn hp (thn h4 fun _ s5 ⟨x, H5, I5, r5, y5, st5, fr5⟩ => ?_)
    have I5' := I5.pinned (stat fr5) (T.obj _ _ st5)
    refine wpAny_passesOwn hp (thn (hg _ s5 σ3 H5 x u _ I5' r5 (step x H5 y5)) fun _ s6 ⟨σ6, H6, I6, q6⟩ => ?_)
    refine wpAny_passesOwn hp (thn (hb _ s6 σ6 H6 _ I6 q6) fun f s7 q7 => ?_)
    have again : ∀ {σ7 : St} {H7 : Hp}, Inv X (pins ++ pinsAt fp s5.heap) σ7 H7 s7 → N σ7 H7 → ∃ m, m < n ∧ ∃ i σ' H', Inv X pins σ' H' s7 ∧ tn i s7.heap ∧ (∀ b ∈ fp, H' b = none) ∧ W i m σ' H' := fun {σ7 H7} I7 n7 => by
      obtain ⟨m', hm, w7⟩ := hN σ7 H7 n7
      refine ⟨m', hm, i + 1, σ7, H7, I7.unpinned, T.keep _ _ _ st5 fun b hb o e => (I7.pin (b, o) (List.mem_append_right _ (List.mem_append_right _ (mem_pinsAt hb e)))).1, fun b hb => ?_, w7⟩
      obtain ⟨o, e, d⟩ := T.obj _ _ st5 b hb
      exact (I7.pin (b, o) (List.mem_append_right _ (List.mem_append_right _ (mem_pinsAt hb e)))).2.1
    cases f with
    | next => obtain ⟨σ7, H7, I7, n7⟩ := q7; exact again I7 n7
    | cont => obtain ⟨σ7, H7, I7, n7⟩ := q7; exact again I7 n7
    | brk => obtain ⟨σ7, H7, I7, q7⟩ := q7; exact ⟨σ7, H7, I7.unpinned, q7⟩
    | ret v => obtain ⟨x7, σ7, H7, I7, r7, q7⟩ := q7; exact ⟨x7, σ7, H7, I7.unpinned, r7, q7⟩
end

/-! ### the forms one uses -/
theorem for_range {lo : Int} {n : Nat} {g : TG} {tb : TS} {D : Ends} {σ : St} {H : Hp} (Pv : Nat → St → Hp → Prop) (h0 : Pv 0 σ H)
    (hs : ∀ i σ H, i < n → Pv i σ H → g (.int (lo + i)) σ H fun σ2 H2 => tb { D with nx := Pv (i + 1), ct := Pv (i + 1), bk := D.nx } σ2 H2) (hd : ∀ σ H, Pv n σ H → D.nx σ H) :
    ∃ W : Nat → Nat → St → Hp → Prop, (∃ m, W 0 m σ H) ∧ ∀ i m σ H, W i m σ H →
      ((Itr lo n).stop i H ∧ D.nx σ H) ∨ ((Itr lo n).go i H ∧ ∃ N : St → Hp → Prop, (∀ σ' H', N σ' H' → ∃ m', m' < m ∧ W (i + 1) m' σ' H') ∧ ∀ x H', (Itr lo n).yld i H x H' → g x σ H' fun σ2 H2 => tb { D with nx := N, ct := N, bk := D.nx } σ2 H2) := by
  refine ⟨fun i m σ H => m = n - i ∧ i ≤ n ∧ Pv i σ H, ⟨n, by simp, Nat.zero_le _, h0⟩, ?_⟩
  rintro i m σ H ⟨rfl, hi, p⟩
  by_cases hlt : i < n
  · refine .inr ⟨hlt, Pv (i + 1), fun σ' H' p' => ⟨n - (i + 1), by omega, rfl, hlt, p'⟩, fun x H' y => ?_⟩
    obtain ⟨e, y⟩ := y
    subst e y
    exact hs i σ _ hlt p
  · have e : i = n := by omega
    subst e
    exact .inl ⟨Nat.le_refl _, hd σ H p⟩
end L2

namespace L2
open PySem PySem.Spec PyProof.Rows

abbrev R2 := V → V → Hp → VK → Prop
/-- a two-place operation on values: f is binaryOp op, inplaceOp op or compareOp op -/
def OpR (X : Cx) (f : Value → Value → Sem Value) (r : R2) : Prop :=
  ∀ (pins : List (Addr × Obj)) (s : Shared) (σ : St) (H : Hp) (x y : V) (v u : Value) (Q : VK), Inv X pins σ H s → RelV x v → RelV y u → r x y H Q →
    wpAny (model X.prog X.w) X.A (f v u) (EP X pins σ Q) X.xe s
/-- a one-place operation -/
def UnR (X : Cx) (f : Value → Sem Value) (r : V → Hp → VK → Prop) : Prop :=
  ∀ (pins : List (Addr × Obj)) (s : Shared) (σ : St) (H : Hp) (x : V) (v : Value) (Q : VK), Inv X pins σ H s → RelV x v → r x H Q →
    wpAny (model X.prog X.w) X.A (f v) (EP X pins σ Q) X.xe s
/-- a call of a value that is known (a builtin, a type) with values -/
def CallR (X : Cx) (f : Value) (r : List V → Hp → VK → Prop) : Prop :=
  ∀ (pins : List (Addr × Obj)) (s : Shared) (σ : St) (H : Hp) (xs : List V) (us : List Value) (Q : VK), Inv X pins σ H s → Vals xs us → r xs H Q →
    wpAny (model X.prog X.w) X.A (call f us) (EP X pins σ Q) X.xe s
def tOp (r : R2) (ta tb : TE) : TE := fun σ H Q => ta σ H fun x H1 => tb σ H1 fun y H2 => r x y H2 Q
def tUn (r : V → Hp → VK → Prop) (ta : TE) : TE := fun σ H Q => ta σ H fun x H1 => r x H1 Q
/-- ints in, under C, and a value out -/
def rI (C : Int → Int → Prop) (g : Int → Int → V) : R2 := fun x y H Q => ∃ i j, x = .int i ∧ y = .int j ∧ C i j ∧ Q (g i j) H
def rI0 (g : Int → Int → V) : R2 := fun x y H Q => ∃ i j, x = .int i ∧ y = .int j ∧ Q (g i j) H
def rU (g : Int → V) : V → Hp → VK → Prop := fun x H Q => ∃ i, x = .int i ∧ Q (g i) H

section
variable {X : Cx} {a b c : Expr} {ta tb tc : TE} {pos : Pos}

theorem binT (ha : PE X a ta) (hb : PE X b tb) {pins : List (Addr × Obj)} {s : Shared} {σ : St} {H : Hp} {R : V → V → Hp → Prop} (I : Inv X pins σ H s)
    (h : ta σ H fun x H1 => tb σ H1 fun y H2 => R x y H2) {Q : Value → Shared → Prop} {f : Value → Value → Sem Value}
    (hf : ∀ v u s2 x y H2, Inv X pins σ H2 s2 → RelV x v → RelV y u → R x y H2 → wpAny (model X.prog X.w) X.A (f v u) Q X.xe s2) :
    wpAny (model X.prog X.w) X.A (eval a X.env) (fun v s₁ => wpAny (model X.prog X.w) X.A (eval b X.env) (fun u s₂ => wpAny (model X.prog X.w) X.A (f v u) Q X.xe s₂) X.xe s₁) X.xe s := by
  refine thn (ha pins s σ H _ I h) fun v s1 ⟨x, H1, I1, r1, q1⟩ => ?_
  refine thn (hb pins s1 σ H1 _ I1 q1) fun u s2 ⟨y, H2, I2, r2, q2⟩ => ?_
  exact hf v u s2 x y H2 I2 r1 r2 q2

theorem pe_op {op : Operator} {r : R2} (ho : OpR X (binaryOp op) r) (ha : PE X a ta) (hb : PE X b tb) : PE X (.BinOp a op b pos) (tOp r ta tb) := by
  intro pins s σ H Q I h
  exact wpAny_BinOp (binT ha hb I h fun v u s2 x y H2 I2 rx ry q => ho pins s2 σ H2 x y v u Q I2 rx ry q)
theorem pe_un {op : UnaryOp} {r : V → Hp → VK → Prop} (ho : UnR X (unaryOp op) r) (ha : PE X a ta) : PE X (.UnaryOp op a pos) (tUn r ta) := by
  intro pins s σ H Q I h
  exact UnaryOp_ (thn (ha pins s σ H _ I h) fun v s1 ⟨x, H1, I1, r1, q1⟩ => ho pins s1 σ H1 x v Q I1 r1 q1)
/-! ### ints -/
theorem opI {f : Value → Value → Sem Value} {C : Int → Int → Prop} {g : Int → Int → Int}
    (rule : ∀ (i j : Int) (t u : Tok) (s : Shared) (Q : Value → Shared → Prop) (E : Value → Shared → Prop), C i j → Q (.int (g i j) s.toks) { s with toks := s.toks + 1 } → wpAny (model X.prog X.w) X.A (f (.int i t) (.int j u)) Q E s) :
    OpR X f (rI C fun i j => .int (g i j)) := by
  intro pins s σ H x y v u Q I rx ry h
  obtain ⟨i, j, rfl, rfl, hc, q⟩ := h
  obtain ⟨t, rfl⟩ := rx
  obtain ⟨t', rfl⟩ := ry
  exact rule i j t t' s _ _ hc ⟨.int (g i j), H, I.tok _, ⟨_, rfl⟩, q⟩
theorem opI0 {f : Value → Value → Sem Value} {g : Int → Int → Int}
    (rule : ∀ (i j : Int) (t u : Tok) (s : Shared) (Q : Value → Shared → Prop) (E : Value → Shared → Prop), Q (.int (g i j) s.toks) { s with toks := s.toks + 1 } → wpAny (model X.prog X.w) X.A (f (.int i t) (.int j u)) Q E s) :
    OpR X f (rI0 fun i j => .int (g i j)) := by
  intro pins s σ H x y v u Q I rx ry h
  obtain ⟨i, j, rfl, rfl, q⟩ := h
  obtain ⟨t, rfl⟩ := rx
  obtain ⟨t', rfl⟩ := ry
  exact rule i j t t' s _ _ ⟨.int (g i j), H, I.tok _, ⟨_, rfl⟩, q⟩
theorem opB0 {f : Value → Value → Sem Value} {g : Int → Int → Bool}
    (rule : ∀ (i j : Int) (t u : Tok) (s : Shared) (Q : Value → Shared → Prop) (E : Value → Shared → Prop), Q (.bool (g i j)) s → wpAny (model X.prog X.w) X.A (f (.int i t) (.int j u)) Q E s) :
    OpR X f (rI0 fun i j => .bl (g i j)) := by
  intro pins s σ H x y v u Q I rx ry h
  obtain ⟨i, j, rfl, rfl, q⟩ := h
  obtain ⟨t, rfl⟩ := rx
  obtain ⟨t', rfl⟩ := ry
  exact rule i j t t' s _ _ ⟨.bl (g i j), H, I, rfl, q⟩

def CDiv (i j : Int) : Prop := 0 < j ∧ j < 1073741824
def CPow (i j : Int) : Prop := 0 ≤ j ∧ j ≤ 1000000 ∧ i.natAbs < 2 ^ 64
def CMul (i j : Int) : Prop := (-(2 ^ 64) < i ∧ i < 2 ^ 64) ∨ (-(2 ^ 64) < j ∧ j < 2 ^ 64)
theorem CMul.ok {i j : Int} (h : CMul i j) : IntMulOk i j := by
  rcases h with ⟨h1, h2⟩ | ⟨h1, h2⟩
  · exact .of_left (intBits_le_64 h1 h2)
  · exact .of_right (intBits_le_64 h1 h2)
theorem op_add : OpR X (binaryOp .Add) (rI0 fun i j => .int (i + j)) := opI0 fun _ _ _ _ _ _ _ q => add_int q
theorem op_sub : OpR X (binaryOp .Sub) (rI0 fun i j => .int (i - j)) := opI0 fun _ _ _ _ _ _ _ q => sub_int q
theorem op_mul : OpR X (binaryOp .Mult) (rI CMul fun i j => .int (i * j)) := opI fun _ _ _ _ _ _ _ hc q => mul_int q hc.ok
/-- // by a positive divisor -/
theorem op_fdiv : OpR X (binaryOp .FloorDiv) (rI CDiv fun i j => .int (i / j)) := opI fun i j _ _ _ _ _ hc q => by
  have h1 : (0 : Int) < j := hc.1
  have h2 : j < 1073741824 := hc.2
  exact floordiv_int (by omega) (by rw [Int.fdiv_eq_ediv_of_nonneg i (by omega)]; exact q) (.inl (PyProof.noPylong_small (by omega)))
/-- % by a positive divisor of any size -/
theorem op_mod : OpR X (binaryOp .Mod) (rI (fun _ j => 0 < j) fun i j => .int (i % j)) := opI fun i j _ _ _ _ _ hc q => by
  have h1 : (0 : Int) < j := hc
  exact mod_int' (by omega) (by rw [Int.fmod_eq_emod_of_nonneg i (by omega)]; exact q)
theorem op_pow : OpR X (binaryOp .Pow) (rI CPow fun i j => .int (i ^ j.toNat)) := opI fun _ _ _ _ _ _ _ hc q => pow_int_small hc.1 hc.2.1 hc.2.2 q
theorem unI {f : Value → Sem Value} {g : Int → Int}
    (rule : ∀ (i : Int) (t : Tok) (s : Shared) (Q : Value → Shared → Prop) (E : Value → Shared → Prop), Q (.int (g i) s.toks) { s with toks := s.toks + 1 } → wpAny (model X.prog X.w) X.A (f (.int i t)) Q E s) :
    UnR X f (rU fun i => .int (g i)) := by
  intro pins s σ H x v Q I rx h
  obtain ⟨i, rfl, q⟩ := h
  obtain ⟨t, rfl⟩ := rx
  exact rule i t s _ _ ⟨.int (g i), H, I.tok _, ⟨_, rfl⟩, q⟩
theorem un_neg : UnR X (unaryOp .USub) (rU fun i => .int (-i)) := unI fun _ _ _ _ _ q => neg_int q
/-! ### bools among ints: n += (a < b) -/
end

/-! ### comparisons -/
/-- the scalars that == tells apart as data does -/
def scal : V → V → Bool
  | .non, .non => true | .non, .int _ => true | .int _, .non => true | .non, .bl _ => true | .bl _, .non => true | .non, .str _ => true | .str _, .non => true
  | .int _, .int _ => true | .bl _, .bl _ => true | .str _, .str _ => true | .byt _, .byt _ => true
  | .int _, .str _ => true | .str _, .int _ => true | .bl _, .str _ => true | .str _, .bl _ => true
  | _, _ => false
def rEq : R2 := fun x y H Q => scal x y = true ∧ Q (.bl (decide (x = y))) H
def rNe : R2 := fun x y H Q => scal x y = true ∧ Q (.bl (!decide (x = y))) H

theorem dec_int {i j : Int} : decide (V.int i = V.int j) = (i == j) := by
  rw [Bool.eq_iff_iff]
  simp
theorem dec_bl {i j : Bool} : decide (V.bl i = V.bl j) = (i == j) := by
  rw [Bool.eq_iff_iff]
  simp
theorem dec_str {i j : Str} : decide (V.str i = V.str j) = (i == j) := by
  rw [Bool.eq_iff_iff]
  simp
theorem dec_byt {i j : Array UInt8} : decide (V.byt i = V.byt j) = (i.toList == j.toList) := by
  rw [Bool.eq_iff_iff]
  cases i
  cases j
  simp

section
variable {X : Cx} {a b c : Expr} {ta tb tc : TE} {pos : Pos}
theorem fin_bl {pins : List (Addr × Obj)} {σ : St} {H : Hp} {s : Shared} {Q : VK} {k k' : Bool} (I : Inv X pins σ H s) (q : Q (.bl k) H) (e : k = k') : EP X pins σ Q (.bool k') s := by
  subst e
  exact ⟨.bl k, H, I, rfl, q⟩
theorem op_eq : OpR X (compareOp .Eq) rEq := by
  intro pins s σ H x y v u Q I rx ry h
  obtain ⟨hs, q⟩ := h
  cases x with
  | non =>
    cases rx
    cases y with
    | non => cases ry; exact PySem.EqNone.eq_none_none (fin_bl I q (by simp))
    | bl j => cases ry; exact PySem.EqNone.eq_none_bool (fin_bl I q (by simp))
    | int j => obtain ⟨t', rfl⟩ := ry; exact PySem.EqNone.eq_none_int (fin_bl I q (by simp))
    | str j => obtain ⟨t', rfl⟩ := ry; exact PySem.EqNone.eq_none_str (fin_bl I q (by simp))
    | _ => exact absurd (show false = true from hs) Bool.false_ne_true
  | bl i =>
    cases rx
    cases y with
    | non => cases ry; exact PySem.EqNone.eq_bool_none (fin_bl I q (by simp))
    | bl j => cases ry; exact eq_bool (fin_bl I q dec_bl)
    | str j => obtain ⟨t', rfl⟩ := ry; exact PySem.EqMixed.eq_bool_str (fin_bl I q (by simp))
    | _ => exact absurd (show false = true from hs) Bool.false_ne_true
  | int i =>
    obtain ⟨t, rfl⟩ := rx
    cases y with
    | non => cases ry; exact PySem.EqNone.eq_int_none (fin_bl I q (by simp))
    | int j => obtain ⟨t', rfl⟩ := ry; exact eq_int (fin_bl I q dec_int)
    | str j => obtain ⟨t', rfl⟩ := ry; exact PySem.EqMixed.eq_int_str (fin_bl I q (by simp))
    | _ => exact absurd (show false = true from hs) Bool.false_ne_true
  | str i =>
    obtain ⟨t, rfl⟩ := rx
    cases y with
    | non => cases ry; exact PySem.EqNone.eq_str_none (fin_bl I q (by simp))
    | bl j => cases ry; exact PySem.EqMixed.eq_str_bool (fin_bl I q (by simp))
    | int j => obtain ⟨t', rfl⟩ := ry; exact PySem.EqMixed.eq_str_int (fin_bl I q (by simp))
    | str j => obtain ⟨t', rfl⟩ := ry; exact eq_str (fin_bl I q dec_str)
    | _ => exact absurd (show false = true from hs) Bool.false_ne_true
  | byt i =>
    obtain ⟨t, rfl⟩ := rx
    cases y with
    | byt j => obtain ⟨t', rfl⟩ := ry; exact PySem.W.eq_bytes (fin_bl I q dec_byt)
    | _ => exact absurd (show false = true from hs) Bool.false_ne_true
  | _ => cases y <;> exact absurd (show false = true from hs) Bool.false_ne_true
theorem op_ne : OpR X (compareOp .NotEq) rNe := by
  intro pins s σ H x y v u Q I rx ry h
  obtain ⟨hs, q⟩ := h
  cases x with
  | non =>
    cases rx
    cases y with
    | non => cases ry; exact PySem.EqNone.ne_none_none (fin_bl I q (by simp))
    | bl j => cases ry; exact PySem.EqNone.ne_none_bool (fin_bl I q (by simp))
    | int j => obtain ⟨t', rfl⟩ := ry; exact PySem.EqNone.ne_none_int (fin_bl I q (by simp))
    | str j => obtain ⟨t', rfl⟩ := ry; exact PySem.EqNone.ne_none_str (fin_bl I q (by simp))
    | _ => exact absurd (show false = true from hs) Bool.false_ne_true
  | bl i =>
    cases rx
    cases y with
    | non => cases ry; exact PySem.EqNone.ne_bool_none (fin_bl I q (by simp))
    | bl j => cases ry; exact ne_bool (fin_bl I q (congrArg not dec_bl))
    | str j => obtain ⟨t', rfl⟩ := ry; exact PySem.EqMixed.ne_bool_str (fin_bl I q (by simp))
    | _ => exact absurd (show false = true from hs) Bool.false_ne_true
  | int i =>
    obtain ⟨t, rfl⟩ := rx
    cases y with
    | non => cases ry; exact PySem.EqNone.ne_int_none (fin_bl I q (by simp))
    | int j => obtain ⟨t', rfl⟩ := ry; exact ne_int (fin_bl I q (congrArg not dec_int))
    | str j => obtain ⟨t', rfl⟩ := ry; exact PySem.EqMixed.ne_int_str (fin_bl I q (by simp))
    | _ => exact absurd (show false = true from hs) Bool.false_ne_true
  | str i =>
    obtain ⟨t, rfl⟩ := rx
    cases y with
    | non => cases ry; exact PySem.EqNone.ne_str_none (fin_bl I q (by simp))
    | bl j => cases ry; exact PySem.EqMixed.ne_str_bool (fin_bl I q (by simp))
    | int j => obtain ⟨t', rfl⟩ := ry; exact PySem.EqMixed.ne_str_int (fin_bl I q (by simp))
    | str j => obtain ⟨t', rfl⟩ := ry; exact ne_str (fin_bl I q (congrArg not dec_str))
    | _ => exact absurd (show false = true from hs) Bool.false_ne_true
  | byt i =>
    obtain ⟨t, rfl⟩ := rx
    cases y with
    | byt j => obtain ⟨t', rfl⟩ := ry; exact PySem.W.ne_bytes (fin_bl I q (congrArg not dec_byt))
    | _ => exact absurd (show false = true from hs) Bool.false_ne_true
  | _ => cases y <;> exact absurd (show false = true from hs) Bool.false_ne_true

theorem op_lt : OpR X (compareOp .Lt) (rI0 fun i j => .bl (decide (i < j))) := opB0 fun _ _ _ _ _ _ _ q => lt_int q
theorem op_le : OpR X (compareOp .LtE) (rI0 fun i j => .bl (decide (i ≤ j))) := opB0 fun _ _ _ _ _ _ _ q => le_int q
theorem op_gt : OpR X (compareOp .Gt) (rI0 fun i j => .bl (decide (j < i))) := opB0 fun _ _ _ _ _ _ _ q => gt_int q
theorem op_lt_str : OpR X (compareOp .Lt) (fun x y H Q => ∃ i j, x = .str i ∧ y = .str j ∧ Q (.bl (decide (i.cps.toList < j.cps.toList))) H) := by
  intro pins s σ H x y v u Q I rx ry h
  obtain ⟨i, j, rfl, rfl, q⟩ := h
  obtain ⟨t, rfl⟩ := rx
  obtain ⟨t', rfl⟩ := ry
  exact lt_str (fin_bl I q rfl)
/-- the one string within the other -/
theorem op_in_str : OpR X (compareOp .In) (fun x y H Q => ∃ i j, x = .str i ∧ y = .str j ∧ Q (.bl (!(Builtin.Str.occurrences j i 0 j.length 1).isEmpty)) H) := by
  intro pins s σ H x y v u Q I rx ry h
  obtain ⟨i, j, rfl, rfl, q⟩ := h
  obtain ⟨t, rfl⟩ := rx
  obtain ⟨t', rfl⟩ := ry
  exact in_str (fin_bl I q rfl)

theorem nomark (b : Expr) {op : CmpOp} (h : op ≠ .In := by decide) (h2 : op ≠ .NotIn := by decide) : behindInMarks op b = false := by
  have e1 : (op == CmpOp.In) = false := by cases op <;> first | rfl | exact absurd rfl h
  have e2 : (op == CmpOp.NotIn) = false := by cases op <;> first | rfl | exact absurd rfl h2
  cases b <;> simp [behindInMarks, e1, e2]
/-- a comparison as a value; hm: nomark b, or (for in, not in) by with_unfolding_all rfl -/
theorem pe_cmpR {op : CmpOp} {r : R2} (ho : OpR X (compareOp op) r) (ha : PE X a ta) (hb : PE X b tb) (hm : behindInMarks op b = false) : PE X (.Compare a [op] [b] pos) (tOp r ta tb) := by
  intro pins s σ H Q I h
  exact wpAny_Compare1 (binT ha hb I h fun v u s2 x y H2 I2 rx ry q => ho pins s2 σ H2 x y v u Q I2 rx ry q) hm
/-- a reading of a value as a test -/
def tTest (t : TE) : TT := fun σ H Q => t σ H fun x H' => ∃ k, x = .bl k ∧ Q k H'
theorem pt_cmpR {op : CmpOp} {r : R2} (ho : OpR X (compareOp op) r) (ha : PE X a ta) (hb : PE X b tb) (hm : behindInMarks op b = false) : PT X (.Compare a [op] [b] pos) (tTest (tOp r ta tb)) := by
  intro pins s σ H Q I h
  refine wpAny_isTrue_Compare1 (thn (ha pins s σ H _ I h) fun v s1 ⟨x, H1, I1, r1, q1⟩ => thn (hb pins s1 σ H1 _ I1 q1) fun u s2 ⟨y, H2, I2, r2, q2⟩ =>
    thn (ho pins s2 σ H2 x y v u _ I2 r1 r2 q2) fun c s3 ⟨z, H3, I3, r3, k, e, q3⟩ => ?_) hm
  subst e
  cases r3
  exact wpAny_truthy_bool ⟨H3, I3, q3⟩
/-- a op1 b op2 c -/
def tChain (r r' : R2) (ta tb tc : TE) : TE := fun σ H Q => ta σ H fun x H1 => tb σ H1 fun y H2 => r x y H2 fun z H3 => ∃ k, z = .bl k ∧
  (if k = true then tc σ H3 fun w' H4 => r' y w' H4 Q else Q (.bl false) H3)
theorem pe_chain {op op' : CmpOp} {r r' : R2} (ho : OpR X (compareOp op) r) (ho' : OpR X (compareOp op') r') (ha : PE X a ta) (hb : PE X b tb) (hc : PE X c tc)
    (hm : lastMarks [op, op'] [b, c] = false := by with_unfolding_all rfl) : PE X (.Compare a [op, op'] [b, c] pos) (tChain r r' ta tb tc) := by
  intro pins s σ H Q I h
  refine Compare_chain (thn (ha pins s σ H _ I h) fun v s1 ⟨x, H1, I1, r1, q1⟩ => chain_link (thn (hb pins s1 σ H1 _ I1 q1) fun u s2 ⟨y, H2, I2, r2, q2⟩ =>
    thn (ho pins s2 σ H2 x y v u _ I2 r1 r2 q2) fun d s3 ⟨z, H3, I3, r3, k, e, q3⟩ => ?_)) hm
  subst e
  cases r3
  refine wpAny_truthy_bool ?_
  cases k with
  | false => exact ite_ff ⟨.bl false, H3, I3, rfl, q3⟩
  | true => exact ite_tt (chain_last (thn (hc pins s3 σ H3 _ I3 q3) fun w' s4 ⟨z', H4, I4, r4, q4⟩ => ho' pins s4 σ H4 y z' u w' Q I4 r2 r4 q4))
theorem pt_chain {op op' : CmpOp} {r r' : R2} (ho : OpR X (compareOp op) r) (ho' : OpR X (compareOp op') r') (ha : PE X a ta) (hb : PE X b tb) (hc : PE X c tc)
    (hm : lastMarks [op, op'] [b, c] = false := by with_unfolding_all rfl) : PT X (.Compare a [op, op'] [b, c] pos) (tTest (tChain r r' ta tb tc)) := by
  intro pins s σ H Q I h
  refine isTrue_chain (thn (ha pins s σ H _ I h) fun v s1 ⟨x, H1, I1, r1, q1⟩ => test_link (thn (hb pins s1 σ H1 _ I1 q1) fun u s2 ⟨y, H2, I2, r2, q2⟩ =>
    thn (ho pins s2 σ H2 x y v u _ I2 r1 r2 q2) fun d s3 ⟨z, H3, I3, r3, k, e, q3⟩ => ?_)) hm
  subst e
  cases r3
  refine wpAny_truthy_bool ?_
  cases k with
  | false =>
    obtain ⟨k', e', q'⟩ := q3
    cases e'
    exact ite_ff ⟨H3, I3, q'⟩
  | true =>
    refine ite_tt (test_last (thn (hc pins s3 σ H3 _ I3 q3) fun w' s4 ⟨z', H4, I4, r4, q4⟩ => thn (ho' pins s4 σ H4 y z' u w' _ I4 r2 r4 q4) fun d' s5 ⟨z2, H5, I5, r5, k2, e2, q5⟩ => ?_))
    subst e2
    cases r5
    exact wpAny_truthy_bool ⟨H5, I5, q5⟩

/-! ### truth -/
theorem line63 : (sizeLine : Nat) < 2 ^ 63 := by rw [sizeLine_eq]; decide
/-! ### strs and bytes -/
theorem op_add_str : OpR X (binaryOp .Add) (fun x y H Q => ∃ i j, x = .str i ∧ y = .str j ∧ i.length + j.length ≤ sizeLine ∧ Q (.str (i ++ j)) H) := by
  intro pins s σ H x y v u Q I rx ry h
  obtain ⟨i, j, rfl, rfl, hz, q⟩ := h
  obtain ⟨t, rfl⟩ := rx
  obtain ⟨t', rfl⟩ := ry
  exact add_str (fun t' tk => ⟨.str (i ++ j), H, I.tok _, ⟨_, rfl⟩, q⟩) hz
/-! ### scalar builtins, by CallR -/
theorem vals1 {x : V} {us : List Value} (r : Vals [x] us) : ∃ u, us = [u] ∧ RelV x u := by
  cases r with
  | cons r1 r2 => cases r2; exact ⟨_, rfl, r1⟩
theorem vals2 {x y : V} {us : List Value} (r : Vals [x, y] us) : ∃ u w', us = [u, w'] ∧ RelV x u ∧ RelV y w' := by
  cases r with
  | cons r1 r2 =>
    cases r2 with
    | cons r3 r4 => cases r4; exact ⟨_, _, rfl, r1, r3⟩
theorem call_max2 (hc : X.calm = true) : CallR X (.builtin "max") (fun xs H Q => ∃ i j, xs = [.int i, .int j] ∧ Q (.int (if j > i then j else i)) H) := by
  intro pins s σ H xs us Q I r h
  obtain ⟨i, j, rfl, q⟩ := h
  obtain ⟨u, w', rfl, ⟨t, rfl⟩, ⟨t', rfl⟩⟩ := vals2 r
  refine max_two_ints (I.ok.hd hc) fun h' tk k => ⟨_, H, I.kept k, ?_, q⟩
  by_cases hj : j > i
  · rw [if_pos hj, if_pos hj]; exact ⟨_, rfl⟩
  · rw [if_neg hj, if_neg hj]; exact ⟨_, rfl⟩
theorem call_min2 (hc : X.calm = true) : CallR X (.builtin "min") (fun xs H Q => ∃ i j, xs = [.int i, .int j] ∧ Q (.int (if j < i then j else i)) H) := by
  intro pins s σ H xs us Q I r h
  obtain ⟨i, j, rfl, q⟩ := h
  obtain ⟨u, w', rfl, ⟨t, rfl⟩, ⟨t', rfl⟩⟩ := vals2 r
  refine min_two_ints (I.ok.hd hc) fun h' tk k => ⟨_, H, I.kept k, ?_, q⟩
  by_cases hj : j < i
  · rw [if_pos hj, if_pos hj]; exact ⟨_, rfl⟩
  · rw [if_neg hj, if_neg hj]; exact ⟨_, rfl⟩
theorem call_str_int : CallR X (.type "str") (fun xs H Q => ∃ i, xs = [.int i] ∧ i.natAbs.log2 < 1920 ∧ Q (.str (toString i)) H) := by
  intro pins s σ H xs us Q I r h
  obtain ⟨i, rfl, hz, q⟩ := h
  obtain ⟨u, rfl, t, rfl⟩ := vals1 r
  exact PySem.P.str_of_int hz ⟨.str _, H, I.tok _, ⟨_, rfl⟩, q⟩
end
end L2

namespace L2
open PySem PySem.Spec PyProof.Rows

/-! ### an instance, its attributes a map -/
structure ObjM (h : Heap) (x dx C : Addr) (mA : Str → Option Value) : Prop where
  obj : h.get? x = some (PySem.W.instObj C dx)
  ns : h.Ns1 dx mA
  ne : dx ≠ x

theorem lookIn_ns {h : Heap} {dx : Addr} {mA : Str → Option Value} (n : h.Ns1 dx mA) : ∃ od, h.get? dx = some od ∧ ∀ name, PySem.W.lookIn name od = some (mA name) := by
  obtain ⟨o, es, ep, ho, hd, hk, _, hm⟩ := n
  refine ⟨o, ho, fun name => ?_⟩
  have e := hm name
  unfold nsFind findBy at e
  rw [← Array.find?_toList] at e
  unfold PySem.W.lookIn
  rw [hd]
  dsimp only
  split
  · rename_i y q
    rw [q] at e
    exact congrArg some e
  · rename_i q
    rw [q] at e
    have a : es.toList.any (·.refKey) = false := by
      rw [List.any_eq_false]
      intro y hy
      obtain ⟨z, t, hkey⟩ := hk y (Array.mem_toList_iff.mp hy)
      simp [DictEntry.refKey, hkey]
    have a' : ¬ es.toList.any (·.refKey) = true := by rw [a]; exact Bool.false_ne_true
    rw [if_neg a']
    exact congrArg some e

theorem ObjM.look {h : Heap} {x dx C : Addr} {mA : Str → Option Value} (I : ObjM h x dx C mA) : ∃ od, PySem.W.InstAt h x (PySem.W.instObj C dx) C (some od) ∧ ∀ name, PySem.W.lookIn name od = some (mA name) :=
  let ⟨od, ho, hl⟩ := lookIn_ns I.ns
  ⟨od, ⟨I.obj, rfl, rfl, ho⟩, hl⟩

section
variable {prog : Program} {w : World} {A : Around} {E : Value → Shared → Prop} {s : Shared} {K : PySem.W.Frag} {x dx C f : Addr} {mA : Str → Option Value} {name : Str} {v : Value}

end

/-! ### the attributes as a list of pairs -/
section
variable {P : Program} {w : World} {H H' : Hp} {h h' : Heap} {a C dx : Addr} {fs fs' : List (Str × V)}
theorem ins_get (hok : HOk P w H h) (e : H a = some (.ins C dx fs)) : ∃ mA, ObjM h a dx C mA ∧ (∀ f, RelO (fs.lookup f) (mA f)) ∧ PySem.Within mA (fs.map (·.1)) ∧ fs.length ≤ 1000 ∧ H dx = some (.own a) := by
  obtain ⟨d, z, ne, ob, mA, n, r, q⟩ := (show ObjOk P w H h a (.ins C dx fs) from hok a _ e)
  exact ⟨mA, ⟨ob, n, ne⟩, r, q, z, d⟩
end

/-! ### what of the text a class must have -/
structure Cls (K : PySem.W.Frag) (C : Addr) : Prop where
  pg : PySem.W.plainGet K C Str.empty = true
  hd : PySem.W.hasDictIn K C = true
  po : PySem.W.plainOver K C = true
  sa : PySem.W.findIn K (.ref C) "__setattr__" = some (some (.builtin "object.__setattr__"))
theorem Cls.get {K : PySem.W.Frag} {C : Addr} (c : Cls K C) (f : Str) : PySem.W.plainGet K C f = true := c.pg
section
variable {X : Cx} {pins : List (Addr × Obj)} {σ : St} {H : Hp} {s : Shared} {a C dx : Addr} {fs : List (Str × V)} {f : Str} {v : V} {A : Around} {E : Value → Shared → Prop}

end

/-! ### readings and rules -/
section
variable {X : Cx} {o e value : Expr} {f : Str} {pos pos' tpos : Pos} {ta tv : TE}
end

/-! ### isinstance -/
section
variable {X : Cx} {pins : List (Addr × Obj)} {σ : St} {H : Hp} {s : Shared} {A : Around} {E : Value → Shared → Prop} {Q : Value → Shared → Prop} {c : Value} {b : Bool}
/-- the type of a value, as the fragment's deciders take it; for an instance its class -/
inductive TyOf (K : PySem.W.Frag) (H : Hp) : V → Value → Prop where
  | non : TyOf K H .non (.type "NoneType")
  | bl (x : Bool) : TyOf K H (.bl x) (.type "bool")
  | int (i : Int) : TyOf K H (.int i) (.type "int")
  | str (x : Str) : TyOf K H (.str x) (.type "str")
  | flt (x : UInt64) : TyOf K H (.flt x) (.type "float")
  | lst {a : Addr} {xs : List V} (e : H a = some (.lst xs)) : TyOf K H (.ref a) (.type "list")
  | frz {a : Addr} {o : Obj} {xs : List V} (e : H a = some (.frz o (.lst xs))) : TyOf K H (.ref a) (.type "list")
  | tup {a : Addr} {xs : List V} (e : H a = some (.tup xs)) : TyOf K H (.ref a) (.type "tuple")
  | dK {a : Addr} {kvs : List (Key × V)} (e : H a = some (.dK kvs)) : TyOf K H (.ref a) (.type "dict")
  | dT {a : Addr} {kvs : List (List Key × V)} (e : H a = some (.dT kvs)) : TyOf K H (.ref a) (.type "dict")
  | ins {a C dx : Addr} {fs : List (Str × V)} (e : H a = some (.ins C dx fs)) (cl : Cls K C) (ha : PySem.W.findIn K (.ref C) "__class__" = some (some (.builtin "object.__class__")))
      (hn : PySem.W.specialIn K (.builtin "object.__class__") "__get__" = some (some (.builtin "getset_descriptor.__get__"))) (htk : PySem.W.takesIn K (.builtin "object.__class__") = some true)
      (hm : PySem.W.mroIn K C (.type "object") = some true) : TyOf K H (.ref a) (.ref C)
/-- isinstance(x, c) for one class c, a built-in or an own one: kitOne's answer -/
theorem isinst_ok {x : V} {u t : Value} (I : Inv X pins σ H s) (rx : RelV x u) (ty : TyOf X.K H x t) (e : PySem.W.kitOne X.K t c = some b) (h : ∀ tk, Q (.bool b) { s with toks := tk }) :
    wpAny (model X.prog X.w) A (call (.builtin "isinstance") [u, c]) Q E s := by
  cases ty with
  | non => cases (show u = Value.none from rx); exact PySem.W.kia_one PySem.W.kitx_none I.kIn True.intro e (fun z => nomatch z) h
  | bl y => cases (show u = Value.bool y from rx); exact PySem.W.kia_one PySem.W.kitx_bool I.kIn True.intro e (fun z => nomatch z) h
  | int i => obtain ⟨t, q⟩ := (show ∃ t, u = Value.int i t from rx); cases q; exact PySem.W.kia_one PySem.W.kitx_int I.kIn True.intro e (fun z => nomatch z) h
  | str y => obtain ⟨t, q⟩ := (show ∃ t, u = Value.str y t from rx); cases q; exact PySem.W.kia_one PySem.W.kitx_str I.kIn True.intro e (fun z => nomatch z) h
  | flt y => obtain ⟨t, q⟩ := (show ∃ t, u = Value.float y t from rx); cases q; exact PySem.W.kia_one PySem.W.kitx_float I.kIn True.intro e (fun z => nomatch z) h
  | @lst a xs ea =>
    cases (show u = Value.ref a from rx)
    obtain ⟨_, _, n, _, h1⟩ := (show ObjOk X.prog X.w H s.heap a (.lst xs) from I.hok a _ ea)
    exact PySem.W.kia_one PySem.W.kitx_list I.kIn ⟨_, h1, rfl⟩ e (fun z => nomatch z) h
  | @frz a ob xs ea =>
    cases (show u = Value.ref a from rx)
    obtain ⟨_, _, _, n, _, h1⟩ := (show ObjOk X.prog X.w H s.heap a (.frz ob (.lst xs)) from I.hok a _ ea)
    exact PySem.W.kia_one PySem.W.kitx_list I.kIn ⟨_, h1, rfl⟩ e (fun z => nomatch z) h
  | @tup a xs ea =>
    cases (show u = Value.ref a from rx)
    obtain ⟨_, _, _, p⟩ := (show ObjOk X.prog X.w H s.heap a (.tup xs) from I.hok a _ ea)
    obtain ⟨o, h1, h2, _⟩ := p
    exact PySem.W.kia_one PySem.W.kitx_tuple I.kIn ⟨o, h1, h2⟩ e (fun z => nomatch z) h
  | @dK a kvs ea =>
    cases (show u = Value.ref a from rx)
    obtain ⟨_, _, vs, _, p⟩ := (show ObjOk X.prog X.w H s.heap a (.dK kvs) from I.hok a _ ea)
    obtain ⟨o, es, ep, h1, h2, _⟩ := p
    exact PySem.W.kia_one PySem.W.kitx_dict I.kIn ⟨o, h1, h2.1⟩ e (fun z => nomatch z) h
  | @dT a kvs ea =>
    cases (show u = Value.ref a from rx)
    obtain ⟨_, _, xs, _, o, es, ep, h1, h2, _⟩ := (show ObjOk X.prog X.w H s.heap a (.dT kvs) from I.hok a _ ea)
    exact PySem.W.kia_one PySem.W.kitx_dict I.kIn ⟨o, h1, h2.1⟩ e (fun z => nomatch z) h
  | @ins a C dx fs ea cl ha hn htk hm =>
    cases (show u = Value.ref a from rx)
    obtain ⟨mA, O, _⟩ := ins_get I.hok ea
    obtain ⟨od, J, _⟩ := O.look
    exact PySem.W.kia_one (PySem.W.kitx_own (cl.get _) cl.hd ha hn htk hm) I.kIn J e (fun z => nomatch z) h
end
end L2

namespace L2
open PySem PySem.Spec PyProof.Rows

/-! ### room -/
structure Room (k : Nat) (A : Around) (c : Bool := true) : Prop where
  hc : c = true → A.handled = none
  dp : A.depth + 3 * k + 5 < recursionLimit
  un : A.units + 16 * k + 200 < cLine
theorem Room.hd {k : Nat} {A : Around} (r : Room k A) : A.handled = none := r.hc rfl
theorem Room.mono {j k : Nat} {A : Around} {c : Bool} (r : Room k A c) (h : j ≤ k) : Room j A c := ⟨r.hc, by have := r.dp; omega, by have := r.un; omega⟩
theorem Room.deeper {k : Nat} {A : Around} {c : Bool} (r : Room (k + 1) A c) (env : Env) : Room k (A.deeper env) c :=
  ⟨r.hc, by have := r.dp; show A.depth + 1 + 3 * k + 5 < _; omega, by have := r.un; show A.units + 3 + 16 * k + 200 < _; omega⟩
theorem Room.depth {k : Nat} {A : Around} {c : Bool} (r : Room k A c) : A.depth < recursionLimit := by have := r.dp; omega
theorem Room.units {k : Nat} {A : Around} {c : Bool} (r : Room k A c) : A.units + 64 < cLine := by have := r.un; omega
/-! ### argument lists and displays -/
def tNil : TA := fun _ H Q => Q [] H
def tCons (ta : TE) (tr : TA) : TA := fun σ H Q => ta σ H fun x H1 => tr σ H1 fun xs H2 => Q (x :: xs) H2
section
variable {X : Cx} {e : Expr} {es : List Expr} {te : TE} {t : TA} {pos : Pos}
theorem pa_nil : PA X [] tNil := fun _ _ _ _ H Q I h => Calls.spliced_nil ⟨[], H, I, .nil, h⟩
theorem pa_cons (ha : PE X e te) (hr : PA X es t) (hs : starEach (e :: es) X.env = (false, eval e X.env) :: starEach es X.env := by rfl) : PA X (e :: es) (tCons te t) := by
  intro pos pins s σ H Q I h
  rw [hs]
  show wpAny _ _ (spliced ((false, eval e X.env) :: backTo pos (starEach es X.env))) _ _ s
  refine Calls.spliced_cons (thn (ha pins s σ H _ I h) fun u s1 ⟨x, H1, I1, r1, q1⟩ => ?_)
  exact thn (hr pos pins s1 σ H1 _ I1 q1) fun us s2 ⟨xs, H2, I2, r2, q2⟩ => ⟨x :: xs, H2, I2, .cons r1 r2, q2⟩

/-- a tuple, a list of written items -/
def tTup (t : TA) : TE := fun σ H Q => t σ H fun xs H1 => xs.length ≤ sizeLine ∧ ∀ p, H1 p = none → Q (.ref p) (upd H1 p (.tup xs))
def tLst (t : TA) : TE := fun σ H Q => t σ H fun xs H1 => xs.length ≤ sizeLine ∧ ∀ p, H1 p = none → Q (.ref p) (upd H1 p (.lst xs))
theorem pe_tup {x1} (h : PA X es t) : PE X (.Tuple es x1 pos) (tTup t) := by
  intro pins s σ H Q I hq
  refine wpAny_Tuple_spliced (thn (h pos pins s σ H _ I hq) fun us s1 ⟨xs, H1, I1, r, z, q⟩ => ⟨by rw [← r.length]; exact z, ?_⟩)
  have hf : H1 s1.heap.objs.size = none := I1.hok.fresh (Nat.le_refl _)
  refine ⟨.ref s1.heap.objs.size, upd H1 s1.heap.objs.size (.tup xs), I1.laid (t' := s1.toks) (fun b u e => Heap.get?_push_of_some _ e) (Nat.le_refl _) ?_, rfl, q _ hf⟩
  exact ⟨z, us, r, ⟨_, Heap.get?_push_size _ rfl, rfl, _, rfl⟩⟩
theorem pe_lst (h : PA X es t) : PE X (.List es pos) (tLst t) := by
  intro pins s σ H Q I hq
  refine wpAny_List_spliced (thn (h pos pins s σ H _ I hq) fun us s1 ⟨xs, H1, I1, r, z, q⟩ => ⟨by rw [← r.length]; exact z, ?_⟩)
  have hf : H1 s1.heap.objs.size = none := I1.hok.fresh (Nat.le_refl _)
  refine ⟨.ref s1.heap.objs.size, upd H1 s1.heap.objs.size (.lst xs), I1.laid (t' := s1.toks) (fun b u e => Heap.get?_push_of_some _ e) (Nat.le_refl _) ?_, rfl, q _ hf⟩
  exact ⟨z, us, 0, r, Heap.get?_push_size _ rfl⟩
end

/-! ### what a def promises -/
/-- a def's promise: the bound arguments in the parameters' order, the heap, the wanted end, the wanted exception -/
abbrev Sp := List V → Hp → VK → XK → Prop
/-- how an exception lies behind a call (file 08 gives it): the callers' frames, abstract heap and state ahead of the call, the wish, the exception, the state -/
abbrev CXT := List Env → Hp → Shared → XK → Value → Shared → Prop

/-- the state at a call -/
structure Env0 (P : Program) (w : World) (K : PySem.W.Frag) (mg : Str → Option Value) (base : Heap) (A : Around) (outer : List Env) (s : Shared) (H : Hp) : Prop where
  frames : A.frames = some outer
  mod : Mod K mg base
  bs : ∀ b o, base.get? b = some o → s.heap.get? b = some o ∧ H b = none
  bsz : base.objs.size ≤ s.heap.objs.size
  funs : s.heap.FunFrames base outer
  frf : ∀ b ∈ frs outer, H b = none
  hok : HOk P w H s.heap
  bare : AllBare s.gens
/-- a call's end -/
def CE (outer : List Env) (P : Program) (w : World) (H : Hp) (s : Shared) (Q : VK) (u : Value) (s' : Shared) : Prop :=
  ∃ v H', s'.os = s.os ∧ AllBare s'.gens ∧ Un (frs outer) [] H H' s.heap s'.heap ∧ HOk P w H' s'.heap ∧ RelV v u ∧ Q v H'
def CR (CX : CXT) (outer : List Env) (P : Program) (w : World) (H : Hp) (s : Shared) (Q : VK) (E : XK) (r : Result) (s' : Shared) : Prop :=
  match r with
  | .ok (.ret u) => CE outer P w H s Q u s'
  | .ok _ => False
  | .error e => CX outer H s E e s'
structure FnOk (P : Program) (w : World) (K : PySem.W.Frag) (mg : Str → Option Value) (base : Heap) (CX : CXT) (k : Nat) (f : Addr) (fd : FuncData) (ps : List Str) (sp : Sp) (c : Bool := true) : Prop where
  len : ∀ vs H Q E, sp vs H Q E → vs.length = ps.length
  run : ∀ (A : Around) (outer : List Env) (s : Shared) (H : Hp) (args : Args) (us : List Value) (vs : List V) (Q : VK) (E : XK), Room k A c → Env0 P w K mg base A outer s H → BindsTo s fd args (ps.zip us) → Vals vs us → sp vs H Q E →
    codeAny (model P w) A (.call (.ref f) args) (CR CX outer P w H s Q E) s
section
variable {X : Cx} {pins : List (Addr × Obj)} {σ : St} {H : Hp} {s s' : Shared}
/-- from a body: what a callee wants -/
theorem Inv.env0 (I : Inv X pins σ H s) : Env0 X.prog X.w X.K X.mg X.base X.A X.stack s H :=
  ⟨I.ok.frames, I.ok.mod, I.bs, Nat.le_trans I.ok.bsz I.sz, I.stack, I.stkFree, I.hok, I.bare⟩
/-- behind a call -/
theorem Inv.after {Q : VK} {u : Value} (I : Inv X pins σ H s) (h : CE X.stack X.prog X.w H s Q u s') : EP X pins σ Q u s' := by
  obtain ⟨v, H', os, bare, un, hok, r, q⟩ := h
  obtain ⟨hh, g, d, t, os'⟩ := s'
  obtain rfl : os' = s.os := os
  exact ⟨v, H', I.call (h' := hh) (g' := g) (d' := d) (t' := t) (ch := []) un hok bare (fun b z => absurd z (by simp)), r, q⟩
end

/-! ### calls -/
/-- f(..): the written arguments, then the defaults dvs; E: what is wanted of an exception -/
def tCall (sp : Sp) (dvs : List V) (E : XK) (t : TA) : TE := fun σ H Q => t σ H fun vs H1 => sp (vs ++ dvs) H1 Q E
/-- how the parameters are bound: us the positional arguments, kw the keywords' values by name, ds the defaults that fill up -/
def Binds (K : PySem.W.Frag) (fd : FuncData) (ps : List Str) (ds : List Value) : Prop :=
  ∀ (s : Shared) (us : List Value), K.In s.heap → (us ++ ds).length = ps.length → BindsTo s fd ⟨us, []⟩ (ps.zip (us ++ ds))
/-- every parameter is given -/
theorem Binds.all {K : PySem.W.Frag} {fd : FuncData} {ps : List Str} (h : ∀ us : List Value, us.length = ps.length → bindArgs fd ⟨us, []⟩ = pure (ps.zip us)) : Binds K fd ps [] := fun s us _ hl => by
  rw [List.append_nil] at hl ⊢
  exact .of_eq (h us hl)

/-- an exception of a callee reaches what this body wants of exceptions -/
def Passes (CX : CXT) (X : Cx) (E : XK) : Prop := ∀ (pins : List (Addr × Obj)) (σ : St) (H : Hp) (s : Shared) (e : Value) (s' : Shared), Inv X pins σ H s → CX X.stack H s E e s' → X.xe e s'

section
variable {X : Cx} {CX : CXT} {k : Nat} {f C : Addr} {fd : FuncData} {ps : List Str} {sp : Sp} {dvs : List V} {ds : List Value} {E : XK} {x m : Str} {p pos apos : Pos} {e o : Expr} {es : List Expr} {ta : TE} {t : TA}

/-- the callee runs -/
theorem run_fn {pins : List (Addr × Obj)} {σ : St} {H : Hp} {s : Shared} {Q : VK} {us : List Value} {vs : List V} {cc : Bool} (F : FnOk X.prog X.w X.K X.mg X.base CX k f fd ps sp cc) (hr : Room k X.A cc) (hb : Binds X.K fd ps ds) (hd : Vals dvs ds) (hx : Passes CX X E)
    (I : Inv X pins σ H s) (r : Vals vs us) (h : sp (vs ++ dvs) H Q E) : wpAny (model X.prog X.w) X.A (call (.ref f) us) (EP X pins σ Q) X.xe s := by
  have r2 : Vals (vs ++ dvs) (us ++ ds) := r.append hd
  have hl : (us ++ ds).length = ps.length := by rw [← r2.length]; exact F.len _ _ _ _ h
  refine wpAny_call (codeAny_mono (F.run X.A X.stack s H ⟨us, []⟩ (us ++ ds) (vs ++ dvs) Q E hr I.env0 (hb s us I.kIn hl) r2 h) fun r s' hq => ?_)
  cases r with
  | error e => exact hx pins σ H s e s' I hq
  | ok fl =>
    cases fl with
    | ret u => exact I.after hq
    | next => exact False.elim hq
    | brk => exact False.elim hq
    | cont => exact False.elim hq

theorem pe_call {cc : Bool} (F : FnOk X.prog X.w X.K X.mg X.base CX k f fd ps sp cc) (hr : Room k X.A cc) (hg : Gl X x) (hm : X.mg x = some (.ref f)) (hk : PySem.W.keepIn X.K (.ref f) = true) (hb : Binds X.K fd ps ds) (hd : Vals dvs ds) (hx : Passes CX X E)
    (ha : PA X (e :: es) t) (hdb : (x == ("__debug__" : Str)) = false := by decide) (he : starEach (e :: es) X.env = (false, eval e X.env) :: starEach es X.env := by rfl) (hpl : (backTo pos (starEach es X.env)).any (·.1) = false := by rfl) :
    PE X (.Call (.Name x p) (e :: es) [] pos) (tCall sp dvs E t) := by
  intro pins s σ H Q I h
  refine wpAny_Call_Name_kw (ld_glob I hg hm ?_ hdb)
  refine PySem.W.callWith_K (h₀ := X.base) I.ok.mod.kin hk (thn (ha pos pins s σ H _ I h) fun us s1 ⟨vs, H1, I1, r, q⟩ => ⟨I1.kIn, ?_⟩) he hpl
  exact run_fn F hr hb hd hx I1 r q
end

/-! ### keywords -/
section
variable {X : Cx} {CX : CXT} {k : Nat} {f C : Addr} {fd : FuncData} {ps ks : List Str} {sp : Sp} {E : XK} {x m : Str} {p pos apos kpos : Pos} {e o : Expr} {es : List Expr} {kws : List Keyword} {te ta : TE} {t tk : TA} {nm : Option Str}
variable {g : List Value → List Value → List Value} {gV : List V → List V → List V}
end

/-! ### a def's body keeps its promise -/
/-- names: the parameters first -/
structure FnScope (N P : List Str) (sc : Scope) : Prop where
  kind : sc.kind = .function
  co : sc.isCoroutine = false
  gen : sc.isGenerator = false
  nd : N.Nodup
  pre : N.take P.length = P
  par : ∀ x ∈ P, sc.names.lookup x = some .local ∨ sc.names.lookup x = some .cell
  nofree : ∀ y ∈ sc.names, y.2 ≠ .free

theorem bindL_out {kindOf : Str → Option NameKind} {x : Str} : ∀ {binds : List (Str × Value)} {m : Str → Option Value}, (∀ v, (x, v) ∉ binds) → bindL kindOf binds m x = m x
  | [], _, _ => rfl
  | (n, v) :: r, m, h => by
    unfold bindL
    rw [bindL_out fun w hw => h w (List.mem_cons_of_mem _ hw)]
    split
    · have : x ≠ n := by rintro rfl; exact h v List.mem_cons_self
      simp [this]
    · rfl
theorem bindC_out {kindOf : Str → Option NameKind} {x : Str} : ∀ {binds : List (Str × Value)} {m : Str → Option Value}, (∀ v, (x, v) ∉ binds) → bindC kindOf binds m x = m x
  | [], _, _ => rfl
  | (n, v) :: r, m, h => by
    unfold bindC
    rw [bindC_out fun w hw => h w (List.mem_cons_of_mem _ hw)]
    split
    · rfl
    · have : x ≠ n := by rintro rfl; exact h v List.mem_cons_self
      simp [this]
theorem bindL_get {kindOf : Str → Option NameKind} {x : Str} {v : Value} : ∀ {P : List Str} {vs : List Value} {i : Nat} {m : Str → Option Value}, P.Nodup → P[i]? = some x → vs[i]? = some v → kindOf x = some .local →
    bindL kindOf (P.zip vs) m x = some v
  | [], _, _, _, _, h, _, _ => by simp at h
  | _ :: _, [], _, _, _, _, h, _ => by simp at h
  | p :: P, w :: vs, 0, m, nd, h1, h2, hk => by
    simp at h1 h2; subst h1; subst h2
    show bindL kindOf ((p, w) :: P.zip vs) m p = _
    unfold bindL
    rw [bindL_out fun v hv => (List.nodup_cons.mp nd).1 (List.of_mem_zip hv).1, if_pos hk]
    simp
  | p :: P, w :: vs, i + 1, m, nd, h1, h2, hk => by
    show bindL kindOf ((p, w) :: P.zip vs) m x = _
    unfold bindL
    exact bindL_get (i := i) (List.nodup_cons.mp nd).2 (by simpa using h1) (by simpa using h2) hk
theorem bindC_get {kindOf : Str → Option NameKind} {x : Str} {v : Value} : ∀ {P : List Str} {vs : List Value} {i : Nat} {m : Str → Option Value}, P.Nodup → P[i]? = some x → vs[i]? = some v → kindOf x ≠ some .local →
    bindC kindOf (P.zip vs) m x = some v
  | [], _, _, _, _, h, _, _ => by simp at h
  | _ :: _, [], _, _, _, _, h, _ => by simp at h
  | p :: P, w :: vs, 0, m, nd, h1, h2, hk => by
    simp at h1 h2; subst h1; subst h2
    show bindC kindOf ((p, w) :: P.zip vs) m p = _
    unfold bindC
    rw [bindC_out fun v hv => (List.nodup_cons.mp nd).1 (List.of_mem_zip hv).1, if_neg hk]
    simp
  | p :: P, w :: vs, i + 1, m, nd, h1, h2, hk => by
    show bindC kindOf ((p, w) :: P.zip vs) m x = _
    unfold bindC
    exact bindC_get (i := i) (List.nodup_cons.mp nd).2 (by simpa using h1) (by simpa using h2) hk

/-- the names' values at the entry -/
def start (N : List Str) (vs : List V) : St := vs.map some ++ List.replicate (N.length - vs.length) none

/-- the context of a def's body, at its entry; an exception leaves the frame, then lies as CX says -/
def cxOf (CX : CXT) (P : Program) (w : World) (K : PySem.W.Frag) (mg : Str → Option Value) (base : Heap) (N : List Str) (qual : Str) (scope : Scope) (f : Addr) (cd : Value) (A : Around) (outer : List Env) (s : Shared) (H : Hp) (E : XK) (c : Bool := true) : Cx where
  prog := P
  w := w
  K := K
  mg := mg
  base := base
  A := A.deeper (envOfC qual scope s.heap.objs.size f cd)
  N := N
  s₀ := s
  H₀ := H
  env := envOfC qual scope s.heap.objs.size f cd
  outer := outer
  stack := envOfC qual scope s.heap.objs.size f cd :: outer
  ex := []
  calm := c
  fn := fun _ => true
  pn := []
  xe := fun e s' => wpAny (model P w) (A.deeper (envOfC qual scope s.heap.objs.size f cd)) (leaving (envOfC qual scope s.heap.objs.size f cd) e) (fun _ s'' => CX outer H s E e s'') (fun e' s'' => CX outer H s E e' s'') s'

theorem cell_has {sc : Scope} {n : Nat} {x : Str} (h : sc.names.lookup x = some .cell) : ∃ c, (cellsFrom n sc.names []).lookup x = some c := by
  have q := PySem.W.cellsFrom_some sc.names n [] (.inl h)
  exact Option.isSome_iff_exists.mp q

theorem inv_start {CX : CXT} {P : Program} {w : World} {K : PySem.W.Frag} {mg : Str → Option Value} {base : Heap} {N ps : List Str} {qual : Str} {scope : Scope} {f : Addr} {cd : Value} {A : Around} {outer : List Env} {s s1 : Shared} {H : Hp} {E : XK} {us : List Value} {vs : List V} {c : Bool}
    (S : FnScope N ps scope) (hd : c = true → A.handled = none) (e0 : Env0 P w K mg base A outer s H) (hl : vs.length = ps.length) (r : Vals vs us)
    (x : InCallC s s.heap.objs.size (bindL (envOfC qual scope s.heap.objs.size f cd).kindOf (ps.zip us) fun _ => none) (cellsFrom (s.heap.objs.size + 1) scope.names []) (bindC (envOfC qual scope s.heap.objs.size f cd).kindOf (ps.zip us) fun _ => none) s1) :
    Inv (cxOf CX P w K mg base N qual scope f cd A outer s H E c) [] (start N vs) H s1 := by
  have hpl : ps.length ≤ N.length := by have := congrArg List.length S.pre; rw [List.length_take] at this; omega
  obtain ⟨h1, tk, rfl, hk⟩ := x.done
  have noA : ∀ b : Addr, b ∉ (cxOf CX P w K mg base N qual scope f cd A outer s H E c).ex := fun b z => absurd (show b ∈ ([] : List Addr) from z) (by simp)
  refine ⟨⟨e0.mod, S.kind, rfl, rfl, Nat.le_refl _, fun y z c' h1 h2 => ?_, fun y hy => ?_, fun y c _ h => ?_, hd, Around.frames_deeper e0.frames, .inr ⟨rfl, rfl⟩, fun b z => absurd z (noA b), e0.bs, e0.bsz, fun b _ _ => noA b, fun b z => absurd z (noA b), e0.funs, e0.frf⟩,
    rfl, e0.bare, Un.kept hk, ⟨_, x.toInCall.ns, fun i y v h1 h2 h3 => ?_⟩, fun y c h => ⟨_, x.cell y c h⟩, e0.hok.fresh (Nat.le_refl _), fun y c h => ?_, fun p hp => absurd (show p ∈ ([] : List (Addr × Obj)) from hp) (by simp), e0.hok.kept hk, ?_⟩
  · exact name_of_addr x.apart (PySem.mem_of_lookup h1) (PySem.mem_of_lookup h2)
  · have hy : scope.names.lookup y = some .cell ∨ scope.names.lookup y = some .free := hy
    rcases hy with hy | hy
    · exact cell_has hy
    · exact absurd rfl (S.nofree _ (PySem.mem_of_lookup hy))
  · exact Nat.le_of_lt (x.above y c (PySem.mem_of_lookup h))
  · have hi : i < vs.length := by
      unfold start at h2
      by_cases hi : i < vs.length
      · exact hi
      · rw [List.getElem?_append_right (by simpa using hi)] at h2
        rw [List.getElem?_replicate] at h2
        split at h2 <;> cases h2
    have ha : vs[i]? = some v := by
      unfold start at h2
      rw [List.getElem?_append_left (by simpa using hi), List.getElem?_map] at h2
      cases e : vs[i]? with
      | none => rw [e] at h2; cases h2
      | some a => rw [e] at h2; cases h2; rfl
    obtain ⟨u, hu, rv⟩ := r.get ha
    have hp : ps[i]? = some y := by
      rw [← S.pre, List.getElem?_take_of_lt (by omega)]; exact h1
    have ndP : ps.Nodup := by rw [← S.pre]; exact S.nd.sublist (List.take_sublist _ _)
    refine ⟨u, rv, ?_⟩
    rcases S.par y (List.mem_of_getElem? hp) with k | k
    · exact .inl ⟨k, bindL_get ndP hp hu k⟩
    · obtain ⟨c, e⟩ := cell_has (n := s.heap.objs.size + 1) k
      refine .inr ⟨.inl k, c, e, ?_⟩
      have q := x.cell y c e
      rw [bindC_get ndP hp hu (by show scope.names.lookup y ≠ _; rw [k]; decide)] at q
      exact q
  · exact e0.hok.fresh (Nat.le_of_lt (x.above y c (PySem.mem_of_lookup h)))
  · unfold start
    show _ = N.length
    rw [List.length_append, List.length_map, List.length_replicate]
    omega

/-- THE RULE: a def (or a method) of the text, by its body. The body's reading t is chosen for each entry; it is run at the parameters' values -/
theorem fn_of {CX : CXT} {P : Program} {w : World} {K : PySem.W.Frag} {mg : Str → Option Value} {base : Heap} {k : Nat} {f : Addr} {name qual : Str} {params : Arguments} {body : List Stmt} {scope : Scope} {dV kV doc pm cdv ct oc : Value} {an od : Option Addr}
    {osl : Array (Option Value)} {N ps : List Str} {sp : Sp} {c : Bool} (lk : K.lookup f = some ⟨oc, od, .func (PySem.W.fnOf name qual params body scope dV kV doc pm an cdv ct), osl⟩) (hcd : PySem.W.codeIn K cdv qual = true) (S : FnScope N ps scope)
    (len : ∀ vs H Q E, sp vs H Q E → vs.length = ps.length)
    (hbody : ∀ (A : Around) (outer : List Env) (s : Shared) (H : Hp) (vs : List V) (Q : VK) (E : XK), Room k (A.deeper (envOfC qual scope s.heap.objs.size f cdv)) c → sp vs H Q E →
      ∃ t, PSs (cxOf CX P w K mg base N qual scope f cdv A outer s H E c) body t ∧ t { nx := fun _ H' => Q .non H', rt := Q } (start N vs) H) :
    FnOk P w K mg base CX (k + 1) f (PySem.W.fnOf name qual params body scope dV kV doc pm an cdv ct) ps sp c := by
  refine ⟨len, fun A outer s H args us vs Q E hr e0 hb r hsp => ?_⟩
  have hl := len _ _ _ _ hsp
  have KX : K.In s.heap := e0.mod.kin.keeps fun b o e => (e0.bs b o e).1
  have lim : s.heap.NoLimit := e0.mod.nolimit.keeps fun b o e => (e0.bs b o e).1
  have hkind : ∀ y ∈ ps.zip us, scope.names.lookup y.1 = some .local ∨ (scope.names.lookup y.1 = some .cell ∧ ((cellsFrom (s.heap.objs.size + 1) scope.names []).lookup y.1).isSome = true) := fun ⟨n, v⟩ hy => by
    rcases S.par n (List.of_mem_zip hy).1 with q | q
    · exact .inl q
    · exact .inr ⟨q, PySem.W.cellsFrom_some _ _ _ (.inl q)⟩
  refine codeAny_call_function hr.depth (KX _ _ lk) rfl S.co S.gen rfl (PySem.W.codeRec_of KX hcd) (hb _ _ _ _ ?_)
  refine wpAny_newFunctionEnv_cells S.kind hkind fun env he s1 x => ?_
  subst he
  refine ⟨lim.keeps x.toInCall.keep, codeAny_func ?_⟩
  obtain ⟨t, ht, hq⟩ := hbody A outer s H vs Q E (hr.deeper _) hsp
  have I : Inv (cxOf CX P w K mg base N qual scope f cdv A outer s H E c) [] (start N vs) H s1 := inv_start S hr.hc e0 hl r x
  refine wpAny_mono (ht [] s1 (start N vs) H _ I hq) (fun fl s' hs => ?_) fun e s' hs => hs
  have fin : ∀ {σ' : St} {H' : Hp} {v : V} {u : Value}, Inv (cxOf CX P w K mg base N qual scope f cdv A outer s H E c) [] σ' H' s' → RelV v u → Q v H' → CE outer P w H s Q u s' :=
    fun {σ' H' v u} J rv q => ⟨v, H', J.os, J.bare, J.base, J.hok, rv, q⟩
  cases fl with
  | ret u =>
    obtain ⟨v, σ', H', J, rv, q⟩ := hs
    exact fin J rv q
  | next =>
    obtain ⟨σ', H', J, q⟩ := hs
    exact fin (v := V.non) (u := Value.none) J rfl q
  | brk =>
    obtain ⟨_, _, _, q⟩ := hs
    exact False.elim q
  | cont =>
    obtain ⟨_, _, _, q⟩ := hs
    exact False.elim q
end L2

namespace L2
open PySem PySem.Spec PyProof.Rows
section
variable {X : Cx} {x : Str} {p pos : Pos} {e : Expr} {es : List Expr} {t : TA} {id T : String} {r : List V → Hp → VK → Prop}

def tCB (r : List V → Hp → VK → Prop) (t : TA) : TE := fun σ H Q => t σ H fun vs H1 => r vs H1 Q
/-- f(e, ..), f a built-in function -/
theorem pe_callB (hc : CallR X (.builtin id) r) (hg : Gl X x) (hm : X.mg x = none) (hv : bootBuiltins x = some (.builtin id)) (ha : PA X (e :: es) t) (hn : x ≠ "__name__" := by decide) (hdb : (x == ("__debug__" : Str)) = false := by decide)
    (he : starEach (e :: es) X.env = (false, eval e X.env) :: starEach es X.env := by rfl) (hpl : (backTo pos (starEach es X.env)).any (·.1) = false := by rfl) : PE X (.Call (.Name x p) (e :: es) [] pos) (tCB r t) := by
  intro pins s σ H Q I h
  refine wpAny_Call_Name_kw (ld_blt I hg hm hv ?_ hn hdb)
  exact PyProof.Rows.callWith_builtin1 (thn (ha pos pins s σ H _ I h) fun us s1 ⟨vs, H1, I1, r1, q1⟩ => hc pins s1 σ H1 vs us Q I1 r1 q1) he hpl
/-- T(e, ..), T a built-in type -/
theorem pe_callTy (hc : CallR X (.type T) r) (hg : Gl X x) (hm : X.mg x = none) (hv : bootBuiltins x = some (.type T)) (ha : PA X (e :: es) t) (hn : x ≠ "__name__" := by decide) (hdb : (x == ("__debug__" : Str)) = false := by decide)
    (he : starEach (e :: es) X.env = (false, eval e X.env) :: starEach es X.env := by rfl) (hpl : (backTo pos (starEach es X.env)).any (·.1) = false := by rfl) : PE X (.Call (.Name x p) (e :: es) [] pos) (tCB r t) := by
  intro pins s σ H Q I h
  refine wpAny_Call_Name_kw (ld_blt I hg hm hv ?_ hn hdb)
  exact PyProof.Rows.callWith_type1 (thn (ha pos pins s σ H _ I h) fun us s1 ⟨vs, H1, I1, r1, q1⟩ => hc pins s1 σ H1 vs us Q I1 r1 q1) he hpl
end
end L2

namespace HT
open PySem PyProof.Rows

section
open PySem.SeqAt
open PySem.AutoSeq1 (wpAny_loadPart')
open PySem.MeetsSeq PySem.MeetsSeq2 PySem.MeetsSeq3

end

section
variable {prog : Program} {w : World} {A : Around} {E : Value → Shared → Prop} {s : Shared}

/-- t + u, t not empty -/
theorem cat_tup {t b : Addr} {vs ws : List Value} {Q : Value → Shared → Prop} (ht : IsTup s.heap t vs.toArray) (hb : IsTup s.heap b ws.toArray) (hv : vs ≠ [])
    (h1 : ws = [] → Q (.ref t) s) (h2 : ws ≠ [] → Q (.ref s.heap.objs.size) { s with heap := s.heap.push { cls := .type "tuple", data := .seq (vs ++ ws).toArray } })
    (hsz : vs.length + ws.length ≤ sizeLine) : wpAny (model prog w) A (binaryOp .Add (.ref t) (.ref b)) Q E s := by
  obtain ⟨⟨cls, dd, data, sl⟩, ho, hc, n, hd⟩ := id ht
  obtain ⟨⟨cls2, dd2, data2, sl2⟩, ho2, hc2, n2, hd2⟩ := id hb
  simp only at hc hd hc2 hd2
  subst hc hd hc2 hd2
  have e : vs.toArray ++ ws.toArray = (vs ++ ws).toArray := by simp
  by_cases hw : ws = []
  · exact concat_meets ⟨_, ho, rfl⟩ ⟨_, ho2, rfl⟩ noFill_tuple_add seq_tuple_add PySem.F.slot_tuple_add PySem.F.entry_tuple_add (PySem.F.args_tuple_add_2 _ _)
      (tuple_addW1 t b vs.toArray ws.toArray n n2 dd dd2 sl sl2 (by simpa using hv) (by simp [hw])) ⟨ho, ho2, h1 hw⟩
  · refine concat_meets ⟨_, ho, rfl⟩ ⟨_, ho2, rfl⟩ noFill_tuple_add seq_tuple_add PySem.F.slot_tuple_add PySem.F.entry_tuple_add (PySem.F.args_tuple_add_2 _ _)
      (tuple_addW2 t b vs.toArray ws.toArray n n2 dd dd2 sl sl2 (by simpa using hv) (by simpa using hw) (by rw [List.size_toArray, List.size_toArray]; exact hsz)) ⟨ho, ho2, ?_⟩
    rw [e]
    exact h2 hw

/-! ### t[a:b], not the whole -/
/-- a slice's bound as a place among n (d where it is left out) -/
def sIx (n d : Nat) : Option Int → Nat
  | none => d
  | some v => if v < 0 then (v + (n : Int)).toNat else min v.toNat n
theorem sIx_none (n d : Nat) : sIx n d none = d := rfl
theorem sIx_nat (n d k : Nat) : sIx n d (some (k : Int)) = min k n := by
  show (if (k : Int) < 0 then ((k : Int) + (n : Int)).toNat else min (k : Int).toNat n) = min k n
  rw [if_neg (by omega), Int.toNat_natCast]
theorem sIx_le (n d : Nat) (hd : d ≤ n) (o : Option Int) : sIx n d o ≤ n := by
  cases o with
  | none => exact hd
  | some v =>
    show (if v < 0 then (v + (n : Int)).toNat else min v.toNat n) ≤ n
    by_cases hv : v < 0
    · rw [if_pos hv]; omega
    · rw [if_neg hv]; exact Nat.min_le_right _ _
theorem clip_eq (v : Int) (n d : Nat) : (if v < 0 then max (v + (n : Int)) 0 else min v (n : Int)) = ((sIx n d (some v) : Nat) : Int) := by
  show (if v < 0 then max (v + (n : Int)) 0 else min v (n : Int)) = (((if v < 0 then (v + (n : Int)).toNat else min v.toNat n) : Nat) : Int)
  by_cases hv : v < 0
  · simp only [if_pos hv]; omega
  · simp only [if_neg hv]; omega
theorem adjust_gen (lo hi : Option Int) (n : Nat) : Builtin.Slice.sliceAdjust lo hi 1 (n : Int) = (((sIx n 0 lo : Nat) : Int), ((sIx n n hi : Nat) : Int)) := by
  have h1 : ¬ ((1 : Int) < 0) := by omega
  unfold Builtin.Slice.sliceAdjust
  simp only [h1, if_false]
  refine Prod.ext ?_ ?_
  · cases lo with
    | none => rfl
    | some v => exact clip_eq v n 0
  · cases hi with
    | none => rfl
    | some v => exact clip_eq v n n
theorem places_gen (i j : Nat) : Builtin.Slice.slicePlaces (i : Int) (j : Int) 1 = j - i := by
  unfold Builtin.Slice.slicePlaces
  have h1 : (1 : Int) > 0 := by omega
  simp only [h1, if_true, Int.ediv_one]
  split <;> omega
theorem slicePart_ {v : Value} {o : Option Int} {Q : Option Int → Shared → Prop} (p : IsPart v o) (h : Q o s) : wpAny (model prog w) A (Builtin.Slice.slicePartIndex v) Q E s := by
  cases p with
  | none => exact slicePart_none h
  | int i t => exact slicePart_int h
theorem sliceApplied_gen {sl : Addr} {vl vu : Value} {lo hi : Option Int} {n : Nat} {Q : Int × Int × Nat → Shared → Prop} (hs : s.heap.IsSliceOf sl vl vu .none) (pl : IsPart vl lo) (pu : IsPart vu hi)
    (h : Q (((sIx n 0 lo : Nat) : Int), 1, sIx n n hi - sIx n 0 lo) s) : wpAny (model prog w) A (Builtin.Slice.sliceApplied (.ref sl) (pure (n : Int))) Q E s := by
  obtain ⟨os, hos, hcs, hds⟩ := id hs
  unfold Builtin.Slice.sliceApplied Builtin.Slice.sliceFields
  refine wpAny_bind (wpAny_bind (wpAny_field hos hds (x := vl) rfl (wpAny_bind (wpAny_field hos hds (x := vu) rfl (wpAny_bind (wpAny_field hos hds (x := .none) rfl (wpAny_pure ?_)))))))
  refine wpAny_bind (slicePart_none ?_)
  show wpAny _ _ (if ((1 : Int) == 0) = true then _ else _) _ _ s
  rw [if_neg (by decide)]
  refine wpAny_bind (slicePart_ pl (wpAny_bind (slicePart_ pu (wpAny_bind (wpAny_pure ?_)))))
  show wpAny _ _ (match Builtin.Slice.sliceAdjust lo hi 1 (n : Int) with | (lo, hi) => pure (lo, (1 : Int), Builtin.Slice.slicePlaces lo hi 1)) _ _ s
  rw [adjust_gen lo hi n]
  show wpAny _ _ (pure (((sIx n 0 lo : Nat) : Int), (1 : Int), Builtin.Slice.slicePlaces ((sIx n 0 lo : Nat) : Int) ((sIx n n hi : Nat) : Int) 1)) _ _ s
  rw [places_gen]
  exact wpAny_pure h
theorem pick_gen (xs : Array Value) (i k : Nat) : ((List.range k).filterMap fun (m : Nat) => xs[((i : Int) + (m : Int) * 1).toNat]?).toArray = ((xs.toList.drop i).take k).toArray := by
  have e : (fun (m : Nat) => xs[((i : Int) + (m : Int) * 1).toNat]?) = fun m => xs[i + m]? := by
    funext m
    have : ((i : Int) + (m : Int) * 1).toNat = i + m := by omega
    rw [this]
  rw [e]
  have := pick_run xs i k
  rw [List.filterMap_map] at this
  have e2 : ((fun x => xs[x]?) ∘ fun x => i + x) = fun m => xs[i + m]? := rfl
  rw [e2] at this
  rw [this]

theorem getItem_tuple_cut {t sl : Addr} {items : Array Value} {vl vu : Value} {lo hi : Option Int} {Q : Value → Shared → Prop} (ht : IsTup s.heap t items) (hs : s.heap.IsSliceOf sl vl vu .none) (pl : IsPart vl lo) (pu : IsPart vu hi)
    (hw : ¬ (sIx items.size 0 lo = 0 ∧ sIx items.size items.size hi = items.size))
    (h : Q (.ref s.heap.objs.size) { s with heap := s.heap.push { cls := .type "tuple", data := .seq ((items.toList.drop (sIx items.size 0 lo)).take (sIx items.size items.size hi - sIx items.size 0 lo)).toArray } })
    (hsz : items.size ≤ sizeLine) : wpAny (model prog w) A (getItem (.ref t) (.ref sl)) Q E s := by
  have htake : sizeOk (.seq ((items.toList.drop (sIx items.size 0 lo)).take (sIx items.size items.size hi - sIx items.size 0 lo)).toArray) := by
    show ((items.toList.drop (sIx items.size 0 lo)).take (sIx items.size items.size hi - sIx items.size 0 lo)).toArray.size ≤ sizeLine
    rw [List.size_toArray, List.length_take, List.length_drop, Array.length_toList]
    omega
  have hj : sIx items.size items.size hi ≤ items.size := sIx_le _ _ (Nat.le_refl _) hi
  obtain ⟨os, hos, hcs, hds⟩ := id hs
  have hTs : s.TypeIs (.ref sl) "slice" := ⟨os, hos, hcs⟩
  unfold getItem
  try with_reducible refine wpAny_holding ?_
  first | refine wpAny_bind (wpAny_pure ?_) | skip
  refine wpAny_bind (wpAny_sequenceKey ht.typeIs (by decide) ?_)
  refine wpAny_bind (wpAny_callSpecial?_slot (name := Str.ofString "__getitem__") ht.typeIs PyProof.Rows.slot_tuple_getitem
    (wpAny_call_entry PyProof.Rows.slot_tuple_getitem ht.typeIs entry_tuple_getitem ?_ (args_tuple_getitem _ _)))
  show wpAny _ _ (Builtin.Tuple.tupleItemsOf (.ref t) >>= _) _ _ s
  refine wpAny_bind (tupleItemsOf_ ht ?_)
  refine wpAny_bind (wpAny_typeOf hTs ?_)
  rw [if_pos (by decide)]
  refine wpAny_bind (sliceApplied_gen hs pl pu ?_)
  have hno : ¬ ((((sIx items.size 0 lo : Nat) : Int) == 0 && (1 : Int) == 1 && (sIx items.size items.size hi - sIx items.size 0 lo) == items.size) = true) := by
    intro q
    rw [Bool.and_eq_true, Bool.and_eq_true] at q
    have q1 : ((sIx items.size 0 lo : Nat) : Int) = 0 := eq_of_beq q.1.1
    have q2 : sIx items.size items.size hi - sIx items.size 0 lo = items.size := eq_of_beq q.2
    exact hw ⟨by omega, by omega⟩
  show wpAny _ _ (if (((sIx items.size 0 lo : Nat) : Int) == 0 && (1 : Int) == 1 && (sIx items.size items.size hi - sIx items.size 0 lo) == items.size) = true then _ else _) _ _ s
  rw [if_neg hno, pick_gen]
  first
    | exact wpAny_bind (m := Builtin.Tuple.tupleExact _) (wpAny_newObj_type (wpAny_pure ⟨_, rfl, wpAny_pure h⟩) htake)
    | exact wpAny_bind (m := Builtin.Tuple.tupleExact _) (wpAny_newObj_type (wpAny_bind (wpAny_pure (wpAny_pure ⟨_, rfl, wpAny_pure h⟩))) htake)
    | exact wpAny_bind (wpAny_bind (m := Builtin.Tuple.tupleExact _) (wpAny_newObj_type (wpAny_pure (wpAny_pure ⟨_, rfl, wpAny_pure h⟩)) htake))
    | exact wpAny_bind (wpAny_bind (m := Builtin.Tuple.tupleExact _) (wpAny_newObj_type (wpAny_pure ⟨_, rfl, wpAny_pure h⟩) htake))
end
end HT

namespace L2
open PySem PySem.Spec PyProof.Rows

/-! ### the parts of a slice -/
abbrev TO := St → Hp → (Option Int → Hp → Prop) → Prop
/-- a slice's part (left out, or an int) -/
def PO (X : Cx) (e : Option Expr) (t : TO) : Prop :=
  ∀ (pins : List (Addr × Obj)) (s : Shared) (σ : St) (H : Hp) (Q : Option Int → Hp → Prop), Inv X pins σ H s → t σ H Q →
    wpAny (model X.prog X.w) X.A (evalPart e X.env) (fun u s' => ∃ o H', Inv X pins σ H' s' ∧ IsPart u o ∧ Q o H') X.xe s
def tNoPart : TO := fun _ H Q => Q none H
def tPart (t : TE) : TO := fun σ H Q => t σ H fun x H1 => ∃ i, x = .int i ∧ Q (some i) H1

section
variable {X : Cx} {e : Expr} {te : TE} {lo hi : Option Expr} {tl th : TO} {pos p2 : Pos}

theorem po_none : PO X none tNoPart := by
  intro pins s σ H Q I h
  rw [evalPart_none]
  exact wpAny_pure ⟨none, H, I, .none, h⟩
theorem po_some (h : PE X e te) : PO X (some e) (tPart te) := by
  intro pins s σ H Q I hw
  rw [evalPart_some]
  refine thn (h pins s σ H _ I hw) fun u s1 ⟨x, H1, I1, r1, q1⟩ => ?_
  obtain ⟨i, rfl, q⟩ := q1
  obtain ⟨t, rfl⟩ := r1
  exact ⟨some i, H1, I1, .int i t, q⟩

/-- what a slice of a value is, by values: the slice object stands at sl -/
def SlR (X : Cx) (r : V → Option Int → Option Int → Hp → VK → Prop) : Prop :=
  ∀ (pins : List (Addr × Obj)) (s : Shared) (σ : St) (H : Hp) (x : V) (v vl vu : Value) (lo hi : Option Int) (sl : Addr) (Q : VK), Inv X pins σ H s → RelV x v → s.heap.IsSliceOf sl vl vu .none → IsPart vl lo → IsPart vu hi → r x lo hi H Q →
    ∃ T id, typeLookup (.type T) "__getitem__" = pure (some (.builtin id)) ∧ s.TypeIs v T ∧ wpAny (model X.prog X.w) X.A (getItem v (.ref sl)) (EP X pins σ Q) X.xe s
def tSl (r : V → Option Int → Option Int → Hp → VK → Prop) (te : TE) (tl th : TO) : TE := fun σ H Q => te σ H fun x H1 => tl σ H1 fun l H2 => th σ H2 fun u H3 => r x l u H3 Q
/-- a[lo:hi], any a -/
theorem pe_slice {r : V → Option Int → Option Int → Hp → VK → Prop} (hr : SlR X r) (he : PE X e te) (hl : PO X lo tl) (hu : PO X hi th) : PE X (.Subscript e (.Slice lo hi none p2) pos) (tSl r te tl th) := by
  intro pins s σ H Q I h
  refine Subscript_ (thn (he pins s σ H _ I h) fun v s1 ⟨x, H1, I1, r1, q1⟩ => ?_)
  refine wpAny_Slice (thn (hl pins s1 σ H1 _ I1 q1) fun vl s2 ⟨l, H2, I2, pl, q2⟩ => thn (hu pins s2 σ H2 _ I2 q2) fun vu s3 ⟨u, H3, I3, pu, q3⟩ => ?_)
  rw [evalPart_none]
  refine wpAny_pure ?_
  have I4 : Inv X pins σ H3 { s3 with heap := s3.heap.push { cls := .type "slice", data := .fields #[vl, vu, .none] } } := I3.kept (t' := s3.toks) fun b ob q => Heap.get?_push_of_some _ q
  obtain ⟨T, id, hT, ht, hg⟩ := hr pins { s3 with heap := s3.heap.push { cls := .type "slice", data := .fields #[vl, vu, .none] } } σ H3 x v vl vu l u s3.heap.objs.size Q I4 r1 (Heap.IsSliceOf.new ..) pl pu q3
  show wpAny (model X.prog X.w) X.A (subscriptTail e (.Slice lo hi none p2) v (.ref s3.heap.objs.size)) (EP X pins σ Q) X.xe { s3 with heap := s3.heap.push { cls := .type "slice", data := .fields #[vl, vu, .none] } }
  exact tail_any (ops := [.ref s3.heap.objs.size, v]) ht hT hg (by with_unfolding_all rfl)

/-- the items of xs[lo:hi] -/
def cutV (xs : List V) (lo hi : Option Int) : List V := (xs.drop (HT.sIx xs.length 0 lo)).take (HT.sIx xs.length xs.length hi - HT.sIx xs.length 0 lo)
theorem cutV_length (xs : List V) (lo hi : Option Int) : (cutV xs lo hi).length ≤ xs.length := by
  unfold cutV
  rw [List.length_take, List.length_drop]
  omega
/-- t[lo:hi], not the whole of it (the whole would be t itself) -/
def rSlT (K : PySem.W.Frag) : V → Option Int → Option Int → Hp → VK → Prop := fun x lo hi H Q => ∃ a xs, x = .ref a ∧ SqT K H a xs ∧
  ¬ (HT.sIx xs.length 0 lo = 0 ∧ HT.sIx xs.length xs.length hi = xs.length) ∧ ∀ p, H p = none → Q (.ref p) (upd H p (.tup (cutV xs lo hi)))
theorem sl_tup : SlR X (rSlT X.K) := by
  intro pins s σ H x v vl vu lo hi sl Q I rx hs pl pu h
  obtain ⟨a, xs, rfl, hx, hw, q⟩ := h
  cases rx
  obtain ⟨its, r, ht, hz⟩ := I.tuple hx
  have hlen : its.toArray.size = xs.length := by rw [List.size_toArray]; exact r.length.symm
  refine ⟨"tuple", _, PyProof.Rows.slot_tuple_getitem.lookup, ht.typeIs, ?_⟩
  refine HT.getItem_tuple_cut ht hs pl pu (by rw [hlen]; exact hw) ?_ (by rw [hlen]; exact hz)
  rw [hlen]
  refine ⟨.ref s.heap.objs.size, _, I.laid (t' := s.toks) (o := .tup (cutV xs lo hi)) (fun b ob q => Heap.get?_push_of_some _ q) (Nat.le_refl _) ?_, rfl, q _ (I.hok.fresh (Nat.le_refl _))⟩
  exact ⟨Nat.le_trans (cutV_length xs lo hi) hz, _, (r.drop (HT.sIx xs.length 0 lo)).take (HT.sIx xs.length xs.length hi - HT.sIx xs.length 0 lo), IsTup.new _ _⟩

/-! ### t < u, t + u -/
/-- t + u, t not empty: u empty gives t itself -/
def rCatT (K : PySem.W.Frag) : R2 := fun x y H Q => ∃ a b xs ys, x = .ref a ∧ y = .ref b ∧ SqT K H a xs ∧ SqT K H b ys ∧ xs ≠ [] ∧ xs.length + ys.length ≤ sizeLine ∧
  (ys = [] → Q (.ref a) H) ∧ (ys ≠ [] → ∀ p, H p = none → Q (.ref p) (upd H p (.tup (xs ++ ys))))
theorem Vals.nil_iff {xs : List V} {us : List Value} (r : Vals xs us) : us = [] ↔ xs = [] := by
  cases r with
  | nil => simp
  | cons _ _ => simp
theorem op_catT : OpR X (binaryOp .Add) (rCatT X.K) := by
  intro pins s σ H x y v u Q I rx ry h
  obtain ⟨a, b, xs, ys, rfl, rfl, ha, hb, hx, hz, q1, q2⟩ := h
  cases rx
  cases ry
  obtain ⟨its, r1, p1, _⟩ := I.tuple ha
  obtain ⟨its2, r2, p2, _⟩ := I.tuple hb
  refine HT.cat_tup p1 p2 (fun z => hx (r1.nil_iff.mp z)) (fun z => ⟨.ref a, H, I, rfl, q1 (r2.nil_iff.mp z)⟩) (fun z => ?_) (by rw [← r1.length, ← r2.length]; exact hz)
  refine ⟨.ref s.heap.objs.size, _, I.laid (t' := s.toks) (o := .tup (xs ++ ys)) (fun b ob q => Heap.get?_push_of_some _ q) (Nat.le_refl _) ?_, rfl, q2 (fun w => z (r2.nil_iff.mpr w)) _ (I.hok.fresh (Nat.le_refl _))⟩
  exact ⟨by rw [List.length_append]; exact hz, _, r1.append r2, IsTup.new _ _⟩
end
end L2

namespace L2
open PySem PySem.Spec PyProof.Rows

/-! ### places -/
/-- the place that an index of any sign means -/
def ixN (n : Nat) (i : Int) : Option Nat := if 0 ≤ i then (if i < n then some i.toNat else none) else if -(n : Int) ≤ i then some (i + n).toNat else none
def atI {α : Type} (xs : List α) (i : Int) : Option α := (ixN xs.length i).bind fun j => xs[j]?
theorem ixN_seq {n : Nat} {i : Int} {j : Nat} (h : ixN n i = some j) : seqIndex? i n = some j ∧ j < n ∧ -(n : Int) ≤ i ∧ i < n := by
  unfold ixN at h
  by_cases h0 : 0 ≤ i
  · rw [if_pos h0] at h
    by_cases h1 : i < n
    · rw [if_pos h1] at h
      have e : i.toNat = j := Option.some.inj h
      exact ⟨by rw [seqIndex_of h0 h1, e], by omega, by omega, h1⟩
    · rw [if_neg h1] at h; cases h
  · rw [if_neg h0] at h
    by_cases h1 : -(n : Int) ≤ i
    · rw [if_pos h1] at h
      have e : (i + n).toNat = j := Option.some.inj h
      exact ⟨by rw [seqIndex_neg (by omega) h1, e], by omega, h1, by omega⟩
    · rw [if_neg h1] at h; cases h
theorem atI_get {α : Type} {xs : List α} {i : Int} {v : α} (h : atI xs i = some v) : ∃ j, seqIndex? i xs.length = some j ∧ xs[j]? = some v ∧ j < xs.length ∧ -(xs.length : Int) ≤ i ∧ i < xs.length := by
  unfold atI at h
  cases e : ixN xs.length i with
  | none => rw [e] at h; cases h
  | some j =>
    rw [e] at h
    obtain ⟨h1, h2, h3, h4⟩ := ixN_seq e
    exact ⟨j, h1, h, h2, h3, h4⟩
theorem atI_nat {α : Type} {xs : List α} {j : Nat} {v : α} (h : xs[j]? = some v) : atI xs (j : Int) = some v := by
  have hj : j < xs.length := (List.getElem?_eq_some_iff.mp h).1
  have e : ixN xs.length (j : Int) = some j := by
    unfold ixN
    rw [if_pos (by omega), if_pos (by omega)]; simp
  unfold atI; rw [e]; exact h
theorem atI_last {α : Type} (xs : List α) (v : α) : atI (xs ++ [v]) (-1) = some v := by
  have hl : (xs ++ [v]).length = xs.length + 1 := by simp
  have e : ixN (xs ++ [v]).length (-1) = some xs.length := by
    unfold ixN
    rw [hl, if_neg (by decide), if_pos (by omega)]
    congr 1
    omega
  unfold atI
  rw [e]
  show (xs ++ [v])[xs.length]? = some v
  simp

/-! ### what may be subscripted -/
/-- what stands as an index of a plain subscript -/
def PlainIx (b : Expr) : Prop := ∀ o i, subscripted b false o i = operate [o, i] (getItem o i)
/-- a subscript by values -/
def IxR (X : Cx) (r : R2) : Prop :=
  ∀ (value slice : Expr) (pins : List (Addr × Obj)) (s : Shared) (σ : St) (H : Hp) (x y : V) (v u : Value) (Q : VK), Inv X pins σ H s → RelV x v → RelV y u → r x y H Q →
    subscripted slice false v u = operate [v, u] (getItem v u) → wpAny (model X.prog X.w) X.A (subscriptTail value slice v u) (EP X pins σ Q) X.xe s
/-- a call of a builtin's method by values: the receiver, the arguments -/
def MtR (X : Cx) (id : String) (r : V → List V → Hp → VK → Prop) : Prop :=
  ∀ (pins : List (Addr × Obj)) (s : Shared) (σ : St) (H : Hp) (x : V) (xs : List V) (v : Value) (us : List Value) (Q : VK), Inv X pins σ H s → RelV x v → Vals xs us → r x xs H Q →
    wpAny (model X.prog X.w) X.A (call (.builtin id) (v :: us)) (EP X pins σ Q) X.xe s
section
variable {X : Cx} {a b : Expr} {ta tb : TE} {pos : Pos}
/-- a[b] -/
theorem pe_ix {r : R2} (hr : IxR X r) (ha : PE X a ta) (hb : PE X b tb) (hs : PlainIx b) : PE X (.Subscript a b pos) (tOp r ta tb) := by
  intro pins s σ H Q I h
  exact Subscript_ (binT ha hb I h fun v u s2 x y H2 I2 rx ry q => hr a b pins s2 σ H2 x y v u Q I2 rx ry q (hs _ _))

def rIxL (K : PySem.W.Frag) : R2 := fun x y H Q => ∃ p xs i v, x = .ref p ∧ y = .int i ∧ SqL K H p xs ∧ atI xs i = some v ∧ Q v H
def rIxT (K : PySem.W.Frag) : R2 := fun x y H Q => ∃ p xs i v, x = .ref p ∧ y = .int i ∧ SqT K H p xs ∧ atI xs i = some v ∧ Q v H
def rIxS : R2 := fun x y H Q => ∃ z i c, x = .str z ∧ y = .int i ∧ z.length ≤ sizeLine ∧ atI z.cps.toList i = some c ∧ Q (.str ⟨#[c]⟩) H
theorem ix_list : IxR X (rIxL X.K) := by
  intro value slice pins s σ H x y v u Q I rx ry h hs
  obtain ⟨p, xs, i, z, rfl, rfl, hq, he, q⟩ := h
  cases rx
  obtain ⟨t, rfl⟩ := ry
  obtain ⟨its, r, pl, hz⟩ := I.list hq
  obtain ⟨j, h1, h2, h3, h4, h5⟩ := atI_get he
  obtain ⟨w, ew, rw'⟩ := r.get h2
  have hl := r.length
  have hn := line63
  have fin : EP X pins σ Q w s := ⟨z, H, I, rw', q⟩
  by_cases h0 : 0 ≤ i
  · have hj : i.toNat = j := by
      rw [seqIndex_of h0 h5] at h1
      exact Option.some.inj h1
    exact item_listR pl.isList h0 (by omega) (by rw [hj]; simpa using ew) fin hs
  · have hj : (i + (its.toArray.size : Int)).toNat = j := by
      rw [seqIndex_neg (by omega) h4] at h1
      rw [List.size_toArray, ← hl]
      exact Option.some.inj h1
    exact subscriptTail_builtinR (x := w) pl.isList.typeIs slot_list_getitem.lookup
      (wpAny_getItem_list_neg (Q := fun r s' => r = w ∧ EP X pins σ Q r s') pl.isList (by omega) (by rw [List.size_toArray] <;> omega) (by omega) (by rw [hj]; simpa using ew) ⟨rfl, fin⟩) hs
theorem ix_tup : IxR X (rIxT X.K) := by
  intro value slice pins s σ H x y v u Q I rx ry h hs
  obtain ⟨p, xs, i, z, rfl, rfl, hq, he, q⟩ := h
  cases rx
  obtain ⟨t, rfl⟩ := ry
  obtain ⟨its, r, pl, hz⟩ := I.tuple hq
  obtain ⟨j, h1, h2, h3, h4, h5⟩ := atI_get he
  obtain ⟨w, ew, rw'⟩ := r.get h2
  have hl := r.length
  have hn := line63
  have fin : EP X pins σ Q w s := ⟨z, H, I, rw', q⟩
  exact subscriptTail_builtinR (x := w) pl.typeIs slot_tuple_getitem.lookup
    (getItem_tuple (j := j) (Q := fun r s' => r = w ∧ EP X pins σ Q r s') pl (by omega) (by omega) (by rw [List.size_toArray, ← hl]; exact h1) (by simpa using ew) ⟨rfl, fin⟩) hs
theorem ix_str : IxR X rIxS := by
  intro value slice pins s σ H x y v u Q I rx ry h hs
  obtain ⟨z, i, c, rfl, rfl, hz, he, q⟩ := h
  obtain ⟨t, rfl⟩ := rx
  obtain ⟨t', rfl⟩ := ry
  obtain ⟨j, h1, h2, h3, h4, h5⟩ := atI_get he
  have hl : z.cps.toList.length = z.length := by simp [Str.length]
  rw [hl] at h1 h4 h5
  have hn := line63
  exact tail_any (typeIs_str s z t) slot_str_getitem.lookup (getItem_str (c := c) (by
    have e1 : decide (i < -(2 ^ 63 : Int)) = false := decide_eq_false (by omega)
    have e2 : decide (i ≥ 2 ^ 63) = false := decide_eq_false (by omega)
    rw [e1, e2, Bool.or_false]) (by rw [h1]; simpa using h2) ⟨.str ⟨#[c]⟩, H, I.tok _, ⟨_, rfl⟩, q⟩) hs
/-! ### xs[i] = v, any sign -/
/-- the list's object behind a store -/
theorem mapSeq_set (its : List Value) (n j : Nat) (u : Value) : Obj.mapSeq (·.setIfInBounds j u) { cls := .type "list", data := .seq its.toArray n } = { cls := .type "list", data := .seq (its.set j u).toArray n } := by
  simp [Obj.mapSeq]
theorem Inv.lst {pins : List (Addr × Obj)} {σ : St} {H : Hp} {s : Shared} {p : Addr} {xs : List V} (I : Inv X pins σ H s) (h : H p = some (.lst xs)) :
    ∃ (its : List Value) (n : Nat), Vals xs its ∧ s.heap.get? p = some { cls := .type "list", data := .seq its.toArray n } ∧ xs.length ≤ sizeLine := by
  obtain ⟨z, its, n, r, e⟩ := I.hok p _ h
  exact ⟨its, n, r, e, z⟩
/-- the list at p is written by an update of its object -/
theorem Inv.lstUpd {pins : List (Addr × Obj)} {σ : St} {H : Hp} {s : Shared} {p : Addr} {xs ys : List V} {its its' : List Value} {n n' : Nat} {f : Obj → Obj} (I : Inv X pins σ H s) (h : H p = some (.lst xs))
    (ho : s.heap.get? p = some { cls := .type "list", data := .seq its.toArray n }) (hf : f { cls := .type "list", data := .seq its.toArray n } = { cls := .type "list", data := .seq its'.toArray n' }) (r : Vals ys its') (hz : ys.length ≤ sizeLine) (t : Nat) :
    Inv X pins σ (upd H p (.lst ys)) { s with heap := s.heap.update p f, toks := t } := by
  have e : (s.heap.update p f).get? p = some { cls := .type "list", data := .seq its'.toArray n' } := by
    rw [Heap.get?_update_self f ho (by rw [hf] <;> rfl), hf]
  refine I.write (x := p) (e := p) (by rw [h]; trivial) (.inl rfl) (fun b u hb q => (Heap.get?_update_other _ _ (Ne.symm hb)).trans q) ⟨_, e⟩ ?_
  exact ⟨hz, its', n', r, e⟩
def rSetL : V → V → V → Hp → (Hp → Prop) → Prop := fun o i v H Q => ∃ p xs k j, o = .ref p ∧ i = .int k ∧ H p = some (.lst xs) ∧ ixN xs.length k = some j ∧ Q (upd H p (.lst (xs.set j v)))
theorem set_list : PSet X rSetL := by
  intro pins s σ H o i v ov iv u Q I ro ri rv h
  obtain ⟨p, xs, k, j, rfl, rfl, hp, hj, q⟩ := h
  cases ro
  obtain ⟨t, rfl⟩ := ri
  obtain ⟨its, n, r, ho, hz⟩ := I.lst hp
  obtain ⟨h1, h2, h3, h4⟩ := ixN_seq hj
  have hl := r.length
  have hn := line63
  have I' : Inv X pins σ (upd H p (.lst (xs.set j v))) { s with heap := s.heap.update p (Obj.mapSeq (·.setIfInBounds j u)) } :=
    I.lstUpd hp ho (mapSeq_set its n j u) (r.set rv j) (by rw [List.length_set]; exact hz) s.toks
  by_cases h0 : 0 ≤ k
  · have hk : k.toNat = j := by
      rw [seqIndex_of h0 h4] at h1
      exact Option.some.inj h1
    exact PySem.W.ki_setAt ho h0 (by omega) (by rw [List.size_toArray, ← hl]; exact h4) (by rw [hk]; exact ⟨_, I', q⟩)
  · have hk : (k + (its.toArray.size : Int)).toNat = j := by
      rw [seqIndex_neg (by omega) h3] at h1
      rw [List.size_toArray, ← hl]
      exact Option.some.inj h1
    exact PySem.W.ki_setBack ho (by omega) (by rw [List.size_toArray, ← hl]; exact h3) (by omega) (by rw [hk]; exact ⟨_, I', q⟩)

/-! ### slices -/
theorem slice_bounds (lo hi : Option Int) (n : Nat) : (sliceBounds lo hi none n).1 = ((HT.sIx n 0 lo : Nat) : Int) ∧ (sliceBounds lo hi none n).2.1 = ((HT.sIx n n hi : Nat) : Int) ∧ (sliceBounds lo hi none n).2.2 = 1 := by
  refine ⟨?_, ?_, rfl⟩
  · cases lo with
    | none => simp [sliceBounds, HT.sIx]
    | some i =>
      simp only [sliceBounds, HT.sIx, Option.getD_none, show (1 : Int) > 0 by decide, if_true]
      by_cases h : i < 0
      · simp only [h, if_true] <;> omega
      · simp only [h, if_false] <;> omega
  · cases hi with
    | none => simp [sliceBounds, HT.sIx]
    | some i =>
      simp only [sliceBounds, HT.sIx, Option.getD_none, show (1 : Int) > 0 by decide, if_true]
      by_cases h : i < 0
      · simp only [h, if_true] <;> omega
      · simp only [h, if_false] <;> omega
theorem slicePick_cut (its : List Value) (lo hi : Option Int) : slicePick its.toArray lo hi none = ((its.drop (HT.sIx its.length 0 lo)).take (HT.sIx its.length its.length hi - HT.sIx its.length 0 lo)).toArray := by
  obtain ⟨h1, h2, h3⟩ := slice_bounds lo hi its.toArray.size
  unfold slicePick
  rw [h1, h2, h3]
  simp only [sliceRange_one, pick_run, List.size_toArray] <;> rfl
/-- xs[lo:hi] of a list: a new list -/
def rSlL (K : PySem.W.Frag) : V → Option Int → Option Int → Hp → VK → Prop := fun x lo hi H Q => ∃ a xs, x = .ref a ∧ SqL K H a xs ∧ ∀ p, H p = none → Q (.ref p) (upd H p (.lst (cutV xs lo hi)))
theorem sl_list : SlR X (rSlL X.K) := by
  intro pins s σ H x v vl vu lo hi sl Q I rx hs pl pu h
  obtain ⟨a, xs, rfl, hx, q⟩ := h
  cases rx
  obtain ⟨its, r, ht, hz⟩ := I.list hx
  have hlen := r.length
  refine ⟨"list", _, slot_list_getitem.lookup, ht.isList.typeIs, ?_⟩
  refine wpAny_getItem_list_slice ht.isList hs pl pu .none (by simp) ?_ (by rw [List.size_toArray] <;> omega)
  rw [slicePick_cut, ← hlen]
  refine ⟨.ref s.heap.objs.size, _, I.laid (t' := s.toks) (o := .lst (cutV xs lo hi)) (fun b ob q => Heap.get?_push_of_some _ q) (Nat.le_refl _) ?_, rfl, q _ (I.hok.fresh (Nat.le_refl _))⟩
  exact ⟨Nat.le_trans (cutV_length xs lo hi) hz, _, 0, (r.drop (HT.sIx xs.length 0 lo)).take (HT.sIx xs.length xs.length hi - HT.sIx xs.length 0 lo), Heap.get?_push_size _ rfl⟩

/-! ### in, not in: flat items -/
def flatV : V → Bool
  | .non => true
  | .bl _ => true
  | .int _ => true
  | .str _ => true
  | _ => false
/-- == of flat values -/
def eqV : V → V → Bool
  | .non, .non => true
  | .bl a, .bl b => a == b
  | .bl a, .int b => (if a then 1 else 0) == b
  | .int a, .bl b => a == (if b then 1 else 0)
  | .int a, .int b => a == b
  | .str a, .str b => a == b
  | _, _ => false
theorem eqAt_V {A : Around} {s : Shared} {y x : V} {u v : Value} (ry : RelV y u) (rx : RelV x v) (fy : flatV y = true) (fx : flatV x = true) : SeqAt.EqAt A s u v (eqV y x) := by
  cases y with
  | non =>
    cases ry
    cases x with
    | non => cases rx; exact SeqAt.EqAt.same _
    | bl b => cases rx; exact SeqAt.EqAt.none_bool b
    | int b => obtain ⟨t, rfl⟩ := rx; exact SeqAt.EqAt.none_int b t
    | str b => obtain ⟨t, rfl⟩ := rx; exact SeqAt.EqAt.none_str b t
    | _ => exact absurd (show false = true from fx) Bool.false_ne_true
  | bl a =>
    cases ry
    cases x with
    | non => cases rx; exact SeqAt.EqAt.bool_none a
    | bl b => cases rx; exact SeqAt.EqAt.bool_bool a b
    | int b => obtain ⟨t, rfl⟩ := rx; exact SeqAt.EqAt.bool_int a b t
    | str b => obtain ⟨t, rfl⟩ := rx; exact SeqAt.EqAt.bool_str a b t
    | _ => exact absurd (show false = true from fx) Bool.false_ne_true
  | int a =>
    obtain ⟨t', rfl⟩ := ry
    cases x with
    | non => cases rx; exact SeqAt.EqAt.int_none a t'
    | bl b => cases rx; exact SeqAt.EqAt.int_bool a t' b
    | int b => obtain ⟨t, rfl⟩ := rx; exact SeqAt.EqAt.int_int a t' b t
    | str b => obtain ⟨t, rfl⟩ := rx; exact SeqAt.EqAt.int_str a t' b t
    | _ => exact absurd (show false = true from fx) Bool.false_ne_true
  | str a =>
    obtain ⟨t', rfl⟩ := ry
    cases x with
    | non => cases rx; exact SeqAt.EqAt.str_none a t'
    | bl b => cases rx; exact SeqAt.EqAt.str_bool a t' b
    | int b => obtain ⟨t, rfl⟩ := rx; exact SeqAt.EqAt.str_int a t' b t
    | str b => obtain ⟨t, rfl⟩ := rx; exact SeqAt.EqAt.str_str a t' b t
    | _ => exact absurd (show false = true from fx) Bool.false_ne_true
  | _ => exact absurd (show false = true from fy) Bool.false_ne_true
/-- the items' answers, read off the values (a value's own answer does not lean on its token) -/
def eqU (x : V) (u : Value) : Bool := match u with
  | .none => eqV .non x
  | .bool b => eqV (.bl b) x
  | .int i _ => eqV (.int i) x
  | .str z _ => eqV (.str z) x
  | _ => false
theorem eqU_of {x y : V} {u : Value} (r : RelV y u) (f : flatV y = true) : eqU x u = eqV y x := by
  cases y with
  | non => cases r; rfl
  | bl b => cases r; rfl
  | int i => obtain ⟨t, rfl⟩ := r; rfl
  | str z => obtain ⟨t, rfl⟩ := r; rfl
  | _ => exact absurd (show false = true from f) Bool.false_ne_true
theorem any_eqU {x : V} : ∀ {xs : List V} {us : List Value}, Vals xs us → xs.all flatV = true → us.any (eqU x) = xs.any fun y => eqV y x
  | _, _, .nil, _ => rfl
  | y :: xs, u :: us, .cons r t, f => by
    rw [List.all_cons, Bool.and_eq_true] at f
    rw [List.any_cons, List.any_cons, eqU_of r f.1, any_eqU t f.2]
theorem mem_eqAt {A : Around} {s : Shared} {x : V} {v : Value} (rx : RelV x v) (fx : flatV x = true) : ∀ {xs : List V} {us : List Value}, Vals xs us → xs.all flatV = true → ∀ u ∈ us, SeqAt.EqAt A s u v (eqU x u)
  | _, _, .nil, _ => fun u hu => by cases hu
  | y :: xs, u :: us, .cons r t, f => fun u' hu => by
    rw [List.all_cons, Bool.and_eq_true] at f
    rcases List.mem_cons.mp hu with rfl | hu
    · rw [eqU_of r f.1]; exact eqAt_V r rx f.1 fx
    · exact mem_eqAt rx fx t f.2 u' hu
def inV (x : V) (xs : List V) : Bool := xs.any fun y => eqV y x
/-- x in a list or tuple of flat items -/
def rIn (K : PySem.W.Frag) (neg : Bool) : R2 := fun x y H Q => ∃ p xs, y = .ref p ∧ (SqL K H p xs ∨ SqT K H p xs) ∧ flatV x = true ∧ xs.all flatV = true ∧ Q (.bl (if neg then !inV x xs else inV x xs)) H
theorem op_in_seq : OpR X (compareOp .In) (rIn X.K false) := by
  intro pins s σ H x y v u Q I rx ry h
  obtain ⟨p, xs, rfl, hq, fx, fs, q⟩ := h
  cases ry
  rcases hq with hq | hq
  · obtain ⟨its, r, pl, hz⟩ := I.list hq
    refine SeqAt.in_listAt (eqU x) pl.isList (fun w hw => mem_eqAt rx fx r fs w (by simpa using hw)) ⟨.bl _, H, I, rfl, ?_⟩
    rw [show its.toArray.any (eqU x) = its.any (eqU x) by simp, any_eqU r fs]
    exact q
  · obtain ⟨its, r, pl, hz⟩ := I.tuple hq
    refine SeqAt.in_tupleAt (eqU x) pl (fun w hw => mem_eqAt rx fx r fs w (by simpa using hw)) ⟨.bl _, H, I, rfl, ?_⟩
    rw [show its.toArray.any (eqU x) = its.any (eqU x) by simp, any_eqU r fs]
    exact q
/-! ### len, list(x), tuple(x) of any list or tuple that is read -/
theorem call_len_seq : CallR X (.builtin "len") (fun xs H Q => ∃ p ys, xs = [.ref p] ∧ (SqL X.K H p ys ∨ SqT X.K H p ys) ∧ Q (.int ys.length) H) := by
  intro pins s σ H xs us Q I r h
  obtain ⟨p, ys, rfl, hq, q⟩ := h
  obtain ⟨u, rfl, rx⟩ := vals1 r
  cases rx
  have hn := line63
  rcases hq with hq | hq
  · obtain ⟨its, r', pl, hz⟩ := I.list hq
    have hlen := r'.length
    exact Calls.call_len_list pl.isList (by simp only [List.size_toArray] <;> omega) ⟨.int ys.length, H, I.tok _, ⟨s.toks + 1, by rw [List.size_toArray, hlen]⟩, q⟩
  · obtain ⟨its, r', pl, hz⟩ := I.tuple hq
    have hlen := r'.length
    exact len_tuple pl (by simp only [List.size_toArray] <;> omega) ⟨.int ys.length, H, I.tok _, ⟨s.toks + 1, by rw [List.size_toArray, hlen]⟩, q⟩
theorem call_len_str : CallR X (.builtin "len") (fun xs H Q => ∃ z, xs = [.str z] ∧ z.length ≤ sizeLine ∧ Q (.int z.length) H) := by
  intro pins s σ H xs us Q I r h
  obtain ⟨z, rfl, hz, q⟩ := h
  obtain ⟨u, rfl, t, rfl⟩ := vals1 r
  have hn := line63
  exact len_str (by omega) ⟨.int z.length, H, I.tok _, ⟨_, rfl⟩, q⟩
theorem call_list_of : CallR X (.type "list") (fun xs H Q => ∃ p ys, xs = [.ref p] ∧ (SqL X.K H p ys ∨ SqT X.K H p ys) ∧ ∀ l, H l = none → Q (.ref l) (upd H l (.lst ys))) := by
  intro pins s σ H xs us Q I r h
  obtain ⟨p, ys, rfl, hq, q⟩ := h
  obtain ⟨u, rfl, rx⟩ := vals1 r
  cases rx
  have fin : ∀ (its : List Value), Vals ys its → ys.length ≤ sizeLine → ∀ (h' : Heap) (c' : Nat), (∀ b o', s.heap.get? b = some o' → h'.get? b = some o') →
      h'.get? s.heap.objs.size = some { cls := .type "list", dict := none, data := .seq its.toArray c', slots := #[] } → EP X pins σ Q (.ref s.heap.objs.size) { s with heap := h' } := fun its r' hz h' c' kp e =>
    ⟨.ref s.heap.objs.size, _, I.laid (t' := s.toks) kp (Nat.le_refl _) (show ObjOk X.prog X.w _ h' _ (.lst ys) from ⟨hz, its, c', r', e⟩), rfl, q _ (I.hok.fresh (Nat.le_refl _))⟩
  rcases hq with hq | hq
  · obtain ⟨its, r', pl, hz⟩ := I.list hq
    have hlen := r'.length
    obtain ⟨o, ho, hc, n, hd⟩ := pl.isList
    exact call_list_seq p (.inl rfl) ho hc hd (fun h' c' kp e => fin its r' hz h' c' kp e) (by simp only [List.size_toArray] <;> omega)
  · obtain ⟨its, r', pl, hz⟩ := I.tuple hq
    have hlen := r'.length
    obtain ⟨o, ho, hc, n, hd⟩ := pl
    exact call_list_seq p (.inr rfl) ho hc hd (fun h' c' kp e => fin its r' hz h' c' kp e) (by simp only [List.size_toArray] <;> omega)
theorem call_tuple_of : CallR X (.type "tuple") (fun xs H Q => ∃ p ys, xs = [.ref p] ∧ ((SqL X.K H p ys ∧ ∀ l, H l = none → Q (.ref l) (upd H l (.tup ys))) ∨ (SqT X.K H p ys ∧ Q (.ref p) H))) := by
  intro pins s σ H xs us Q I r h
  obtain ⟨p, ys, rfl, h⟩ := h
  obtain ⟨u, rfl, rx⟩ := vals1 r
  cases rx
  rcases h with ⟨hq, q⟩ | ⟨hq, q⟩
  · obtain ⟨its, r', pl, hz⟩ := I.list hq
    have hlen := r'.length
    refine call_tuple_list pl.isList (fun h' kp => ?_) (by simp only [List.size_toArray] <;> omega)
    have I1 : Inv X pins σ H { s with heap := h' } := I.kept (t' := s.toks) kp
    have I2 : Inv X pins σ (upd H h'.objs.size (.tup ys)) { s with heap := h'.push { cls := .type "tuple", data := .seq its.toArray } } :=
      I1.laid (t' := s.toks) (fun b o e => Heap.get?_push_of_some _ e) (Nat.le_refl _) (show ObjOk X.prog X.w _ _ _ (.tup ys) from ⟨hz, its, r', IsTup.new _ _⟩)
    exact ⟨.ref h'.objs.size, _, I2, rfl, q _ (I1.hok.fresh (Nat.le_refl _))⟩
  · obtain ⟨its, r', pl, hz⟩ := I.tuple hq
    exact call_tuple_same pl ⟨.ref p, H, I, rfl, q⟩

/-! ### the call of a builtin's method: o.m(..) -/
/-- the value is of that builtin type -/
def tyV (K : PySem.W.Frag) (T : String) (x : V) (H : Hp) : Prop := match x with
  | .str _ => T = "str"
  | .int _ => T = "int"
  | .ref p => (T = "list" ∧ ∃ xs, SqL K H p xs) ∨ (T = "tuple" ∧ ∃ o, K.lookup p = some o ∧ o.cls = .type "tuple" ∧ o.dict = none) ∨
      (T = "dict" ∧ ((∃ kvs, H p = some (.dK kvs)) ∨ ∃ kvs, H p = some (.dT kvs))) ∨ (T = "set" ∧ ∃ S n, H p = some (.set S n))
  | _ => False
theorem tyV_is {pins : List (Addr × Obj)} {σ : St} {H : Hp} {s : Shared} {T : String} {x : V} {v : Value} (I : Inv X pins σ H s) (r : RelV x v) (ty : tyV X.K T x H) :
    s.TypeIs v T ∧ ∀ a, v = .ref a → ∃ ob, s.heap.get? a = some ob ∧ ob.dict = none := by
  cases x with
  | str z =>
    obtain ⟨t, rfl⟩ := r
    cases (show T = "str" from ty)
    exact ⟨typeIs_str s z t, fun _ e => nomatch e⟩
  | int i =>
    obtain ⟨t, rfl⟩ := r
    cases (show T = "int" from ty)
    exact ⟨typeIs_int s i t, fun _ e => nomatch e⟩
  | ref p =>
    cases r
    rcases ty with ⟨rfl, xs, hq⟩ | ⟨rfl, o, hk, hc, hd⟩ | ⟨rfl, hk⟩ | ⟨rfl, S, n, hk⟩
    · obtain ⟨its, _, pl, _⟩ := I.list hq
      refine ⟨pl.isList.typeIs, fun a e => ?_⟩
      cases e
      obtain ⟨o, n, e, c, hd, _⟩ := pl
      exact ⟨o, e, hd⟩
    · refine ⟨⟨o, I.kIn p o hk, hc⟩, fun a e => ?_⟩
      cases e
      exact ⟨o, I.kIn _ o hk, hd⟩
    · have z : ∃ o, s.heap.get? p = some o ∧ o.ExactDict := by
        rcases hk with ⟨kvs, hk⟩ | ⟨kvs, hk⟩
        · obtain ⟨_, _, _, _, o, _, _, e, ex, _⟩ := I.hok p _ hk
          exact ⟨o, e, ex⟩
        · obtain ⟨_, _, _, _, o, _, _, e, ex, _⟩ := I.hok p _ hk
          exact ⟨o, e, ex⟩
      obtain ⟨o, e, ex⟩ := z
      refine ⟨⟨o, e, ex.1⟩, fun a e2 => ?_⟩
      cases e2
      exact ⟨o, e, ex.2.1⟩
    · obtain ⟨o, _, _, _, e, ex, _⟩ := I.hok p _ hk
      refine ⟨⟨o, e, ex.1⟩, fun a e2 => ?_⟩
      cases e2
      exact ⟨o, e, ex.2.1⟩
  | _ => exact False.elim ty
def tBM (K : PySem.W.Frag) (T : String) (r : V → List V → Hp → VK → Prop) (to : TE) (t : TA) : TE := fun σ H Q => to σ H fun x H1 => tyV K T x H1 ∧ t σ H1 fun xs H2 => r x xs H2 Q
variable {o e : Expr} {es : List Expr} {to : TE} {t : TA} {name : Str} {apos cpos : Pos} {T id : String} {r : V → List V → Hp → VK → Prop}
theorem pe_bm (pa : PlainAttrs T) (slot : Slot T name id) (hty : typeOf (.builtin id) = pure (.type "method_descriptor")) (hm : MtR X id r) (ho : PE X o to) (ha : PA X (e :: es) t)
    (hbase : attributeBase o name X.env (eval o X.env) = eval o X.env := by rfl)
    (hfew : ((backTo cpos (starEach (e :: es) X.env)).all (fun x => !x.1) && (backToKw cpos (keywordEach [] X.env)).all (fun x => x.1.isSome)
      && decide ((e :: es).length + ([] : List Keyword).length + (if ([] : List Keyword).isEmpty then 0 else 1) < 30)) = true := by rfl)
    (hline : (apos.endLine == cpos.line) = true := by rfl) (hs : starEach (e :: es) X.env = (false, eval e X.env) :: starEach es X.env := by rfl) (hplain : (backTo cpos (starEach es X.env)).any (·.1) = false := by rfl) :
    PE X (.Call (.Attribute o name apos) (e :: es) [] cpos) (tBM X.K T r to t) := by
  intro pins s σ H Q I h
  refine wpAny_Call_method_late hbase hfew hline rfl (thn (ho pins s σ H _ I h) fun v s1 ⟨x, H1, I1, r1, ty, q1⟩ => ?_)
  obtain ⟨h1, h2⟩ := tyV_is I1 r1 ty
  refine ⟨T, id, pa, slot, hty, h1, h2, ?_⟩
  have hA := ha cpos pins s1 σ H1 _ I1 q1
  rw [hs] at hA ⊢
  refine Calls.callWith_builtin (by show (false || (backTo cpos (starEach es X.env)).any (·.1)) = false; rw [hplain] <;> rfl) (Calls.evalArgs_plain ?_)
  exact thn hA fun us s2 ⟨vs, H2, I2, r2, q2⟩ => hm pins s2 σ H2 x vs v us Q I2 r1 r2 q2
/- xs.append(e), list.index on a module's tuple .. are MtR facts of 06m -/
end
end L2

namespace L2
open PySem PySem.Spec PyProof.Rows

def MtM (X : Cx) (id : String) (r : V → List V → Hp → VK → Prop) : Prop :=
  ∀ (pins : List (Addr × Obj)) (s : Shared) (σ : St) (H : Hp) (x : V) (xs : List V) (v : Value) (us : List Value) (Q : VK), Inv X pins σ H s → RelV x v → Vals xs us → r x xs H Q →
    wpAny (model X.prog X.w) X.A (call (.builtin id) (v :: us)) (EP X pins σ Q) X.xe s

/-! ### lists of values -/
theorem Vals.one : ∀ {x : V} {us : List Value}, Vals [x] us → ∃ u, us = [u] ∧ RelV x u
  | _, _, .cons r .nil => ⟨_, rfl, r⟩
theorem Vals.two : ∀ {x y : V} {us : List Value}, Vals [x, y] us → ∃ u v, us = [u, v] ∧ RelV x u ∧ RelV y v
  | _, _, _, .cons r (.cons q .nil) => ⟨_, _, rfl, r, q⟩
theorem Vals.reverse {xs : List V} {us : List Value} (h : Vals xs us) : Vals xs.reverse us.reverse := by
  induction h with
  | nil => exact .nil
  | cons r t ih => rw [List.reverse_cons, List.reverse_cons]; exact Vals.append ih (.cons r .nil)
theorem Vals.rep {xs : List V} {us : List Value} (h : Vals xs us) : ∀ k : Nat, Vals (List.replicate k xs).flatten (List.replicate k us).flatten
  | 0 => .nil
  | k + 1 => by
    rw [List.replicate_succ, List.replicate_succ, List.flatten_cons, List.flatten_cons]
    exact Vals.append h (Vals.rep h k)
theorem foldl_rep (its : List Value) : ∀ (k : Nat) (acc : List Value),
    List.foldl (fun x1 x2 => x1 ++ x2) acc.toArray (List.replicate k its.toArray) = (acc ++ (List.replicate k its).flatten).toArray
  | 0, acc => by simp
  | k + 1, acc => by
    have e : acc.toArray ++ its.toArray = (acc ++ its).toArray := by simp
    have e2 : (acc ++ its) ++ (List.replicate k its).flatten = acc ++ (List.replicate (k + 1) its).flatten := by
      rw [List.replicate_succ, List.flatten_cons, List.append_assoc]
    rw [← e2, ← foldl_rep its k (acc ++ its), ← e, List.replicate_succ, List.foldl_cons]

section
variable {X : Cx} {pins : List (Addr × Obj)} {σ : St} {H : Hp} {s : Shared} {l b : Addr} {xs ys zs : List V}

/-! ### the two steps: a tracked list is rewritten, a new list is laid -/
theorem Inv.lset {its its' : List Value} {n : Nat} {f : Array Value → Array Value} {t' : Nat} (I : Inv X pins σ H s) (hH : H l = some (.lst xs))
    (e : s.heap.get? l = some { cls := .type "list", data := .seq its.toArray n }) (hf : f its.toArray = its'.toArray) (hv : Vals ys its') (hz : ys.length ≤ sizeLine) :
    Inv X pins σ (upd H l (.lst ys)) { s with heap := s.heap.update l (Obj.mapSeq f), toks := t' } := by
  have q := PySem.IsL.update e f
  rw [hf] at q
  refine I.write (x := l) (e := l) (by rw [hH]; exact trivial) (.inl rfl) (fun b' u hb hu => (Heap.get?_update_other s.heap (Obj.mapSeq f) (Ne.symm hb)).trans hu) ⟨_, q⟩ ?_
  exact ⟨hz, its', _, hv, q⟩
theorem Inv.lnew {its : List Value} {t' : Nat} (I : Inv X pins σ H s) (hv : Vals ys its) (hz : ys.length ≤ sizeLine) :
    Inv X pins σ (upd H s.heap.objs.size (.lst ys)) { s with heap := s.heap.push { cls := .type "list", data := .seq its.toArray }, toks := t' } :=
  I.laid (fun _ _ q => Heap.get?_push_of_some _ q) (Nat.le_refl _) ⟨hz, its, 0, hv, Heap.get?_push_size _ rfl⟩
theorem Inv.fresh (I : Inv X pins σ H s) : H s.heap.objs.size = none := I.hok.fresh (Nat.le_refl _)
theorem Inv.lstM (I : Inv X pins σ H s) (hH : H l = some (.lst xs)) : xs.length ≤ sizeLine ∧ ∃ (its : List Value) (n : Nat), Vals xs its ∧ xs.length = its.length ∧ s.heap.get? l = some { cls := .type "list", data := .seq its.toArray n } := by
  obtain ⟨z, its, n, r, e⟩ := I.hok l _ hH
  exact ⟨z, its, n, r, r.length, e⟩

theorem notLongL {n : Nat} (h : n ≤ sizeLine) : Builtin.List.listTooLong n = false := by
  unfold Builtin.List.listTooLong
  exact decide_eq_false (by omega)
end

section
variable {X : Cx}

/-! ### methods -/
def rAppend : V → List V → Hp → VK → Prop := fun x vs H Q => ∃ l xs y, x = .ref l ∧ vs = [y] ∧ H l = some (.lst xs) ∧ xs.length < sizeLine ∧ Q .non (upd H l (.lst (xs ++ [y])))
theorem mt_append : MtM X "list.append" rAppend := by
  intro pins s σ H x vs v us Q I rx rv h
  obtain ⟨l, xs, y, rfl, rfl, hH, hz, q⟩ := h
  cases rx
  obtain ⟨u, rfl, ru⟩ := rv.one
  obtain ⟨z, its, n, r, hl, e⟩ := I.lstM hH
  refine call_meets F.slot_list_append ⟨_, e, rfl⟩ F.entry_list_append (F.args_list_append_2 _ _) (PySem.list_append l its.toArray n u (by rw [List.size_toArray]; omega)) ⟨e, ?_⟩
  refine ⟨.non, _, I.lset (its' := its ++ [u]) hH e (by simp) (r.append (.cons ru .nil)) ?_, rfl, q⟩
  rw [List.length_append, List.length_singleton]
  omega

def rExtend : V → List V → Hp → VK → Prop := fun x vs H Q => ∃ l b xs zs, x = .ref l ∧ vs = [.ref b] ∧ H l = some (.lst xs) ∧ H b = some (.lst zs) ∧ xs.length + zs.length ≤ sizeLine ∧ Q .non (upd H l (.lst (xs ++ zs)))
theorem mt_extend : MtM X "list.extend" rExtend := by
  intro pins s σ H x vs v us Q I rx rv h
  obtain ⟨l, b, xs, zs, rfl, rfl, hH, hB, hz, q⟩ := h
  cases rx
  obtain ⟨u, rfl, ru⟩ := rv.one
  cases ru
  obtain ⟨z, its, n, r, hl, e⟩ := I.lstM hH
  obtain ⟨z2, its2, n2, r2, hl2, e2⟩ := I.lstM hB
  have hsz : its.toArray.size + its2.toArray.size ≤ sizeLine := by rw [List.size_toArray, List.size_toArray]; omega
  have hlong : ¬ (!its.toArray.isEmpty && Builtin.List.listTooLong (its.toArray.size + its2.toArray.size)) = true := by
    rw [notLongL hsz, Bool.and_false]
    exact Bool.false_ne_true
  refine call_meets F.slot_list_extend ⟨_, e, rfl⟩ F.entry_list_extend (F.args_list_extend_2 _ _)
    (AutoSeq1.list_extend_list_list_0 l its.toArray n b its2.toArray n2 hlong (by rw [List.size_toArray]; omega) (by omega)) ⟨e, e2, ?_⟩
  refine ⟨.non, _, I.lset (its' := its ++ its2) hH e (by simp) (r.append r2) ?_, rfl, q⟩
  rw [List.length_append]
  omega

/-! ### list + list, list += list, list * int -/
def rCat : R2 := fun x y H Q => ∃ l b xs zs, x = .ref l ∧ y = .ref b ∧ H l = some (.lst xs) ∧ H b = some (.lst zs) ∧ xs.length + zs.length ≤ sizeLine ∧ ∀ p, H p = none → Q (.ref p) (upd H p (.lst (xs ++ zs)))
theorem op_cat : OpR X (binaryOp .Add) rCat := by
  intro pins s σ H x y v u Q I rx ry h
  obtain ⟨l, b, xs, zs, rfl, rfl, hH, hB, hz, q⟩ := h
  cases rx
  cases ry
  obtain ⟨z, its, n, r, hl, e⟩ := I.lstM hH
  obtain ⟨z2, its2, n2, r2, hl2, e2⟩ := I.lstM hB
  refine PySem.P.add_list e e2 ?_ (by rw [List.size_toArray, List.size_toArray]; omega)
  have ea : its.toArray ++ its2.toArray = (its ++ its2).toArray := by simp
  rw [ea]
  exact ⟨.ref _, _, I.lnew (t' := s.toks) (r.append r2) (by rw [List.length_append]; omega), rfl, q _ I.fresh⟩
/-- a list times an int (a negative one is nothing) -/
def rRep : R2 := fun x y H Q => ∃ l k xs, x = .ref l ∧ y = .int k ∧ H l = some (.lst xs) ∧ -(2 ^ 63) ≤ k ∧ k < 2 ^ 63 ∧ xs.length * k.toNat ≤ sizeLine ∧
  ∀ p, H p = none → Q (.ref p) (upd H p (.lst (List.replicate k.toNat xs).flatten))
theorem len_rep {α : Type} (xs : List α) (k : Nat) : (List.replicate k xs).flatten.length = k * xs.length := by
  induction k with
  | zero => simp
  | succ k ih => rw [List.replicate_succ, List.flatten_cons, List.length_append, ih, Nat.succ_mul, Nat.add_comm]
theorem op_rep : OpR X (binaryOp .Mult) rRep := by
  intro pins s σ H x y v u Q I rx ry h
  obtain ⟨l, k, xs, rfl, rfl, hH, h1, h2, hz, q⟩ := h
  cases rx
  obtain ⟨t, rfl⟩ := ry
  obtain ⟨z, its, n, r, hl, e⟩ := I.lstM hH
  have hlen : its.toArray.size * k.toNat ≤ sizeLine := by rw [List.size_toArray, ← hl]; exact hz
  have hcap : ¬ its.toArray.size * k.toNat > (2 ^ 63 - 1) / 8 := by
    have : (sizeLine : Nat) ≤ (2 ^ 63 - 1) / 8 := by decide
    omega
  have hfit : ¬ (!Builtin.List.listFitsIndex k) = true := by
    rw [fitsIndex_both h1 h2]
    exact Bool.false_ne_true
  have hlong : ¬ Builtin.List.listTooLong (its.toArray.size * k.toNat) = true := by
    rw [notLongL hlen]
    exact Bool.false_ne_true
  have hnew : List.foldl (fun x1 x2 => x1 ++ x2) #[] (List.replicate (if its.toArray.isEmpty = true then 0 else k.toNat) its.toArray) = (List.replicate k.toNat its).flatten.toArray := by
    have f0 : ∀ m : Nat, List.foldl (fun x1 x2 => x1 ++ x2) #[] (List.replicate m its.toArray) = (List.replicate m its).flatten.toArray := fun m => by
      have := foldl_rep its m []
      rw [List.nil_append] at this
      exact this
    rw [f0]
    cases its with
    | nil => simp
    | cons a r' => rw [if_neg (by simp)]
  refine wpAny_binaryOp_repeat_ref (T := "list") (U := "int") (by decide) ⟨_, e, rfl⟩ (fun s' => typeIs_int s' k t) noFill_list_mul F.fills_int_mul F.slot_int_rmul repeat_list F.slot_int_index.lookup
    (call_meets F.slot_int_rmul (typeIs_int s k t) F.entry_int_rmul (F.args_int_rmul_2 _ _) (int___rmul___int_list k t l its.toArray n)
      ⟨e, rfl, ⟨_, e, rfl⟩, call_meets F.slot_list_mul ⟨_, e, rfl⟩ F.entry_list_mul (F.args_list_mul_2 _ _) (AutoListH.list___mul___list_int_3 l its.toArray n k t hfit hcap hlong) ⟨e, ?_⟩⟩)
  rw [hnew]
  exact ⟨.ref _, _, I.lnew (t' := s.toks) (r.rep k.toNat) (by rw [len_rep, Nat.mul_comm]; exact hz), rfl, q _ I.fresh⟩

/-! ### del xs[i] -/
end

/-! ### xs[a:b] = ys -/
section
variable {prog : Program} {w : World} {A : Around} {E : Value → Shared → Prop} {s : Shared}
end

section
variable {X : Cx}
end
end L2

namespace Att
open PySem PySem.W PySem.Calls PyProof.Rows

/-! ### the script -/
theorem ints_of_wellAll {P : Params} {h : Heap} : ∀ (ns : List Int) (vs : List Value), WellAll P h vs (ns.map WData.int) → IntsAre vs ns := by
  intro ns
  induction ns with
  | nil =>
    intro vs w
    rw [List.map_nil] at w
    cases w
    exact .nil
  | cons n ns ih =>
    intro vs w
    rw [List.map_cons] at w
    cases w with
    | cons a b =>
      cases a
      exact .cons _ _ (ih _ b)

theorem script_of {l : OpenLaw} {n : Nat} (hn : l.most = some n) {P : Params} {h : Heap} {args : List WData} {vals : List Value}
    (hpre : l.row.toRowW.claim.pre args = true) (hwl : WellAll P h vals args) :
    ∃ a vs ns, vals = [Value.ref a] ∧ args = [WData.list (ns.map WData.int)] ∧ h.get? a = some { cls := .type "list", data := .seq vs.toArray } ∧ IntsAre vs ns ∧ ns.length ≤ n := by
  have hsh : WShape.hasAll [] args [.list .int] = true := (pre_splitW hpre).1
  have hc : l.pre.holds [] { args := args } = true := (pre_splitW hpre).2
  obtain ⟨d, r, rfl, h1, h2⟩ := hasAllW_cons hsh
  obtain rfl := hasAllW_nil h2
  obtain ⟨xs, rfl, h3⟩ := hasW_list h1
  obtain ⟨ns, rfl⟩ := items_int h3
  have hlen : ns.length ≤ n := by
    unfold OpenLaw.pre at hc
    have h4 : (WTm.not (.lt (.lit (.int (n : Int))) (.len (.arg 0)))).holds [] { args := [.list (ns.map .int)] } = true := by
      have h4 := (holds_andW hc).1
      rw [hn] at h4
      exact h4
    have h5 := condW_of h4 (w_not (w_lt w_lit (w_len_list (w_arg rfl))))
    rw [List.length_map] at h5
    refine Nat.le_of_not_lt fun q => ?_
    have q' : (n : Int) < ((ns.length : Nat) : Int) := by omega
    first
      | (rw [decide_eq_true q'] at h5; exact absurd h5 (by decide))
      | (simp at h5; omega)
  cases hwl with
  | cons w1 w2 =>
    cases w2
    cases w1 with
    | list ho hall => exact ⟨_, _, ns, rfl, rfl, ho, ints_of_wellAll ns _ hall, hlen⟩

theorem post_true (l : OpenLaw) (args : List WData) : l.row.toRowW.claim.post args (.bool true) args = true :=
  postW_of (r := l.row.toRowW) (X := (true == true))
    (show WShape.has [] (.bool true) .bool = true by first | rfl | decide | simp [WShape.has, WShape.arms, WShape.armsAll])
    (show (WTm.eq .res (.lit (.bool true))).value [] { args := args, res := some (.bool true), after := args } = some (.bool (true == true)) from w_eq_bool (w_res rfl) w_lit) rfl

/-! ### the attachment: holds_open's last premise (the goal 'hc' behind k_head) from a wpAny of the law's body -/
/-- the same from a codeAny of the CALL (for a layer whose function contracts speak of calls) -/
theorem attach_call {l : OpenLaw} {n : Nat} {q : Program} {loose : List Str} {XP : (Str → Option Value) → Heap → Prop} {YP : World → Heap → Prop} {d : DefRec}
    (hn : l.most = some n) (hdf : d.params.defaults = [])
    (call : ∀ (w : World) (s₀ s₁ : Shared) (mg mb : Str → Option Value) (fa : Addr) (o : Obj) (pm cd doc : Value) (a : Addr) (vs : List Value) (ns : List Int),
      Ground q loose [] XP w s₀ mg mb s₁.heap → YP w s₁.heap →
      s₁.heap.get? fa = some o → o.data = .func (docDef d.name d.params d.body d.scope pm cd doc) → s₁.heap.CodeRec cd d.name → mg d.name = some (.ref fa) →
      s₁.heap.get? a = some { cls := .type "list", data := .seq vs.toArray } → IntsAre vs ns → ns.length ≤ n → s₁.gens = #[] →
      codeAny (model l.prog w) callerA (.call (.ref fa) ⟨[.ref a], []⟩) (fun r s' => r = .ok (.ret (.bool true)) ∧ OldK s₁.heap s'.heap ∧ s'.os = s₁.os ∧ AllBare s'.gens) s₁) :
    WalkO q loose XP YP l.row.toRowW d [] (fun f vs => PySem.call f vs) := by
  intro w s₀ s₁ mg mb G Y fa o pm cd doc dV kV ho hd hcd hD hmg hg args vals as hpre hlay hrd hwl hlo
  obtain rfl : dV = .none := Dflts.none hD hdf
  obtain rfl : kV = .none := Dflts.noKw hD
  obtain ⟨a, vs, ns, rfl, rfl, hobj, hints, hlen⟩ := script_of hn hpre hwl
  refine enter_call (codeAny_mono (call w s₀ s₁ mg mb fa o pm cd doc a vs ns G Y ho (fd_plain hd) hcd hmg hobj hints hlen hg) fun r s' hq => ?_)
  obtain ⟨rfl, h2, h3, h4⟩ := hq
  exact ⟨.inl ⟨.bool true, .bool true, [], rfl, fun _ => rfl, .bool true, post_true l _, fun _ => ⟨List.Pairwise.nil, fun _ hm => (nomatch hm)⟩⟩, h2, h3, h4⟩

/-! ### rules over ANY heap (no ledger) from facts about the written part K: the library's own take a ledger (News) for what they write -/
section
variable {prog : Program} {w : World} {A : Around} {E : Value → Shared → Prop} {s : Shared} {K : Frag}

/-! the whole heap as the ledger: makes every rule that writes through a ledger a rule over any heap -/
end
end Att

namespace L2
open PySem PySem.Spec PyProof.Rows

theorem vals_ints : ∀ {vs : List Value} {ns : List Int}, IntsAre vs ns → Vals (ns.map V.int) vs
  | _, _, .nil => .nil
  | _, _, .cons n t h => .cons ⟨t, rfl⟩ (vals_ints h)

/-- nothing is tracked but the script, known to the object (or it is an object of the module) -/
def Only (H : Hp) : Prop := ∀ b, H b = none ∨ ∃ o xs, H b = some (.frz o (.lst xs))

/-- THE HEAD: the law's promise, at the heap behind the top. F, the promise of the law's def, may use that base is part of the heap (so K.In base, base.Ns mainGlobals mg stand in Mod) -/
theorem law_call {P : Program} {w : World} {K : PySem.W.Frag} {mg mb : Str → Option Value} {CX : CXT} {k : Nat} {fa a : Addr} {fd : FuncData} {x : Str} {sp : Sp} {s₁ : Shared} {vs : List Value} {ns : List Int}
    (KX : K.In s₁.heap) (hns : s₁.heap.Ns mainGlobals mg) (hb : s₁.heap.Ns builtinsNs mb) (hbb : ∀ x : Str, x ≠ "__name__" → mb x = bootBuiltins x) (hlim : s₁.heap.NoLimit) (hg : s₁.gens = #[])
    (ha : s₁.heap.get? a = some { cls := .type "list", data := .seq vs.toArray }) (hi : IntsAre vs ns) (hl : ns.length ≤ sizeLine) (hr : Room k callerA)
    (F : ∀ base : Heap, K.In base → base.Ns mainGlobals mg → FnOk P w K mg base CX k fa fd [x] sp) (hbind : ∀ (s : Shared) (u : Value), BindsTo s fd ⟨[u], []⟩ [(x, u)])
    (hsp : ∀ H : Hp, Only H → SqL K H a (ns.map V.int) → sp [.ref a] H (fun v _ => v = .bl true) fun _ _ _ => False)
    (hCX : ∀ H e s', CX [] H s₁ (fun _ _ _ => False) e s' → False) :
    codeAny (model P w) callerA (.call (.ref fa) ⟨[.ref a], []⟩) (fun r s' => r = .ok (.ret (.bool true)) ∧ OldK s₁.heap s'.heap ∧ s'.os = s₁.os ∧ AllBare s'.gens) s₁ := by
  have rv := vals_ints hi
  have lenV := hi.length
  -- from an abstract heap in which nothing but the script may be tracked
  have core : ∀ H : Hp, Only H → SqL K H a (ns.map V.int) → HOk P w H s₁.heap → (∀ b, H b ≠ none → b = a) → (H a ≠ none → K.lookup a = none) →
      codeAny (model P w) callerA (.call (.ref fa) ⟨[.ref a], []⟩) (fun r s' => r = .ok (.ret (.bool true)) ∧ OldK s₁.heap s'.heap ∧ s'.os = s₁.os ∧ AllBare s'.gens) s₁ := by
    intro H hO hS hok hA hK
    have base_of : ∀ {b : Addr} {o : Obj}, s₁.heap.get? b = some o → H b = none → (hidT s₁.heap H).get? b = some o := fun e n => hidT_get e n
    have noA : ∀ {b : Addr} {o : Obj} {es : Array DictEntry} {ep : Nat}, s₁.heap.get? b = some o → o.data = .dict es ep → H b = none := fun {b o es ep} e d => by
      cases q : H b with
      | none => rfl
      | some u =>
        have e' : b = a := hA b (by rw [q]; simp)
        subst e'
        rw [ha] at e; cases e
        have d' : Data.seq vs.toArray _ = Data.dict es ep := d
        cases d'
    have nsK : ∀ {b : Addr} {m : Str → Option Value}, s₁.heap.Ns b m → (hidT s₁.heap H).Ns b m := fun {b m} ⟨o, es, ep, e, d, r⟩ => ⟨o, es, ep, base_of e (noA e d), d, r⟩
    have hKb : K.In (hidT s₁.heap H) := fun b o e => base_of (KX b o e) (by
      cases q : H b with
      | none => rfl
      | some u =>
        have e' : b = a := hA b (by rw [q]; simp)
        subst e'
        rw [hK (by rw [q]; simp)] at e; cases e)
    have hM : Mod K mg (hidT s₁.heap H) := ⟨hKb, nsK hns, ⟨mb, nsK hb, hbb⟩, let ⟨mc, h1, h2⟩ := hlim; ⟨mc, nsK h1, h2⟩⟩
    have e0 : Env0 P w K mg (hidT s₁.heap H) callerA [] s₁ H := ⟨rfl, hM, fun b o e => of_hidT e, Nat.le_of_eq (hidT_size _ _), trivial, fun b hb => absurd (show b ∈ ([] : List Addr) from hb) (by simp), hok, .of_eq hg⟩
    refine codeAny_mono ((F _ hKb (nsK hns)).run callerA [] s₁ H ⟨[.ref a], []⟩ [.ref a] [.ref a] _ _ hr e0 (hbind s₁ (.ref a)) (.cons rfl .nil) (hsp H hO hS)) fun r s' h => ?_
    cases r with
    | error e => exact (hCX H e s' h).elim
    | ok fl =>
      cases fl with
      | next => exact False.elim h
      | brk => exact False.elim h
      | cont => exact False.elim h
      | ret u =>
        obtain ⟨v, H', os, bare, un, hok', r', q⟩ := h
        have q' : v = .bl true := q
        subst q'
        obtain rfl : u = Value.bool true := r'
        refine ⟨rfl, OldK.of_keep fun b o e => ?_, os, bare⟩
        cases q : H b with
        | none => exact un.keep b o e q (by intro z; exact absurd (show b ∈ ([] : List Addr) from z) (by simp)) (by simp)
        | some u =>
          rcases hO b with z | ⟨ob, xs, z⟩
          · rw [q] at z; cases z
          · have z2 := un.frzs b ob _ z
            obtain ⟨e1, _⟩ := hok b _ z
            obtain ⟨e2, _⟩ := hok' b _ z2
            rw [e] at e1; cases e1
            exact e2
  cases hk : K.lookup a with
  | some o =>
    -- the script is one of the module's own objects
    have e := KX a o hk
    rw [ha] at e
    cases e
    refine core (fun _ => none) (fun _ => .inl rfl) (.inr ⟨_, vs.toArray, _, hk, rfl, rfl, rfl, by rw [List.size_toArray, lenV]; exact hl, by simpa using rv⟩) (fun b u z => by have z' : (none : Option HO) = some u := z; cases z') (fun b z => absurd rfl z) fun z => absurd rfl z
  | none =>
    refine core (fun b => if b = a then some (.frz { cls := .type "list", data := .seq vs.toArray } (.lst (ns.map V.int))) else none) (fun b => ?_) (.inl (.inr ⟨{ cls := .type "list", data := .seq vs.toArray }, if_pos rfl⟩)) (fun b u z => ?_) (fun b z => ?_) fun _ => hk
    · by_cases hb : b = a
      · exact .inr ⟨_, _, if_pos hb⟩
      · exact .inl (if_neg hb)
    · by_cases hb : b = a
      · have z' := (if_pos hb).symm.trans z
        cases z'
        subst hb
        exact ⟨ha, by rw [List.length_map]; exact hl, vs, _, rv, ha⟩
      · have z' := (if_neg hb).symm.trans z
        cases z'
    · by_cases hb : b = a
      · exact hb
      · exact absurd (if_neg hb) z
end L2

namespace L2
open PySem PySem.Spec PyProof.Rows

/-- the goal that k_head leaves (case hc), from the law's promise. F gives the function object fd (K's own) once, then the promise over every base -/
theorem walk_of {l : PySem.W.OpenLaw} {n k : Nat} {q : Program} {loose : List Str} {XP : (Str → Option Value) → Heap → Prop} {YP : World → Heap → Prop} {d : DefRec} {K : Params → PySem.W.Frag} {CX : World → CXT} {sp : World → Sp} {x : Str}
    (hn : l.most = some n) (hn2 : n ≤ sizeLine) (hdf : d.params.defaults = []) (hr : Room k callerA)
    (hY : ∀ (w : World) (h : Heap), YP w h → (K w.params).In h)
    (F : ∀ (w : World) (mg : Str → Option Value) (fa : Addr) (h : Heap), (K w.params).In h → h.Ns mainGlobals mg → mg d.name = some (.ref fa) →
      ∃ fd : FuncData, (∀ (s : Shared) (u : Value), BindsTo s fd ⟨[u], []⟩ [(x, u)]) ∧
        ∀ base : Heap, (K w.params).In base → base.Ns mainGlobals mg → FnOk l.prog w (K w.params) mg base (CX w) k fa fd [x] (sp w))
    (hsp : ∀ (w : World) (H : Hp) (a : Addr) (ns : List Int), ns.length ≤ n → Only H → SqL (K w.params) H a (ns.map V.int) → sp w [.ref a] H (fun v _ => v = .bl true) fun _ _ _ => False)
    (hCX : ∀ (w : World) (H : Hp) (s : Shared) (e : Value) (s' : Shared), CX w [] H s (fun _ _ _ => False) e s' → False) :
    PySem.W.WalkO q loose XP YP l.row.toRowW d [] (fun f vs => PySem.call f vs) := by
  refine Att.attach_call hn hdf fun w s₀ s₁ mg mb fa o pm cd doc a vs ns G Y ho hd hcd hmg hobj hints hlen hg => ?_
  have KX := hY w _ Y
  obtain ⟨fd, hb, hF⟩ := F w mg fa _ KX G.T.g hmg
  exact law_call KX G.T.g G.T.b G.T.builtins G.T.nolimit hg hobj hints (Nat.le_trans hlen hn2) hr hF hb (fun H hO hS => hsp w H a ns hlen hO hS) fun H e s' => hCX w H s₁ e s'
end L2

/- THE LAST THEOREM (shape; LID, My.* are yours):
   My.Adr: a structure of the addresses that your layer names (classes, functions); My.Txt K t: a structure (Prop) of the equations over K;
   My.txt_mk : {K} {implicit addresses ..} (e1 : nsIn K mainGlobals "law" = some (some (.ref f))) (e2 : K.lookup f = some ⟨oc, od, .func (fnOf "law" "law" params body scope dV kV doc pm an cdv ct), sl⟩) (e3 : codeIn K cdv "law" = true) .. : ∃ t, My.Txt K t

set_option maxRecDepth 100000 in
set_option maxHeartbeats 0 in
theorem PySem.Challenge.cw_LID_holds : PySem.Challenge.rw_LID.Holds := by
  w_on; o_law; k_head; (case hw => w_witness2)
  k_fill
  refine L2.walk_of (l := PySem.Challenge.rw_LID) (n := 63) (k := 40) (x := "script") (CX := fun w => ..) (sp := fun _ => My.sp_law) rfl (by decide) rfl ⟨rfl, by decide, by decide⟩ (fun w h Y => PySem.W.kIn_of Y) ?F ?S ?C
  case F =>
    intro w mg fa h KX G hmg
    have T : ∃ t, My.Txt (L2.KOf KX) t := by
      dsimp only [L2.KOf]                          -- K must stand as «<heap const> w.params» for k_is
      refine' My.txt_mk ?e1 ?e2 ?e3 ..
      (case e1 => PySem.W.k_is)                    -- in the order: a name -> its address -> its object -> its parts
      (case e2 => PySem.W.k_is)
      ..
    obtain ⟨t, T⟩ := T
    have e0 := hmg.symm.trans (PySem.W.mg_of KX G T.law)
    cases e0                                       -- fa is the law's own address
    exact ⟨_, fun s u => .of_eq rfl, fun base kb nb => My.law_fn T kb nb⟩     -- if «.of_eq rfl» comes too early: refine' ⟨_, ?b, fun base kb nb => My.law_fn T kb nb⟩; exact fun s u => .of_eq rfl
  case S => exact fun w H a ns hl hO hS => ..
  case C => exact ..
(the tactic k_is has no namespace: write k_is) -/

/-! SHORT WORDS over the layer: a def of the text, its body, what a loop and a test want. -/
namespace L2
open PySem PySem.Spec PyProof.Rows

/-! ### the text by places -/
def defArgs (s : Stmt) : Arguments := match s with
  | .FunctionDef _ a _ _ _ _ _ _ _ _ => a
  | _ => { posonlyargs := [], args := [], vararg := none, kwonlyargs := [], kw_defaults := [], kwarg := none, defaults := [] }
def defBody (s : Stmt) : List Stmt := match s with
  | .FunctionDef _ _ b _ _ _ _ _ _ _ => b
  | _ => []
def defScope (s : Stmt) : Scope := match s with
  | .FunctionDef _ _ _ _ _ _ sc _ _ _ => sc
  | _ => { kind := .function, names := [], isGenerator := false, isCoroutine := false }

/-! ### no exception leaves a def -/
abbrev CX0 : CXT := fun _ _ _ _ _ _ => False
abbrev E0 : XK := fun _ _ _ => False
theorem pass0 {X : Cx} : Passes CX0 X E0 := fun _ _ _ _ _ _ _ h => h.elim

/-! ### a def (or method) of the text as it stands behind the top -/
structure Fun (K : PySem.W.Frag) (x qual : Str) (st : Stmt) (f : Addr) (fd : FuncData) : Prop where
  ex : ∃ (oc : Value) (od : Option Addr) (kV doc pm : Value) (an : Option Addr) (cdv ct : Value) (osl : Array (Option Value)),
    fd = PySem.W.fnOf x qual (defArgs st) (defBody st) (defScope st) .none kV doc pm an cdv ct ∧ K.lookup f = some ⟨oc, od, .func fd, osl⟩ ∧ PySem.W.codeIn K cdv qual = true
  kp : PySem.W.keepIn K (.ref f) = true
section
variable {P : Program} {w : World} {K : PySem.W.Frag} {mg : Str → Option Value} {base : Heap}
/-- THE RULE for a def: its body as a term of rules, and the reading of that term -/
theorem Fun.ok {x qual : Str} {st : Stmt} {f : Addr} {fd : FuncData} {N ps : List Str} {k : Nat} {sp : Sp} {c : Bool} (F : Fun K x qual st f fd) (S : FnScope N ps (defScope st)) (len : ∀ vs H Q E, sp vs H Q E → vs.length = ps.length)
    (hbody : ∀ (cdv : Value) (A : Around) (outer : List Env) (s : Shared) (H : Hp) (vs : List V) (Q : VK) (E : XK), Room k (A.deeper (envOfC qual (defScope st) s.heap.objs.size f cdv)) c → sp vs H Q E →
      ∃ t, PSs (cxOf CX0 P w K mg base N qual (defScope st) f cdv A outer s H E c).nox (defBody st) t ∧ t { nx := fun _ H' => Q .non H', rt := Q } (start N vs) H) : FnOk P w K mg base CX0 (k + 1) f fd ps sp c := by
  obtain ⟨oc, od, kV, doc, pm, an, cdv, ct, osl, rfl, lk, hcd⟩ := F.ex
  refine fn_of lk hcd S len fun A outer s H vs Q E hr hsp => ?_
  obtain ⟨t, h, q⟩ := hbody cdv A outer s H vs Q E hr hsp
  exact ⟨t, h.nox, q⟩
/-- how its arguments bind (no defaults): h is «fun _ _ _ _ _ _ us hl => match us, hl with | [_, _], _ => rfl», one _ a parameter -/
theorem Fun.binds {x qual : Str} {st : Stmt} {f : Addr} {fd : FuncData} {ps : List Str} (F : Fun K x qual st f fd)
    (h : ∀ (kV doc pm : Value) (an : Option Addr) (cdv ct : Value) (us : List Value), us.length = ps.length → bindArgs (PySem.W.fnOf x qual (defArgs st) (defBody st) (defScope st) .none kV doc pm an cdv ct) ⟨us, []⟩ = pure (ps.zip us)) : Binds K fd ps [] := by
  obtain ⟨oc, od, kV, doc, pm, an, cdv, ct, osl, rfl, lk, hcd⟩ := F.ex
  exact .all (h kV doc pm an cdv ct)
theorem fun_mk {x qual : Str} {st : Stmt} {f : Addr} {oc : Value} {od an : Option Addr} {osl : Array (Option Value)} {kV doc pm cdv ct : Value} (l : K.lookup f = some ⟨oc, od, .func (PySem.W.fnOf x qual (defArgs st) (defBody st) (defScope st) .none kV doc pm an cdv ct), osl⟩)
    (c : PySem.W.codeIn K cdv qual = true) (k : PySem.W.keepIn K (.ref f) = true) : Fun K x qual st f (PySem.W.fnOf x qual (defArgs st) (defBody st) (defScope st) .none kV doc pm an cdv ct) := ⟨⟨oc, od, kV, doc, pm, an, cdv, ct, osl, rfl, l, c⟩, k⟩
end
theorem hu_of {A : Around} {k : Nat} {c : Bool} (hr : Room k A c) : A.units + 1 < cLine := Nat.lt_of_le_of_lt (Nat.add_le_add_left (by decide : 1 ≤ 64) _) hr.units
/-! ### expressions in short: the name that stands in the i-th slot -/
section
variable {X : Cx}
theorem pv (i : Nat) {x : Str} {pos : Pos} (hN : X.N[i]? = some x := by rfl) (hv : Vis X.env.scope x := by first | exact Or.inl rfl | exact Or.inr (Or.inl rfl) | exact Or.inr (Or.inr rfl)) (hd : (x == ("__debug__" : Str)) = false := by decide)
    (hcd : (x == ("__classdict__" : Str)) = false := by decide) : PE X (.Name x pos) (tVar i) := pe_var hN hv hd hcd
end

/-! ### tests -/
theorem iteF {A B : Prop} (h : B) : if false = true then A else B := by
  rw [if_neg Bool.false_ne_true]
  exact h
theorem iteT {A B : Prop} (h : A) : if true = true then A else B := by
  rw [if_pos rfl]
  exact h
theorem ite2 {c A B : Prop} [Decidable c] (h1 : c → A) (h2 : ¬ c → B) : if c then A else B := by
  by_cases h : c
  · rw [if_pos h]
    exact h1 h
  · rw [if_neg h]
    exact h2 h
/-! ### heaps -/
/-- all that was tracked is as it was -/
def Same (H H' : Hp) : Prop := ∀ b o, H b = some o → H' b = some o
theorem Same.refl (H : Hp) : Same H H := fun _ _ h => h
theorem Same.trans {H H1 H2 : Hp} (a : Same H H1) (b : Same H1 H2) : Same H H2 := fun c o h => b c o (a c o h)
theorem Same.free {H H' : Hp} (e : Same H H') {l : Addr} (h : H' l = Option.none) : H l = Option.none := by
  cases q : H l with
  | none => rfl
  | some o =>
    rw [e l o q] at h
    cases h
theorem Same.seq {K : PySem.W.Frag} {H H' : Hp} {a : Addr} {xs : List V} (e : Same H H') (h : SqL K H a xs) : SqL K H' a xs := by
  rcases h with (h | ⟨o, h⟩) | h
  · exact .inl (.inl (e _ _ h))
  · exact .inl (.inr ⟨o, e _ _ h⟩)
  · exact .inr h

end L2
namespace L2
open PySem PySem.Spec PyProof.Rows

/-! ### no exception -/
abbrev NoX : Value → Shared → Prop := fun _ _ => False
theorem noX {α : Type} {M : Model} {A : Around} {t : Sem α} {Q : α → Shared → Prop} {E : Value → Shared → Prop} {s : Shared} (h : wpAny M A t Q NoX s) : wpAny M A t Q E s := wpAny_mono h (fun _ _ q => q) fun _ _ z => z.elim

/-! ### a comprehension's turns -/
abbrev tstSem (ifs : List Expr) (env : Env) : Sem Bool := forIn ifs true fun c r => if r = true then do let ok ← isTrue c env (eval c env); pure (ForInStep.yield ok) else pure (ForInStep.yield r)
section
variable {prog : Program} {w : World} {A : Around} {R : Result → Shared → Prop} {s : Shared}
theorem comp_loop {elt tg iter : Expr} {ifs : List Expr} {sc : Scope} {pos : Pos} {it acc : Value} {env : Env} (I : Nat → Shared → Prop)
    (turn : ∀ n s, I n s → wpAny (model prog w) A (pyNext it) (fun r s1 => match r with
      | none => R (.ok .next) s1
      | some v => wpAny (model prog w) A (letOwnedTupleGo tg it v) (fun _ s2 => wpAny (model prog w) A (assign tg env v) (fun _ s3 => wpAny (model prog w) A (tstSem ifs env) (fun ok s4 =>
          if ok = true then wpAny (model prog w) A (eval elt env) (fun x s5 => wpAny (model prog w) A (call (.builtin "list.append") [acc, x]) (fun _ s6 => ∃ m, m < n ∧ I m s6) NoX s5) NoX s4
          else ∃ m, m < n ∧ I m s4) NoX s3) NoX s2) NoX s1) NoX s)
    (n : Nat) (h : I n s) : codeAny (model prog w) A (.compLoop (.ListComp elt [⟨tg, iter, ifs, 0⟩] sc pos) 0 it acc env) R s := by
  refine codeAny_loop rfl I (fun n s hI => ?_) n h
  show wpAny _ A ((compTurn (.ListComp elt [⟨tg, iter, ifs, 0⟩] sc pos) 0 it acc env).onRaise (fun x => do noteFrame x env; theTreesLotGoes x)) _ _ s
  refine wpAny_noted ?_
  rw [compTurn_list]
  refine wpAny_bind (wpAny_standAt (wpAny_bind (noX (thn (turn n s hI) fun r s1 h1 => ?_))))
  cases r with
  | none => exact wpAny_pure h1
  | some v =>
    refine wpAny_bind (noX (thn h1 fun _ s2 h2 => wpAny_bind (noX (thn h2 fun _ s3 h3 => wpAny_bind (noX (thn h3 fun ok s4 h4 => ?_))))))
    cases ok with
    | false => exact wpAny_pure ⟨rfl, h4⟩
    | true => exact wpAny_bind (wpAny_bind (noX (thn h4 fun x s5 h5 => wpAny_bind (noX (thn h5 fun _ s6 h6 => wpAny_pure (wpAny_pure ⟨rfl, h6⟩))))))
end

/-! ### the cells of the names that a block takes from around it -/
theorem closure_go {env : Env} : ∀ (l : List (Str × NameKind)) (acc : List (Str × Addr)), (∀ y ∈ l, y.2 = .free → ∃ c, env.cells.lookup y.1 = some c) → (∀ y c, acc.lookup y = some c → env.cells.lookup y = some c) →
    ∃ cl, (forIn l acc fun x r => if (x.2 == NameKind.free) = true then (do let c ← cellOf env x.1; pure (ForInStep.yield ((x.1, c) :: r))) else pure (ForInStep.yield r)) = (pure cl : Sem (List (Str × Addr))) ∧
      (∀ y c, cl.lookup y = some c → env.cells.lookup y = some c) ∧ (∀ y ∈ l, y.2 = .free → ∃ c, cl.lookup y.1 = some c) ∧ (∀ y c, acc.lookup y = some c → ∃ c', cl.lookup y = some c')
  | [], acc, _, h2 => ⟨acc, rfl, h2, (fun _ z => nomatch z), (fun _ c e => ⟨c, e⟩)⟩
  | (n, k) :: r, acc, h1, h2 => by
    rw [List.forIn_cons]
    by_cases hk : k = .free
    · subst hk
      obtain ⟨c, hc⟩ := h1 (n, .free) List.mem_cons_self rfl
      have e : cellOf env n = pure c := by
        have hc' : env.cells.lookup n = some c := hc
        unfold cellOf
        rw [hc']
      obtain ⟨cl, q1, q2, q3, q4⟩ := closure_go r ((n, c) :: acc) (fun y hy => h1 y (List.mem_cons_of_mem _ hy)) (fun y c' e' => by
        rw [List.lookup_cons] at e'
        by_cases hy : (y == n) = true
        · rw [hy] at e'
          have hn : y = n := eq_of_beq hy
          subst hn
          cases e'
          exact hc
        · rw [Bool.not_eq_true] at hy
          rw [hy] at e'
          exact h2 y c' e')
      refine ⟨cl, ?_, q2, fun y hy hf => ?_, fun y c' e' => ?_⟩
      · simp only [beq_self_eq_true, if_true, e, pure_bind]
        exact q1
      · rcases List.mem_cons.mp hy with rfl | hy
        · exact q4 n c (by simp)
        · exact q3 y hy hf
      · by_cases hy : (y == n) = true
        · have hn : y = n := eq_of_beq hy
          subst hn
          exact q4 y c (by simp)
        · rw [Bool.not_eq_true] at hy
          exact q4 y c' (by rw [List.lookup_cons, hy]; exact e')
    · have hb : (k == NameKind.free) = false := by simpa using hk
      obtain ⟨cl, q1, q2, q3, q4⟩ := closure_go r acc (fun y hy => h1 y (List.mem_cons_of_mem _ hy)) h2
      refine ⟨cl, ?_, q2, fun y hy hf => ?_, q4⟩
      · simp only [hb, Bool.false_eq_true, if_false, pure_bind]
        exact q1
      · rcases List.mem_cons.mp hy with rfl | hy
        · exact absurd hf hk
        · exact q3 y hy hf
theorem closure_ok {env : Env} {sc : Scope} (h : ∀ y ∈ sc.names, y.2 = .free → ∃ c, env.cells.lookup y.1 = some c) :
    ∃ cl, closureFor sc env = pure cl ∧ (∀ y c, cl.lookup y = some c → env.cells.lookup y = some c) ∧ ∀ y ∈ sc.names, y.2 = .free → ∃ c, cl.lookup y.1 = some c := by
  obtain ⟨cl, q1, q2, q3, _⟩ := closure_go sc.names [] h (fun _ _ z => nomatch z)
  refine ⟨cl, ?_, q2, q3⟩
  unfold closureFor
  rw [bind_pure]
  exact q1
theorem relabel_look {env : Env} {y : Str} {k : NameKind} {sc : Scope} (h : (relabel sc env).names.lookup y = some k) : ∃ k0, sc.names.lookup y = some k0 ∧ (k = k0 ∨ (k0 = .free ∧ k = .cell)) := by
  have go : ∀ l : List (Str × NameKind), (l.map fun (n, k) => if (k == .free && env.scope.kind == .function && env.kindOf n == some .cell) then (n, NameKind.cell) else (n, k)).lookup y = some k → ∃ k0, l.lookup y = some k0 ∧ (k = k0 ∨ (k0 = .free ∧ k = .cell)) := by
    intro l
    induction l with
    | nil => intro z; cases z
    | cons a r ih =>
      obtain ⟨n, k1⟩ := a
      intro z
      rw [List.map_cons] at z
      by_cases hc : (k1 == NameKind.free && env.scope.kind == .function && env.kindOf n == some .cell) = true
      · have hf : k1 = .free := by
          rw [Bool.and_eq_true, Bool.and_eq_true] at hc
          simpa using hc.1.1
        simp only [hc, if_true] at z
        rw [List.lookup_cons] at z ⊢
        by_cases hy : (y == n) = true
        · rw [hy] at z ⊢
          cases z
          exact ⟨k1, rfl, .inr ⟨hf, rfl⟩⟩
        · rw [Bool.not_eq_true] at hy
          rw [hy] at z ⊢
          exact ih z
      · simp only [hc, Bool.false_eq_true, if_false] at z
        rw [List.lookup_cons] at z ⊢
        by_cases hy : (y == n) = true
        · rw [hy] at z ⊢
          cases z
          exact ⟨_, rfl, .inl rfl⟩
        · rw [Bool.not_eq_true] at hy
          rw [hy] at z ⊢
          exact ih z
  exact go sc.names h
theorem relabel_free {env : Env} {y : Str} {sc : Scope} (h : sc.names.lookup y = some .free) : (relabel sc env).names.lookup y = some .cell ∨ (relabel sc env).names.lookup y = some .free := by
  have go : ∀ l : List (Str × NameKind), l.lookup y = some .free → (l.map fun (n, k) => if (k == .free && env.scope.kind == .function && env.kindOf n == some .cell) then (n, NameKind.cell) else (n, k)).lookup y = some .cell ∨
      (l.map fun (n, k) => if (k == .free && env.scope.kind == .function && env.kindOf n == some .cell) then (n, NameKind.cell) else (n, k)).lookup y = some .free := by
    intro l
    induction l with
    | nil => intro z; cases z
    | cons a r ih =>
      obtain ⟨n, k1⟩ := a
      intro z
      rw [List.lookup_cons] at z
      rw [List.map_cons]
      by_cases hy : (y == n) = true
      · rw [hy] at z
        cases z
        by_cases hc : (NameKind.free == NameKind.free && env.scope.kind == .function && env.kindOf n == some .cell) = true
        · simp only [hc, if_true]
          exact .inl (by rw [List.lookup_cons, hy])
        · simp only [hc, Bool.false_eq_true, if_false]
          exact .inr (by rw [List.lookup_cons, hy])
      · rw [Bool.not_eq_true] at hy
        rw [hy] at z
        by_cases hc : (k1 == NameKind.free && env.scope.kind == .function && env.kindOf n == some .cell) = true
        · simp only [hc, if_true]
          rw [List.lookup_cons, hy]
          exact ih z
        · simp only [hc, Bool.false_eq_true, if_false]
          rw [List.lookup_cons, hy]
          exact ih z
  exact go sc.names h

/-! ### the block's context -/
abbrev cxComp (X : Cx) (N : List Str) (sc : Scope) (cl : List (Str × Addr)) (C : Addr) (s : Shared) (H : Hp) (ex : List Addr) (pn : List (Addr × Obj)) : Cx :=
  { prog := X.prog, w := X.w, K := X.K, mg := X.mg, base := X.base, A := X.A, N := N, s₀ := s, H₀ := H, env := compEnvC sc cl C X.env, outer := X.stack, stack := X.stack, ex := ex, fn := fun _ => false, calm := X.calm, pn := pn, xe := fun _ _ => False }
/-- a block's tests -/
def PTs (X : Cx) (ifs : List Expr) (t : TT) : Prop :=
  ∀ (pins : List (Addr × Obj)) (s : Shared) (σ : St) (H : Hp) (Q : Bool → Hp → Prop), Inv X pins σ H s → t σ H Q → wpAny (model X.prog X.w) X.A (tstSem ifs X.env) (TP X pins σ Q) X.xe s
def tTrue : TT := fun _ H Q => Q true H
theorem ttT {σ : St} {H : Hp} {A B : Hp → Prop} (h : A H) : tTrue σ H (fun b H4 => if b = true then A H4 else B H4) := by
  show if true = true then A H else B H
  rw [if_pos rfl]
  exact h
theorem pts_nil {X : Cx} : PTs X [] tTrue := fun _ _ _ H _ I h => wpAny_tests_nil ⟨H, I, h⟩
/-- what the block sees of the names around it -/
def capV (σ : St) (caps : List Nat) : St := caps.map fun i => (σ[i]?).getD none
def CompW (J : It) (p : Addr) (tt : TT) (te : TE) (cs : St) (Q : VK) (H1 : Hp) : Prop := ∃ W : Nat → Nat → List V → Hp → Prop, (∃ m, W 0 m [] (upd H1 p (.lst []))) ∧ ∀ i m ys H2, W i m ys H2 →
  (J.stop i H2 ∧ Q (.ref p) H2) ∨ (J.go i H2 ∧ ∃ N : List V → Hp → Prop, (∀ ys' H', N ys' H' → ∃ m', m' < m ∧ W (i + 1) m' ys' H') ∧
    ∀ v H3, J.yld i H2 v H3 → tt (some v :: cs) H3 fun b H4 => if b = true then te (some v :: cs) H4 fun y H5 => H5 p = some (.lst ys) ∧ ys.length < sizeLine ∧ N (ys ++ [y]) (upd H5 p (.lst (ys ++ [y]))) else N ys H4)
/-- .. with what must hold of the heap at each turn and at the end -/
def CompWG (Gs : Hp → Prop) (J : It) (p : Addr) (tt : TT) (te : TE) (cs : St) (Q : VK) (H1 : Hp) : Prop := ∃ W : Nat → Nat → List V → Hp → Prop, (∃ m, W 0 m [] (upd H1 p (.lst []))) ∧ ∀ i m ys H2, W i m ys H2 →
  (J.stop i H2 ∧ Gs H2 ∧ Q (.ref p) H2) ∨ (J.go i H2 ∧ Gs H2 ∧ ∃ N : List V → Hp → Prop, (∀ ys' H', N ys' H' → ∃ m', m' < m ∧ W (i + 1) m' ys' H') ∧
    ∀ v H3, J.yld i H2 v H3 → tt (some v :: cs) H3 fun b H4 => if b = true then te (some v :: cs) H4 fun y H5 => H5 p = some (.lst ys) ∧ ys.length < sizeLine ∧ N (ys ++ [y]) (upd H5 p (.lst (ys ++ [y]))) else N ys H4)
def tCompC (CW : It → Addr → St → VK → Hp → Prop) (wi : TI) (caps : List Nat) : TE := fun σ H Q => wi σ H fun J H1 => ∀ p, H1 p = none → CW J p (capV σ caps) Q H1
def tComp (wi : TI) (tt : TT) (te : TE) (caps : List Nat) : TE := fun σ H Q => wi σ H fun J H1 => ∀ p, H1 p = none → CompW J p tt te (capV σ caps) Q H1

theorem comp_go {X : Cx} {use : Option (Value → Sem Unit)} {Post : Value → Shared → Prop} {pins : List (Addr × Obj)} {s : Shared} {σ : St} {H : Hp} {Q : VK} {Gs : Hp → Prop} {hb : Bool} {CW : It → Addr → St → VK → Hp → Prop} {elt iter : Expr} {ifs : List Expr} {x : Str} {px pos : Pos} {sc : Scope} {wi : TI} {tt : TT} {te : TE} (caps : List Nat) (capsN : List Str)
    (hi : PI X (.Name x px) iter wi hb)
    (ht : ∀ cl C s H ex pn, PTs (cxComp X (x :: capsN) sc cl C s H ex pn) ifs tt)
    (he : ∀ cl C s H ex pn, PE (cxComp X (x :: capsN) sc cl C s H ex pn) elt te)
    (hkind : sc.kind = .function) (hcell : ∀ y ∈ sc.names, y.2 ≠ .cell) (hnames : ∀ y ∈ sc.names, y.2 = .local → sc.names.lookup y.1 = some .local) (hx : sc.names.lookup x = some .local)
    (hfr : ∀ y ∈ sc.names, y.2 = .free → y.1 ∈ capsN)
    (hcap : ∀ (j : Nat) (y : Str), capsN[j]? = some y → ∃ i : Nat, caps[j]? = some i ∧ X.N[i]? = some y ∧ sc.names.lookup y = some .free ∧ (X.env.kindOf y = some .cell ∨ X.env.kindOf y = some .free)) (hlen : caps.length = capsN.length)
    (hnd : (x :: capsN).Nodup) (hc : X.calm = true ∨ (hb = true ∧ ∀ s H, HOk X.prog X.w H s.heap → Gs H → HandQ X s)) (kW : ∀ J p cs Q H1, CW J p cs Q H1 → CompWG Gs J p tt te cs Q H1)
    (hs : ∀ x, foldedSetIterable iter X.env x = pure x) (I : Inv X pins σ H s) (h : tCompC CW wi caps σ H Q)
    (fin : ∀ (C p : Addr) (H5 : Hp) (s5 : Shared), (∃ m, s5.heap.Ns C m) → Inv X pins σ H5 s5 → FpOk X pins H5 C → Q (.ref p) H5 → compPost (model X.prog X.w) X.A X.xe use Post (.ref p) C (.ok .next) s5) :
    wpAny (model X.prog X.w) X.A (comprehension (.ListComp elt [⟨.Name x px, iter, ifs, 0⟩] sc pos) sc X.env (firstIterPos [⟨.Name x px, iter, ifs, 0⟩] pos) (newList []) (firstAsync [⟨.Name x px, iter, ifs, 0⟩]) (firstIter [⟨.Name x px, iter, ifs, 0⟩] X.env) use) Post X.xe s := by
  have hEnd : ∀ s H, HOk X.prog X.w H s.heap → Gs H → EndQ hb X s := by
    rcases hc with hc | ⟨e, k⟩
    · exact fun _ _ _ _ => .inl (I.ok.hd hc)
    · exact fun s H o g => .inr ⟨e, k s H o g⟩
  obtain ⟨cl, hclos, hq2, hq3⟩ := closure_ok (env := X.env) (sc := sc) (fun y hy hf => by
    obtain ⟨j, hj⟩ := List.mem_iff_getElem?.mp (hfr y hy hf)
    obtain ⟨_, _, _, _, k⟩ := hcap j y.1 hj
    exact I.ok.has y.1 k)
  refine wpAny_comprehension_free (use := use) rfl hs hclos hkind hnames (thn (hi pins s σ H _ I h) fun v s1 h1 => thn h1 fun itv s2 h2 => ?_)
  obtain ⟨it, fp, tn, J, H2, e, I2, T, st2, f2, q⟩ := h2
  subst e
  refine wpAny_newObj_type (wpAny_newFunctionEnv hcell (by intro y hy; simp at hy) (fun h1 hns hsb => ?_) hkind)
  dsimp only at hns hsb ⊢
  obtain ⟨W, ⟨m0, w0⟩, turn⟩ := kW _ _ _ _ _ (q s2.heap.objs.size (I2.hok.fresh (Nat.le_refl _)))
  have I3 : Inv X pins σ (upd H2 s2.heap.objs.size (.lst [])) { s2 with heap := s2.heap.push { cls := .type "list", dict := none, data := .seq ([] : List Value).toArray }, toks := s2.toks } := I2.lnew (its := []) (ys := []) (t' := s2.toks) .nil (Nat.zero_le _)
  generalize hH3 : s2.heap.push { cls := .type "list", dict := none, data := .seq ([] : List Value).toArray } = g3 at hns hsb I3 ⊢
  have hsz3 : g3.objs.size = s2.heap.objs.size + 1 := by rw [← hH3, Heap.size_push]
  generalize hHp : upd H2 s2.heap.objs.size (.lst []) = Hp3 at w0 I3
  have hlt : ∀ b o, g3.get? b = some o → b ≠ g3.objs.size := fun b o e => Nat.ne_of_lt (Heap.lt_size e)
  have old : ∀ b o, g3.get? b = some o → h1.get? b = some o := fun b o e => hsb.extBut b o (hlt b o e) (Heap.get?_push_of_some _ e)
  have fpo : ∀ b ∈ fp, ∃ o, g3.get? b = some o := fun b hb => by
    obtain ⟨o, e, _⟩ := T.obj 0 s2.heap st2 b hb
    exact ⟨o, by rw [← hH3]; exact Heap.get?_push_of_some _ e⟩
  have fpC : ∀ b ∈ fp, b ≠ g3.objs.size := fun b hb => by obtain ⟨o, e⟩ := fpo b hb; exact hlt b o e
  have fpH : ∀ b ∈ fp, Hp3 b = none := fun b hb => by
    obtain ⟨o, e, _⟩ := T.obj 0 s2.heap st2 b hb
    rw [← hHp, upd_ne (Nat.ne_of_lt (Heap.lt_size e))]
    exact (f2 b hb).1
  have fsSub : ∀ b, b ≠ X.env.locals → b ∉ X.fs → b ∉ frs X.stack := fun b h1 h2 z => by
    rcases List.mem_cons.mp (I2.stkSub b z) with z | z
    · exact h1 z
    · exact h2 z
  -- the block's context
  have okc : (cxComp X (x :: capsN) sc cl g3.objs.size { s2 with heap := g3, toks := s2.toks } Hp3 fp (X.pn ++ pins)).Ok := by
    refine ⟨I3.ok.mod, hkind, I3.ok.glob, I3.ok.blt, Nat.le_refl _, fun y z c e1 e2 => I3.ok.inj y z c (hq2 y c e1) (hq2 z c e2), fun y hy => ?_, fun y c z => absurd z Bool.false_ne_true, I3.ok.hd, I3.ok.frames, .inl rfl, fun b hb => ⟨fpC b hb, fun y c e => (f2 b hb).2.2.2.2.1 y c (hq2 y c e)⟩,
      I3.bs, Nat.le_trans I3.ok.bsz I3.sz, fun b o e hb => ?_, fun b hb => fsSub b (f2 b hb).2.1 (f2 b hb).2.2.1, I3.stack, I3.stkFree⟩
    · have hy' : ∃ k, (relabel sc X.env).names.lookup y = some k ∧ (k = .cell ∨ k = .free) := by
        rcases hy with hy | hy
        · exact ⟨_, hy, .inl rfl⟩
        · exact ⟨_, hy, .inr rfl⟩
      obtain ⟨k, e, hk⟩ := hy'
      obtain ⟨k0, e0, hk0⟩ := relabel_look e
      have em := PySem.mem_of_lookup e0
      rcases hk0 with rfl | ⟨rfl, _⟩
      · rcases hk with rfl | rfl
        · exact absurd rfl (hcell _ em)
        · exact hq3 _ em rfl
      · exact hq3 _ em rfl
    · rcases (f2 b hb).2.2.2.1 with z | z
      · exact I3.ok.noex b o e z
      · have h1 : b < X.base.objs.size := Heap.lt_size e
        have h2 := I3.ok.bsz
        exact absurd (Nat.lt_of_lt_of_le h1 (Nat.le_trans h2 z)) (Nat.lt_irrefl _)
  have Ic : Inv (cxComp X (x :: capsN) sc cl g3.objs.size { s2 with heap := g3, toks := s2.toks } Hp3 fp (X.pn ++ pins)) [] (none :: capV σ caps) Hp3 { s2 with heap := h1, toks := s2.toks + ([] : List (Str × Value)).length } := by
    refine ⟨okc, rfl, I3.bare, Un.kept old, ⟨_, hns, fun i y v e1 e2 e3 => ?_⟩, fun y c e => ?_, I3.hok.fresh (Nat.le_refl _), fun y c e => I3.freeC y c (hq2 y c e), fun p hp => ?_, I3.hok.kept old, ?_⟩
    · cases i with
      | zero => cases e2
      | succ j =>
        have e1' : capsN[j]? = some y := e1
        obtain ⟨i, c1, c2, c3, c4⟩ := hcap j y e1'
        have e2' : (capV σ caps)[j]? = some (some v) := e2
        have hv : σ[i]? = some (some v) := by
          unfold capV at e2'
          rw [List.getElem?_map, c1] at e2'
          have e4 : (σ[i]?).getD none = some v := Option.some.inj e2'
          cases e5 : σ[i]? with
          | none => rw [e5] at e4; cases e4
          | some w => rw [e5] at e4; exact congrArg some e4
        obtain ⟨m, _, hl⟩ := I3.loc
        have vis : Vis X.env.scope y := by
          rcases c4 with z | z
          · exact .inr (.inl z)
          · exact .inr (.inr z)
        obtain ⟨u, r, l⟩ := hl i y v c2 hv vis
        refine ⟨u, r, .inr ⟨relabel_free c3, ?_⟩⟩
        rcases l with ⟨lk, _⟩ | ⟨_, c, ec, o, ho, hd⟩
        · rcases c4 with z | z <;> (rw [lk] at z; cases z)
        · obtain ⟨c', e'⟩ := hq3 _ (PySem.mem_of_lookup c3) rfl
          have e'' := hq2 _ _ e'
          have e3' : (some c' : Option Addr) = some c := e''.symm.trans ec
          cases e3'
          exact ⟨c, e', o, old _ _ ho, hd⟩
    · obtain ⟨v, o, ho, hd⟩ := I3.cell y c (hq2 y c e)
      exact ⟨v, o, old _ _ ho, hd⟩
    · have hp' : p ∈ X.pn ++ pins := by simpa using hp
      obtain ⟨e1, e2, e3, e4, e5⟩ := I3.pin p hp'
      exact ⟨old _ _ e1, e2, hlt _ _ e1, fsSub _ e3 e4, e5⟩
    · show (capV σ caps).length + 1 = capsN.length + 1
      unfold capV
      rw [List.length_map, hlen]
  have stat : ∀ {H' : Hp}, (∀ b ∈ fp, H' b = none) → ∀ b ∈ fp, FpOk (cxComp X (x :: capsN) sc cl g3.objs.size { s2 with heap := g3, toks := s2.toks } Hp3 fp (X.pn ++ pins)) [] H' b := fun hn b hb =>
    ⟨hn b hb, fpC b hb, fsSub b (f2 b hb).2.1 (f2 b hb).2.2.1, .inl hb, fun y c e => (f2 b hb).2.2.2.2.1 y c (hq2 y c e), fun p hp => (f2 b hb).2.2.2.2.2 p (by simpa using hp)⟩
  -- behind the block
  have back : ∀ {pins5 : List (Addr × Obj)} {σ5 : St} {H5 : Hp} {s5 : Shared} {h' : Heap}, Inv (cxComp X (x :: capsN) sc cl g3.objs.size { s2 with heap := g3, toks := s2.toks } Hp3 fp (X.pn ++ pins)) pins5 σ5 H5 s5 → Heap.SameBut g3.objs.size s5.heap h' → Inv X pins σ H5 { s5 with heap := h' } := by
    intro pins5 σ5 H5 s5 h' I5 sb
    have un : Un (frs X.stack) fp Hp3 H5 g3 s5.heap := I5.base
    have fr : H5 g3.objs.size = none := I5.free
    have un' : Un (frs X.stack) fp Hp3 H5 g3 h' := ⟨fun b o e n hb hx => (sb.2 b (hlt b o e)).trans (un.keep b o e n hb hx),
      fun b o e n hb hx => by obtain ⟨sl, z⟩ := un.slot b o e n hb hx; exact ⟨sl, (sb.2 b (hlt b o e)).trans z⟩, un.free,
      fun b o e hx => by obtain ⟨o', z⟩ := un.there b o e hx; exact ⟨o', (sb.2 b (hlt b o e)).trans z⟩, un.tups, un.frzs, un.tbls⟩
    have hok : HOk X.prog X.w H5 h' := fun b u e => (I5.hok b u e).stay (fun c v hc' z => (sb.2 c (by
      rintro rfl
      rcases hc' with hc' | hc'
      · rw [hc', e] at fr; cases fr
      · rw [fr] at hc'; cases hc')).trans z) (fun _ z => z) (fun _ _ z => z)
    obtain ⟨hh, g, d, t, os⟩ := s5
    have eo : os = s2.os := I5.os
    subst eo
    have z := I3.call (h' := h') (g' := g) (d' := d) (t' := t) (ch := fp) un' hok I5.bare fun b hb => ⟨(f2 b hb).2.2.2.1, (f2 b hb).2.1, (f2 b hb).2.2.2.2.1, (f2 b hb).2.2.2.2.2⟩
    exact z
  have st4 : tn 0 h1 := T.keep 0 s2.heap h1 st2 fun b hb o e => old b o (by rw [← hH3]; exact Heap.get?_push_of_some _ e)
  have loop : codeAny (model X.prog X.w) X.A (.compLoop (.ListComp elt [⟨.Name x px, iter, ifs, 0⟩] sc pos) 0 (.ref it) (.ref s2.heap.objs.size) (compEnvC sc cl g3.objs.size X.env))
      (compPost (model X.prog X.w) X.A X.xe use Post (.ref s2.heap.objs.size) g3.objs.size) { s2 with heap := h1, toks := s2.toks + ([] : List (Str × Value)).length } := by
    refine comp_loop (fun n s' => ∃ i ys v0 H', Inv (cxComp X (x :: capsN) sc cl g3.objs.size { s2 with heap := g3, toks := s2.toks } Hp3 fp (X.pn ++ pins)) [] (v0 :: capV σ caps) H' s' ∧ tn i s'.heap ∧ (∀ b ∈ fp, H' b = none) ∧ W i n ys H') ?_ m0 ⟨0, [], none, Hp3, Ic, st4, fpH, w0⟩
    rintro n s' ⟨i, ys, v0, H', I', st', fr', w'⟩
    rcases turn i n ys H' w' with ⟨stop, gs, qn⟩ | ⟨go, gs, N, hN, step⟩
    · refine thn (T.done (cxComp X (x :: capsN) sc cl g3.objs.size { s2 with heap := g3, toks := s2.toks } Hp3 fp (X.pn ++ pins)) rfl rfl rfl s' (hEnd s' H' I'.hok gs) i [] _ H' NoX I' (stat fr') st' stop) fun r s5 ⟨hr, I5⟩ => ?_
      subst hr
      obtain ⟨m, hn, _⟩ := id I5.loc
      exact fin g3.objs.size s2.heap.objs.size H' s5 ⟨m, hn⟩ (back (h' := s5.heap) I5 ⟨rfl, fun _ _ => rfl⟩) (I3.fpOk (Nat.le_refl _) I5.free) qn
    · refine thn (T.item (cxComp X (x :: capsN) sc cl g3.objs.size { s2 with heap := g3, toks := s2.toks } Hp3 fp (X.pn ++ pins)) rfl rfl rfl s' (hEnd s' H' I'.hok gs) i [] _ H' NoX I' (stat fr') st' go) fun r s5 ⟨u, hr, h5⟩ => ?_
      subst hr
      refine thn h5 fun _ s6 ⟨v, H6, I6, r6, y6, st6, fr6⟩ => ?_
      have I6' := I6.pinned (stat fr6) (T.obj _ _ st6)
      have again : ∀ {σ7 : St} {H7 : Hp} {s7 : Shared} {ys' : List V}, σ7 = some v :: capV σ caps → Inv (cxComp X (x :: capsN) sc cl g3.objs.size { s2 with heap := g3, toks := s2.toks } Hp3 fp (X.pn ++ pins)) ([] ++ pinsAt fp s6.heap) σ7 H7 s7 → N ys' H7 →
          ∃ m, m < n ∧ ∃ i ys v0 H', Inv (cxComp X (x :: capsN) sc cl g3.objs.size { s2 with heap := g3, toks := s2.toks } Hp3 fp (X.pn ++ pins)) [] (v0 :: capV σ caps) H' s7 ∧ tn i s7.heap ∧ (∀ b ∈ fp, H' b = none) ∧ W i m ys H' := by
        intro σ7 H7 s7 ys' eσ I7 n7
        subst eσ
        obtain ⟨m', hm, w7⟩ := hN ys' H7 n7
        refine ⟨m', hm, i + 1, ys', some v, H7, I7.unpinned, T.keep _ _ _ st6 fun b hb o e => (I7.pin (b, o) (List.mem_append_right _ (List.mem_append_right _ (mem_pinsAt hb e)))).1, fun b hb => ?_, w7⟩
        obtain ⟨o, e, d⟩ := T.obj _ _ st6 b hb
        exact (I7.pin (b, o) (List.mem_append_right _ (List.mem_append_right _ (mem_pinsAt hb e)))).2.1
      refine thn (pg_name (X := cxComp X (x :: capsN) sc cl g3.objs.size { s2 with heap := g3, toks := s2.toks } Hp3 fp (X.pn ++ pins)) (i := 0) hnd rfl (Or.inl (lookup_relabel_local hx)) (.inr (lookup_relabel_local hx)) _ s6 _ H6 v u
        (fun σ' H' => σ' = some v :: capV σ caps ∧ H' = H6) I6' r6 ⟨rfl, rfl⟩) fun _ s7 ⟨σ7, H7, I7, e7, e7'⟩ => ?_
      subst e7 e7'
      refine thn (ht _ _ _ _ _ _ _ s7 _ H7 _ I7 (step v H7 y6)) fun ok s8 ⟨H8, I8, q8⟩ => ?_
      cases ok with
      | false => exact again rfl I8 q8
      | true =>
        refine thn (he _ _ _ _ _ _ _ s8 _ H8 _ I8 q8) fun y s9 ⟨yv, H9, I9, r9, hp9, hz9, n9⟩ => ?_
        refine thn (mt_append (X := cxComp X (x :: capsN) sc cl g3.objs.size { s2 with heap := g3, toks := s2.toks } Hp3 fp (X.pn ++ pins)) _ s9 _ H9 (.ref s2.heap.objs.size) [yv] (.ref s2.heap.objs.size) [y] (fun _ H' => H' = upd H9 s2.heap.objs.size (.lst (ys ++ [yv]))) I9 rfl (.cons r9 .nil)
          ⟨s2.heap.objs.size, ys, yv, rfl, rfl, hp9, hz9, rfl⟩) fun _ s10 ⟨_, H10, I10, _, e10⟩ => ?_
        subst e10
        exact again rfl I10 n9
  exact codeAny_compStart_list loop (T.self X.A 0 _ _ _ st4 loop)

theorem pe_compG {X : Cx} {Gs : Hp → Prop} {hb : Bool} {CW : It → Addr → St → VK → Hp → Prop} {elt iter : Expr} {ifs : List Expr} {x : Str} {px pos : Pos} {sc : Scope} {wi : TI} {tt : TT} {te : TE} (caps : List Nat) (capsN : List Str)
    (hi : PI X (.Name x px) iter wi hb)
    (ht : ∀ cl C s H ex pn, PTs (cxComp X (x :: capsN) sc cl C s H ex pn) ifs tt)
    (he : ∀ cl C s H ex pn, PE (cxComp X (x :: capsN) sc cl C s H ex pn) elt te)
    (hkind : sc.kind = .function) (hcell : ∀ y ∈ sc.names, y.2 ≠ .cell) (hnames : ∀ y ∈ sc.names, y.2 = .local → sc.names.lookup y.1 = some .local) (hx : sc.names.lookup x = some .local)
    (hfr : ∀ y ∈ sc.names, y.2 = .free → y.1 ∈ capsN)
    (hcap : ∀ (j : Nat) (y : Str), capsN[j]? = some y → ∃ i : Nat, caps[j]? = some i ∧ X.N[i]? = some y ∧ sc.names.lookup y = some .free ∧ (X.env.kindOf y = some .cell ∨ X.env.kindOf y = some .free)) (hlen : caps.length = capsN.length)
    (hnd : (x :: capsN).Nodup) (hc : X.calm = true ∨ (hb = true ∧ ∀ s H, HOk X.prog X.w H s.heap → Gs H → HandQ X s)) (kW : ∀ J p cs Q H1, CW J p cs Q H1 → CompWG Gs J p tt te cs Q H1)
    (hs : ∀ x, foldedSetIterable iter X.env x = pure x := by intro _; rfl) :
    PE X (.ListComp elt [⟨.Name x px, iter, ifs, 0⟩] sc pos) (tCompC CW wi caps) := by
  intro pins s σ H Q I h
  rw [eval_ListComp]
  exact comp_go (use := none) caps capsN hi ht he hkind hcell hnames hx hfr hcap hlen hnd hc kW hs I h fun C p H5 s5 ⟨m, hn⟩ I5 f q => ⟨m, hn, fun h' sb => ⟨.ref p, H5, I5.turned (t' := s5.toks) (fun b o hb e => (sb.2 b hb).trans e) f.1 f.2.1 f.2.2.2.1 f.2.2.2.2.1 f.2.2.2.2.2, rfl, q⟩⟩
theorem CompW.g {J : It} {p : Addr} {tt : TT} {te : TE} {cs : St} {Q : VK} {H1 : Hp} (h : CompW J p tt te cs Q H1) : CompWG (fun _ => True) J p tt te cs Q H1 := by
  obtain ⟨W, h0, h1⟩ := h
  refine ⟨W, h0, fun i m ys H2 w => ?_⟩
  rcases h1 i m ys H2 w with ⟨a, b⟩ | ⟨a, b⟩
  · exact .inl ⟨a, trivial, b⟩
  · exact .inr ⟨a, trivial, b⟩
theorem pe_comp {X : Cx} {elt iter : Expr} {ifs : List Expr} {x : Str} {px pos : Pos} {sc : Scope} {wi : TI} {tt : TT} {te : TE} (caps : List Nat) (capsN : List Str)
    (hi : PI X (.Name x px) iter wi)
    (ht : ∀ cl C s H ex pn, PTs (cxComp X (x :: capsN) sc cl C s H ex pn) ifs tt)
    (he : ∀ cl C s H ex pn, PE (cxComp X (x :: capsN) sc cl C s H ex pn) elt te)
    (hkind : sc.kind = .function) (hcell : ∀ y ∈ sc.names, y.2 ≠ .cell) (hnames : ∀ y ∈ sc.names, y.2 = .local → sc.names.lookup y.1 = some .local) (hx : sc.names.lookup x = some .local)
    (hfr : ∀ y ∈ sc.names, y.2 = .free → y.1 ∈ capsN)
    (hcap : ∀ (j : Nat) (y : Str), capsN[j]? = some y → ∃ i : Nat, caps[j]? = some i ∧ X.N[i]? = some y ∧ sc.names.lookup y = some .free ∧ (X.env.kindOf y = some .cell ∨ X.env.kindOf y = some .free)) (hlen : caps.length = capsN.length)
    (hnd : (x :: capsN).Nodup) (hc : X.calm = true)
    (hs : ∀ x, foldedSetIterable iter X.env x = pure x := by intro _; rfl) :
    PE X (.ListComp elt [⟨.Name x px, iter, ifs, 0⟩] sc pos) (tComp wi tt te caps) :=
  pe_compG (Gs := fun _ => True) (hb := false) (CW := fun J p cs Q H1 => CompW J p tt te cs Q H1) caps capsN hi ht he hkind hcell hnames hx hfr hcap hlen hnd (.inl hc) (fun _ _ _ _ _ h => h.g) hs

/-- a block over n items, by its word: turn, what is made so far, heap -/
theorem comp_by {J : It} {p : Addr} {tt : TT} {te : TE} {cs : St} {Q : VK} {H1 : Hp} (n : Nat) (Pv : Nat → List V → Hp → Prop) (h0 : Pv 0 [] (upd H1 p (.lst [])))
    (hs : ∀ i ys H, i < n → Pv i ys H → J.go i H ∧ ∀ v H3, J.yld i H v H3 → tt (some v :: cs) H3 fun b H4 => if b = true then te (some v :: cs) H4 fun y H5 => H5 p = some (.lst ys) ∧ ys.length < sizeLine ∧ Pv (i + 1) (ys ++ [y]) (upd H5 p (.lst (ys ++ [y]))) else Pv (i + 1) ys H4)
    (hd : ∀ ys H, Pv n ys H → J.stop n H ∧ Q (.ref p) H) : CompW J p tt te cs Q H1 := by
  refine ⟨fun i m ys H => m = n - i ∧ i ≤ n ∧ Pv i ys H, ⟨n, by simp, Nat.zero_le _, h0⟩, ?_⟩
  rintro i m ys H ⟨rfl, hi, pv⟩
  by_cases hlt : i < n
  · obtain ⟨g, st⟩ := hs i ys H hlt pv
    exact .inr ⟨g, Pv (i + 1), fun ys' H' p' => ⟨n - (i + 1), by omega, rfl, hlt, p'⟩, st⟩
  · have e : i = n := by omega
    subst e
    exact .inl (hd ys H pv)

/-! ### over a text's signs -/
def Its (z : Str) : It := ⟨fun i _ => i < z.length, fun i H x H' => H' = H ∧ ∃ c, z.cps[i]? = some c ∧ x = .str ⟨#[c]⟩, fun i _ => z.length ≤ i⟩
theorem turn_ascii {P : Program} {w : World} {K : PySem.W.Frag} {tg : Expr} (z : Str) (t : Tok) (it : Addr) : Turn P w K tg (Its z) [it] it (fun i h => h.IsStrIter it "str_ascii_iterator" z t i) where
  mem := by simp
  obj := fun i h st b hb => by
    have e : b = it := by simpa using hb
    subst e
    obtain ⟨o, e, c, d⟩ := st
    exact ⟨o, e, fun v z => by rw [d] at z; cases z⟩
  keep := fun i h h' st k => by
    obtain ⟨o, e, r⟩ := st
    exact ⟨o, k it (by simp) o e, r⟩
  item := by
    intro X hP hw hK s hc i pins σ H E I hf st hg
    subst hP hw hK
    obtain ⟨f0, f1, f2, f3, f4, f5⟩ := hf it (by simp)
    have hi : i < z.cps.size := hg
    refine wpAny_pyNext_ascii_item st (c := z.cps[i]) (by simp [hi]) fun h' st' sb => ?_
    have I1 : Inv X pins σ H { s with heap := h', toks := s.toks + 1 } := I.turned (fun b o hb e => (sb.2 b hb).trans e) f0 f1 f3 f4 f5
    obtain ⟨o, e, c, d⟩ := id st'
    exact ⟨_, rfl, go_of (s := { s with heap := h', toks := s.toks + 1 }) e c d (by decide) ⟨.str ⟨#[z.cps[i]]⟩, H, I1, ⟨_, rfl⟩, ⟨rfl, _, by simp [hi], rfl⟩, st', fun b hb => (hf b hb).1⟩⟩
  done := by
    intro X hP hw hK s hc i pins σ H E I hf st hg
    subst hP hw hK
    obtain ⟨f0, f1, f2, f3, f4, f5⟩ := hf it (by simp)
    have hi : z.cps.size ≤ i := hg
    exact wpAny_pyNext_ascii_end hc.none st (by simp [hi]) fun h' eb => ⟨rfl, I.turned (t' := s.toks) (fun b o hb e => eb b o hb e) f0 f1 f3 f4 f5⟩
  self := fun _ _ _ _ _ st h => wpAny_pyIter_striter_ascii st h
theorem turn_wide {P : Program} {w : World} {K : PySem.W.Frag} {tg : Expr} (z : Str) (t : Tok) (it : Addr) : Turn P w K tg (Its z) [it] it (fun i h => h.IsStrIter it "str_iterator" z t i) where
  mem := by simp
  obj := fun i h st b hb => by
    have e : b = it := by simpa using hb
    subst e
    obtain ⟨o, e, c, d⟩ := st
    exact ⟨o, e, fun v z => by rw [d] at z; cases z⟩
  keep := fun i h h' st k => by
    obtain ⟨o, e, r⟩ := st
    exact ⟨o, k it (by simp) o e, r⟩
  item := by
    intro X hP hw hK s hc i pins σ H E I hf st hg
    subst hP hw hK
    obtain ⟨f0, f1, f2, f3, f4, f5⟩ := hf it (by simp)
    have hi : i < z.cps.size := hg
    refine wpAny_pyNext_wide_item st (c := z.cps[i]) (by simp [hi]) fun h' st' sb => ?_
    have I1 : Inv X pins σ H { s with heap := h', toks := s.toks + 1 } := I.turned (fun b o hb e => (sb.2 b hb).trans e) f0 f1 f3 f4 f5
    obtain ⟨o, e, c, d⟩ := id st'
    exact ⟨_, rfl, go_of (s := { s with heap := h', toks := s.toks + 1 }) e c d (by decide) ⟨.str ⟨#[z.cps[i]]⟩, H, I1, ⟨_, rfl⟩, ⟨rfl, _, by simp [hi], rfl⟩, st', fun b hb => (hf b hb).1⟩⟩
  done := by
    intro X hP hw hK s hc i pins σ H E I hf st hg
    subst hP hw hK
    obtain ⟨f0, f1, f2, f3, f4, f5⟩ := hf it (by simp)
    have hi : z.cps.size ≤ i := hg
    exact wpAny_pyNext_wide_end hc.none st (by simp [hi]) fun h' eb => ⟨rfl, I.turned (t' := s.toks) (fun b o hb e => eb b o hb e) f0 f1 f3 f4 f5⟩
  self := fun _ _ _ _ _ st h => wpAny_pyIter_striter_wide st h
def iStr (tl : TE) : TI := fun σ H R => tl σ H fun x H1 => ∃ z, x = .str z ∧ R (Its z) H1
theorem pi_str {X : Cx} {tg l : Expr} {tl : TE} (hl : PE X l tl) : PI X tg l (iStr tl) := by
  intro pins s σ H R I h
  refine thn (hl pins s σ H _ I h) fun v s1 ⟨x, H1, I1, r1, q1⟩ => ?_
  obtain ⟨z, e, q⟩ := q1
  subst e
  obtain ⟨t, rfl⟩ := r1
  have hf : H1 s1.heap.objs.size = none := I1.hok.fresh (Nat.le_refl _)
  cases ha : z.cps.all (· < 128)
  · refine wpAny_pyIter_wide ha ?_
    exact ⟨s1.heap.objs.size, [s1.heap.objs.size], _, Its z, H1, rfl, I1.kept (t' := s1.toks) fun b u e => Heap.get?_push_of_some _ e, turn_wide z t _, ⟨_, Heap.get?_push_size _ rfl, rfl, rfl⟩, fun b hb => by
      have e : b = s1.heap.objs.size := by simpa using hb
      subst e
      exact I1.fpOk (Nat.le_refl _) hf, q⟩
  · refine wpAny_pyIter_ascii ha ?_
    exact ⟨s1.heap.objs.size, [s1.heap.objs.size], _, Its z, H1, rfl, I1.kept (t' := s1.toks) fun b u e => Heap.get?_push_of_some _ e, turn_ascii z t _, ⟨_, Heap.get?_push_size _ rfl, rfl, rfl⟩, fun b hb => by
      have e : b = s1.heap.objs.size := by simpa using hb
      subst e
      exact I1.fpOk (Nat.le_refl _) hf, q⟩

/-! ### isinstance -/
section
variable {X : Cx}
theorem call_isinst : CallR X (.builtin "isinstance") (fun vs H Q => ∃ x T t b, vs = [x, .ty T] ∧ TyOf X.K H x t ∧ PySem.W.kitOne X.K t (.type T) = some b ∧ Q (.bl b) H) := by
  intro pins s σ H xs us Q I r h
  obtain ⟨x, T, t, b, rfl, ty, e, q⟩ := h
  obtain ⟨u, v, rfl, rx, rv⟩ := r.two
  cases (show v = Value.type T from rv)
  exact isinst_ok I rx ty e fun tk => ⟨.bl b, H, I.tok tk, rfl, q⟩

/-! ### texts -/
theorem strsAre_of {ys : List Str} : ∀ {us : List Value}, Vals (ys.map V.str) us → StrsAre us ys := by
  induction ys with
  | nil => intro us r; rw [List.map_nil] at r; cases r; exact .nil
  | cons y ys ih =>
    intro us r
    rw [List.map_cons] at r
    cases r with
    | cons r1 r2 =>
      obtain ⟨t, e⟩ := r1
      subst e
      exact .cons y t (ih r2)
def rJoin (K : PySem.W.Frag) : V → List V → Hp → VK → Prop := fun x xs H Q => ∃ z p ys, x = .str z ∧ xs = [.ref p] ∧ SqL K H p (ys.map V.str) ∧ (ys.map (·.length)).sum + ys.length * z.length ≤ 16777216 ∧ Q (.str (Txt.join z ys)) H
theorem mt_join : MtR X "str.join" (rJoin X.K) := by
  intro pins s σ H x xs v us Q I rx rs h
  obtain ⟨z, p, ys, rfl, rfl, hq, hz, q⟩ := h
  obtain ⟨t, rfl⟩ := rx
  obtain ⟨u, rfl, ru⟩ := rs.one
  cases ru
  obtain ⟨its, r, pl, _⟩ := I.list hq
  exact join_list pl.isList (strsAre_of (by simpa using r)) hz fun t' k => ⟨.str _, H, I.tok k, ⟨_, rfl⟩, q⟩
/-! ### lists compared, flat items -/
def eqVs : List V → List V → Bool
  | [], [] => true
  | x :: xs, y :: ys => eqV x y && eqVs xs ys
  | _, _ => false
theorem eqVs_len : ∀ {xs ys : List V}, xs.length ≠ ys.length → eqVs xs ys = false
  | [], [], h => absurd rfl h
  | [], _ :: _, _ => rfl
  | _ :: _, [], _ => rfl
  | x :: xs, y :: ys, h => by
    have h' : xs.length ≠ ys.length := fun e => h (by rw [List.length_cons, List.length_cons, e])
    show (eqV x y && eqVs xs ys) = false
    rw [eqVs_len h', Bool.and_false]
def eqAtN (xs ys : List V) (j : Nat) : Bool := match xs[j]?, ys[j]? with
  | some a, some b => eqV a b
  | _, _ => false
theorem all_eqAtN : ∀ {xs ys : List V}, xs.length = ys.length → (List.range xs.length).all (eqAtN xs ys) = eqVs xs ys
  | [], [], _ => rfl
  | [], _ :: _, h => by simp at h
  | _ :: _, [], h => by simp at h
  | x :: xs, y :: ys, h => by
    have h' : xs.length = ys.length := by simpa using h
    rw [List.length_cons, List.range_succ_eq_map, List.all_cons, List.all_map]
    have e : ((eqAtN (x :: xs) (y :: ys)) ∘ Nat.succ) = eqAtN xs ys := by
      funext j
      simp [eqAtN]
    rw [e, all_eqAtN h']
    rfl
theorem items_eqAt {A : Around} {s : Shared} {xs ys : List V} {us vs : List Value} (r : Vals xs us) (q : Vals ys vs) (fx : xs.all flatV = true) (fy : ys.all flatV = true) (j : Nat) (h1 : j < us.toArray.size) (h2 : j < vs.toArray.size) :
    SeqAt.EqAt A s us.toArray[j] vs.toArray[j] (eqAtN xs ys j) := by
  have l1 := r.length
  have l2 := q.length
  have h1' : j < xs.length := by rw [l1]; simpa using h1
  have h2' : j < ys.length := by rw [l2]; simpa using h2
  obtain ⟨u, eu, ru⟩ := r.get (i := j) (x := xs[j]) (by simp [h1'])
  obtain ⟨v, ev, rv⟩ := q.get (i := j) (x := ys[j]) (by simp [h2'])
  have e1 : us.toArray[j] = u := by
    obtain ⟨_, e⟩ := List.getElem?_eq_some_iff.mp eu
    simpa using e
  have e2 : vs.toArray[j] = v := by
    obtain ⟨_, e⟩ := List.getElem?_eq_some_iff.mp ev
    simpa using e
  have e3 : eqAtN xs ys j = eqV xs[j] ys[j] := by simp [eqAtN, h1', h2']
  rw [e1, e2, e3]
  exact eqAt_V ru rv (List.all_eq_true.mp fx _ (List.getElem_mem h1')) (List.all_eq_true.mp fy _ (List.getElem_mem h2'))
def rEqL (K : PySem.W.Frag) (neg : Bool) : R2 := fun x y H Q => ∃ a b xs ys, x = .ref a ∧ y = .ref b ∧ SqL K H a xs ∧ SqL K H b ys ∧ xs.all flatV = true ∧ ys.all flatV = true ∧ Q (.bl (if neg then !eqVs xs ys else eqVs xs ys)) H
theorem op_eqL (hu : X.A.units < cLine) : OpR X (compareOp .Eq) (rEqL X.K false) := by
  intro pins s σ H x y v u Q I rx ry h
  obtain ⟨a, b, xs, ys, rfl, rfl, ha, hb, fx, fy, q⟩ := h
  cases rx
  cases ry
  obtain ⟨its, r1, p1, _⟩ := I.list ha
  obtain ⟨its2, r2, p2, _⟩ := I.list hb
  have l1 := r1.length
  have l2 := r2.length
  by_cases hl : xs.length = ys.length
  · refine SeqAt.eq_listAt (e := eqAtN xs ys) p1.isList p2.isList (by simp; omega) hu (fun j h1 h2 => items_eqAt r1 r2 fx fy j h1 h2) ⟨.bl _, H, I, rfl, ?_⟩
    rw [List.size_toArray, ← l1, all_eqAtN hl]
    exact q
  · refine SeqAt.eq_list_lengthsAt p1.isList p2.isList (by simp; omega) hu ⟨.bl false, H, I, rfl, ?_⟩
    have e := eqVs_len hl
    simp only [e] at q
    exact q
theorem op_neL (hu : X.A.units < cLine) : OpR X (compareOp .NotEq) (rEqL X.K true) := by
  intro pins s σ H x y v u Q I rx ry h
  obtain ⟨a, b, xs, ys, rfl, rfl, ha, hb, fx, fy, q⟩ := h
  cases rx
  cases ry
  obtain ⟨its, r1, p1, _⟩ := I.list ha
  obtain ⟨its2, r2, p2, _⟩ := I.list hb
  have l1 := r1.length
  have l2 := r2.length
  by_cases hl : xs.length = ys.length
  · refine SeqAt.RcNeAt.lists (e := eqAtN xs ys) p1.isList p2.isList (by simp; omega) hu (fun j h1 h2 => items_eqAt r1 r2 fx fy j h1 h2) _ _ _ _ ⟨.bl _, H, I, rfl, ?_⟩
    rw [List.size_toArray, ← l1, all_eqAtN hl]
    exact q
  · refine SeqAt.RcNeAt.lists_lengths p1.isList p2.isList (by simp; omega) hu _ _ _ _ ⟨.bl true, H, I, rfl, ?_⟩
    have e := eqVs_len hl
    simp only [e] at q
    exact q

/-! ### sum of a list of ints -/
theorem ints_items : ∀ {ns : List Int} {us : List Value}, Vals (ns.map V.int) us → ∃ xs : List (Int × Tok), us = xs.map (fun p => Value.int p.1 p.2) ∧ xs.map (·.1) = ns
  | [], us, r => by
    rw [List.map_nil] at r
    cases r
    exact ⟨[], rfl, rfl⟩
  | n :: ns, us, r => by
    rw [List.map_cons] at r
    cases r with
    | cons r1 r2 =>
      obtain ⟨t, e⟩ := r1
      subst e
      obtain ⟨xs, e1, e2⟩ := ints_items r2
      exact ⟨(n, t) :: xs, by rw [e1]; rfl, by rw [List.map_cons, e2]⟩
theorem call_sum (hh : X.A.handled = none) : CallR X (.builtin "sum") (fun vs H Q => ∃ (p : Addr) (ns : List Int), vs = [.ref p] ∧ SqL X.K H p (ns.map V.int) ∧ Q (.int ns.sum) H) := by
  intro pins s σ H xs us Q I r h
  obtain ⟨p, ns, rfl, hq, q⟩ := h
  obtain ⟨u, rfl, ru⟩ := r.one
  cases ru
  obtain ⟨its, r1, p1, _⟩ := I.list hq
  obtain ⟨ps, e1, e2⟩ := ints_items r1
  have hl : s.heap.IsList p (intItems ps.toArray) := by
    have z := p1.isList
    rw [e1] at z
    have e3 : intItems ps.toArray = (ps.map fun p => Value.int p.1 p.2).toArray := by simp [intItems]
    rw [e3]
    exact z
  refine sum_intListG hh hl fun h' tk t' hk => ⟨.int ns.sum, H, I.kept hk, ⟨t', ?_⟩, q⟩
  rw [preSum_eq, List.take_of_length_le (by simp), e2]

/-! ### // by any written positive number -/
theorem op_fdivB : OpR X (binaryOp .FloorDiv) (rI (fun _ j => 0 < j ∧ j.natAbs.log2 < 9000) fun i j => .int (i / j)) := opI fun i j _ _ _ _ _ hc q => by
  have h1 : (0 : Int) < j := hc.1
  exact floordiv_int (by omega) (by rw [Int.fdiv_eq_ediv_of_nonneg i (by omega)]; exact q) (.inl (PyProof.noPylong_of_log2 hc.2))
/-! ### tuples put together: whichever is empty -/
theorem cat_all {prog : Program} {w : World} {A : Around} {E : Value → Shared → Prop} {s : Shared} {t b : Addr} {vs ws : List Value} {Q : Value → Shared → Prop} (ht : IsTup s.heap t vs.toArray) (hb : IsTup s.heap b ws.toArray) (hv : vs = [])
    (h0 : Q (.ref b) s) : wpAny (model prog w) A (binaryOp .Add (.ref t) (.ref b)) Q E s := by
  obtain ⟨⟨cls, dd, data, sl⟩, ho, hc, n, hd⟩ := id ht
  obtain ⟨⟨cls2, dd2, data2, sl2⟩, ho2, hc2, n2, hd2⟩ := id hb
  simp only at hc hd hc2 hd2
  subst hc hd hc2 hd2
  exact concat_meets ⟨_, ho, rfl⟩ ⟨_, ho2, rfl⟩ noFill_tuple_add seq_tuple_add PySem.F.slot_tuple_add PySem.F.entry_tuple_add (PySem.F.args_tuple_add_2 _ _) (tuple_addW0 t b _ _ n n2 dd dd2 sl sl2 (by simp [hv])) ⟨ho, ho2, h0⟩
def rCatA : R2 := fun x y H Q => ∃ a b xs ys, x = .ref a ∧ y = .ref b ∧ H a = some (.tup xs) ∧ H b = some (.tup ys) ∧ xs.length + ys.length ≤ sizeLine ∧ ∀ r H', Same H H' → H' r = some (.tup (xs ++ ys)) → Q (.ref r) H'
theorem op_catA : OpR X (binaryOp .Add) rCatA := by
  intro pins s σ H x y v u Q I rx ry h
  obtain ⟨a, b, xs, ys, rfl, rfl, ha, hb, hz, q⟩ := h
  by_cases hx : xs = []
  · cases rx
    cases ry
    obtain ⟨its, r1, p1, _⟩ := I.tuple (SqT.of ha)
    obtain ⟨its2, r2, p2, _⟩ := I.tuple (SqT.of hb)
    refine cat_all p1 p2 (r1.nil_iff.mpr hx) ⟨.ref b, H, I, rfl, q b H (Same.refl H) ?_⟩
    rw [hx]
    exact hb
  · refine op_catT pins s σ H (.ref a) (.ref b) v u Q I rx ry ⟨a, b, xs, ys, rfl, rfl, SqT.of ha, SqT.of hb, hx, hz, fun e => q a H (Same.refl H) ?_, fun _ p hp => q p _ (fun c o e => by rw [upd_ne (ne_of_none e hp)]; exact e) upd_same⟩
    rw [e, List.append_nil]
    exact ha
end
end L2
namespace L2
open PySem PySem.Spec PyProof.Rows
/-! ### comprehensions whose target is any: a tuple of names -/
def CompWT (Gs : Hp → Prop) (g : TG) (k : Nat) (J : It) (p : Addr) (tt : TT) (te : TE) (cs : St) (Q : VK) (H1 : Hp) : Prop := ∃ W : Nat → Nat → List V → Hp → Prop, (∃ m, W 0 m [] (upd H1 p (.lst []))) ∧ ∀ i m ys H2, W i m ys H2 →
  (J.stop i H2 ∧ Gs H2 ∧ Q (.ref p) H2) ∨ (J.go i H2 ∧ Gs H2 ∧ ∃ N : List V → Hp → Prop, (∀ ys' H', N ys' H' → ∃ m', m' < m ∧ W (i + 1) m' ys' H') ∧
    ∀ v H3, J.yld i H2 v H3 → ∀ vs0 : St, vs0.length = k → g v (vs0 ++ cs) H3 fun σ' H' => (∃ vs' : St, σ' = vs' ++ cs ∧ vs'.length = k) ∧ tt σ' H' fun b H4 => if b = true then te σ' H4 fun y H5 => H5 p = some (.lst ys) ∧ ys.length < sizeLine ∧ N (ys ++ [y]) (upd H5 p (.lst (ys ++ [y]))) else N ys H4)
theorem comp_goT {X : Cx} {use : Option (Value → Sem Unit)} {Post : Value → Shared → Prop} {pins : List (Addr × Obj)} {s : Shared} {σ : St} {H : Hp} {Q : VK} {Gs : Hp → Prop} {hb : Bool} {CW : It → Addr → St → VK → Hp → Prop} {elt iter : Expr} {ifs : List Expr} {tg : Expr} {xs : List Str} {g : TG} {pos : Pos} {sc : Scope} {wi : TI} {tt : TT} {te : TE} (caps : List Nat) (capsN : List Str)
    (hi : PI X tg iter wi hb)
    (hg : ∀ cl C s H ex pn, PG (cxComp X (xs ++ capsN) sc cl C s H ex pn) tg g)
    (ht : ∀ cl C s H ex pn, PTs (cxComp X (xs ++ capsN) sc cl C s H ex pn) ifs tt)
    (he : ∀ cl C s H ex pn, PE (cxComp X (xs ++ capsN) sc cl C s H ex pn) elt te)
    (hkind : sc.kind = .function) (hcell : ∀ y ∈ sc.names, y.2 ≠ .cell) (hnames : ∀ y ∈ sc.names, y.2 = .local → sc.names.lookup y.1 = some .local)
    (hfr : ∀ y ∈ sc.names, y.2 = .free → y.1 ∈ capsN)
    (hcap : ∀ (j : Nat) (y : Str), capsN[j]? = some y → ∃ i : Nat, caps[j]? = some i ∧ X.N[i]? = some y ∧ sc.names.lookup y = some .free ∧ (X.env.kindOf y = some .cell ∨ X.env.kindOf y = some .free)) (hlen : caps.length = capsN.length)
    (hc : X.calm = true ∨ (hb = true ∧ ∀ s H, HOk X.prog X.w H s.heap → Gs H → HandQ X s)) (kW : ∀ J p cs Q H1, CW J p cs Q H1 → CompWT Gs g xs.length J p tt te cs Q H1)
    (hs : ∀ x, foldedSetIterable iter X.env x = pure x) (I : Inv X pins σ H s) (h : tCompC CW wi caps σ H Q)
    (fin : ∀ (C p : Addr) (H5 : Hp) (s5 : Shared), (∃ m, s5.heap.Ns C m) → Inv X pins σ H5 s5 → FpOk X pins H5 C → Q (.ref p) H5 → compPost (model X.prog X.w) X.A X.xe use Post (.ref p) C (.ok .next) s5) :
    wpAny (model X.prog X.w) X.A (comprehension (.ListComp elt [⟨tg, iter, ifs, 0⟩] sc pos) sc X.env (firstIterPos [⟨tg, iter, ifs, 0⟩] pos) (newList []) (firstAsync [⟨tg, iter, ifs, 0⟩]) (firstIter [⟨tg, iter, ifs, 0⟩] X.env) use) Post X.xe s := by
  have hEnd : ∀ s H, HOk X.prog X.w H s.heap → Gs H → EndQ hb X s := by
    rcases hc with hc | ⟨e, k⟩
    · exact fun _ _ _ _ => .inl (I.ok.hd hc)
    · exact fun s H o g => .inr ⟨e, k s H o g⟩
  obtain ⟨cl, hclos, hq2, hq3⟩ := closure_ok (env := X.env) (sc := sc) (fun y hy hf => by
    obtain ⟨j, hj⟩ := List.mem_iff_getElem?.mp (hfr y hy hf)
    obtain ⟨_, _, _, _, k⟩ := hcap j y.1 hj
    exact I.ok.has y.1 k)
  refine wpAny_comprehension_free (use := use) rfl hs hclos hkind hnames (thn (hi pins s σ H _ I h) fun v s1 h1 => thn h1 fun itv s2 h2 => ?_)
  obtain ⟨it, fp, tn, J, H2, e, I2, T, st2, f2, q⟩ := h2
  subst e
  refine wpAny_newObj_type (wpAny_newFunctionEnv hcell (by intro y hy; simp at hy) (fun h1 hns hsb => ?_) hkind)
  dsimp only at hns hsb ⊢
  obtain ⟨W, ⟨m0, w0⟩, turn⟩ := kW _ _ _ _ _ (q s2.heap.objs.size (I2.hok.fresh (Nat.le_refl _)))
  have I3 : Inv X pins σ (upd H2 s2.heap.objs.size (.lst [])) { s2 with heap := s2.heap.push { cls := .type "list", dict := none, data := .seq ([] : List Value).toArray }, toks := s2.toks } := I2.lnew (its := []) (ys := []) (t' := s2.toks) .nil (Nat.zero_le _)
  generalize hH3 : s2.heap.push { cls := .type "list", dict := none, data := .seq ([] : List Value).toArray } = g3 at hns hsb I3 ⊢
  have hsz3 : g3.objs.size = s2.heap.objs.size + 1 := by rw [← hH3, Heap.size_push]
  generalize hHp : upd H2 s2.heap.objs.size (.lst []) = Hp3 at w0 I3
  have hlt : ∀ b o, g3.get? b = some o → b ≠ g3.objs.size := fun b o e => Nat.ne_of_lt (Heap.lt_size e)
  have old : ∀ b o, g3.get? b = some o → h1.get? b = some o := fun b o e => hsb.extBut b o (hlt b o e) (Heap.get?_push_of_some _ e)
  have fpo : ∀ b ∈ fp, ∃ o, g3.get? b = some o := fun b hb => by
    obtain ⟨o, e, _⟩ := T.obj 0 s2.heap st2 b hb
    exact ⟨o, by rw [← hH3]; exact Heap.get?_push_of_some _ e⟩
  have fpC : ∀ b ∈ fp, b ≠ g3.objs.size := fun b hb => by obtain ⟨o, e⟩ := fpo b hb; exact hlt b o e
  have fpH : ∀ b ∈ fp, Hp3 b = none := fun b hb => by
    obtain ⟨o, e, _⟩ := T.obj 0 s2.heap st2 b hb
    rw [← hHp, upd_ne (Nat.ne_of_lt (Heap.lt_size e))]
    exact (f2 b hb).1
  have fsSub : ∀ b, b ≠ X.env.locals → b ∉ X.fs → b ∉ frs X.stack := fun b h1 h2 z => by
    rcases List.mem_cons.mp (I2.stkSub b z) with z | z
    · exact h1 z
    · exact h2 z
  -- the block's context
  have okc : (cxComp X (xs ++ capsN) sc cl g3.objs.size { s2 with heap := g3, toks := s2.toks } Hp3 fp (X.pn ++ pins)).Ok := by
    refine ⟨I3.ok.mod, hkind, I3.ok.glob, I3.ok.blt, Nat.le_refl _, fun y z c e1 e2 => I3.ok.inj y z c (hq2 y c e1) (hq2 z c e2), fun y hy => ?_, fun y c z => absurd z Bool.false_ne_true, I3.ok.hd, I3.ok.frames, .inl rfl, fun b hb => ⟨fpC b hb, fun y c e => (f2 b hb).2.2.2.2.1 y c (hq2 y c e)⟩,
      I3.bs, Nat.le_trans I3.ok.bsz I3.sz, fun b o e hb => ?_, fun b hb => fsSub b (f2 b hb).2.1 (f2 b hb).2.2.1, I3.stack, I3.stkFree⟩
    · have hy' : ∃ k, (relabel sc X.env).names.lookup y = some k ∧ (k = .cell ∨ k = .free) := by
        rcases hy with hy | hy
        · exact ⟨_, hy, .inl rfl⟩
        · exact ⟨_, hy, .inr rfl⟩
      obtain ⟨k, e, hk⟩ := hy'
      obtain ⟨k0, e0, hk0⟩ := relabel_look e
      have em := PySem.mem_of_lookup e0
      rcases hk0 with rfl | ⟨rfl, _⟩
      · rcases hk with rfl | rfl
        · exact absurd rfl (hcell _ em)
        · exact hq3 _ em rfl
      · exact hq3 _ em rfl
    · rcases (f2 b hb).2.2.2.1 with z | z
      · exact I3.ok.noex b o e z
      · have h1 : b < X.base.objs.size := Heap.lt_size e
        have h2 := I3.ok.bsz
        exact absurd (Nat.lt_of_lt_of_le h1 (Nat.le_trans h2 z)) (Nat.lt_irrefl _)
  have Ic : Inv (cxComp X (xs ++ capsN) sc cl g3.objs.size { s2 with heap := g3, toks := s2.toks } Hp3 fp (X.pn ++ pins)) [] (List.replicate xs.length none ++ capV σ caps) Hp3 { s2 with heap := h1, toks := s2.toks + ([] : List (Str × Value)).length } := by
    refine ⟨okc, rfl, I3.bare, Un.kept old, ⟨_, hns, fun i y v e1 e2 e3 => ?_⟩, fun y c e => ?_, I3.hok.fresh (Nat.le_refl _), fun y c e => I3.freeC y c (hq2 y c e), fun p hp => ?_, I3.hok.kept old, ?_⟩
    · by_cases hlt0 : i < xs.length
      · have e2 : (List.replicate xs.length (none : Option V) ++ capV σ caps)[i]? = some (some v) := e2
        rw [List.getElem?_append_left (by rw [List.length_replicate]; exact hlt0), List.getElem?_replicate, if_pos hlt0] at e2
        cases e2
      · have e1 : (xs ++ capsN)[i]? = some y := e1
        have e2 : (List.replicate xs.length (none : Option V) ++ capV σ caps)[i]? = some (some v) := e2
        rw [List.getElem?_append_right (Nat.le_of_not_lt hlt0)] at e1
        rw [List.getElem?_append_right (by rw [List.length_replicate]; exact Nat.le_of_not_lt hlt0), List.length_replicate] at e2
        generalize i - xs.length = j at e1 e2
        have e1' : capsN[j]? = some y := e1
        obtain ⟨i, c1, c2, c3, c4⟩ := hcap j y e1'
        have e2' : (capV σ caps)[j]? = some (some v) := e2
        have hv : σ[i]? = some (some v) := by
          unfold capV at e2'
          rw [List.getElem?_map, c1] at e2'
          have e4 : (σ[i]?).getD none = some v := Option.some.inj e2'
          cases e5 : σ[i]? with
          | none => rw [e5] at e4; cases e4
          | some w => rw [e5] at e4; exact congrArg some e4
        obtain ⟨m, _, hl⟩ := I3.loc
        have vis : Vis X.env.scope y := by
          rcases c4 with z | z
          · exact .inr (.inl z)
          · exact .inr (.inr z)
        obtain ⟨u, r, l⟩ := hl i y v c2 hv vis
        refine ⟨u, r, .inr ⟨relabel_free c3, ?_⟩⟩
        rcases l with ⟨lk, _⟩ | ⟨_, c, ec, o, ho, hd⟩
        · rcases c4 with z | z <;> (rw [lk] at z; cases z)
        · obtain ⟨c', e'⟩ := hq3 _ (PySem.mem_of_lookup c3) rfl
          have e'' := hq2 _ _ e'
          have e3' : (some c' : Option Addr) = some c := e''.symm.trans ec
          cases e3'
          exact ⟨c, e', o, old _ _ ho, hd⟩
    · obtain ⟨v, o, ho, hd⟩ := I3.cell y c (hq2 y c e)
      exact ⟨v, o, old _ _ ho, hd⟩
    · have hp' : p ∈ X.pn ++ pins := by simpa using hp
      obtain ⟨e1, e2, e3, e4, e5⟩ := I3.pin p hp'
      exact ⟨old _ _ e1, e2, hlt _ _ e1, fsSub _ e3 e4, e5⟩
    · show (List.replicate xs.length (none : Option V) ++ capV σ caps).length = (xs ++ capsN).length
      unfold capV
      rw [List.length_append, List.length_append, List.length_replicate, List.length_map, hlen]
  have stat : ∀ {H' : Hp}, (∀ b ∈ fp, H' b = none) → ∀ b ∈ fp, FpOk (cxComp X (xs ++ capsN) sc cl g3.objs.size { s2 with heap := g3, toks := s2.toks } Hp3 fp (X.pn ++ pins)) [] H' b := fun hn b hb =>
    ⟨hn b hb, fpC b hb, fsSub b (f2 b hb).2.1 (f2 b hb).2.2.1, .inl hb, fun y c e => (f2 b hb).2.2.2.2.1 y c (hq2 y c e), fun p hp => (f2 b hb).2.2.2.2.2 p (by simpa using hp)⟩
  -- behind the block
  have back : ∀ {pins5 : List (Addr × Obj)} {σ5 : St} {H5 : Hp} {s5 : Shared} {h' : Heap}, Inv (cxComp X (xs ++ capsN) sc cl g3.objs.size { s2 with heap := g3, toks := s2.toks } Hp3 fp (X.pn ++ pins)) pins5 σ5 H5 s5 → Heap.SameBut g3.objs.size s5.heap h' → Inv X pins σ H5 { s5 with heap := h' } := by
    intro pins5 σ5 H5 s5 h' I5 sb
    have un : Un (frs X.stack) fp Hp3 H5 g3 s5.heap := I5.base
    have fr : H5 g3.objs.size = none := I5.free
    have un' : Un (frs X.stack) fp Hp3 H5 g3 h' := ⟨fun b o e n hb hx => (sb.2 b (hlt b o e)).trans (un.keep b o e n hb hx),
      fun b o e n hb hx => by obtain ⟨sl, z⟩ := un.slot b o e n hb hx; exact ⟨sl, (sb.2 b (hlt b o e)).trans z⟩, un.free,
      fun b o e hx => by obtain ⟨o', z⟩ := un.there b o e hx; exact ⟨o', (sb.2 b (hlt b o e)).trans z⟩, un.tups, un.frzs, un.tbls⟩
    have hok : HOk X.prog X.w H5 h' := fun b u e => (I5.hok b u e).stay (fun c v hc' z => (sb.2 c (by
      rintro rfl
      rcases hc' with hc' | hc'
      · rw [hc', e] at fr; cases fr
      · rw [fr] at hc'; cases hc')).trans z) (fun _ z => z) (fun _ _ z => z)
    obtain ⟨hh, g, d, t, os⟩ := s5
    have eo : os = s2.os := I5.os
    subst eo
    have z := I3.call (h' := h') (g' := g) (d' := d) (t' := t) (ch := fp) un' hok I5.bare fun b hb => ⟨(f2 b hb).2.2.2.1, (f2 b hb).2.1, (f2 b hb).2.2.2.2.1, (f2 b hb).2.2.2.2.2⟩
    exact z
  have st4 : tn 0 h1 := T.keep 0 s2.heap h1 st2 fun b hb o e => old b o (by rw [← hH3]; exact Heap.get?_push_of_some _ e)
  have loop : codeAny (model X.prog X.w) X.A (.compLoop (.ListComp elt [⟨tg, iter, ifs, 0⟩] sc pos) 0 (.ref it) (.ref s2.heap.objs.size) (compEnvC sc cl g3.objs.size X.env))
      (compPost (model X.prog X.w) X.A X.xe use Post (.ref s2.heap.objs.size) g3.objs.size) { s2 with heap := h1, toks := s2.toks + ([] : List (Str × Value)).length } := by
    refine comp_loop (fun n s' => ∃ i ys v0 H', v0.length = xs.length ∧ Inv (cxComp X (xs ++ capsN) sc cl g3.objs.size { s2 with heap := g3, toks := s2.toks } Hp3 fp (X.pn ++ pins)) [] (v0 ++ capV σ caps) H' s' ∧ tn i s'.heap ∧ (∀ b ∈ fp, H' b = none) ∧ W i n ys H') ?_ m0 ⟨0, [], List.replicate xs.length none, Hp3, List.length_replicate, Ic, st4, fpH, w0⟩
    rintro n s' ⟨i, ys, v0, H', hv0, I', st', fr', w'⟩
    rcases turn i n ys H' w' with ⟨stop, gs, qn⟩ | ⟨go, gs, N, hN, step⟩
    · refine thn (T.done (cxComp X (xs ++ capsN) sc cl g3.objs.size { s2 with heap := g3, toks := s2.toks } Hp3 fp (X.pn ++ pins)) rfl rfl rfl s' (hEnd s' H' I'.hok gs) i [] _ H' NoX I' (stat fr') st' stop) fun r s5 ⟨hr, I5⟩ => ?_
      subst hr
      obtain ⟨m, hn, _⟩ := id I5.loc
      exact fin g3.objs.size s2.heap.objs.size H' s5 ⟨m, hn⟩ (back (h' := s5.heap) I5 ⟨rfl, fun _ _ => rfl⟩) (I3.fpOk (Nat.le_refl _) I5.free) qn
    · refine thn (T.item (cxComp X (xs ++ capsN) sc cl g3.objs.size { s2 with heap := g3, toks := s2.toks } Hp3 fp (X.pn ++ pins)) rfl rfl rfl s' (hEnd s' H' I'.hok gs) i [] _ H' NoX I' (stat fr') st' go) fun r s5 ⟨u, hr, h5⟩ => ?_
      subst hr
      refine thn h5 fun _ s6 ⟨v, H6, I6, r6, y6, st6, fr6⟩ => ?_
      have I6' := I6.pinned (stat fr6) (T.obj _ _ st6)
      have again : ∀ {σ7 v7 : St} {H7 : Hp} {s7 : Shared} {ys' : List V}, σ7 = v7 ++ capV σ caps → v7.length = xs.length → Inv (cxComp X (xs ++ capsN) sc cl g3.objs.size { s2 with heap := g3, toks := s2.toks } Hp3 fp (X.pn ++ pins)) ([] ++ pinsAt fp s6.heap) σ7 H7 s7 → N ys' H7 →
          ∃ m, m < n ∧ ∃ i ys v0 H', v0.length = xs.length ∧ Inv (cxComp X (xs ++ capsN) sc cl g3.objs.size { s2 with heap := g3, toks := s2.toks } Hp3 fp (X.pn ++ pins)) [] (v0 ++ capV σ caps) H' s7 ∧ tn i s7.heap ∧ (∀ b ∈ fp, H' b = none) ∧ W i m ys H' := by
        intro σ7 v7 H7 s7 ys' eσ hv7 I7 n7
        subst eσ
        obtain ⟨m', hm, w7⟩ := hN ys' H7 n7
        refine ⟨m', hm, i + 1, ys', v7, H7, hv7, I7.unpinned, T.keep _ _ _ st6 fun b hb o e => (I7.pin (b, o) (List.mem_append_right _ (List.mem_append_right _ (mem_pinsAt hb e)))).1, fun b hb => ?_, w7⟩
        obtain ⟨o, e, d⟩ := T.obj _ _ st6 b hb
        exact (I7.pin (b, o) (List.mem_append_right _ (List.mem_append_right _ (mem_pinsAt hb e)))).2.1
      refine thn (hg _ _ _ _ _ _ _ s6 _ H6 v u _ I6' r6 (step v H6 y6 v0 hv0)) fun _ s7 ⟨σ7, H7, I7, ⟨v7, e7, hv7⟩, q7⟩ => ?_
      refine thn (ht _ _ _ _ _ _ _ s7 _ H7 _ I7 q7) fun ok s8 ⟨H8, I8, q8⟩ => ?_
      cases ok with
      | false => exact again e7 hv7 I8 q8
      | true =>
        refine thn (he _ _ _ _ _ _ _ s8 _ H8 _ I8 q8) fun y s9 ⟨yv, H9, I9, r9, hp9, hz9, n9⟩ => ?_
        refine thn (mt_append (X := cxComp X (xs ++ capsN) sc cl g3.objs.size { s2 with heap := g3, toks := s2.toks } Hp3 fp (X.pn ++ pins)) _ s9 _ H9 (.ref s2.heap.objs.size) [yv] (.ref s2.heap.objs.size) [y] (fun _ H' => H' = upd H9 s2.heap.objs.size (.lst (ys ++ [yv]))) I9 rfl (.cons r9 .nil)
          ⟨s2.heap.objs.size, ys, yv, rfl, rfl, hp9, hz9, rfl⟩) fun _ s10 ⟨_, H10, I10, _, e10⟩ => ?_
        subst e10
        exact again e7 hv7 I10 n9
  exact codeAny_compStart_list loop (T.self X.A 0 _ _ _ st4 loop)

theorem pe_compT {X : Cx} {Gs : Hp → Prop} {hb : Bool} {CW : It → Addr → St → VK → Hp → Prop} {elt iter : Expr} {ifs : List Expr} {tg : Expr} {xs : List Str} {g : TG} {pos : Pos} {sc : Scope} {wi : TI} {tt : TT} {te : TE} (caps : List Nat) (capsN : List Str)
    (hi : PI X tg iter wi hb)
    (hg : ∀ cl C s H ex pn, PG (cxComp X (xs ++ capsN) sc cl C s H ex pn) tg g)
    (ht : ∀ cl C s H ex pn, PTs (cxComp X (xs ++ capsN) sc cl C s H ex pn) ifs tt)
    (he : ∀ cl C s H ex pn, PE (cxComp X (xs ++ capsN) sc cl C s H ex pn) elt te)
    (hkind : sc.kind = .function) (hcell : ∀ y ∈ sc.names, y.2 ≠ .cell) (hnames : ∀ y ∈ sc.names, y.2 = .local → sc.names.lookup y.1 = some .local)
    (hfr : ∀ y ∈ sc.names, y.2 = .free → y.1 ∈ capsN)
    (hcap : ∀ (j : Nat) (y : Str), capsN[j]? = some y → ∃ i : Nat, caps[j]? = some i ∧ X.N[i]? = some y ∧ sc.names.lookup y = some .free ∧ (X.env.kindOf y = some .cell ∨ X.env.kindOf y = some .free)) (hlen : caps.length = capsN.length)
    (hc : X.calm = true ∨ (hb = true ∧ ∀ s H, HOk X.prog X.w H s.heap → Gs H → HandQ X s)) (kW : ∀ J p cs Q H1, CW J p cs Q H1 → CompWT Gs g xs.length J p tt te cs Q H1)
    (hs : ∀ x, foldedSetIterable iter X.env x = pure x := by intro _; rfl) :
    PE X (.ListComp elt [⟨tg, iter, ifs, 0⟩] sc pos) (tCompC CW wi caps) := by
  intro pins s σ H Q I h
  rw [eval_ListComp]
  exact comp_goT (use := none) caps capsN hi hg ht he hkind hcell hnames hfr hcap hlen hc kW hs I h fun C p H5 s5 ⟨m, hn⟩ I5 f q => ⟨m, hn, fun h' sb => ⟨.ref p, H5, I5.turned (t' := s5.toks) (fun b o hb e => (sb.2 b hb).trans e) f.1 f.2.1 f.2.2.2.1 f.2.2.2.2.1 f.2.2.2.2.2, rfl, q⟩⟩
end L2
namespace L2
open PySem PySem.Spec PyProof.Rows

/-! ### an exception of an own class: its object, its traceback -/
section
variable {M : Model} {A : Around} {E : Value → Shared → Prop} {s : Shared}
end
end L2
namespace L2
open PySem PySem.Spec PyProof.Rows PySem.W PySem.Builtin PySem.Builtin.ObjectAttr

/-! ### a field of an exception of an own class is stored, read -/
section
variable {prog : Program} {w : World} {A : Around} {E : Value → Shared → Prop} {s : Shared} {K : Frag} {x C : Addr} {ox : Obj} {od : Option Obj} {R : Result → Shared → Prop}
end
end L2
namespace L2
open PySem PySem.Spec PyProof.Rows PySem.W

/-! ### an exception of an own class with an own __init__ is made -/
section
variable {prog : Program} {w : World} {A : Around} {E : Value → Shared → Prop} {h : Heap} {g : Array GenState} {d : Drawn} {t : Nat} {os : OsState} {nm q : Str} {C N fI : Addr} {bs bm bmB rest : List Value} {hdct : Bool} {sn : List Str} {sub : List Value}
  {ab : Bool} {col : Option Bool} {dd : Option Addr} {k0 k1 k2 k3 k5 : Option Value} {B newId initId : String}
end
end L2
namespace L2
open PySem PySem.Spec PyProof.Rows PySem.W
section
variable {M : Model} {A : Around} {E : Value → Shared → Prop} {h : Heap} {g : Array GenState} {d : Drawn} {t : Nat} {os : OsState} {nm q : Str} {C N : Addr} {bs bm : List Value} {hdct : Bool} {sn : List Str} {sub : List Value}
  {ab : Bool} {col : Option Bool} {dd : Option Addr} {k0 k1 k2 k3 k5 : Option Value} {newId : String} {env : Env}
variable {nm2 q2 : Str} {D N2 : Addr} {bs2 bm2 : List Value} {hdct2 : Bool} {sn2 : List Str} {sub2 : List Value} {ab2 : Bool} {col2 : Option Bool} {dd2 : Option Addr} {j0 j1 j2 j3 j5 : Option Value} {newId2 : String}
end
end L2
namespace L2
open PySem PySem.Spec PyProof.Rows PySem.W

/-! ### exceptions in the abstract heap -/
section
variable {P : Program} {w : World} {H : Hp} {h : Heap} {e C dx : Addr} {dd : Option Addr} {tb : Value} {fs : List (Str × V)}
end
section
variable {X : Cx} {pins : List (Addr × Obj)} {σ : St} {H : Hp} {s : Shared} {h' : Heap} {ea C T : Addr} {dd : Option Addr} {tb : Value}
end

/-! ### how an exception lies behind a call; within a body -/
section
variable {X : Cx} {pins : List (Addr × Obj)} {σ : St} {H : Hp} {s s' : Shared} {E : XK} {e : Value}
end
end L2
namespace L2
open PySem PySem.Spec PyProof.Rows PySem.W

/-! ### an own class of exceptions, by the text -/
section
variable {X : Cx} {CX : CXT} {k : Nat} {f C : Addr} {bm : List Value} {fd : FuncData} {ps : List Str} {sp : Sp} {dvs : List V} {ds : List Value} {E : XK} {x m : Str} {p pos apos : Pos} {e o : Expr} {es : List Expr} {ta : TE} {t : TA}
end

/-! ### its fields -/
section
variable {X : Cx} {pins : List (Addr × Obj)} {σ : St} {H : Hp} {s : Shared} {a C dx : Addr} {fs : List (Str × V)} {f : Str} {A : Around} {E : Value → Shared → Prop}
end
section
variable {X : Cx} {o e value : Expr} {f : Str} {pos pos' tpos : Pos} {ta tv : TE}
end
/-! ### an own exception class without an __init__ of its own -/
section
variable {X : Cx} {C : Addr} {bm : List Value} {x : Str} {p pos : Pos}
end
end L2
namespace L2
open PySem PySem.Spec PyProof.Rows PySem.W

/-! ### code whose exceptions are caught in the same body -/
section
variable {X : Cx} {k : Nat} {f C : Addr} {fd : FuncData} {ps : List Str} {sp : Sp} {dvs : List V} {ds : List Value} {E : XK} {x m : Str} {p pos apos : Pos} {e o : Expr} {es : List Expr} {ta : TE} {t : TA}
end

/-! ### try: .. except D as n: .. -/
section
variable {X : Cx} {pins : List (Addr × Obj)} {σ : St} {H : Hp} {s : Shared} {ea : Addr}
end
section
variable {X : Cx} {body suite : List Stmt} {b₀ : Stmt} {tb : TB} {ts : Addr → TS} {wn n : Str} {D : Addr} {bmD : List Value} {i : Nat} {np hpos pos : Pos}
end
end L2
namespace L2
open PySem PySem.Spec PyProof.Rows
section
variable {X : Cx}
/-- all(xs) of a list of truths -/
theorem bools_items : ∀ {bs : List Bool} {us : List Value}, Vals (bs.map V.bl) us → us = bs.map Value.bool
  | [], us, r => by
    rw [List.map_nil] at r
    cases r
    rfl
  | b :: bs, us, r => by
    rw [List.map_cons] at r
    cases r with
    | cons r1 r2 =>
      cases (show _ = Value.bool b from r1)
      rw [bools_items r2, List.map_cons]
theorem call_all (hh : X.A.handled = none) : CallR X (.builtin "all") (fun vs H Q => ∃ (p : Addr) (bs : List Bool), vs = [.ref p] ∧ SqL X.K H p (bs.map V.bl) ∧ Q (.bl (bs.all id)) H) := by
  intro pins s σ H xs us Q I r h
  obtain ⟨p, bs, rfl, hq, q⟩ := h
  obtain ⟨u, rfl, ru⟩ := r.one
  cases ru
  obtain ⟨its, r1, p1, _⟩ := I.list hq
  cases bools_items r1
  have hl : s.heap.IsList p (bs.map Value.bool).toArray := p1.isList
  have hlt : p < s.heap.objs.size := by obtain ⟨_, e, _⟩ := hl; exact Heap.lt_size e
  refine call_all_walk (wpAny_pyIter_list hl ?_)
  refine ⟨_, _, _, _, _, _, fun i => bs.getD i true, rfl, Walks.list (A := X.A.in1) hh _ p (Nat.ne_of_lt hlt) (bs.map Value.bool).toArray, ⟨⟨_, Heap.get?_push_size _ rfl, rfl, rfl⟩, hl.push _⟩, ?_, fun h' tk hk => ?_⟩
  · intro i v s' Q' E' hi hq'
    have hi' : (bs.map Value.bool)[i]? = some v := by simpa using hi
    rw [List.getElem?_map] at hi'
    cases e : bs[i]? with
    | none => rw [e] at hi'; cases hi'
    | some b =>
      rw [e] at hi'
      cases hi'
      have eb : bs.getD i true = b := by simp [List.getD, e]
      have hq2 : Q' b s' := by rw [← eb]; exact hq'
      exact wpAny_truthy_bool hq2
  · have ea : (List.range (bs.map Value.bool).toArray.size).all (fun i => bs.getD i true) = bs.all id := by
      have : (List.range bs.length).map (fun i => bs.getD i true) = bs := by
        apply List.ext_getElem
        · simp
        · intro n h1 h2
          simp [List.getD, List.getElem?_eq_getElem h2]
      calc _ = ((List.range bs.length).map (fun i => bs.getD i true)).all id := by rw [List.all_map]; simp
        _ = bs.all id := by rw [this]
    rw [ea]
    exact ⟨.bl _, H, I.kept (h' := h') (t' := tk) (fun b o e => hk b o (by simp; exact Nat.ne_of_lt (Heap.lt_size e)) (Heap.get?_push_of_some _ e)), rfl, q⟩
end
end L2
/-! ### general words over the layer -/
namespace L2
open PySem PySem.Spec PyProof.Rows
section
variable {P : Program} {w : World} {K : PySem.W.Frag} {mg : Str → Option Value} {base : Heap}
theorem same_new {H : Hp} {p : Addr} (h : H p = none) (o : HO) : Same H (upd H p o) := fun b u q => by rw [upd_ne (ne_of_none q h)]; exact q
theorem same_over {H H' : Hp} {p : Addr} (s : Same H H') (h : H p = none) (o : HO) : Same H (upd H' p o) := fun b u q => by rw [upd_ne (ne_of_none q h)]; exact s b u q
theorem small {n : Nat} (h : n ≤ 100000) : n < sizeLine := Nat.lt_of_le_of_lt h (by decide)
theorem take_snoc {α β : Type} (f : α → β) {l : List α} {i : Nat} {c : α} (h : l[i]? = some c) : (l.take (i + 1)).map f = (l.take i).map f ++ [f c] := by
  rw [List.take_add_one, h, List.map_append]
  rfl
theorem codes_at {x : Str} {i c : Nat} (h : x.cps[i]? = some c) : x.cps.toList[i]? = some c := by simpa using h
theorem codes_len (x : Str) : x.cps.toList.length = x.length := by simp [Str.length]
structure Has (K : PySem.W.Frag) (mg : Str → Option Value) (x : Str) (st : Stmt) (ps : List Str) (f : Addr) (fd : FuncData) : Prop where
  fn : Fun K x x st f fd
  bd : Binds K fd ps []
  nm : mg x = some (.ref f)
end
end L2
namespace L2
open PySem PyProof.Rows
/-- an if whose ends go on as one: R holds behind either -/
theorem if_rest {c : TT} {t : TS} {rt : VK} {bk ct : St → Hp → Prop} {σ : St} {H : Hp} {U : St → Hp → Prop} (R : St → Hp → Prop) (h1 : ∀ σ' H', R σ' H' → U σ' H') (h2 : (∀ σ' H', R σ' H' → U σ' H') → tIfS c t tNext { nx := U, rt := rt, bk := bk, ct := ct } σ H) :
    tIfS c t tNext { nx := U, rt := rt, bk := bk, ct := ct } σ H := h2 h1
theorem at_next {i : Nat} {v : V} {σ : St} {H : Hp} {k : St → Hp → Prop} (h : k (σ.set i (some v)) H) : gName i v σ H k := h
theorem seq_in {t u : TS} {D : Ends} {σ : St} {H : Hp} (h : t { nx := u D, rt := D.rt, bk := D.bk, ct := D.ct } σ H) : tSeq t u D σ H := h
/-! ### classes of exceptions by the text -/
end L2
namespace L2
open PySem PySem.Spec PyProof.Rows
/-! ### lists of pairs as tables -/
section
variable {κ : Type} [DecidableEq κ]
end


/-! ### a tracked dict, its keys ints and texts or tuples of these -/
section
variable {P : Program} {w : World} {H : Hp} {h : Heap} {a : Addr}
end

section
variable {X : Cx} {pins : List (Addr × Obj)} {σ : St} {H : Hp} {s : Shared} {a : Addr} {y v : V} {u r : Value} {o : Option V} {A : Around} {E : Value → Shared → Prop}

theorem Inv.big (I : Inv X pins σ H s) : sysModules < s.heap.objs.size := by
  have h : mainGlobals < s.heap.objs.size := (I.mod.glob.keeps I.bk).lt
  exact Nat.lt_trans (by decide) h

end

section
variable {X : Cx} {pins : List (Addr × Obj)} {σ : St} {H : Hp} {s : Shared} {a : Addr} {kvs : List (Key × V)} {k : Key} {u : Value} {A : Around} {E : Value → Shared → Prop}
end


/-! ### readings and rules -/
section
variable {X : Cx} {o i e value : Expr} {pos pos' tpos : Pos} {td ty tv : TE}
end


/-! ### displays -/
theorem dk_empty {P : Program} {w : World} {H : Hp} (h : Heap) (hb : sysModules < h.objs.size) : ObjOk P w H (h.push { cls := .type "dict", data := .dict #[] }) h.objs.size (.dK []) :=
  ⟨Nat.zero_le _, beq_eq_false_iff_ne.mpr (Ne.symm (Nat.ne_of_lt hb)), [], .nil, Heap.DictOf.new h⟩
/-- {}, to be a dict of the kind that is wanted -/
def tDNewK : TE := fun _ H Q => ∀ p, H p = none → Q (.ref p) (upd H p (.dK []))
section
variable {X : Cx} {pos : Pos}
theorem pe_dnewK : PE X (.Dict [] [] pos) tDNewK := fun pins s σ H Q I h =>
  wpAny_Dict_empty ⟨.ref s.heap.objs.size, _, I.laid (a := s.heap.objs.size) (o := .dK []) (t' := s.toks) (fun _ _ q => Heap.get?_push_of_some _ q) (Nat.le_refl _) (dk_empty s.heap I.big), rfl, h _ (I.hok.fresh (Nat.le_refl _))⟩
end

/-! ### methods -/
section
variable {X : Cx} {pins : List (Addr × Obj)} {σ : St} {H : Hp} {s : Shared} {a : Addr} {y d : V} {u r : Value} {o : Option V} {A : Around} {E : Value → Shared → Prop}
end

section
variable {X : Cx} {o e f : Expr} {apos cpos : Pos} {td ty tx : TE}
end

/-! ### dict(d): a copy -/
section
variable {X : Cx} {pins : List (Addr × Obj)} {σ : St} {H : Hp} {s : Shared} {a : Addr} {kvs : List (Key × V)} {A : Around} {E : Value → Shared → Prop}
end


section
variable {X : Cx} {pins : List (Addr × Obj)} {σ : St} {H : Hp} {s : Shared} {a : Addr} {y : V} {u : Value} {A : Around} {E : Value → Shared → Prop}
end
section
variable {X : Cx}
end
/-! ### a dict's pairs: keys that differ -/
section
variable {κ : Type} [DecidableEq κ]
end
end L2
namespace L2
open PySem PySem.Spec PyProof.Rows
/-! ### lists and tuples within one another that are equal -/
mutual
/-- equal things, n deep -/
def Eqv (K : PySem.W.Frag) (H : Hp) : Nat → V → V → Prop
  | 0, x, y => (flatV x = true ∧ flatV y = true ∧ eqV x y = true) ∨ ∃ a, x = .ref a ∧ y = .ref a
  | n + 1, x, y => (flatV x = true ∧ flatV y = true ∧ eqV x y = true) ∨ (∃ a, x = .ref a ∧ y = .ref a) ∨ EqvS K H n x y
/-- two tuples or two lists, item by item -/
def EqvS (K : PySem.W.Frag) (H : Hp) : Nat → V → V → Prop
  | n, x, y => ∃ a b xs ys, x = .ref a ∧ y = .ref b ∧ ((SqT K H a xs ∧ SqT K H b ys) ∨ (SqL K H a xs ∧ SqL K H b ys)) ∧ xs.length = ys.length ∧ ∀ (i : Nat) u v, xs[i]? = some u → ys[i]? = some v → Eqv K H n u v
end
section
variable {X : Cx} {pins : List (Addr × Obj)} {σ : St} {H : Hp} {s : Shared}
end
end L2
namespace L2
open PySem PySem.Spec PyProof.Rows
/-! ### what is a list or a tuple -/
def sqO (tu : Bool) (xs : List V) : HO := match tu with
  | false => .lst xs
  | true => .tup xs
def Sq (K : PySem.W.Frag) (tu : Bool) (H : Hp) (a : Addr) (xs : List V) : Prop := match tu with
  | false => SqL K H a xs
  | true => SqT K H a xs
theorem Sq.of {K : PySem.W.Frag} {tu : Bool} {H : Hp} {a : Addr} {xs : List V} (h : H a = some (sqO tu xs)) : Sq K tu H a xs := by
  cases tu with
  | false => exact SqL.of h
  | true => exact SqT.of h
def ItS (K : PySem.W.Frag) (tu : Bool) (a : Addr) : It := match tu with
  | false => Itl K a
  | true => Itt K a
/-- a comprehension over a list or a tuple -/
theorem comp_seq {K : PySem.W.Frag} {tu : Bool} {a p : Addr} {tt : TT} {te : TE} {cs : St} {Q : VK} {H1 : Hp} {xs : List V} (Pv : Nat → List V → Hp → Prop) (h0 : Pv 0 [] (upd H1 p (.lst [])))
    (hl : ∀ i ys H, i ≤ xs.length → Pv i ys H → Sq K tu H a xs)
    (hs : ∀ i x ys H, xs[i]? = some x → Pv i ys H → tt (some x :: cs) H fun b H4 => if b = true then te (some x :: cs) H4 fun y H5 => H5 p = some (.lst ys) ∧ ys.length < sizeLine ∧ Pv (i + 1) (ys ++ [y]) (upd H5 p (.lst (ys ++ [y]))) else Pv (i + 1) ys H4)
    (hd : ∀ ys H, Pv xs.length ys H → Q (.ref p) H) : CompW (ItS K tu a) p tt te cs Q H1 := by
  refine comp_by xs.length Pv h0 ?_ ?_
  · intro i ys H hi pv
    have q := hl i ys H (Nat.le_of_lt hi) pv
    cases tu with
    | false =>
      refine ⟨⟨xs, xs[i], q, by simp [hi]⟩, fun v H3 y => ?_⟩
      obtain ⟨e, y⟩ := y
      subst e
      exact hs i v ys _ (y xs q) pv
    | true =>
      refine ⟨⟨xs, xs[i], q, by simp [hi]⟩, fun v H3 y => ?_⟩
      obtain ⟨e, y⟩ := y
      subst e
      exact hs i v ys _ (y xs q) pv
  · intro ys H pv
    have q := hl _ ys H (Nat.le_refl _) pv
    cases tu with
    | false => exact ⟨⟨xs, q, Nat.le_refl _⟩, hd ys H pv⟩
    | true => exact ⟨⟨xs, q, Nat.le_refl _⟩, hd ys H pv⟩
def tCompR (g : TG) (k : Nat) (wi : TI) (tt : TT) (te : TE) (caps : List Nat) : TE := fun σ H Q => wi σ H fun J H1 => ∀ p, H1 p = none → CompWT (fun _ => True) g k J p tt te (capV σ caps) Q H1
theorem pe_compR {X : Cx} {elt iter : Expr} {ifs : List Expr} {tg : Expr} {g : TG} {pos : Pos} {sc : Scope} {wi : TI} {tt : TT} {te : TE} (xs : List Str) (caps : List Nat) (capsN : List Str)
    (hi : PI X tg iter wi)
    (hg : ∀ cl C s H ex pn, PG (cxComp X (xs ++ capsN) sc cl C s H ex pn) tg g)
    (ht : ∀ cl C s H ex pn, PTs (cxComp X (xs ++ capsN) sc cl C s H ex pn) ifs tt)
    (he : ∀ cl C s H ex pn, PE (cxComp X (xs ++ capsN) sc cl C s H ex pn) elt te)
    (hkind : sc.kind = .function) (hcell : ∀ y ∈ sc.names, y.2 ≠ .cell) (hnames : ∀ y ∈ sc.names, y.2 = .local → sc.names.lookup y.1 = some .local)
    (hfr : ∀ y ∈ sc.names, y.2 = .free → y.1 ∈ capsN)
    (hcap : ∀ (j : Nat) (y : Str), capsN[j]? = some y → ∃ i : Nat, caps[j]? = some i ∧ X.N[i]? = some y ∧ sc.names.lookup y = some .free ∧ (X.env.kindOf y = some .cell ∨ X.env.kindOf y = some .free)) (hlen : caps.length = capsN.length)
    (hc : X.calm = true)
    (hs : ∀ x, foldedSetIterable iter X.env x = pure x := by intro _; rfl) :
    PE X (.ListComp elt [⟨tg, iter, ifs, 0⟩] sc pos) (tCompR g xs.length wi tt te caps) :=
  pe_compT (Gs := fun _ => True) (hb := false) (CW := fun J p cs Q H1 => CompWT (fun _ => True) g xs.length J p tt te cs Q H1) caps capsN hi hg ht he hkind hcell hnames hfr hcap hlen (.inl hc) (fun _ _ _ _ _ h => h) hs
/-! ### l != [] -/
section
variable {X : Cx}
def rNeE (K : PySem.W.Frag) : R2 := fun x y H Q => ∃ a b xs, x = .ref a ∧ y = .ref b ∧ SqL K H a xs ∧ SqL K H b [] ∧ Q (.bl (decide (xs ≠ []))) H
theorem op_neE (hu : X.A.units < cLine) : OpR X (compareOp .NotEq) (rNeE X.K) := by
  intro pins s σ H x y v u Q I rx ry h
  obtain ⟨a, b, xs, rfl, rfl, ha, hb, q⟩ := h
  cases hx : xs with
  | nil =>
    subst hx
    exact op_neL hu pins s σ H _ _ v u Q I rx ry ⟨a, b, _, _, rfl, rfl, ha, hb, rfl, rfl, q⟩
  | cons z zs =>
    cases rx
    cases ry
    obtain ⟨its, r1, p1, _⟩ := I.list ha
    obtain ⟨its2, r2, p2, _⟩ := I.list hb
    have l1 := r1.length
    have l2 := r2.length
    have lx : xs.length = zs.length + 1 := by rw [hx]; rfl
    have l0 : ([] : List V).length = 0 := rfl
    refine SeqAt.RcNeAt.lists_lengths p1.isList p2.isList (by simp; omega) hu _ _ _ _ ⟨.bl true, H, I, rfl, ?_⟩
    have e : decide (xs ≠ []) = true := decide_eq_true (by rw [hx]; exact List.cons_ne_nil _ _)
    rw [e] at q
    exact q
end
/-! ### rules within a comprehension, K told -/
section
variable {X : Cx} {K : PySem.W.Frag}
theorem ix_tupK (h : X.K = K) : IxR X (rIxT K) := by
  subst h
  exact ix_tup
end
/-! ### tuples of flat things in a list -/
def TupsAt (H : Hp) : List V → List (List V) → Prop
  | [], [] => True
  | v :: ys, t :: ts => (∃ q, v = .ref q ∧ H q = some (.tup t)) ∧ TupsAt H ys ts
  | _, _ => False
theorem TupsAt.len {H : Hp} : ∀ {ys : List V} {ts : List (List V)}, TupsAt H ys ts → ys.length = ts.length
  | [], [], _ => rfl
  | _ :: ys, _ :: ts, h => by rw [List.length_cons, List.length_cons, TupsAt.len h.2]
  | [], _ :: _, h => h.elim
  | _ :: _, [], h => h.elim
theorem TupsAt.keep {H H' : Hp} (k : ∀ q t, H q = some (.tup t) → H' q = some (.tup t)) : ∀ {ys : List V} {ts : List (List V)}, TupsAt H ys ts → TupsAt H' ys ts
  | [], [], _ => trivial
  | _ :: ys, _ :: ts, h => by
    obtain ⟨⟨q, e, hq⟩, r⟩ := h
    exact ⟨⟨q, e, k q _ hq⟩, TupsAt.keep k r⟩
  | [], _ :: _, h => h.elim
  | _ :: _, [], h => h.elim
theorem TupsAt.mono {H H' : Hp} {ys : List V} {ts : List (List V)} (h : TupsAt H ys ts) (s : Same H H') : TupsAt H' ys ts := h.keep fun q t e => s q _ e
theorem TupsAt.get {H : Hp} : ∀ {ys : List V} {ts : List (List V)} {i : Nat} {v : V}, TupsAt H ys ts → ys[i]? = some v → ∃ t q, ts[i]? = some t ∧ v = .ref q ∧ H q = some (.tup t)
  | [], [], _, _, _, e => by simp at e
  | y :: ys, t :: ts, 0, v, h, e => by
    obtain ⟨q, e1, hq⟩ := h.1
    rw [List.getElem?_cons_zero] at e
    cases e
    exact ⟨t, q, rfl, e1, hq⟩
  | y :: ys, t :: ts, i + 1, v, h, e => by
    rw [List.getElem?_cons_succ] at e
    rw [List.getElem?_cons_succ]
    exact TupsAt.get h.2 e
  | [], _ :: _, _, _, h, _ => h.elim
  | _ :: _, [], _, _, h, _ => h.elim
end L2
namespace L2
open PySem PySem.Spec PyProof.Rows
/-! ### rows of stretches, as numbers -/
abbrev S4 := Int × Int × Int × Int
def tv (r : S4) : List V := [.int r.1, .int r.2.1, .int r.2.2.1, .int r.2.2.2]
/-- a row that lies from lo to hi -/
def Ord : Int → List S4 → Int → Prop
  | lo, [], hi => lo ≤ hi
  | lo, r :: t, hi => lo ≤ r.1 ∧ 0 < r.2.1 ∧ Ord (r.1 + r.2.1) t hi
theorem Ord.le : ∀ {rs : List S4} {lo hi : Int}, Ord lo rs hi → lo ≤ hi
  | [], _, _, h => h
  | r :: t, lo, hi, h => by
    have := Ord.le h.2.2
    have := h.1
    have := h.2.1
    omega
theorem Ord.up : ∀ {rs : List S4} {lo hi hi' : Int}, Ord lo rs hi → hi ≤ hi' → Ord lo rs hi'
  | [], _, _, _, h, l => Int.le_trans h l
  | r :: t, _, _, _, h, l => ⟨h.1, h.2.1, Ord.up h.2.2 l⟩
theorem Ord.snoc : ∀ {rs : List S4} {lo hi hi' : Int} {r : S4}, Ord lo rs hi → hi ≤ r.1 → 0 < r.2.1 → r.1 + r.2.1 ≤ hi' → Ord lo (rs ++ [r]) hi'
  | [], _, _, _, r, h, l, p, e => ⟨Int.le_trans h l, p, e⟩
  | q :: t, _, _, _, r, h, l, p, e => ⟨h.1, h.2.1, Ord.snoc h.2.2 l p e⟩
theorem Ord.mem : ∀ {rs : List S4} {lo hi : Int} {r : S4}, Ord lo rs hi → r ∈ rs → lo ≤ r.1 ∧ 0 < r.2.1 ∧ r.1 + r.2.1 ≤ hi
  | q :: t, lo, hi, r, h, m => by
    cases m with
    | head => exact ⟨h.1, h.2.1, h.2.2.le⟩
    | tail _ m =>
      have z := Ord.mem h.2.2 m
      have := h.1
      have := h.2.1
      exact ⟨by omega, z.2.1, z.2.2⟩
theorem take_next {α : Type} {rs : List α} {i : Nat} {r : α} (h : rs[i]? = some r) : rs.take (i + 1) = rs.take i ++ [r] := by
  rw [List.take_add_one, h]
  rfl
/-! ### whole numbers from b on -/
/-! ### gaps -/
/-! ### rows in the heap -/
theorem row_get {H : Hp} {ys : List V} {rs : List S4} {i : Nat} {v : V} (h : TupsAt H ys (rs.map tv)) (e : ys[i]? = some v) : ∃ r q, rs[i]? = some r ∧ v = .ref q ∧ H q = some (.tup (tv r)) := by
  obtain ⟨t, q, h1, h2, h3⟩ := h.get e
  rw [List.getElem?_map] at h1
  obtain ⟨r, h4, rfl⟩ := Option.map_eq_some_iff.mp h1
  exact ⟨r, q, h4, h2, h3⟩
theorem row_len {H : Hp} {ys : List V} {rs : List S4} (h : TupsAt H ys (rs.map tv)) : ys.length = rs.length := by rw [h.len, List.length_map]
end L2
namespace L2
open PySem PySem.Spec PyProof.Rows PySem.W

/-! ### try with several clauses, with or without a name; with an else -/
section
variable {X : Cx} {rest : List ExceptHandler} {suite : List Stmt} {b₀ : Stmt} {ts : Addr → TS} {tr : THs} {wn n : Str} {D : Addr} {bmD : List Value} {i : Nat} {np hpos pos : Pos}
end
end L2
namespace L2
open PySem PySem.Spec PyProof.Rows PySem.W

/-! ### loops in a def that may raise -/
section
variable {X : Cx} {E : XK}
end

/-! ### methods and makings that raise, within a try's body -/
section
variable {X : Cx} {k : Nat} {f C : Addr} {fd : FuncData} {ps : List Str} {sp : Sp} {dvs : List V} {ds : List Value} {x m : Str} {p pos apos : Pos} {e o : Expr} {es : List Expr} {ta : TE} {t : TA}
end
end L2
/-! ### things of any kind; is_whole, is_within -/
namespace L2
open PySem PySem.Spec PyProof.Rows
def Ty0 (H : Hp) (x : V) : Prop := (∃ n, x = .int n) ∨ (∃ z, x = .str z) ∨ (∃ b, x = .bl b) ∨ x = .non ∨ (∃ a xs, x = .ref a ∧ H a = some (.lst xs)) ∨ (∃ a xs, x = .ref a ∧ H a = some (.tup xs)) ∨ (∃ a kvs, x = .ref a ∧ H a = some (.dK kvs))
theorem Ty0.int {H : Hp} (n : Int) : Ty0 H (.int n) := .inl ⟨n, rfl⟩
theorem Ty0.mono {H H' : Hp} {x : V} (s : Same H H') (h : Ty0 H x) : Ty0 H' x := by
  rcases h with h | h | h | h | ⟨a, z, e, q⟩ | ⟨a, z, e, q⟩ | ⟨a, z, e, q⟩
  · exact .inl h
  · exact .inr (.inl h)
  · exact .inr (.inr (.inl h))
  · exact .inr (.inr (.inr (.inl h)))
  · exact .inr (.inr (.inr (.inr (.inl ⟨a, z, e, s _ _ q⟩))))
  · exact .inr (.inr (.inr (.inr (.inr (.inl ⟨a, z, e, s _ _ q⟩)))))
  · exact .inr (.inr (.inr (.inr (.inr (.inr ⟨a, z, e, s _ _ q⟩)))))
def isI0 : V → Bool
  | .int _ => true
  | .bl _ => true
  | _ => false
def isB0 : V → Bool
  | .bl _ => true
  | _ => false
section
variable (K : PySem.W.Frag)
theorem k0_ii : PySem.W.kitOne K (.type "int") (.type "int") = some true := by kernel_rfl
theorem k0_ib : PySem.W.kitOne K (.type "int") (.type "bool") = some false := by kernel_rfl
theorem k0_si : PySem.W.kitOne K (.type "str") (.type "int") = some false := by kernel_rfl
theorem k0_sb : PySem.W.kitOne K (.type "str") (.type "bool") = some false := by kernel_rfl
theorem k0_bi : PySem.W.kitOne K (.type "bool") (.type "int") = some true := by kernel_rfl
theorem k0_bb : PySem.W.kitOne K (.type "bool") (.type "bool") = some true := by kernel_rfl
theorem k0_ni : PySem.W.kitOne K (.type "NoneType") (.type "int") = some false := by kernel_rfl
theorem k0_nb : PySem.W.kitOne K (.type "NoneType") (.type "bool") = some false := by kernel_rfl
theorem k0_li : PySem.W.kitOne K (.type "list") (.type "int") = some false := by kernel_rfl
theorem k0_lb : PySem.W.kitOne K (.type "list") (.type "bool") = some false := by kernel_rfl
theorem k0_ti : PySem.W.kitOne K (.type "tuple") (.type "int") = some false := by kernel_rfl
theorem k0_tb : PySem.W.kitOne K (.type "tuple") (.type "bool") = some false := by kernel_rfl
theorem k0_di : PySem.W.kitOne K (.type "dict") (.type "int") = some false := by kernel_rfl
theorem k0_db : PySem.W.kitOne K (.type "dict") (.type "bool") = some false := by kernel_rfl
end
theorem Ty0.ty {K : PySem.W.Frag} {H : Hp} {x : V} (h : Ty0 H x) : ∃ t, TyOf K H x t ∧ PySem.W.kitOne K t (.type "int") = some (isI0 x) ∧ PySem.W.kitOne K t (.type "bool") = some (isB0 x) := by
  rcases h with ⟨n, rfl⟩ | ⟨z, rfl⟩ | ⟨b, rfl⟩ | rfl | ⟨a, z, rfl, q⟩ | ⟨a, z, rfl, q⟩ | ⟨a, z, rfl, q⟩
  · exact ⟨_, .int n, k0_ii K, k0_ib K⟩
  · exact ⟨_, .str z, k0_si K, k0_sb K⟩
  · exact ⟨_, .bl b, k0_bi K, k0_bb K⟩
  · exact ⟨_, .non, k0_ni K, k0_nb K⟩
  · exact ⟨_, .lst q, k0_li K, k0_lb K⟩
  · exact ⟨_, .tup q, k0_ti K, k0_tb K⟩
  · exact ⟨_, .dK q, k0_di K, k0_db K⟩
def who0 (x : V) : Bool := isI0 x && !isB0 x
def wth0 (x : V) (l h : Int) : Bool := match x with
  | .int n => decide (l ≤ n) && decide (n ≤ h)
  | _ => false
def spWho0 : Sp := fun vs H Q _ => ∃ x, vs = [x] ∧ Ty0 H x ∧ Q (.bl (who0 x)) H
def spWth0 : Sp := fun vs H Q _ => ∃ x l h, vs = [x, .int l, .int h] ∧ Ty0 H x ∧ Q (.bl (wth0 x l h)) H
/-! ### methods; classes of exceptions -/
end L2
/-! ### a floor -/
namespace FL
open PySem L2 PyProof.Rows
structure FS where
  n : Int
  kp : List (Key × V)
  ks : List (Key × V)
  ws : List V
  d : Bool
  l : V
section
variable {C p pc sp wr : Addr} {H H' : Hp} {st st' : FS}
end
structure Cl where
  F : Addr
  W : Addr
  PG : Addr
  NF : Addr
  NP : Addr
  NI : Addr
  SO : Addr
/-! ### what each of its methods promises -/
end FL
namespace L2
open PySem PySem.Spec PyProof.Rows
section
variable {X : Cx}
end
end L2
namespace FL
open PySem L2 PyProof.Rows
/-! ### what the law keeps beside a floor -/
structure LS where
  bn : List (Key × V)
  bd : List (Key × V)
  dn : List V
  lf : Int
  dk : Bool
section
variable {H H' : Hp} {q b a d : Addr} {ls : LS}
end
section
variable {H : Hp} {q b a d : Addr} {ls : LS}
end
/-! ### both tell the same -/
section
variable {st : FS} {ls : LS} {m : Nat} {i : Int} {v : V}
/-! ### a floor and what is kept beside it -/
structure AD where
  p : Addr
  pc : Addr
  sp : Addr
  wr : Addr
  q : Addr
  b : Addr
  a : Addr
  d : Addr
section
variable {R R' : FS → LS → Prop} {c : Cl} {H H' : Hp} {A B : AD} {n : Int}
end
end
end FL
/-! ### sorted, min and max of lists, min of three -/
namespace L2
open PySem PySem.Spec PyProof.Rows
section
variable {X : Cx}
end
end L2
/-! ### a dict's keys as a list, sorted -/
namespace L2
open PySem PySem.Spec PyProof.Rows PySem.W
section
variable {X : Cx}
end
end L2
/-! ### d.update(e), both dicts of ints and texts -/
namespace L2
open PySem PySem.Spec PyProof.Rows
section
variable {X : Cx} {pins : List (Addr × Obj)} {σ : St} {H : Hp} {s : Shared} {a b : Addr} {A : Around} {E : Value → Shared → Prop}
end
section
variable {X : Cx} {o e : Expr} {apos cpos : Pos} {td ty : TE}
end
end L2
/-! ### several records of ours turn; zip of two lists, its pairs taken apart at once -/
namespace L2
open PySem PySem.Spec PyProof.Rows
section
variable {X : Cx} {pins : List (Addr × Obj)} {σ : St} {H : Hp} {s : Shared} {h' : Heap}
/-- untracked records of ours have turned -/
theorem Inv.turns {t' : Nat} {W : List Addr} (I : Inv X pins σ H s) (hW : ∀ b ∈ W, FpOk X pins H b) (k : ∀ b o, b ∉ W → s.heap.get? b = some o → h'.get? b = some o) : Inv X pins σ H { s with heap := h', toks := t' } := by
  have nit : ∀ b u, H b = some u → b ∉ W := fun b u e z => by
    have q := (hW b z).1
    rw [q] at e
    cases e
  have lW : X.env.locals ∉ W := fun z => (hW _ z).2.1 rfl
  refine I.step (g' := s.gens) (d' := s.drawn) (ch := W) (fun b hb => ?_) (fun b o _ _ hc e _ => k b o hc e) (fun b o _ _ hc e _ => ⟨o.slots, k b o hc e⟩) (fun _ _ _ _ n => n) (fun b o hc e => ⟨o, k b o hc e⟩) (fun _ _ e => e) (fun _ _ _ e => e)
    (fun b ps e => ⟨#[], by rw [e]; simp⟩) (fun m hm => ?_) (fun b u e => ?_) I.bare
  · obtain ⟨_, a2, _, a4, a5, a6⟩ := hW b hb
    exact ⟨a4, a2, a5, a6⟩
  · obtain ⟨o, es, ep, ho, r⟩ := hm
    exact ⟨o, es, ep, k _ o lW ho, r⟩
  · refine (I.hok b u e).stay (fun c v hc q => k c v ?_ q) (fun _ q => q) fun _ _ q => q
    rcases hc with z | z
    · exact z ▸ nit b u e
    · exact nit c _ z
/-- the same, and a new object is tracked -/
theorem Inv.turnsLaid {t' : Nat} {W : List Addr} {T : Addr} {o : HO} (I : Inv X pins σ H s) (hW : ∀ b ∈ W, FpOk X pins H b) (k : ∀ b u, b ∉ W → s.heap.get? b = some u → h'.get? b = some u) (hT : s.heap.objs.size ≤ T)
    (new : ObjOk X.prog X.w (upd H T o) h' T o) : Inv X pins σ (upd H T o) { s with heap := h', toks := t' } := by
  have nT := I.hok.fresh hT
  have nit : ∀ b u, H b = some u → b ∉ W := fun b u e z => by
    have q := (hW b z).1
    rw [q] at e
    cases e
  have lW : X.env.locals ∉ W := fun z => (hW _ z).2.1 rfl
  refine I.step (g' := s.gens) (d' := s.drawn) (ch := W) (fun b hb => ?_) (fun b o _ _ hc e _ => k b o hc e) (fun b o _ _ hc e _ => ⟨o.slots, k b o hc e⟩)
    (fun b o _ e n => by rw [upd_ne (Nat.ne_of_lt (Nat.lt_of_lt_of_le (Heap.lt_size e) hT))]; exact n) (fun b o hc e => ⟨o, k b o hc e⟩)
    (fun b xs e => by rw [upd_ne (ne_of_none e nT)]; exact e) (fun b _ _ e => by rw [upd_ne (ne_of_none e nT)]; exact e)
    (fun b ps e => ⟨#[], by rw [upd_ne (ne_of_none e nT), e]; simp⟩) (fun m hm => ?_) (fun b u e => ?_) I.bare
  · obtain ⟨_, a2, _, a4, a5, a6⟩ := hW b hb
    exact ⟨a4, a2, a5, a6⟩
  · obtain ⟨o, es, ep, ho, r⟩ := hm
    exact ⟨o, es, ep, k _ o lW ho, r⟩
  · by_cases hb : b = T
    · subst hb
      rw [upd_same] at e
      cases e
      exact new
    · rw [upd_ne hb] at e
      refine (I.hok b u e).stay (fun c v hc q => k c v ?_ q) (fun c q => by rw [upd_ne (ne_of_none q nT)]; exact q) fun c xs q => by rw [upd_ne (ne_of_none q nT)]; exact q
      rcases hc with z | z
      · exact z ▸ nit b u e
      · exact nit c _ z
end
/-- the lists at a and b side by side -/
def Itz (K : PySem.W.Frag) (a b : Addr) : It :=
  ⟨fun i H => ∃ xs ys x y, SqL K H a xs ∧ SqL K H b ys ∧ xs[i]? = some x ∧ ys[i]? = some y,
   fun i H v H' => ∃ t x y, v = .ref t ∧ H t = none ∧ H' = upd H t (.tup [x, y]) ∧ (∀ xs, SqL K H a xs → xs[i]? = some x) ∧ ∀ ys, SqL K H b ys → ys[i]? = some y,
   fun i H => ∃ xs ys, SqL K H a xs ∧ SqL K H b ys ∧ (xs.length ≤ i ∨ ys.length ≤ i)⟩
/-- what a zip's records are -/
structure ZipAt (z TI TO i1 i2 a b : Addr) (i : Nat) (h : Heap) : Prop where
  zip : IsZip h z TI TO .none
  its : IsPair h TI (.ref i1) (.ref i2)
  own : ∃ u v, IsPair h TO u v
  it1 : h.IsListIter i1 a i
  it2 : h.IsListIter i2 b i
theorem ZipAt.apart {z TI TO i1 i2 a b : Addr} {i : Nat} {h : Heap} {p q : Array Value} (Z : ZipAt z TI TO i1 i2 a b i h) (ha : h.IsList a p) (hb : h.IsList b q) (t : TI ≠ TO) (n : i1 ≠ i2) : ZipApart z TI TO i1 i2 a b := by
  obtain ⟨hz, hI, ⟨u, v, hO⟩, ⟨o1, e1, c1, _⟩, ⟨o2, e2, c2, _⟩⟩ := Z
  obtain ⟨oa, ea, ca, _⟩ := ha
  obtain ⟨ob, eb, cb, _⟩ := hb
  have ne : ∀ {x y : Addr} {o o' : Obj}, h.get? x = some o → h.get? y = some o' → o.cls ≠ o'.cls → x ≠ y := fun e e' hc z => by
    subst z
    rw [e] at e'
    cases e'
    exact hc rfl
  refine ⟨ne hI hz ?_, ne hO hz ?_, ne e1 hz ?_, ne e2 hz ?_, t, ne hI e1 ?_, ne hI e2 ?_, ne hO e1 ?_, ne hO e2 ?_, n, ne ea hz ?_, ne ea hO ?_, ne ea e1 ?_, ne ea e2 ?_, ne eb hz ?_, ne eb hO ?_, ne eb e1 ?_, ne eb e2 ?_⟩ <;> simp [c1, c2, ca, cb]
theorem turn_zip {P : Program} {w : World} {K : PySem.W.Frag} {elts : List Expr} {x1} {tp : Pos} {z TI TO i1 i2 a b : Addr} (t : TI ≠ TO) (n : i1 ≠ i2) :
    Turn P w K (.Tuple elts x1 tp) (Itz K a b) [z, TI, TO, i1, i2] z (ZipAt z TI TO i1 i2 a b) where
  mem := by simp
  obj := fun i h Z c hc => by
    obtain ⟨hz, hI, ⟨u, v, hO⟩, ⟨o1, e1, _, d1⟩, ⟨o2, e2, _, d2⟩⟩ := Z
    simp only [List.mem_cons, List.not_mem_nil, or_false] at hc
    rcases hc with rfl | rfl | rfl | rfl | rfl
    · exact ⟨_, hz, fun v q => by cases q⟩
    · exact ⟨_, hI, fun v q => by cases q⟩
    · exact ⟨_, hO, fun v q => by cases q⟩
    · exact ⟨_, e1, fun v q => by rw [d1] at q; cases q⟩
    · exact ⟨_, e2, fun v q => by rw [d2] at q; cases q⟩
  keep := fun i h h' Z k => by
    obtain ⟨hz, hI, ⟨u, v, hO⟩, j1, j2⟩ := Z
    exact ⟨k z (by simp) _ hz, k TI (by simp) _ hI, ⟨u, v, k TO (by simp) _ hO⟩, j1.at fun o e => k i1 (by simp) o e, j2.at fun o e => k i2 (by simp) o e⟩
  item := by
    intro X hP hw hK s hc i pins σ H E I hf Z hg
    subst hP hw hK
    obtain ⟨xs, ys, x, y, qa, qb, gx, gy⟩ := hg
    obtain ⟨its, rv, p, _⟩ := I.list qa
    obtain ⟨jts, rw', p', _⟩ := I.list qb
    obtain ⟨u, hu, ru⟩ := rv.get gx
    obtain ⟨v, hv, rv'⟩ := rw'.get gy
    have D := Z.apart p.isList p'.isList t n
    obtain ⟨hz, hI, ⟨e1, e2, hO⟩, j1, j2⟩ := Z
    refine wpAny_pyNext_zip_item D hz hI hO j1 j2 p.isList p'.isList (x := u) (y := v) (by simpa using hu) (by simpa using hv) fun h1 a1 a2 a3 a4 a5 a6 kp => ?_
    refine ⟨_, rfl, wpAny_letOwnedTupleGo_zip a1 fun h2 b1 sb => ?_⟩
    have lz := Heap.lt_size hz
    have T2 : IsPair h2 s.heap.objs.size u v := sb.extBut _ _ (Nat.ne_of_gt lz) a5
    have nT := I.hok.fresh (Nat.le_refl s.heap.objs.size)
    have I1 : Inv X pins σ (upd H s.heap.objs.size (.tup [x, y])) { s with heap := h2 } := I.turnsLaid (W := [z, TI, TO, i1, i2]) (t' := s.toks) (T := s.heap.objs.size) (o := .tup [x, y]) hf
      (fun c o hc e => by
        simp only [List.mem_cons, List.not_mem_nil, or_false, not_or] at hc
        exact sb.extBut _ _ hc.1 (kp c o hc.1 hc.2.2.1 hc.2.2.2.1 hc.2.2.2.2 e)) (Nat.le_refl _) ⟨by show 2 ≤ sizeLine; decide, [u, v], .cons ru (.cons rv' .nil), ⟨_, T2, rfl, _, rfl⟩⟩
    refine ⟨.ref s.heap.objs.size, _, I1, rfl, ⟨_, x, y, rfl, nT, rfl, fun zs hq => by rw [I.list_inj hq qa]; exact gx, fun zs hq => by rw [I.list_inj hq qb]; exact gy⟩, ?_, fun c hc => ?_⟩
    · exact ⟨b1, sb.extBut _ _ D.TIz (kp _ _ D.TIz D.TITO D.TIi1 D.TIi2 hI), ⟨_, _, sb.extBut _ _ D.TOz a2⟩, a3.extBut sb.extBut D.i1z, a4.extBut sb.extBut D.i2z⟩
    · have lt : c < s.heap.objs.size := by
        simp only [List.mem_cons, List.not_mem_nil, or_false] at hc
        obtain ⟨o1, f1, _⟩ := j1
        obtain ⟨o2, f2, _⟩ := j2
        rcases hc with rfl | rfl | rfl | rfl | rfl
        · exact lz
        · exact Heap.lt_size hI
        · exact Heap.lt_size hO
        · exact Heap.lt_size f1
        · exact Heap.lt_size f2
      rw [upd_ne (Nat.ne_of_lt lt)]
      exact (hf c hc).1
  done := by
    intro X hP hw hK s hc i pins σ H E I hf Z hg
    subst hP hw hK
    obtain ⟨xs, ys, qa, qb, hx⟩ := hg
    obtain ⟨its, rv, p, _⟩ := I.list qa
    obtain ⟨jts, rw', p', _⟩ := I.list qb
    have D := Z.apart p.isList p'.isList t n
    obtain ⟨hz, hI, ⟨e1, e2, hO⟩, j1, j2⟩ := Z
    have l1 := rv.length
    have l2 := rw'.length
    refine wpAny_pyNext_zip_end hc.none D hz hI hO j1 j2 p.isList p'.isList (hx.imp (fun q => by simp; omega) fun q => by simp; omega) fun h' kp => ⟨rfl, I.turns (t' := s.toks) (W := [z, TI, TO, i1, i2]) hf fun c o hc e => ?_⟩
    simp only [List.mem_cons, List.not_mem_nil, or_false, not_or] at hc
    exact kp c o hc.1 hc.2.2.1 hc.2.2.2.1 hc.2.2.2.2 e
  self := fun _ _ _ _ _ st h => wpAny_pyIter_zip st.zip h
def iZip (K : PySem.W.Frag) (ta : TA) : TI := fun σ H R => ta σ H fun vs H1 => ∃ a b xs ys, vs = [.ref a, .ref b] ∧ SqL K H1 a xs ∧ SqL K H1 b ys ∧ R (Itz K a b) H1
theorem pi_zip {X : Cx} {elts : List Expr} {x1} {tp : Pos} {a b : Expr} {ta : TA} {p pos : Pos} (hg : Gl X "zip") (hm : X.mg "zip" = none) (ha : PA X [a, b] ta) (hs : starEach [a, b] X.env = [(false, eval a X.env), (false, eval b X.env)] := by rfl) (hs2 : starEach [b] X.env = [(false, eval b X.env)] := by rfl) :
    PI X (.Tuple elts x1 tp) (.Call (.Name "zip" p) [a, b] [] pos) (iZip X.K ta) := by
  intro pins s σ H R I h
  refine Call_ (ld_blt I hg hm boot_zip (PyProof.Rows.callWith_type1 (thn (ha pos pins s σ H _ I h) fun us s1 ⟨vs, H1, I1, r1, q1⟩ => ?_) (by rw [hs, hs2]) (by rw [hs2]; rfl)))
  obtain ⟨a, b, xs, ys, e, qa, qb, q⟩ := q1
  subst e
  cases r1 with
  | cons r rr =>
    cases rr with
    | cons r' rr =>
      cases rr
      cases r
      cases r'
      obtain ⟨its, rv, p, _⟩ := I1.list qa
      obtain ⟨jts, rw', p', _⟩ := I1.list qb
      refine call_zip_2 p.isList p'.isList fun h' z1 z2 z3 z4 z5 z6 kp => wpAny_pyIter_zip z1 ?_
      refine ⟨_, [_, s1.heap.objs.size + 2, s1.heap.objs.size + 3, s1.heap.objs.size, s1.heap.objs.size + 1], _, _, H1, rfl, I1.kept (t' := s1.toks) kp, turn_zip (by simp) (by simp), ⟨z1, z2, ⟨_, _, z3⟩, z4, z5⟩, fun c hc => ?_, q⟩
      have le : s1.heap.objs.size ≤ c := by
        simp only [List.mem_cons, List.not_mem_nil, or_false] at hc
        rcases hc with rfl | rfl | rfl | rfl | rfl <;> omega
      exact I1.fpOk le (I1.hok.fresh le)
end L2
/-! ### zip of two tuples, its pairs taken apart at once -/
namespace L2
open PySem PySem.Spec PyProof.Rows
section
variable {prog : Program} {w : World} {A : Around} {E : Value → Shared → Prop} {s : Shared}
/-- one turn of a tuple's iterator, as zip draws it -/
theorem drawT {j c : Addr} {k : Nat} {us : Array Value} {u : Value} {Q : Value → Shared → Prop} (hj : s.heap.IsTupleIter j c k) (hc : s.heap.IsTuple c us) (hu : us[k]? = some u)
    (q : ∀ g, g.IsTupleIter j c (k + 1) → Heap.SameBut j s.heap g → Q u { s with heap := g }) : wpAny (model prog w) A (Builtin.SmallTypes.nextOf (.ref j)) Q E s := by
  obtain ⟨oj, ej, kj, dj⟩ := id hj
  obtain ⟨oc, ec, _, nc, dc⟩ := hc
  unfold Builtin.SmallTypes.nextOf
  have T := hj.typeIs
  refine wpAny_bind (wpAny_callSpecial?_slot (name := Str.ofString "__next__") T F.slot_tuple_iterator_next (wpAny_call_entry F.slot_tuple_iterator_next T F.entry_tuple_iterator_next ?_ (F.args_tuple_iterator_next_1 _)))
  show wpAny (model prog w) _ (field (.ref j) 0 >>= _) _ _ s
  refine wpAny_bind (wpAny_field ej dj (x := .ref c) rfl ?_)
  show wpAny (model prog w) _ (if (Value.ref c == Value.none) = true then _ else _) _ _ s
  rw [if_neg (show ¬ ((Value.ref c == Value.none) = true) by simp)]
  show wpAny (model prog w) _ (field (.ref j) 1 >>= _) _ _ s
  refine wpAny_bind (wpAny_field ej dj (x := .int k 0) rfl ?_)
  show wpAny (model prog w) _ (seqItems? (.ref c) >>= _) _ _ s
  refine wpAny_bind (wpAny_seqItems ec dc ?_)
  simp only [Int.toNat_natCast, hu]
  refine wpAny_bind (wpAny_setField ej dj (by simp) (wpAny_pure ⟨u, rfl, wpAny_pure (q _ ⟨_, Heap.get?_update_self _ ej (Obj.isFreed_of_fields (Obj.data_mapFields dj _)), (Obj.cls_mapFields ..).trans kj, ?_⟩ (Heap.SameBut.update ..))⟩))
  rw [Obj.data_mapFields dj]
  simp [rawInt]
theorem drawT_end {j c : Addr} {k : Nat} {us : Array Value} {Q : Value → Shared → Prop} (hh : A.handled = none) (hj : s.heap.IsTupleIter j c k) (hc : s.heap.IsTuple c us) (hu : us[k]? = none)
    (q : ∀ g e, Heap.ExtBut j s.heap g → (∃ o, g.get? e = some o ∧ o.cls = .type "StopIteration") → E (.ref e) { s with heap := g }) : wpAny (model prog w) A (Builtin.SmallTypes.nextOf (.ref j)) Q E s := by
  obtain ⟨oj, ej, kj, dj⟩ := id hj
  obtain ⟨oc, ec, _, nc, dc⟩ := hc
  unfold Builtin.SmallTypes.nextOf
  have T := hj.typeIs
  refine wpAny_bind (wpAny_callSpecial?_slot (name := Str.ofString "__next__") T F.slot_tuple_iterator_next (wpAny_call_entry F.slot_tuple_iterator_next T F.entry_tuple_iterator_next ?_ (F.args_tuple_iterator_next_1 _)))
  show wpAny (model prog w) _ (field (.ref j) 0 >>= _) _ _ s
  refine wpAny_bind (wpAny_field ej dj (x := .ref c) rfl ?_)
  show wpAny (model prog w) _ (if (Value.ref c == Value.none) = true then _ else _) _ _ s
  rw [if_neg (show ¬ ((Value.ref c == Value.none) = true) by simp)]
  show wpAny (model prog w) _ (field (.ref j) 1 >>= _) _ _ s
  refine wpAny_bind (wpAny_field ej dj (x := .int k 0) rfl ?_)
  show wpAny (model prog w) _ (seqItems? (.ref c) >>= _) _ _ s
  refine wpAny_bind (wpAny_seqItems ec dc ?_)
  simp only [Int.toNat_natCast, hu]
  refine wpAny_bind (wpAny_rule (wpAny_bind (wpAny_setField ej dj (by simp) ?_)))
  show wpAny (model prog w) _ (newExc (.type "StopIteration") [] >>= _) _ _ _
  refine wpAny_bind ?_
  simp only [newExc, newTuple]
  refine wpAny_bind (wpAny_newObj_type ?_ (by size_fits))
  refine wpAny_bind (m := firstArgMember _ _) (wpAny_of_eq (a := Value.none) (by simp only [firstArgMember]; rfl) ?_)
  refine wpAny_newObj_type ?_ (by size_fits)
  simp only [raiseNew]
  refine wpAny_bind (wpAny_handled ?_)
  rw [show A.in1.handled = none from hh]
  exact wpAny_bind (wpAny_pure (wpAny_throw (q _ _ (((Heap.SameBut.update ..).extBut.push _).push _) ⟨_, Heap.get?_push_size _ rfl, rfl⟩)))
/-- zip's step, both have one more -/
theorem zipT_item {z p o i1 i2 c1 c2 : Addr} {k : Nat} {us vs : Array Value} {u v a b : Value} {Q : Value → Shared → Prop} (D : ZipApart z p o i1 i2 c1 c2) (hz : IsZip s.heap z p o .none) (hp : IsPair s.heap p (.ref i1) (.ref i2)) (ho : IsPair s.heap o a b)
    (j1 : s.heap.IsTupleIter i1 c1 k) (j2 : s.heap.IsTupleIter i2 c2 k) (t1 : s.heap.IsTuple c1 us) (t2 : s.heap.IsTuple c2 vs) (hu : us[k]? = some u) (hv : vs[k]? = some v)
    (q : ∀ g, IsZip g z p o (rawInt s.heap.objs.size) → IsPair g o u v → g.IsTupleIter i1 c1 (k + 1) → g.IsTupleIter i2 c2 (k + 1) → IsPair g s.heap.objs.size u v →
      (∀ c x, c ≠ z → c ≠ o → c ≠ i1 → c ≠ i2 → s.heap.get? c = some x → g.get? c = some x) → Q (.ref s.heap.objs.size) { s with heap := g }) :
    wpAny (model prog w) A (Builtin.«zip.__next__» ⟨[.ref z], []⟩) (fun f s' => ∃ r, f = .done (.ret r) ∧ Q r s') E s := by
  show wpAny (model prog w) _ (field (.ref z) 2 >>= _) _ _ _
  refine wpAny_bind (wpAny_field hz rfl (x := .bool false) rfl ?_)
  show wpAny (model prog w) _ (field (.ref z) 3 >>= _) _ _ _
  refine wpAny_bind (wpAny_field hz rfl (x := .ref p) rfl (wpAny_bind (wpAny_seqItems hp rfl ?_)))
  show wpAny (model prog w) _ (Builtin.SmallTypes.ownedTupleIsFree (.ref z) >>= _) _ _ _
  refine wpAny_bind ?_
  unfold Builtin.SmallTypes.ownedTupleIsFree
  refine wpAny_bind (wpAny_field hz rfl (x := .none) rfl (wpAny_pure ?_))
  simp only [if_true]
  refine wpAny_bind (wpAny_rule (wpAny_bind (wpAny_field hz rfl (x := .ref o) rfl (wpAny_bind (wpAny_setField_rec hz (by simp) fun g1 z1 s1 => ?_)))))
  refine wpAny_bind ?_
  simp only [List.zipIdx_cons, List.zipIdx_nil, List.forIn_cons, List.forIn_nil]
  refine wpAny_bind (wpAny_bind (wpAny_onRaise ?_))
  show wpAny (model prog w) _ (Builtin.SmallTypes.nextOf (.ref i1) >>= _) _ _ _
  refine wpAny_bind (drawT (j1.extBut s1.extBut D.i1z) (t1.extBut s1.extBut D.l1z) hu fun g2 j12 s2 => wpAny_pure ?_)
  have o2 : IsPair g2 o a b := s2.extBut _ _ D.TOi1 (s1.extBut _ _ D.TOz ho)
  refine wpAny_bind (wpAny_seqItems o2 rfl (wpAny_bind (wpAny_updateSeq_pair o2 fun g3 o3 s3 => ?_)))
  replace o3 : IsPair g3 o u b := o3
  refine wpAny_bind (wpAny_letGo (wpAny_pure (wpAny_bind (wpAny_bind (wpAny_onRaise ?_)))))
  show wpAny (model prog w) _ (Builtin.SmallTypes.nextOf (.ref i2) >>= _) _ _ _
  refine wpAny_bind (drawT (((j2.extBut s1.extBut D.i2z).extBut s2.extBut D.i12.symm).extBut s3.extBut D.TOi2.symm) (((t2.extBut s1.extBut D.l2z).extBut s2.extBut D.l2i1).extBut s3.extBut D.l2TO) hv fun g4 j24 s4 => wpAny_pure ?_)
  have o4 : IsPair g4 o u b := s4.extBut _ _ D.TOi2 o3
  refine wpAny_bind (wpAny_seqItems o4 rfl (wpAny_bind (wpAny_updateSeq_pair o4 fun g5 o5 s5 => ?_)))
  replace o5 : IsPair g5 o u v := o5
  refine wpAny_bind (wpAny_letGo (wpAny_pure (wpAny_pure (wpAny_bind (wpAny_seqItems o5 rfl (wpAny_bind (wpAny_newTuple ?_)))))))
  have sz : g5.objs.size = s.heap.objs.size := by rw [s5.1, s4.1, s3.1, s2.1, s1.1]
  have z5 : IsZip g5 z p o .ellipsis := s5.extBut _ _ D.TOz.symm (s4.extBut _ _ D.i2z.symm (s3.extBut _ _ D.TOz.symm (s2.extBut _ _ D.i1z.symm z1)))
  have k5 : ∀ c x, c ≠ z → c ≠ o → c ≠ i1 → c ≠ i2 → s.heap.get? c = some x → g5.get? c = some x := fun c x n1 n2 n3 n4 e => s5.extBut _ _ n2 (s4.extBut _ _ n4 (s3.extBut _ _ n2 (s2.extBut _ _ n3 (s1.extBut _ _ n1 e))))
  have j15 : g5.IsTupleIter i1 c1 (k + 1) := ((j12.extBut s3.extBut D.TOi1.symm).extBut s4.extBut D.i12).extBut s5.extBut D.TOi1.symm
  have j25 : g5.IsTupleIter i2 c2 (k + 1) := j24.extBut s5.extBut D.TOi2.symm
  have lz : z < g5.objs.size := Heap.lt_size z5
  show wpAny (model prog w) _ (Builtin.SmallTypes.ownedTupleHandOut (.ref z) (.ref g5.objs.size) >>= _) _ _ _
  refine wpAny_bind ?_
  unfold Builtin.SmallTypes.ownedTupleHandOut
  have z6 : IsZip (g5.push { cls := .type "tuple", data := .seq #[u, v] }) z p o .ellipsis := Heap.get?_push_of_some _ z5
  refine wpAny_bind (wpAny_setField_rec z6 (by simp) fun g7 z7 s7 => ?_)
  replace z7 : IsZip g7 z p o (rawInt g5.objs.size) := z7
  refine wpAny_setField_rec z7 (by simp) fun g8 z8 s8 => ?_
  replace z8 : IsZip g8 z p o (rawInt g5.objs.size) := z8
  have up : ∀ c x, c ≠ z → g5.get? c = some x → g8.get? c = some x := fun c x n1 e => s8.extBut _ _ n1 (s7.extBut _ _ n1 (Heap.get?_push_of_some _ e))
  have n8 : IsPair g8 g5.objs.size u v := s8.extBut _ _ (Nat.ne_of_gt lz) (s7.extBut _ _ (Nat.ne_of_gt lz) (Heap.get?_push_size _ rfl))
  rw [sz] at z8 n8
  refine wpAny_pure ⟨_, rfl, ?_⟩
  show Q (.ref g5.objs.size) _
  rw [sz]
  obtain ⟨x1, e1, r1⟩ := j15
  obtain ⟨x2, e2, r2⟩ := j25
  exact q g8 z8 (up _ _ D.TOz o5) ⟨x1, up _ _ D.i1z e1, r1⟩ ⟨x2, up _ _ D.i2z e2, r2⟩ n8 fun c x n1 n2 n3 n4 e => up c x n1 (k5 c x n1 n2 n3 n4 e)
/-- zip's step, one of them has no more -/
theorem zipT_end {z p o i1 i2 c1 c2 : Addr} {k : Nat} {us vs : Array Value} {a b : Value} {Q : Fin → Shared → Prop} (hh : A.handled = none) (D : ZipApart z p o i1 i2 c1 c2) (hz : IsZip s.heap z p o .none) (hp : IsPair s.heap p (.ref i1) (.ref i2)) (ho : IsPair s.heap o a b)
    (j1 : s.heap.IsTupleIter i1 c1 k) (j2 : s.heap.IsTupleIter i2 c2 k) (t1 : s.heap.IsTuple c1 us) (t2 : s.heap.IsTuple c2 vs) (hn : us[k]? = none ∨ vs[k]? = none)
    (q : ∀ g e, (∀ c x, c ≠ z → c ≠ o → c ≠ i1 → c ≠ i2 → s.heap.get? c = some x → g.get? c = some x) → (∃ x, g.get? e = some x ∧ x.cls = .type "StopIteration") → E (.ref e) { s with heap := g }) :
    wpAny (model prog w) A (Builtin.«zip.__next__» ⟨[.ref z], []⟩) Q E s := by
  show wpAny (model prog w) _ (field (.ref z) 2 >>= _) _ _ _
  refine wpAny_bind (wpAny_field hz rfl (x := .bool false) rfl ?_)
  show wpAny (model prog w) _ (field (.ref z) 3 >>= _) _ _ _
  refine wpAny_bind (wpAny_field hz rfl (x := .ref p) rfl (wpAny_bind (wpAny_seqItems hp rfl ?_)))
  show wpAny (model prog w) _ (Builtin.SmallTypes.ownedTupleIsFree (.ref z) >>= _) _ _ _
  refine wpAny_bind ?_
  unfold Builtin.SmallTypes.ownedTupleIsFree
  refine wpAny_bind (wpAny_field hz rfl (x := .none) rfl (wpAny_pure ?_))
  simp only [if_true]
  refine wpAny_bind (wpAny_rule (wpAny_bind (wpAny_field hz rfl (x := .ref o) rfl (wpAny_bind (wpAny_setField_rec hz (by simp) fun g1 z1 s1 => ?_)))))
  replace z1 : IsZip g1 z p o .ellipsis := z1
  refine wpAny_bind ?_
  simp only [List.zipIdx_cons, List.zipIdx_nil, List.forIn_cons, List.forIn_nil]
  refine wpAny_bind (wpAny_bind (wpAny_onRaise ?_))
  show wpAny (model prog w) _ (Builtin.SmallTypes.nextOf (.ref i1) >>= _) _ _ _
  have apart : ∀ {g : Heap} {e : Addr} {x : Obj}, IsZip g z p o .ellipsis → g.get? e = some x → x.cls = .type "StopIteration" → e ≠ z := fun hz' he hc n => by
    subst n
    rw [hz'] at he
    cases he
    simp at hc
  cases hu : us[k]? with
  | none =>
    refine wpAny_bind (drawT_end hh (j1.extBut s1.extBut D.i1z) (t1.extBut s1.extBut D.l1z) hu fun g2 e s2 he => ?_)
    obtain ⟨x, ex, cx⟩ := he
    have z2 : IsZip g2 z p o .ellipsis := s2 _ _ D.i1z.symm z1
    exact wpAny_setField_rec z2 (by simp) fun g3 _ s3 => q g3 e (fun c y n1 _ n3 _ h => s3.extBut _ _ n1 (s2 _ _ n3 (s1.extBut _ _ n1 h))) ⟨x, s3.extBut _ _ (apart z2 ex cx) ex, cx⟩
  | some u =>
    have hv : vs[k]? = none := hn.resolve_left fun h => by rw [hu] at h; cases h
    refine wpAny_bind (drawT (j1.extBut s1.extBut D.i1z) (t1.extBut s1.extBut D.l1z) hu fun g2 j12 s2 => wpAny_pure ?_)
    have o2 : IsPair g2 o a b := s2.extBut _ _ D.TOi1 (s1.extBut _ _ D.TOz ho)
    refine wpAny_bind (wpAny_seqItems o2 rfl (wpAny_bind (wpAny_updateSeq_pair o2 fun g3 o3 s3 => ?_)))
    refine wpAny_bind (wpAny_letGo (wpAny_pure (wpAny_bind (wpAny_bind (wpAny_onRaise ?_)))))
    show wpAny (model prog w) _ (Builtin.SmallTypes.nextOf (.ref i2) >>= _) _ _ _
    refine wpAny_bind (drawT_end hh (((j2.extBut s1.extBut D.i2z).extBut s2.extBut D.i12.symm).extBut s3.extBut D.TOi2.symm) (((t2.extBut s1.extBut D.l2z).extBut s2.extBut D.l2i1).extBut s3.extBut D.l2TO) hv fun g4 e s4 he => ?_)
    obtain ⟨x, ex, cx⟩ := he
    have z4 : IsZip g4 z p o .ellipsis := s4 _ _ D.i2z.symm (s3.extBut _ _ D.TOz.symm (s2.extBut _ _ D.i1z.symm z1))
    exact wpAny_setField_rec z4 (by simp) fun g5 _ s5 => q g5 e (fun c y n1 n2 n3 n4 h => s5.extBut _ _ n1 (s4 _ _ n4 (s3.extBut _ _ n2 (s2.extBut _ _ n3 (s1.extBut _ _ n1 h))))) ⟨x, s5.extBut _ _ (apart z4 ex cx) ex, cx⟩
theorem nextT_item {z p o i1 i2 c1 c2 : Addr} {k : Nat} {us vs : Array Value} {u v a b : Value} {Q : Option Value → Shared → Prop} (D : ZipApart z p o i1 i2 c1 c2) (hz : IsZip s.heap z p o .none) (hp : IsPair s.heap p (.ref i1) (.ref i2)) (ho : IsPair s.heap o a b)
    (j1 : s.heap.IsTupleIter i1 c1 k) (j2 : s.heap.IsTupleIter i2 c2 k) (t1 : s.heap.IsTuple c1 us) (t2 : s.heap.IsTuple c2 vs) (hu : us[k]? = some u) (hv : vs[k]? = some v)
    (q : ∀ g, IsZip g z p o (rawInt s.heap.objs.size) → IsPair g o u v → g.IsTupleIter i1 c1 (k + 1) → g.IsTupleIter i2 c2 (k + 1) → IsPair g s.heap.objs.size u v →
      (∀ c x, c ≠ z → c ≠ o → c ≠ i1 → c ≠ i2 → s.heap.get? c = some x → g.get? c = some x) → Q (some (.ref s.heap.objs.size)) { s with heap := g }) : wpAny (model prog w) A (pyNext (.ref z)) Q E s := by
  have T : s.TypeIs (.ref z) "zip" := ⟨_, hz, rfl⟩
  unfold pyNext
  exact wpAny_bind (wpAny_attempt (wpAny_callSpecial?_slot (name := Str.ofString "__next__") T F.slot_zip_next (wpAny_call_entry F.slot_zip_next T F.entry_zip_next
      (zipT_item D hz hp ho j1 j2 t1 t2 hu hv fun g b1 b2 b3 b4 b5 b6 => wpAny_pure (q g b1 b2 b3 b4 b5 b6)) (F.args_zip_next_1 _))))
theorem nextT_end {z p o i1 i2 c1 c2 : Addr} {k : Nat} {us vs : Array Value} {a b : Value} {Q : Option Value → Shared → Prop} (hh : A.handled = none) (D : ZipApart z p o i1 i2 c1 c2) (hz : IsZip s.heap z p o .none) (hp : IsPair s.heap p (.ref i1) (.ref i2)) (ho : IsPair s.heap o a b)
    (j1 : s.heap.IsTupleIter i1 c1 k) (j2 : s.heap.IsTupleIter i2 c2 k) (t1 : s.heap.IsTuple c1 us) (t2 : s.heap.IsTuple c2 vs) (hn : us[k]? = none ∨ vs[k]? = none)
    (q : ∀ g, (∀ c x, c ≠ z → c ≠ o → c ≠ i1 → c ≠ i2 → s.heap.get? c = some x → g.get? c = some x) → Q none { s with heap := g }) : wpAny (model prog w) A (pyNext (.ref z)) Q E s := by
  have T : s.TypeIs (.ref z) "zip" := ⟨_, hz, rfl⟩
  unfold pyNext
  refine wpAny_bind (wpAny_attempt (wpAny_callSpecial?_slot (name := Str.ofString "__next__") T F.slot_zip_next (wpAny_call_entry F.slot_zip_next T F.entry_zip_next (zipT_end hh D hz hp ho j1 j2 t1 t2 hn fun g e kp he => ?_) (F.args_zip_next_1 _))))
  obtain ⟨x, ex, cx⟩ := he
  exact wpAny_bind (wpAny_isInstance (T := "StopIteration") (b := true) ⟨x, ex, cx⟩ isSubtype_stop (wpAny_pure (q _ kp)))
end
end L2

namespace L2
open PySem PySem.Spec PyProof.Rows
abbrev zt1 (h : Heap) (c : Addr) : Heap := h.push { cls := .type "tuple_iterator", data := .fields #[.ref c, .int 0 0] }
abbrev zt2 (h : Heap) (c d : Addr) : Heap := (zt1 h c).push { cls := .type "tuple_iterator", data := .fields #[.ref d, .int 0 0] }
abbrev zt3 (h : Heap) (c d : Addr) : Heap := (zt2 h c d).push { cls := .type "tuple", data := .seq #[.ref h.objs.size, .ref (zt1 h c).objs.size] }
abbrev zt4 (h : Heap) (c d : Addr) : Heap := (zt3 h c d).push { cls := .type "tuple", data := .seq #[.none, .none] }
abbrev zt5 (h : Heap) (c d : Addr) : Heap := (zt4 h c d).push { cls := .type "zip", data := .fields #[.none, .bool false, .bool false, .ref (zt2 h c d).objs.size, .ref (zt3 h c d).objs.size] }
theorem newT_zip (c d : Addr) (us vs : Array Value) : Meets (Builtin.«zip.__new__» ⟨[.type "zip", .ref c, .ref d], []⟩) (fun _ R s => s.heap.IsTuple c us ∧ s.heap.IsTuple d vs ∧ R (.ok (.ret (.ref (zt4 s.heap c d).objs.size))) { s with heap := zt5 s.heap c d }) :=
  .of_wp fun prog w A R s q => by
    obtain ⟨hp, g, dr, tk, os⟩ := s
    obtain ⟨e1, e2, q⟩ := q
    have hsub := sub_zip
    have t1 : Heap.IsTuple (Shared.heap ⟨hp, g, dr, tk, os⟩) c us := e1
    have t2 : Heap.IsTuple (Shared.heap ⟨hp.push { cls := .type "tuple_iterator", data := .fields #[.ref c, .int 0 0] }, g, dr, tk, os⟩) d vs := Heap.IsTuple.push e2 _
    wp_walk using wpAny_pyIter_tuple t1, wpAny_pyIter_tuple t2
    exact ⟨_, rfl, q⟩
section
variable {prog : Program} {w : World} {A : Around} {E : Value → Shared → Prop} {s : Shared}
theorem callT_zip {c d : Addr} {us vs : Array Value} {Q : Value → Shared → Prop} (e1 : s.heap.IsTuple c us) (e2 : s.heap.IsTuple d vs)
    (q : ∀ g, IsZip g (s.heap.objs.size + 4) (s.heap.objs.size + 2) (s.heap.objs.size + 3) .none → IsPair g (s.heap.objs.size + 2) (.ref s.heap.objs.size) (.ref (s.heap.objs.size + 1)) → IsPair g (s.heap.objs.size + 3) .none .none →
      g.IsTupleIter s.heap.objs.size c 0 → g.IsTupleIter (s.heap.objs.size + 1) d 0 → (∀ b o, s.heap.get? b = some o → g.get? b = some o) → Q (.ref (s.heap.objs.size + 4)) { s with heap := g }) : wpAny (model prog w) A (call (.type "zip") [.ref c, .ref d]) Q E s := by
  refine callType_new F.called_zip (by decide) (F.typeCall_zip_2 _ _) (F.newCall_zip_2 _ _) (fun ob => F.args_object_init_3 ob _ _) F.entry_zip_new (newT_zip c d us vs) ⟨e1, e2, ?_⟩
  have n1 : (zt1 s.heap c).objs.size = s.heap.objs.size + 1 := Heap.size_push ..
  have n2 : (zt2 s.heap c d).objs.size = s.heap.objs.size + 2 := by rw [Heap.size_push, n1]
  have n3 : (zt3 s.heap c d).objs.size = s.heap.objs.size + 3 := by rw [Heap.size_push, n2]
  have n4 : (zt4 s.heap c d).objs.size = s.heap.objs.size + 4 := by rw [Heap.size_push, n3]
  have a5 : (zt5 s.heap c d).get? (zt4 s.heap c d).objs.size = some _ := Heap.get?_push_size _ rfl
  have a4 : (zt5 s.heap c d).get? (zt3 s.heap c d).objs.size = some _ := Heap.get?_push_of_some _ (Heap.get?_push_size _ rfl)
  have a3 : (zt5 s.heap c d).get? (zt2 s.heap c d).objs.size = some _ := Heap.get?_push_of_some _ (Heap.get?_push_of_some _ (Heap.get?_push_size _ rfl))
  have a2 : (zt5 s.heap c d).get? (zt1 s.heap c).objs.size = some _ := Heap.get?_push_of_some _ (Heap.get?_push_of_some _ (Heap.get?_push_of_some _ (Heap.get?_push_size _ rfl)))
  have a1 : (zt5 s.heap c d).get? s.heap.objs.size = some _ := Heap.get?_push_of_some _ (Heap.get?_push_of_some _ (Heap.get?_push_of_some _ (Heap.get?_push_of_some _ (Heap.get?_push_size _ rfl))))
  show _ ∧ _
  rw [n2, n3, n4] at a5
  rw [n3] at a4
  rw [n1, n2] at a3
  rw [n1] at a2
  rw [n4]
  exact ⟨⟨_, a5, rfl⟩, q _ a5 a3 a4 ⟨_, a1, rfl, rfl⟩ ⟨_, a2, rfl, rfl⟩ fun b o e => Heap.get?_push_of_some _ (Heap.get?_push_of_some _ (Heap.get?_push_of_some _ (Heap.get?_push_of_some _ (Heap.get?_push_of_some _ e))))⟩
end
/-- the tuples at a and b side by side -/
def ItzT (K : PySem.W.Frag) (a b : Addr) : It :=
  ⟨fun i H => ∃ xs ys x y, SqT K H a xs ∧ SqT K H b ys ∧ xs[i]? = some x ∧ ys[i]? = some y,
   fun i H v H' => ∃ t x y, v = .ref t ∧ H t = none ∧ H' = upd H t (.tup [x, y]) ∧ (∀ xs, SqT K H a xs → xs[i]? = some x) ∧ ∀ ys, SqT K H b ys → ys[i]? = some y,
   fun i H => ∃ xs ys, SqT K H a xs ∧ SqT K H b ys ∧ (xs.length ≤ i ∨ ys.length ≤ i)⟩
structure ZipTAt (z TI TO i1 i2 a b : Addr) (i : Nat) (h : Heap) : Prop where
  zip : IsZip h z TI TO .none
  its : IsPair h TI (.ref i1) (.ref i2)
  own : ∃ u v, IsPair h TO u v
  it1 : h.IsTupleIter i1 a i
  it2 : h.IsTupleIter i2 b i
/-- here the tuples' own addresses are not told apart from zip's tuple by their class: TO ≠ a, b are asked for -/
theorem ZipTAt.apart {z TI TO i1 i2 a b : Addr} {i : Nat} {h : Heap} {p q : Array Value} (Z : ZipTAt z TI TO i1 i2 a b i h) (ha : h.IsTuple a p) (hb : h.IsTuple b q) (t : TI ≠ TO) (n : i1 ≠ i2) (na : a ≠ TO) (nb : b ≠ TO) : ZipApart z TI TO i1 i2 a b := by
  obtain ⟨hz, hI, ⟨u, v, hO⟩, ⟨o1, e1, c1, _⟩, ⟨o2, e2, c2, _⟩⟩ := Z
  obtain ⟨oa, ea, ca, _⟩ := ha
  obtain ⟨ob, eb, cb, _⟩ := hb
  have ne : ∀ {x y : Addr} {o o' : Obj}, h.get? x = some o → h.get? y = some o' → o.cls ≠ o'.cls → x ≠ y := fun e e' hc z => by
    subst z
    rw [e] at e'
    cases e'
    exact hc rfl
  refine ⟨ne hI hz ?_, ne hO hz ?_, ne e1 hz ?_, ne e2 hz ?_, t, ne hI e1 ?_, ne hI e2 ?_, ne hO e1 ?_, ne hO e2 ?_, n, ne ea hz ?_, na, ne ea e1 ?_, ne ea e2 ?_, ne eb hz ?_, nb, ne eb e1 ?_, ne eb e2 ?_⟩ <;> simp [c1, c2, ca, cb]
theorem turn_zipT {P : Program} {w : World} {K : PySem.W.Frag} {elts : List Expr} {x1} {tp : Pos} {z TI TO i1 i2 a b : Addr} (t : TI ≠ TO) (n : i1 ≠ i2) (na : a ≠ TO) (nb : b ≠ TO) :
    Turn P w K (.Tuple elts x1 tp) (ItzT K a b) [z, TI, TO, i1, i2] z (ZipTAt z TI TO i1 i2 a b) where
  mem := by simp
  obj := fun i h Z c hc => by
    obtain ⟨hz, hI, ⟨u, v, hO⟩, ⟨o1, e1, _, d1⟩, ⟨o2, e2, _, d2⟩⟩ := Z
    simp only [List.mem_cons, List.not_mem_nil, or_false] at hc
    rcases hc with rfl | rfl | rfl | rfl | rfl
    · exact ⟨_, hz, fun v q => by cases q⟩
    · exact ⟨_, hI, fun v q => by cases q⟩
    · exact ⟨_, hO, fun v q => by cases q⟩
    · exact ⟨_, e1, fun v q => by rw [d1] at q; cases q⟩
    · exact ⟨_, e2, fun v q => by rw [d2] at q; cases q⟩
  keep := fun i h h' Z k => by
    obtain ⟨hz, hI, ⟨u, v, hO⟩, ⟨o1, f1, r1⟩, ⟨o2, f2, r2⟩⟩ := Z
    exact ⟨k z (by simp) _ hz, k TI (by simp) _ hI, ⟨u, v, k TO (by simp) _ hO⟩, ⟨o1, k i1 (by simp) _ f1, r1⟩, ⟨o2, k i2 (by simp) _ f2, r2⟩⟩
  item := by
    intro X hP hw hK s hc i pins σ H E I hf Z hg
    subst hP hw hK
    obtain ⟨xs, ys, x, y, qa, qb, gx, gy⟩ := hg
    obtain ⟨its, rv, p, _⟩ := I.tuple qa
    obtain ⟨jts, rw', p', _⟩ := I.tuple qb
    obtain ⟨u, hu, ru⟩ := rv.get gx
    obtain ⟨v, hv, rv'⟩ := rw'.get gy
    have D := Z.apart (show s.heap.IsTuple a its.toArray from p) (show s.heap.IsTuple b jts.toArray from p') t n na nb
    obtain ⟨hz, hI, ⟨e1, e2, hO⟩, j1, j2⟩ := Z
    refine nextT_item D hz hI hO j1 j2 (show s.heap.IsTuple a its.toArray from p) (show s.heap.IsTuple b jts.toArray from p') (u := u) (v := v) (by simpa using hu) (by simpa using hv) fun h1 a1 a2 a3 a4 a5 kp => ?_
    refine ⟨_, rfl, wpAny_letOwnedTupleGo_zip a1 fun h2 b1 sb => ?_⟩
    have lz := Heap.lt_size hz
    have T2 : IsPair h2 s.heap.objs.size u v := sb.extBut _ _ (Nat.ne_of_gt lz) a5
    have nT := I.hok.fresh (Nat.le_refl s.heap.objs.size)
    have I1 : Inv X pins σ (upd H s.heap.objs.size (.tup [x, y])) { s with heap := h2 } := I.turnsLaid (W := [z, TI, TO, i1, i2]) (t' := s.toks) (T := s.heap.objs.size) (o := .tup [x, y]) hf
      (fun c o hc e => by
        simp only [List.mem_cons, List.not_mem_nil, or_false, not_or] at hc
        exact sb.extBut _ _ hc.1 (kp c o hc.1 hc.2.2.1 hc.2.2.2.1 hc.2.2.2.2 e)) (Nat.le_refl _) ⟨by show 2 ≤ sizeLine; decide, [u, v], .cons ru (.cons rv' .nil), ⟨_, T2, rfl, _, rfl⟩⟩
    refine ⟨.ref s.heap.objs.size, _, I1, rfl, ⟨_, x, y, rfl, nT, rfl, fun zs hq => by rw [I.tuple_inj hq qa]; exact gx, fun zs hq => by rw [I.tuple_inj hq qb]; exact gy⟩, ?_, fun c hc => ?_⟩
    · exact ⟨b1, sb.extBut _ _ D.TIz (kp _ _ D.TIz D.TITO D.TIi1 D.TIi2 hI), ⟨_, _, sb.extBut _ _ D.TOz a2⟩, a3.extBut sb.extBut D.i1z, a4.extBut sb.extBut D.i2z⟩
    · have lt : c < s.heap.objs.size := by
        simp only [List.mem_cons, List.not_mem_nil, or_false] at hc
        obtain ⟨o1, f1, _⟩ := j1
        obtain ⟨o2, f2, _⟩ := j2
        rcases hc with rfl | rfl | rfl | rfl | rfl
        · exact lz
        · exact Heap.lt_size hI
        · exact Heap.lt_size hO
        · exact Heap.lt_size f1
        · exact Heap.lt_size f2
      rw [upd_ne (Nat.ne_of_lt lt)]
      exact (hf c hc).1
  done := by
    intro X hP hw hK s hc i pins σ H E I hf Z hg
    subst hP hw hK
    obtain ⟨xs, ys, qa, qb, hx⟩ := hg
    obtain ⟨its, rv, p, _⟩ := I.tuple qa
    obtain ⟨jts, rw', p', _⟩ := I.tuple qb
    have D := Z.apart (show s.heap.IsTuple a its.toArray from p) (show s.heap.IsTuple b jts.toArray from p') t n na nb
    obtain ⟨hz, hI, ⟨e1, e2, hO⟩, j1, j2⟩ := Z
    have l1 := rv.length
    have l2 := rw'.length
    refine nextT_end hc.none D hz hI hO j1 j2 (show s.heap.IsTuple a its.toArray from p) (show s.heap.IsTuple b jts.toArray from p') (hx.imp (fun q => by simp; omega) fun q => by simp; omega) fun h' kp => ⟨rfl, I.turns (t' := s.toks) (W := [z, TI, TO, i1, i2]) hf fun c o hc e => ?_⟩
    simp only [List.mem_cons, List.not_mem_nil, or_false, not_or] at hc
    exact kp c o hc.1 hc.2.2.1 hc.2.2.2.1 hc.2.2.2.2 e
  self := fun _ _ _ _ _ st h => wpAny_pyIter_zip st.zip h
def iZipT (K : PySem.W.Frag) (ta : TA) : TI := fun σ H R => ta σ H fun vs H1 => ∃ a b xs ys, vs = [.ref a, .ref b] ∧ SqT K H1 a xs ∧ SqT K H1 b ys ∧ R (ItzT K a b) H1
theorem pi_zipT {X : Cx} {elts : List Expr} {x1} {tp : Pos} {a b : Expr} {ta : TA} {p pos : Pos} (hg : Gl X "zip") (hm : X.mg "zip" = none) (ha : PA X [a, b] ta) (hs : starEach [a, b] X.env = [(false, eval a X.env), (false, eval b X.env)] := by rfl) (hs2 : starEach [b] X.env = [(false, eval b X.env)] := by rfl) :
    PI X (.Tuple elts x1 tp) (.Call (.Name "zip" p) [a, b] [] pos) (iZipT X.K ta) := by
  intro pins s σ H R I h
  refine Call_ (ld_blt I hg hm boot_zip (PyProof.Rows.callWith_type1 (thn (ha pos pins s σ H _ I h) fun us s1 ⟨vs, H1, I1, r1, q1⟩ => ?_) (by rw [hs, hs2]) (by rw [hs2]; rfl)))
  obtain ⟨a, b, xs, ys, e, qa, qb, q⟩ := q1
  subst e
  cases r1 with
  | cons r rr =>
    cases rr with
    | cons r' rr =>
      cases rr
      cases r
      cases r'
      obtain ⟨its, rv, p, _⟩ := I1.tuple qa
      obtain ⟨jts, rw', p', _⟩ := I1.tuple qb
      have la : a < s1.heap.objs.size := by obtain ⟨o, e, _⟩ := p; exact Heap.lt_size e
      have lb : b < s1.heap.objs.size := by obtain ⟨o, e, _⟩ := p'; exact Heap.lt_size e
      refine callT_zip (show s1.heap.IsTuple a its.toArray from p) (show s1.heap.IsTuple b jts.toArray from p') fun h' z1 z2 z3 z4 z5 kp => wpAny_pyIter_zip z1 ?_
      refine ⟨_, [_, s1.heap.objs.size + 2, s1.heap.objs.size + 3, s1.heap.objs.size, s1.heap.objs.size + 1], _, _, H1, rfl, I1.kept (t' := s1.toks) kp, turn_zipT (by simp) (by simp) (Nat.ne_of_lt (Nat.lt_of_lt_of_le la (Nat.le_add_right _ _))) (Nat.ne_of_lt (Nat.lt_of_lt_of_le lb (Nat.le_add_right _ _))), ⟨z1, z2, ⟨_, _, z3⟩, z4, z5⟩, fun c hc => ?_, q⟩
      have le : s1.heap.objs.size ≤ c := by
        simp only [List.mem_cons, List.not_mem_nil, or_false] at hc
        rcases hc with rfl | rfl | rfl | rfl | rfl <;> omega
      exact I1.fpOk le (I1.hok.fresh le)
end L2
namespace L2
open PySem PySem.Spec PyProof.Rows
/-! ### rows by cells, and joined -/
def goOn (z r : S4) : Bool := decide (z.1 + z.2.1 = r.1) && decide (z.2.2.1 = r.2.2.1) && decide (z.2.2.2 + z.2.1 = r.2.2.2)
theorem goOn_iff {z r : S4} : goOn z r = true ↔ z.1 + z.2.1 = r.1 ∧ z.2.2.1 = r.2.2.1 ∧ z.2.2.2 + z.2.1 = r.2.2.2 := by
  unfold goOn
  simp only [Bool.and_eq_true, decide_eq_true_eq, and_assoc]
def noGo : List S4 → Bool
  | a :: b :: t => !goOn a b && noGo (b :: t)
  | _ => true
def okP (r : S4) : Bool := decide (0 ≤ r.1) && decide (1 ≤ r.2.1) && decide (0 ≤ r.2.2.2) && decide (r.1 + r.2.1 ≤ 40) && decide (r.2.2.2 + r.2.1 ≤ 8) && (decide (2 ≤ r.2.2.1) && decide (r.2.2.1 ≤ 599))
def apart : List S4 → Bool
  | a :: b :: t => !decide (b.1 < a.1 + a.2.1) && !goOn a b && apart (b :: t)
  | _ => true
def isRowP (rs : List S4) (size : Int) : Bool := rs.all okP && apart rs && rs.all fun r => decide (r.1 + r.2.1 ≤ size)
/-! ### lists of rows compared -/
section
variable {X : Cx} {pins : List (Addr × Obj)} {σ : St} {H : Hp} {s : Shared}
end
/-! ### a slice of a tuple, perhaps the whole -/
end L2
namespace L2
open PySem PySem.Spec PyProof.Rows
/-! ### things that are no tuples -/
def NotT (H : Hp) (x : V) : Prop := (∃ n, x = .int n) ∨ (∃ z, x = .str z) ∨ (∃ b, x = .bl b) ∨ x = .non ∨ (∃ a xs, x = .ref a ∧ H a = some (.lst xs)) ∨ (∃ a kvs, x = .ref a ∧ H a = some (.dK kvs))
theorem NotT.mono {H H' : Hp} {x : V} (h : NotT H x) (s : Same H H') : NotT H' x := by
  rcases h with h | h | h | h | ⟨a, z, e, q⟩ | ⟨a, z, e, q⟩
  · exact .inl h
  · exact .inr (.inl h)
  · exact .inr (.inr (.inl h))
  · exact .inr (.inr (.inr (.inl h)))
  · exact .inr (.inr (.inr (.inr (.inl ⟨a, z, e, s _ _ q⟩))))
  · exact .inr (.inr (.inr (.inr (.inr ⟨a, z, e, s _ _ q⟩))))
section
variable (K : PySem.W.Frag)
theorem k0_it : PySem.W.kitOne K (.type "int") (.type "tuple") = some false := by kernel_rfl
theorem k0_st : PySem.W.kitOne K (.type "str") (.type "tuple") = some false := by kernel_rfl
theorem k0_bt : PySem.W.kitOne K (.type "bool") (.type "tuple") = some false := by kernel_rfl
theorem k0_nt : PySem.W.kitOne K (.type "NoneType") (.type "tuple") = some false := by kernel_rfl
theorem k0_lt : PySem.W.kitOne K (.type "list") (.type "tuple") = some false := by kernel_rfl
theorem k0_dt : PySem.W.kitOne K (.type "dict") (.type "tuple") = some false := by kernel_rfl
theorem k0_tt : PySem.W.kitOne K (.type "tuple") (.type "tuple") = some true := by kernel_rfl
end
theorem NotT.kit {K : PySem.W.Frag} {H : Hp} {x : V} (h : NotT H x) : ∃ t, TyOf K H x t ∧ PySem.W.kitOne K t (.type "tuple") = some false := by
  rcases h with ⟨n, rfl⟩ | ⟨z, rfl⟩ | ⟨b, rfl⟩ | rfl | ⟨a, z, rfl, q⟩ | ⟨a, z, rfl, q⟩
  · exact ⟨_, .int n, k0_it K⟩
  · exact ⟨_, .str z, k0_st K⟩
  · exact ⟨_, .bl b, k0_bt K⟩
  · exact ⟨_, .non, k0_nt K⟩
  · exact ⟨_, .lst q, k0_lt K⟩
  · exact ⟨_, .dK q, k0_dt K⟩
/-! ### a stretch, or what is none -/
def st4 : List V → Option S4
  | [.int a, .int l, .int p, .int s] => some (a, l, p, s)
  | _ => none
theorem st4_tv (r : S4) : st4 (tv r) = some r := rfl
theorem st4_some {xs : List V} {r : S4} (h : st4 xs = some r) : xs = tv r := by
  unfold st4 at h
  split at h
  · cases h
    rfl
  · cases h
theorem st4_len {xs : List V} (h : xs.length ≠ 4) : st4 xs = none := by
  cases e : st4 xs with
  | none => rfl
  | some r =>
    rw [st4_some e] at h
    exact absurd rfl h
theorem who0_int {x : V} (h : who0 x = true) : ∃ n, x = .int n := by
  cases x with
  | int n => exact ⟨n, rfl⟩
  | bl b => cases h
  | _ => cases h
theorem st4_who {xs : List V} (h : xs.length = 4) : (xs.all who0 = false → st4 xs = none) ∧ (xs.all who0 = true → ∃ r, xs = tv r) := by
  constructor
  · intro h2
    cases e : st4 xs with
    | none => rfl
    | some r =>
      rw [st4_some e] at h2
      cases h2
  · intro h2
    match xs, h with
    | [x0, x1, x2, x3], _ =>
      simp only [List.all_cons, List.all_nil, Bool.and_true, Bool.and_eq_true] at h2
      obtain ⟨n0, rfl⟩ := who0_int h2.1
      obtain ⟨n1, rfl⟩ := who0_int h2.2.1
      obtain ⟨n2, rfl⟩ := who0_int h2.2.2.1
      obtain ⟨n3, rfl⟩ := who0_int h2.2.2.2
      exact ⟨(n0, n1, n2, n3), rfl⟩
def PartO (H : Hp) (x : V) (o : Option S4) : Prop := (∃ q xs, x = .ref q ∧ H q = some (.tup xs) ∧ (∀ y ∈ xs, Ty0 H y) ∧ xs.length ≤ 100 ∧ o = st4 xs) ∨ (NotT H x ∧ o = none)
theorem PartO.mono {H H' : Hp} {x : V} {o : Option S4} (h : PartO H x o) (s : Same H H') : PartO H' x o := by
  rcases h with ⟨q, xs, e, hq, hy, hl, ho⟩ | ⟨h, ho⟩
  · exact .inl ⟨q, xs, e, s _ _ hq, fun y m => (hy y m).mono s, hl, ho⟩
  · exact .inr ⟨h.mono s, ho⟩
def PartsO (H : Hp) : List V → List (Option S4) → Prop
  | [], [] => True
  | v :: ys, o :: os => PartO H v o ∧ PartsO H ys os
  | _, _ => False
theorem PartsO.len {H : Hp} : ∀ {ys : List V} {os : List (Option S4)}, PartsO H ys os → ys.length = os.length
  | [], [], _ => rfl
  | _ :: ys, _ :: os, h => by rw [List.length_cons, List.length_cons, PartsO.len h.2]
  | [], _ :: _, h => h.elim
  | _ :: _, [], h => h.elim
theorem PartsO.get {H : Hp} : ∀ {ys : List V} {os : List (Option S4)} {i : Nat} {v : V}, PartsO H ys os → ys[i]? = some v → ∃ o, os[i]? = some o ∧ PartO H v o
  | [], [], _, _, _, e => by simp at e
  | y :: ys, o :: os, 0, v, h, e => by
    rw [List.getElem?_cons_zero] at e
    cases e
    exact ⟨o, rfl, h.1⟩
  | y :: ys, o :: os, i + 1, v, h, e => by
    rw [List.getElem?_cons_succ] at e
    rw [List.getElem?_cons_succ]
    exact PartsO.get h.2 e
  | [], _ :: _, _, _, h, _ => h.elim
  | _ :: _, [], _, _, h, _ => h.elim
def allS : List (Option S4) → Option (List S4)
  | [] => some []
  | some r :: t => (allS t).map (r :: ·)
  | none :: _ => none
theorem allS_map : ∀ rs : List S4, allS (rs.map some) = some rs
  | [] => rfl
  | r :: t => by
    show (allS (t.map some)).map (r :: ·) = _
    rw [allS_map t]
    rfl
theorem allS_eq : ∀ {os : List (Option S4)} {rs : List S4}, allS os = some rs → os = rs.map some
  | [], rs, h => by cases h; rfl
  | some r :: t, rs, h => by
    have h' : (allS t).map (r :: ·) = some rs := h
    obtain ⟨t', h1, rfl⟩ := Option.map_eq_some_iff.mp h'
    rw [allS_eq h1]
    rfl
  | none :: t, rs, h => by cases h
theorem allS_all : ∀ {os : List (Option S4)}, (os.all fun o => o.any okP) = true → ∃ rs, allS os = some rs ∧ rs.all okP = true
  | [], _ => ⟨[], rfl, rfl⟩
  | some r :: t, h => by
    rw [List.all_cons, Bool.and_eq_true] at h
    obtain ⟨rs, h1, h2⟩ := allS_all h.2
    refine ⟨r :: rs, ?_, ?_⟩
    · show (allS t).map (r :: ·) = _
      rw [h1]
      rfl
    · rw [List.all_cons, h2, Bool.and_true]
      exact h.1
  | none :: t, h => by cases h
def rowO (os : List (Option S4)) (size : Int) : Bool := match allS os with
  | some rs => isRowP rs size
  | none => false
theorem rowO_no {os : List (Option S4)} {size : Int} (h : (os.all fun o => o.any okP) = false) : rowO os size = false := by
  unfold rowO
  split
  · next rs e =>
    rw [allS_eq e, List.all_map] at h
    have h' : rs.all okP = false := h
    unfold isRowP
    rw [h']
    rfl
  · rfl
theorem PartsO.tups {H : Hp} : ∀ {ys : List V} {rs : List S4}, PartsO H ys (rs.map some) → TupsAt H ys (rs.map tv)
  | [], [], _ => trivial
  | y :: ys, r :: rs, h => by
    obtain ⟨h1, h2⟩ := h
    refine ⟨?_, PartsO.tups h2⟩
    rcases h1 with ⟨q, xs, e, hq, _, _, ho⟩ | ⟨_, ho⟩
    · rw [st4_some ho.symm] at hq
      exact ⟨q, e, hq⟩
    · cases ho
  | [], _ :: _, h => h.elim
  | _ :: _, [], h => h.elim
theorem apart_iff : ∀ {rs : List S4}, apart rs = true ↔ ∀ (j : Nat) a b, rs[j]? = some a → rs[j + 1]? = some b → ¬ b.1 < a.1 + a.2.1 ∧ goOn a b = false
  | [] => ⟨fun _ j a b h => by simp at h, fun _ => rfl⟩
  | [r] => ⟨fun _ j a b _ h => by simp at h, fun _ => rfl⟩
  | a :: b :: t => by
    have ih := apart_iff (rs := b :: t)
    show (!decide (b.1 < a.1 + a.2.1) && !goOn a b && apart (b :: t)) = true ↔ _
    rw [Bool.and_eq_true, Bool.and_eq_true, ih]
    constructor
    · rintro ⟨⟨h1, h2⟩, h3⟩ j x y hx hy
      cases j with
      | zero =>
        simp only [List.getElem?_cons_zero, List.getElem?_cons_succ, Nat.zero_add] at hx hy
        cases hx
        cases hy
        refine ⟨fun c => ?_, ?_⟩
        · rw [decide_eq_true c] at h1
          cases h1
        · cases e : goOn a b with
          | false => rfl
          | true => rw [e] at h2; cases h2
      | succ j =>
        rw [List.getElem?_cons_succ] at hx hy
        exact h3 j x y hx hy
    · intro h
      refine ⟨⟨?_, ?_⟩, fun j x y hx hy => h (j + 1) x y (by rw [List.getElem?_cons_succ]; exact hx) (by rw [List.getElem?_cons_succ]; exact hy)⟩
      · rw [decide_eq_false (h 0 a b rfl rfl).1]
        rfl
      · rw [(h 0 a b rfl rfl).2]
        rfl
/-! ### loops over two tuples at once, comprehensions over a tuple -/
theorem for_zipT {K : PySem.W.Frag} {a b : Addr} {xs ys : List V} {g : TG} {tb : TS} {D : Ends} {σ : St} {H : Hp} (Pv : Nat → St → Hp → Prop) (h0 : Pv 0 σ H) (hl : ∀ i σ H, Pv i σ H → SqT K H a xs ∧ SqT K H b ys)
    (hs : ∀ i x y t σ H, xs[i]? = some x → ys[i]? = some y → Pv i σ H → H t = none → g (.ref t) σ (upd H t (.tup [x, y])) fun σ2 H2 => tb { D with nx := Pv (i + 1), ct := Pv (i + 1), bk := D.nx } σ2 H2) (hd : ∀ i σ H, min xs.length ys.length ≤ i → Pv i σ H → D.nx σ H) :
    ∃ W : Nat → Nat → St → Hp → Prop, (∃ m, W 0 m σ H) ∧ ∀ i m σ H, W i m σ H →
      ((ItzT K a b).stop i H ∧ D.nx σ H) ∨ ((ItzT K a b).go i H ∧ ∃ N : St → Hp → Prop, (∀ σ' H', N σ' H' → ∃ m', m' < m ∧ W (i + 1) m' σ' H') ∧ ∀ x H', (ItzT K a b).yld i H x H' → g x σ H' fun σ2 H2 => tb { D with nx := N, ct := N, bk := D.nx } σ2 H2) := by
  refine ⟨fun i m σ H => m = xs.length - i ∧ Pv i σ H, ⟨xs.length, by simp, h0⟩, ?_⟩
  rintro i m σ H ⟨rfl, p⟩
  obtain ⟨q1, q2⟩ := hl i σ H p
  by_cases hlt : i < xs.length ∧ i < ys.length
  · refine .inr ⟨⟨xs, ys, xs[i]'hlt.1, ys[i]'hlt.2, q1, q2, by simp [hlt.1], by simp [hlt.2]⟩, Pv (i + 1), fun σ' H' p' => ⟨xs.length - (i + 1), by omega, rfl, p'⟩, fun x H' y => ?_⟩
    obtain ⟨t, u, v, rfl, ht, rfl, hx, hy⟩ := y
    exact hs i u v t σ H (hx xs q1) (hy ys q2) p ht
  · refine .inl ⟨⟨xs, ys, q1, q2, by omega⟩, hd i σ H (by omega) p⟩
theorem comp_tup {K : PySem.W.Frag} {a p : Addr} {tt : TT} {te : TE} {cs : St} {Q : VK} {H1 : Hp} {xs : List V} (Pv : Nat → List V → Hp → Prop) (h0 : Pv 0 [] (upd H1 p (.lst [])))
    (hl : ∀ i ys H, i ≤ xs.length → Pv i ys H → SqT K H a xs)
    (hs : ∀ i x ys H, xs[i]? = some x → Pv i ys H → tt (some x :: cs) H fun b H4 => if b = true then te (some x :: cs) H4 fun y H5 => H5 p = some (.lst ys) ∧ ys.length < sizeLine ∧ Pv (i + 1) (ys ++ [y]) (upd H5 p (.lst (ys ++ [y]))) else Pv (i + 1) ys H4)
    (hd : ∀ ys H, Pv xs.length ys H → Q (.ref p) H) : CompW (Itt K a) p tt te cs Q H1 := comp_seq (tu := true) Pv h0 hl hs hd
theorem cutV_one (xs : List V) : cutV xs (some 1) none = xs.drop 1 := by
  unfold cutV
  have e : HT.sIx xs.length 0 (some 1) = min 1 xs.length := HT.sIx_nat _ _ 1
  rw [e, HT.sIx_none]
  cases xs with
  | nil => rfl
  | cons x t =>
    have : min 1 (x :: t).length = 1 := by simp
    rw [this]
    exact List.take_of_length_le (by simp)
end L2
namespace HT
open PySem PySem.Spec PyProof.Rows
section
variable {prog : Program} {w : World} {A : Around} {E : Value → Shared → Prop} {s : Shared}
/-- the whole of a tuple, as a slice: itself -/
theorem getItem_tuple_all {t sl : Addr} {items : Array Value} {vl vu : Value} {lo hi : Option Int} {Q : Value → Shared → Prop} (ht : IsTup s.heap t items) (hs : s.heap.IsSliceOf sl vl vu .none) (pl : IsPart vl lo) (pu : IsPart vu hi)
    (hw : sIx items.size 0 lo = 0 ∧ sIx items.size items.size hi = items.size) (h : Q (.ref t) s) : wpAny (model prog w) A (getItem (.ref t) (.ref sl)) Q E s := by
  obtain ⟨os, hos, hcs, hds⟩ := id hs
  have hTs : s.TypeIs (.ref sl) "slice" := ⟨os, hos, hcs⟩
  unfold getItem
  try with_reducible refine wpAny_holding ?_
  first | refine wpAny_bind (wpAny_pure ?_) | skip
  refine wpAny_bind (wpAny_sequenceKey ht.typeIs (by decide) ?_)
  refine wpAny_bind (wpAny_callSpecial?_slot (name := Str.ofString "__getitem__") ht.typeIs PyProof.Rows.slot_tuple_getitem
    (wpAny_call_entry PyProof.Rows.slot_tuple_getitem ht.typeIs entry_tuple_getitem ?_ (args_tuple_getitem _ _)))
  show wpAny _ _ (Builtin.Tuple.tupleItemsOf (.ref t) >>= _) _ _ s
  refine wpAny_bind (tupleItemsOf_ ht ?_)
  refine wpAny_bind (wpAny_typeOf hTs ?_)
  rw [if_pos (by decide)]
  refine wpAny_bind (sliceApplied_gen hs pl pu ?_)
  have hyes : (((sIx items.size 0 lo : Nat) : Int) == 0 && (1 : Int) == 1 && (sIx items.size items.size hi - sIx items.size 0 lo) == items.size) = true := by
    rw [hw.1, hw.2]
    simp
  show wpAny _ _ (if (((sIx items.size 0 lo : Nat) : Int) == 0 && (1 : Int) == 1 && (sIx items.size items.size hi - sIx items.size 0 lo) == items.size) = true then _ else _) _ _ s
  rw [if_pos hyes]
  refine wpAny_bind (m := Builtin.Tuple.tupleIsExact _) (wpAny_bind (wpAny_typeOf ht.typeIs (wpAny_pure ?_)))
  rw [if_pos (by decide)]
  refine wpAny_bind (wpAny_rule ?_)
  exact wpAny_bind (wpAny_pure (wpAny_pure ⟨_, rfl, wpAny_pure h⟩))
end
end HT
namespace L2
open PySem PySem.Spec PyProof.Rows
section
variable {X : Cx}
theorem cutV_all {xs : List V} {lo hi : Option Int} (hw : HT.sIx xs.length 0 lo = 0 ∧ HT.sIx xs.length xs.length hi = xs.length) : cutV xs lo hi = xs := by
  unfold cutV
  rw [hw.1, hw.2]
  simp
/-- a slice of a tuple, perhaps the whole -/
def rSlW : V → Option Int → Option Int → Hp → VK → Prop := fun x lo hi H Q => ∃ a xs, x = .ref a ∧ H a = some (.tup xs) ∧ ∀ b H', Same H H' → H' b = some (.tup (cutV xs lo hi)) → Q (.ref b) H'
theorem sl_tupW : SlR X rSlW := by
  intro pins s σ H x v vl vu lo hi sl Q I rx hs pl pu h
  obtain ⟨a, xs, rfl, hx, q⟩ := h
  by_cases hw : HT.sIx xs.length 0 lo = 0 ∧ HT.sIx xs.length xs.length hi = xs.length
  · cases rx
    obtain ⟨its, r, ht, hz⟩ := I.tuple (SqT.of (K := X.K) hx)
    have hlen : its.toArray.size = xs.length := by rw [List.size_toArray]; exact r.length.symm
    exact ⟨"tuple", _, PyProof.Rows.slot_tuple_getitem.lookup, ht.typeIs, HT.getItem_tuple_all ht hs pl pu (by rw [hlen]; exact hw) ⟨.ref a, H, I, rfl, q a H (Same.refl H) (by rw [cutV_all hw]; exact hx)⟩⟩
  · exact sl_tup pins s σ H (.ref a) v vl vu lo hi sl Q I rx hs pl pu ⟨a, xs, rfl, SqT.of hx, hw, fun p hp => q p _ (fun b u e => by rw [upd_ne (ne_of_none e hp)]; exact e) upd_same⟩
def rEqE (K : PySem.W.Frag) : R2 := fun x y H Q => ∃ a b xs, x = .ref a ∧ y = .ref b ∧ SqL K H a xs ∧ SqL K H b [] ∧ Q (.bl (decide (xs = []))) H
theorem op_eqE (hu : X.A.units < cLine) : OpR X (compareOp .Eq) (rEqE X.K) := by
  intro pins s σ H x y v u Q I rx ry h
  obtain ⟨a, b, xs, rfl, rfl, ha, hb, q⟩ := h
  cases hx : xs with
  | nil =>
    subst hx
    exact op_eqL hu pins s σ H _ _ v u Q I rx ry ⟨a, b, _, _, rfl, rfl, ha, hb, rfl, rfl, q⟩
  | cons z zs =>
    cases rx
    cases ry
    obtain ⟨its, r1, p1, _⟩ := I.list ha
    obtain ⟨its2, r2, p2, _⟩ := I.list hb
    have l1 := r1.length
    have l2 := r2.length
    have lx : xs.length = zs.length + 1 := by rw [hx]; rfl
    have l0 : ([] : List V).length = 0 := rfl
    refine SeqAt.eq_list_lengthsAt p1.isList p2.isList (by simp; omega) hu ⟨.bl false, H, I, rfl, ?_⟩
    have e : decide (xs = []) = false := decide_eq_false (by rw [hx]; exact List.cons_ne_nil _ _)
    rw [e] at q
    exact q
end
end L2
namespace L2
open PySem PySem.Spec PyProof.Rows
/-! ### a dict of cells -/
/-! ### a row's cells rise -/
/-! ### the law's loop over a thing -/
end L2
namespace L2
open PySem PySem.Spec PyProof.Rows
/-! ### a tidied row is a tidy row -/
theorem ord_apart : ∀ {rs : List S4} {lo hi : Int}, Ord lo rs hi → noGo rs = true → apart rs = true
  | [], _, _, _, _ => rfl
  | [a], _, _, _, _ => rfl
  | a :: b :: t, lo, hi, h, n => by
    have n' : (!goOn a b && noGo (b :: t)) = true := n
    rw [Bool.and_eq_true] at n'
    have ih := ord_apart h.2.2 n'.2
    show (!decide (b.1 < a.1 + a.2.1) && !goOn a b && apart (b :: t)) = true
    have b1 : a.1 + a.2.1 ≤ b.1 := h.2.2.1
    rw [ih, n'.1, decide_eq_false (by omega)]
    rfl
end L2
namespace L2
open PySem PySem.Spec PyProof.Rows
/-! ### a row laid over a row -/
/-! ### cells -/
/-! ### a dict of cells, in whatever order -/
end L2
set_option maxHeartbeats 1000000
/-! ### range(a, b, 8) -/
namespace L2
open PySem PySem.Spec PyProof.Rows
section
variable {X : Cx} {tg : Expr}
end
end L2
/-! ### enumerate(a list), its pairs taken apart at once -/
namespace L2
open PySem PySem.Spec PyProof.Rows
def Ite (K : PySem.W.Frag) (a : Addr) : It :=
  ⟨fun i H => ∃ xs x, SqL K H a xs ∧ xs[i]? = some x, fun i H v H' => ∃ t x, v = .ref t ∧ H t = none ∧ H' = upd H t (.tup [.int i, x]) ∧ ∀ xs, SqL K H a xs → xs[i]? = some x, fun i H => ∃ xs, SqL K H a xs ∧ xs.length ≤ i⟩
theorem turn_enum {P : Program} {w : World} {K : PySem.W.Frag} {elts : List Expr} {x1} {tp : Pos} {e it a : Addr} (n : e ≠ it) :
    Turn P w K (.Tuple elts x1 tp) (Ite K a) [e, it] e (fun i h => (∃ old, IsEnum h e it i old) ∧ h.IsListIter it a i) where
  mem := by simp
  obj := fun i h Z c hc => by
    obtain ⟨⟨old, he⟩, ⟨o1, e1, _, d1⟩⟩ := Z
    simp only [List.mem_cons, List.not_mem_nil, or_false] at hc
    rcases hc with rfl | rfl
    · exact ⟨_, he, fun v q => by cases q⟩
    · exact ⟨_, e1, fun v q => by rw [d1] at q; cases q⟩
  keep := fun i h h' Z k => by
    obtain ⟨⟨old, he⟩, j⟩ := Z
    exact ⟨⟨old, k e (by simp) _ he⟩, j.at fun o z => k it (by simp) o z⟩
  item := by
    intro X hP hw hK s hc i pins σ H E I hf Z hg
    subst hP hw hK
    obtain ⟨xs, x, qa, gx⟩ := hg
    obtain ⟨its, rv, p, _⟩ := I.list qa
    obtain ⟨u, hu, ru⟩ := rv.get gx
    obtain ⟨⟨old, he⟩, j⟩ := Z
    refine wpAny_pyNext_enum_item he j p.isList (x := u) (by simpa using hu) n fun h1 a1 a2 a3 a4 kp => ?_
    refine ⟨_, rfl, wpAny_letOwnedTupleGo_enum a1 fun h2 b1 sb => ?_⟩
    have lz := Heap.lt_size he
    have nT := I.hok.fresh (Nat.le_refl s.heap.objs.size)
    have T2 := sb.extBut _ _ (Nat.ne_of_gt lz) a3
    have I1 : Inv X pins σ (upd H s.heap.objs.size (.tup [.int i, x])) { s with heap := h2, toks := s.toks + 1 } := I.turnsLaid (W := [e, it]) (t' := s.toks + 1) (T := s.heap.objs.size) (o := .tup [.int i, x]) hf
      (fun c o hc z => by
        simp only [List.mem_cons, List.not_mem_nil, or_false, not_or] at hc
        exact sb.extBut _ _ hc.1 (kp c o hc.1 hc.2 z)) (Nat.le_refl _) ⟨by show 2 ≤ sizeLine; decide, [.int i s.toks, u], .cons ⟨_, rfl⟩ (.cons ru .nil), ⟨_, T2, rfl, _, rfl⟩⟩
    refine ⟨.ref s.heap.objs.size, _, I1, rfl, ⟨_, x, rfl, nT, rfl, fun zs hq => by rw [I.list_inj hq qa]; exact gx⟩, ⟨⟨u, ?_⟩, a2.extBut sb.extBut (Ne.symm n)⟩, fun c hc => ?_⟩
    · exact b1
    · have lt : c < s.heap.objs.size := by
        simp only [List.mem_cons, List.not_mem_nil, or_false] at hc
        obtain ⟨o1, f1, _⟩ := j
        rcases hc with rfl | rfl
        · exact lz
        · exact Heap.lt_size f1
      rw [upd_ne (Nat.ne_of_lt lt)]
      exact (hf c hc).1
  done := by
    intro X hP hw hK s hc i pins σ H E I hf Z hg
    subst hP hw hK
    obtain ⟨xs, qa, hx⟩ := hg
    obtain ⟨its, rv, p, _⟩ := I.list qa
    obtain ⟨⟨old, he⟩, j⟩ := Z
    have l1 := rv.length
    refine wpAny_pyNext_enum_end hc.none he j p.isList (by simp; omega) fun h' kp => ⟨rfl, I.turns (t' := s.toks) (W := [e, it]) hf fun c o hc z => kp c o (fun q => hc (by simp [q])) z⟩
  self := fun _ _ s _ _ st h => by
    obtain ⟨⟨old, he⟩, _⟩ := st
    exact wpAny_pyIter_enum he h
def iEnum (K : PySem.W.Frag) (ta : TA) : TI := fun σ H R => ta σ H fun vs H1 => ∃ a xs, vs = [.ref a] ∧ SqL K H1 a xs ∧ R (Ite K a) H1
theorem pi_enum {X : Cx} {elts : List Expr} {x1} {tp : Pos} {a : Expr} {ta : TA} {p pos : Pos} (hg : Gl X "enumerate") (hm : X.mg "enumerate" = none) (ha : PA X [a] ta) (hs : starEach [a] X.env = [(false, eval a X.env)] := by rfl) :
    PI X (.Tuple elts x1 tp) (.Call (.Name "enumerate" p) [a] [] pos) (iEnum X.K ta) := by
  intro pins s σ H R I h
  refine Call_ (ld_blt I hg hm boot_enumerate (PyProof.Rows.callWith_type1 (thn (ha pos pins s σ H _ I h) fun us s1 ⟨vs, H1, I1, r1, q1⟩ => ?_) hs rfl))
  obtain ⟨a, xs, e, qa, q⟩ := q1
  subst e
  cases r1 with
  | cons r rr =>
    cases rr
    cases r
    obtain ⟨its, rv, p, _⟩ := I1.list qa
    refine call_enumerate_list p.isList fun h' z1 z2 z3 kp => wpAny_pyIter_enum z1 ?_
    refine ⟨_, [_, s1.heap.objs.size], _, _, H1, rfl, I1.kept (t' := s1.toks) kp, turn_enum (by simp), ⟨⟨_, z1⟩, z2⟩, fun c hc => ?_, q⟩
    have le : s1.heap.objs.size ≤ c := by
      simp only [List.mem_cons, List.not_mem_nil, or_false] at hc
      rcases hc with rfl | rfl <;> omega
    exact I1.fpOk le (I1.hok.fresh le)
theorem for_enum {K : PySem.W.Frag} {a : Addr} {xs : List V} {g : TG} {tb : TS} {D : Ends} {σ : St} {H : Hp} (Pv : Nat → St → Hp → Prop) (h0 : Pv 0 σ H) (hl : ∀ i σ H, Pv i σ H → SqL K H a xs)
    (hs : ∀ i x t σ H, xs[i]? = some x → Pv i σ H → H t = none → g (.ref t) σ (upd H t (.tup [.int i, x])) fun σ2 H2 => tb { D with nx := Pv (i + 1), ct := Pv (i + 1), bk := D.nx } σ2 H2) (hd : ∀ σ H, Pv xs.length σ H → D.nx σ H) :
    ∃ W : Nat → Nat → St → Hp → Prop, (∃ m, W 0 m σ H) ∧ ∀ i m σ H, W i m σ H →
      ((Ite K a).stop i H ∧ D.nx σ H) ∨ ((Ite K a).go i H ∧ ∃ N : St → Hp → Prop, (∀ σ' H', N σ' H' → ∃ m', m' < m ∧ W (i + 1) m' σ' H') ∧ ∀ x H', (Ite K a).yld i H x H' → g x σ H' fun σ2 H2 => tb { D with nx := N, ct := N, bk := D.nx } σ2 H2) := by
  refine ⟨fun i m σ H => m = xs.length - i ∧ i ≤ xs.length ∧ Pv i σ H, ⟨xs.length, by simp, Nat.zero_le _, h0⟩, ?_⟩
  rintro i m σ H ⟨rfl, li, p⟩
  have q1 := hl i σ H p
  by_cases hlt : i < xs.length
  · refine .inr ⟨⟨xs, xs[i]'hlt, q1, by simp [hlt]⟩, Pv (i + 1), fun σ' H' p' => ⟨xs.length - (i + 1), by omega, rfl, hlt, p'⟩, fun x H' y => ?_⟩
    obtain ⟨t, u, rfl, ht, rfl, hx⟩ := y
    exact hs i u t σ H (hx xs q1) p ht
  · have e : i = xs.length := by omega
    subst e
    exact .inl ⟨⟨xs, q1, Nat.le_refl _⟩, hd σ H p⟩
end L2
namespace L2
open PySem PySem.Spec PyProof.Rows
/-! ### things of any kind, to any depth -/
inductive Tr : Type
  | int (n : Int) | str (s : Str) | bl (b : Bool) | non | dct | tup (l : List Tr) | lst (l : List Tr)
mutual
def At (H : Hp) : Tr → V → Prop
  | .int n, v => v = .int n
  | .str s, v => v = .str s
  | .bl b, v => v = .bl b
  | .non, v => v = .non
  | .dct, v => ∃ a kvs, v = .ref a ∧ H a = some (.dK kvs)
  | .tup l, v => ∃ a vs, v = .ref a ∧ H a = some (.tup vs) ∧ Ats H l vs
  | .lst l, v => ∃ a vs, v = .ref a ∧ H a = some (.lst vs) ∧ Ats H l vs
def Ats (H : Hp) : List Tr → List V → Prop
  | [], vs => vs = []
  | t :: ts, vs => ∃ v ws, vs = v :: ws ∧ At H t v ∧ Ats H ts ws
end
mutual
def dep : Tr → Nat
  | .tup l => deps l + 1
  | .lst l => deps l + 1
  | _ => 0
def deps : List Tr → Nat
  | [] => 0
  | t :: ts => max (dep t) (deps ts)
end
mutual
def frz : Tr → Tr
  | .lst l => .tup (frzs l)
  | t => t
def frzs : List Tr → List Tr
  | [] => []
  | t :: ts => frz t :: frzs ts
end
mutual
theorem At.mono {H H' : Hp} (s : Same H H') : ∀ {t : Tr} {v : V}, At H t v → At H' t v
  | .int n, v, h => by unfold At at *; exact h
  | .str n, v, h => by unfold At at *; exact h
  | .bl n, v, h => by unfold At at *; exact h
  | .non, v, h => by unfold At at *; exact h
  | .dct, v, h => by
    unfold At at *
    obtain ⟨a, kvs, e, h⟩ := h
    exact ⟨a, kvs, e, s _ _ h⟩
  | .tup l, v, h => by
    unfold At at *
    obtain ⟨a, vs, e, h, k⟩ := h
    exact ⟨a, vs, e, s _ _ h, Ats.mono s k⟩
  | .lst l, v, h => by
    unfold At at *
    obtain ⟨a, vs, e, h, k⟩ := h
    exact ⟨a, vs, e, s _ _ h, Ats.mono s k⟩
theorem Ats.mono {H H' : Hp} (s : Same H H') : ∀ {l : List Tr} {vs : List V}, Ats H l vs → Ats H' l vs
  | [], vs, h => by unfold Ats at *; exact h
  | t :: ts, vs, h => by
    unfold Ats at *
    obtain ⟨v, ws, e, h, k⟩ := h
    exact ⟨v, ws, e, At.mono s h, Ats.mono s k⟩
end
theorem Ats.len {H : Hp} : ∀ {l : List Tr} {vs : List V}, Ats H l vs → vs.length = l.length
  | [], vs, h => by
    unfold Ats at h
    rw [h]
    rfl
  | t :: ts, vs, h => by
    unfold Ats at h
    obtain ⟨v, ws, rfl, _, k⟩ := h
    rw [List.length_cons, List.length_cons, Ats.len k]
theorem Ats.get {H : Hp} : ∀ {l : List Tr} {vs : List V} {i : Nat} {v : V}, Ats H l vs → vs[i]? = some v → ∃ t, l[i]? = some t ∧ At H t v
  | [], vs, i, v, h, e => by
    unfold Ats at h
    subst h
    cases e
  | t :: ts, vs, i, v, h, e => by
    unfold Ats at h
    obtain ⟨w, ws, rfl, h, k⟩ := h
    cases i with
    | zero => cases e; exact ⟨t, rfl, h⟩
    | succ i =>
      obtain ⟨t', h1, h2⟩ := Ats.get k (show ws[i]? = some v from e)
      exact ⟨t', h1, h2⟩
theorem Ats.at {H : Hp} : ∀ {l : List Tr} {vs : List V} {i : Nat} {t : Tr}, Ats H l vs → l[i]? = some t → ∃ v, vs[i]? = some v ∧ At H t v
  | [], vs, i, t, h, e => by cases e
  | u :: ts, vs, i, t, h, e => by
    unfold Ats at h
    obtain ⟨w, ws, rfl, h, k⟩ := h
    cases i with
    | zero => cases e; exact ⟨w, rfl, h⟩
    | succ i =>
      obtain ⟨v', h1, h2⟩ := Ats.at k (show ts[i]? = some t from e)
      exact ⟨v', h1, h2⟩
theorem Ats.nil (H : Hp) : Ats H [] [] := by unfold Ats; rfl
theorem Ats.cons {H : Hp} {t : Tr} {ts : List Tr} {v : V} {vs : List V} (h : At H t v) (k : Ats H ts vs) : Ats H (t :: ts) (v :: vs) := by
  unfold Ats
  exact ⟨v, vs, rfl, h, k⟩
theorem Ats.app {H : Hp} {us : List Tr} {ws : List V} (k : Ats H us ws) : ∀ {l : List Tr} {vs : List V}, Ats H l vs → Ats H (l ++ us) (vs ++ ws)
  | [], vs, h => by
    unfold Ats at h
    subst h
    exact k
  | t :: ts, vs, h => by
    unfold Ats at h
    obtain ⟨v, vs, rfl, h, k2⟩ := h
    exact Ats.cons h (Ats.app k k2)
theorem Ats.take {H : Hp} : ∀ {l : List Tr} {vs : List V} (n : Nat), Ats H l vs → Ats H (l.take n) (vs.take n)
  | [], vs, n, h => by
    unfold Ats at h
    subst h
    simp only [List.take_nil]
    exact Ats.nil H
  | t :: ts, vs, 0, h => Ats.nil H
  | t :: ts, vs, n + 1, h => by
    unfold Ats at h
    obtain ⟨v, ws, rfl, h, k⟩ := h
    exact Ats.cons h (Ats.take n k)
theorem Ats.drop {H : Hp} : ∀ {l : List Tr} {vs : List V} (n : Nat), Ats H l vs → Ats H (l.drop n) (vs.drop n)
  | l, vs, 0, h => h
  | [], vs, n + 1, h => by
    unfold Ats at h
    subst h
    exact Ats.nil H
  | t :: ts, vs, n + 1, h => by
    unfold Ats at h
    obtain ⟨v, ws, rfl, h, k⟩ := h
    exact Ats.drop n k
/-- what a thing is -/
theorem At.ty0 {H : Hp} {t : Tr} {v : V} (h : At H t v) : Ty0 H v := by
  cases t with
  | int n => unfold At at h; exact .inl ⟨n, h⟩
  | str n => unfold At at h; exact .inr (.inl ⟨n, h⟩)
  | bl n => unfold At at h; exact .inr (.inr (.inl ⟨n, h⟩))
  | non => unfold At at h; exact .inr (.inr (.inr (.inl h)))
  | dct =>
    unfold At at h
    obtain ⟨a, kvs, e, h⟩ := h
    exact .inr (.inr (.inr (.inr (.inr (.inr ⟨a, kvs, e, h⟩)))))
  | tup l =>
    unfold At at h
    obtain ⟨a, vs, e, h, _⟩ := h
    exact .inr (.inr (.inr (.inr (.inr (.inl ⟨a, vs, e, h⟩)))))
  | lst l =>
    unfold At at h
    obtain ⟨a, vs, e, h, _⟩ := h
    exact .inr (.inr (.inr (.inr (.inl ⟨a, vs, e, h⟩))))
def isTup : Tr → Bool
  | .tup _ => true
  | _ => false
theorem At.notT {H : Hp} {t : Tr} {v : V} (h : At H t v) (hn : isTup t = false) : NotT H v := by
  cases t with
  | int n => unfold At at h; exact .inl ⟨n, h⟩
  | str n => unfold At at h; exact .inr (.inl ⟨n, h⟩)
  | bl n => unfold At at h; exact .inr (.inr (.inl ⟨n, h⟩))
  | non => unfold At at h; exact .inr (.inr (.inr (.inl h)))
  | dct =>
    unfold At at h
    obtain ⟨a, kvs, e, h⟩ := h
    exact .inr (.inr (.inr (.inr (.inr ⟨a, kvs, e, h⟩))))
  | tup l => cases hn
  | lst l =>
    unfold At at h
    obtain ⟨a, vs, e, h, _⟩ := h
    exact .inr (.inr (.inr (.inr (.inl ⟨a, vs, e, h⟩))))
theorem At.tup {H : Hp} {l : List Tr} {v : V} (h : At H (.tup l) v) : ∃ a vs, v = .ref a ∧ H a = some (.tup vs) ∧ Ats H l vs := by
  unfold At at h
  exact h
theorem At.lst {H : Hp} {l : List Tr} {v : V} (h : At H (.lst l) v) : ∃ a vs, v = .ref a ∧ H a = some (.lst vs) ∧ Ats H l vs := by
  unfold At at h
  exact h
theorem At.mkT {H : Hp} {l : List Tr} {a : Addr} {vs : List V} (h : H a = some (.tup vs)) (k : Ats H l vs) : At H (.tup l) (.ref a) := by
  unfold At
  exact ⟨a, vs, rfl, h, k⟩
theorem At.mkL {H : Hp} {l : List Tr} {a : Addr} {vs : List V} (h : H a = some (.lst vs)) (k : Ats H l vs) : At H (.lst l) (.ref a) := by
  unfold At
  exact ⟨a, vs, rfl, h, k⟩
theorem At.int {H : Hp} (n : Int) : At H (.int n) (.int n) := by unfold At; rfl
theorem At.str {H : Hp} (n : Str) : At H (.str n) (.str n) := by unfold At; rfl
theorem At.bl {H : Hp} (n : Bool) : At H (.bl n) (.bl n) := by unfold At; rfl
theorem At.non {H : Hp} : At H .non .non := by unfold At; rfl
def wthT (t : Tr) (l h : Int) : Bool := match t with
  | .int n => decide (l ≤ n) && decide (n ≤ h)
  | _ => false
theorem At.wth {H : Hp} {t : Tr} {v : V} (h : At H t v) (l k : Int) : wth0 v l k = wthT t l k := by
  cases t with
  | int n => unfold At at h; subst h; rfl
  | str n => unfold At at h; subst h; rfl
  | bl n => unfold At at h; subst h; rfl
  | non => unfold At at h; subst h; rfl
  | dct =>
    unfold At at h
    obtain ⟨a, kvs, rfl, h⟩ := h
    rfl
  | tup l =>
    obtain ⟨a, vs, rfl, _⟩ := h.tup
    rfl
  | lst l =>
    obtain ⟨a, vs, rfl, _⟩ := h.lst
    rfl
/-! ### stretches out of trees -/
def st4T : Tr → Option S4
  | .tup [.int a, .int b, .int c, .int d] => some (a, b, c, d)
  | _ => none
end L2
namespace L2
open PySem PySem.Spec PyProof.Rows
/-! ### words among the trees; what kind a tree is of -/
def sigS : Str := Str.ofString "abcdefghijklmnopqrstuvwxyz0123456789"
def okc (c : Nat) : Bool := (decide (97 ≤ c) && decide (c ≤ 122)) || (decide (48 ≤ c) && decide (c ≤ 57))
def isw (x : Str) : Bool := decide (1 ≤ x.length) && decide (x.length ≤ 8) && x.cps.toList.all okc
theorem sig_codes : sigS.cps.toList = [97, 98, 99, 100, 101, 102, 103, 104, 105, 106, 107, 108, 109, 110, 111, 112, 113, 114, 115, 116, 117, 118, 119, 120, 121, 122, 48, 49, 50, 51, 52, 53, 54, 55, 56, 57] := by decide +kernel
theorem in_sig (c : Nat) : (!(Builtin.Str.occurrences sigS ⟨#[c]⟩ 0 sigS.length 1).isEmpty) = okc c := by
  rw [StrLaws.found_one, sig_codes]
  unfold okc
  rw [← Bool.decide_and, ← Bool.decide_and, ← Bool.decide_or]
  refine decide_eq_decide.mpr ?_
  simp only [List.mem_cons, List.not_mem_nil, or_false]
  omega
theorem isw_len {x : Str} (h : ¬ (1 ≤ x.length ∧ x.length ≤ 8)) : isw x = false := by
  unfold isw
  rw [← Bool.decide_and, decide_eq_false h, Bool.false_and]
theorem isw_all {x : Str} (h : 1 ≤ x.length ∧ x.length ≤ 8) : isw x = x.cps.toList.all okc := by
  unfold isw
  rw [← Bool.decide_and, decide_eq_true h, Bool.true_and]
def wordT : Tr → Bool
  | .str z => isw z
  | _ => false
def isStrT : Tr → Bool
  | .str _ => true
  | _ => false
def isLstT : Tr → Bool
  | .lst _ => true
  | _ => false
section
variable (K : PySem.W.Frag)
theorem kt_is : PySem.W.kitOne K (.type "int") (.type "str") = some false := by kernel_rfl
theorem kt_ss : PySem.W.kitOne K (.type "str") (.type "str") = some true := by kernel_rfl
theorem kt_bs : PySem.W.kitOne K (.type "bool") (.type "str") = some false := by kernel_rfl
theorem kt_ns : PySem.W.kitOne K (.type "NoneType") (.type "str") = some false := by kernel_rfl
theorem kt_ls : PySem.W.kitOne K (.type "list") (.type "str") = some false := by kernel_rfl
theorem kt_ts : PySem.W.kitOne K (.type "tuple") (.type "str") = some false := by kernel_rfl
theorem kt_ds : PySem.W.kitOne K (.type "dict") (.type "str") = some false := by kernel_rfl
theorem kt_il : PySem.W.kitOne K (.type "int") (.type "list") = some false := by kernel_rfl
theorem kt_sl : PySem.W.kitOne K (.type "str") (.type "list") = some false := by kernel_rfl
theorem kt_bl : PySem.W.kitOne K (.type "bool") (.type "list") = some false := by kernel_rfl
theorem kt_nl : PySem.W.kitOne K (.type "NoneType") (.type "list") = some false := by kernel_rfl
theorem kt_ll : PySem.W.kitOne K (.type "list") (.type "list") = some true := by kernel_rfl
theorem kt_tl : PySem.W.kitOne K (.type "tuple") (.type "list") = some false := by kernel_rfl
theorem kt_dl : PySem.W.kitOne K (.type "dict") (.type "list") = some false := by kernel_rfl
end
theorem At.ty {K : PySem.W.Frag} {H : Hp} {t : Tr} {v : V} (h : At H t v) : ∃ ty, TyOf K H v ty ∧ PySem.W.kitOne K ty (.type "tuple") = some (isTup t) ∧ PySem.W.kitOne K ty (.type "str") = some (isStrT t) ∧ PySem.W.kitOne K ty (.type "list") = some (isLstT t) := by
  cases t with
  | int n => unfold At at h; subst h; exact ⟨_, .int n, k0_it K, kt_is K, kt_il K⟩
  | str n => unfold At at h; subst h; exact ⟨_, .str n, k0_st K, kt_ss K, kt_sl K⟩
  | bl n => unfold At at h; subst h; exact ⟨_, .bl n, k0_bt K, kt_bs K, kt_bl K⟩
  | non => unfold At at h; subst h; exact ⟨_, .non, k0_nt K, kt_ns K, kt_nl K⟩
  | dct =>
    unfold At at h
    obtain ⟨a, kvs, rfl, e⟩ := h
    exact ⟨_, .dK e, k0_dt K, kt_ds K, kt_dl K⟩
  | tup l =>
    obtain ⟨a, vs, rfl, e, _⟩ := h.tup
    exact ⟨_, .tup e, k0_tt K, kt_ts K, kt_tl K⟩
  | lst l =>
    obtain ⟨a, vs, rfl, e, _⟩ := h.lst
    exact ⟨_, .lst e, k0_lt K, kt_ls K, kt_ll K⟩
/-- things that can be told apart from a text by what they are -/
def flatT : Tr → Bool
  | .int _ => true
  | .str _ => true
  | .bl _ => true
  | .non => true
  | _ => false
def vT : Tr → V
  | .int n => .int n
  | .str s => .str s
  | .bl b => .bl b
  | _ => .non
theorem At.flat {H : Hp} {t : Tr} {v : V} (h : At H t v) (hf : flatT t = true) : v = vT t := by
  cases t with
  | int n => unfold At at h; exact h
  | str n => unfold At at h; exact h
  | bl n => unfold At at h; exact h
  | non => unfold At at h; exact h
  | dct => cases hf
  | tup l => cases hf
  | lst l => cases hf
def strIs (t : Tr) (z : Str) : Bool := match t with
  | .str y => decide (y = z)
  | _ => false
theorem flat_is {t : Tr} (hf : flatT t = true) (z : Str) : scal (vT t) (.str z) = true ∧ decide (vT t = .str z) = strIs t z := by
  cases t with
  | int n => exact ⟨rfl, decide_eq_false (by intro h; cases h)⟩
  | str y =>
    refine ⟨rfl, ?_⟩
    show decide (V.str y = V.str z) = decide (y = z)
    exact decide_eq_decide.mpr ⟨fun h => by injection h, fun h => by rw [h]⟩
  | bl n => exact ⟨rfl, decide_eq_false (by intro h; cases h)⟩
  | non => exact ⟨rfl, decide_eq_false (by intro h; cases h)⟩
  | dct => cases hf
  | tup l => cases hf
  | lst l => cases hf
/-- the parts of a row -/
theorem At.partO {H : Hp} {t : Tr} {v : V} (h : At H t v) (hl : ∀ l, t = .tup l → l.length ≤ 100) : PartO H v (st4T t) := by
  cases e : isTup t with
  | false =>
    refine .inr ⟨h.notT e, ?_⟩
    cases t <;> first | rfl | cases e
  | true =>
    cases t with
    | tup l =>
      obtain ⟨a, vs, rfl, e2, k⟩ := h.tup
      have ln := k.len
      refine .inl ⟨a, vs, rfl, e2, fun y hy => ?_, by have := hl l rfl; omega, ?_⟩
      · obtain ⟨i, hi⟩ := List.mem_iff_getElem?.mp hy
        obtain ⟨t, _, ht⟩ := k.get hi
        exact ht.ty0
      · unfold st4T
        split
        · next a b c d e3 =>
          injection e3 with e3
          subst e3
          match vs, ln with
          | [v0, v1, v2, v3], _ =>
            obtain ⟨t0, z0, h0⟩ := k.get (i := 0) rfl
            obtain ⟨t1, z1, h1⟩ := k.get (i := 1) rfl
            obtain ⟨t2, z2, h2⟩ := k.get (i := 2) rfl
            obtain ⟨t3, z3, h3⟩ := k.get (i := 3) rfl
            cases z0; cases z1; cases z2; cases z3
            unfold At at h0 h1 h2 h3
            subst h0 h1 h2 h3
            rfl
        · next hn =>
          cases e4 : st4 vs with
          | none => rfl
          | some r =>
            exfalso
            have ev := st4_some e4
            subst ev
            match l, ln, k with
            | [t0, t1, t2, t3], _, k =>
              have int_of : ∀ {t : Tr} {n : Int}, At H t (.int n) → t = .int n := fun {t n} h => by
                cases t with
                | int m => unfold At at h; injection h with h; rw [h]
                | str m => unfold At at h; cases h
                | bl m => unfold At at h; cases h
                | non => unfold At at h; cases h
                | dct => unfold At at h; obtain ⟨a, b, c, _⟩ := h; cases c
                | tup l => obtain ⟨a, b, c, _⟩ := h.tup; cases c
                | lst l => obtain ⟨a, b, c, _⟩ := h.lst; cases c
              obtain ⟨_, z0, h0⟩ := k.get (i := 0) rfl
              obtain ⟨_, z1, h1⟩ := k.get (i := 1) rfl
              obtain ⟨_, z2, h2⟩ := k.get (i := 2) rfl
              obtain ⟨_, z3, h3⟩ := k.get (i := 3) rfl
              cases z0; cases z1; cases z2; cases z3
              have := int_of h0
              have := int_of h1
              have := int_of h2
              have := int_of h3
              subst_vars
              exact hn _ _ _ _ rfl
    | _ => cases e
theorem Ats.partsO {H : Hp} : ∀ {l : List Tr} {vs : List V}, Ats H l vs → (∀ t ∈ l, ∀ u, t = .tup u → u.length ≤ 100) → PartsO H vs (l.map st4T)
  | [], vs, h, _ => by
    unfold Ats at h
    subst h
    exact True.intro
  | t :: ts, vs, h, hl => by
    unfold Ats at h
    obtain ⟨v, ws, rfl, h, k⟩ := h
    exact ⟨h.partO (hl t (List.mem_cons_self ..)), Ats.partsO k fun u hu => hl u (List.mem_cons_of_mem _ hu)⟩
end L2
namespace L2
open PySem PySem.Spec PyProof.Rows
end L2
namespace K22
open PySem L2 PyProof.Rows
def top (i : Nat) : Stmt := PySem.Challenge.pw_clonewood_k22_what_is_a_knot.main.body.getD i (.Pass ⟨0, 0, 0, 0⟩)
abbrev sWho : Stmt := top 4
abbrev sWth : Stmt := top 5
abbrev sSta : Stmt := top 6
abbrev sTof : Stmt := top 7
abbrev sRis : Stmt := top 8
abbrev sWor : Stmt := top 9
abbrev sEnd : Stmt := top 19
abbrev sEip : Stmt := top 20
abbrev sGoe : Stmt := top 21
abbrev sItp : Stmt := top 22
abbrev sIst : Stmt := top 23
abbrev sIsr : Stmt := top 24
abbrev sCll : Stmt := top 29
abbrev sIcs : Stmt := top 30
abbrev sIfs : Stmt := top 31
abbrev sEnt : Stmt := top 32
abbrev sIos : Stmt := top 33
abbrev sKno : Stmt := top 34
abbrev sCel : Stmt := top 36
abbrev sMix : Stmt := top 37
abbrev sNea : Stmt := top 38
abbrev sOff : Stmt := top 39
abbrev sWds : Stmt := top 40
abbrev sRow : Stmt := top 41
abbrev sStu : Stmt := top 42
abbrev sFro : Stmt := top 43
abbrev sSpc : Stmt := top 44
abbrev sSpr : Stmt := top 45
abbrev sSpe : Stmt := top 46
abbrev sSpo : Stmt := top 47
abbrev sOth : Stmt := top 48
abbrev sLis : Stmt := top 49
abbrev sLaw : Stmt := top 50
/-- what the top has of names -/
structure Txt (mg : Str → Option Value) : Prop where
  isi : mg "isinstance" = none
  int : mg "int" = none
  bol : mg "bool" = none
  str : mg "str" = none
  len : mg "len" = none
  rng : mg "range" = none
  lst : mg "list" = none
  tup : mg "tuple" = none
  min : mg "min" = none
  max : mg "max" = none
  all : mg "all" = none
  zip : mg "zip" = none
  enu : mg "enumerate" = none
  sum : mg "sum" = none
  rev : mg "reversed" = none
  sgn : ∃ t, mg "SIGNS" = some (.str sigS t)
  msg : ∃ t, mg "MOST_SIGNS" = some (.int 8 t)
  grt : ∃ t, mg "GREATEST" = some (.int 4294967295 t)
  mc : ∃ t, mg "MOST_CELLS" = some (.int 40 t)
  pc8 : ∃ t, mg "PIECE_CELLS" = some (.int 8 t)
  fp : ∃ t, mg "FIRST_PLACE" = some (.int 2 t)
  lp : ∃ t, mg "LAST_PLACE" = some (.int 599 t)
  at0 : ∃ t, mg "AT" = some (.int 0 t)
  lg : ∃ t, mg "LONG" = some (.int 1 t)
  pl2 : ∃ t, mg "PLACE" = some (.int 2 t)
  sk3 : ∃ t, mg "SKIP" = some (.int 3 t)
  mce : ∃ t, mg "MOST_CELL" = some (.int 999999 t)
  mli : ∃ t, mg "MOST_LIMIT" = some (.int 999 t)
  men : ∃ t, mg "MOST_ENTRIES" = some (.int 8 t)
section
variable (K : PySem.W.Frag)
theorem kit_tt : PySem.W.kitOne K (.type "tuple") (.type "tuple") = some true := by kernel_rfl
theorem kit_bb : PySem.W.kitOne K (.type "bool") (.type "bool") = some true := by kernel_rfl
end
end K22
set_option maxHeartbeats 4000000
namespace K22
open PySem L2
section
variable {P : Program} {w : World} {K : PySem.W.Frag} {mg : Str → Option Value} {base : Heap} {f fWho fWth fTof fEnd fEip fGoe fItp fIst : Addr} {fd dWho dWth dTof dEnd dEip dGoe dItp dIst : FuncData}
theorem scWho : FnScope ["thing"] ["thing"] (defScope sWho) := ⟨rfl, rfl, rfl, by decide +kernel, rfl, by decide +kernel, by decide +kernel⟩
theorem ok_Who (F : Fun K "is_whole" "is_whole" sWho f fd) (T : Txt mg) : FnOk P w K mg base CX0 1 f fd ["thing"] spWho0 := by
  refine F.ok scWho (fun vs H Q E h => ?_) (fun cdv A outer s H vs Q E hr h => ?_)
  · obtain ⟨x, rfl, _⟩ := h
    rfl
  obtain ⟨x, rfl, hT, q⟩ := h
  obtain ⟨t, ty, k1, k2⟩ := hT.ty (K := K)
  refine ⟨_, (pss_one (ps_ret (pe_and (pe_callB call_isinst rfl T.isi PyProof.Rows.boot_isinstance (pa_cons (pv 0) (pa_cons (pe_bltn (v := .ty "int") rfl T.int PyProof.Rows.boot_int rfl) pa_nil))) (pe_one (pe_not (pe_callB call_isinst rfl T.isi PyProof.Rows.boot_isinstance (pa_cons (pv 0) (pa_cons (pe_bltn (v := .ty "bool") rfl T.bol PyProof.Rows.boot_bool rfl) pa_nil)))))))), ?_⟩
  refine ⟨_, rfl, x, "int", t, isI0 x, rfl, ty, k1, _, rfl, ?_⟩
  unfold who0 at q
  refine ite2 (fun c => ?_) (fun c => ?_)
  · refine ⟨_, rfl, x, "bool", t, isB0 x, rfl, ty, k2, _, rfl, ?_⟩
    rw [c] at q
    exact q
  · rw [Bool.not_eq_true] at c
    rw [c] at q
    exact q
theorem scWth : FnScope ["thing", "low", "high"] ["thing", "low", "high"] (defScope sWth) := ⟨rfl, rfl, rfl, by decide +kernel, rfl, by decide +kernel, by decide +kernel⟩
theorem ok_Wth (F : Fun K "is_within" "is_within" sWth f fd) {fW : Addr} {dW : FuncData} (hWho : Has K mg "is_whole" sWho ["thing"] fW dW) (GWho : FnOk P w K mg base CX0 1 fW dW ["thing"] spWho0) : FnOk P w K mg base CX0 2 f fd ["thing", "low", "high"] spWth0 := by
  refine F.ok scWth (fun vs H Q E h => ?_) (fun cdv A outer s H vs Q E hr h => ?_)
  · obtain ⟨x, l, h, rfl, _⟩ := h
    rfl
  obtain ⟨x, l, h, rfl, hT, q⟩ := h
  refine ⟨_, (pss_one (ps_ret (pe_and (pe_call GWho (hr.mono (by decide)) rfl hWho.nm hWho.fn.kp hWho.bd .nil pass0 (pa_cons (pv 0) pa_nil)) (pe_one (pe_chain op_le op_le (pv 1) (pv 0) (pv 2)))))), ?_⟩
  refine ⟨_, rfl, x, rfl, hT, _, rfl, ?_⟩
  rcases hT with ⟨n, rfl⟩ | ⟨z, rfl⟩ | ⟨b, rfl⟩ | rfl | ⟨a, z, rfl, _⟩ | ⟨a, z, rfl, _⟩ | ⟨a, z, rfl, _⟩
  · refine iteT ?_
    refine ⟨_, rfl, _, rfl, _, _, rfl, rfl, _, rfl, ?_⟩
    have q' : Q (.bl (decide (l ≤ n) && decide (n ≤ h))) H := q
    refine ite2 (fun c => ?_) (fun c => ?_)
    · rw [c] at q'
      exact ⟨_, rfl, _, _, rfl, rfl, q'⟩
    · rw [Bool.not_eq_true] at c
      rw [c] at q'
      exact q'
  all_goals exact iteF q
/-! ### is_tuple_of -/
theorem dec_len (a b : Nat) : decide (V.int ((a : Nat) : Int) = V.int ((b : Nat) : Int)) = decide (a = b) := decide_eq_decide.mpr ⟨fun h => by injection h with h; omega, fun h => by rw [h]⟩
theorem dec_int (a b : Int) : decide (V.int a = V.int b) = decide (a = b) := decide_eq_decide.mpr ⟨fun h => by injection h, fun h => by rw [h]⟩
def spTof : Sp := fun vs H Q _ => ∃ (x : V) (n : Nat), vs = [x, .int (n : Int)] ∧ ((∃ q xs, x = .ref q ∧ H q = some (.tup xs) ∧ Q (.bl (decide (xs.length = n))) H) ∨ (NotT H x ∧ Q (.bl false) H))
theorem scTof : FnScope ["thing", "many"] ["thing", "many"] (defScope sTof) := ⟨rfl, rfl, rfl, by decide +kernel, rfl, by decide +kernel, by decide +kernel⟩
theorem ok_Tof (F : Fun K "is_tuple_of" "is_tuple_of" sTof f fd) (T : Txt mg) : FnOk P w K mg base CX0 1 f fd ["thing", "many"] spTof := by
  refine F.ok scTof (fun vs H Q E h => ?_) (fun cdv A outer s H vs Q E hr h => ?_)
  · obtain ⟨x, n, rfl, _⟩ := h
    rfl
  obtain ⟨x, n, rfl, h⟩ := h
  refine ⟨_, (pss_one (ps_ret (pe_and (pe_callB call_isinst rfl T.isi PyProof.Rows.boot_isinstance (pa_cons (pv 0) (pa_cons (pe_bltn (v := .ty "tuple") rfl T.tup PyProof.Rows.boot_tuple rfl) pa_nil))) (pe_one (pe_cmpR op_eq (pe_callB call_len_seq rfl T.len PySem.boot_len (pa_cons (pv 0) pa_nil)) (pv 1) (nomark _)))))), ?_⟩
  rcases h with ⟨q, xs, rfl, hq, qq⟩ | ⟨hN, qq⟩
  · refine ⟨_, rfl, _, _, _, true, rfl, .tup hq, kit_tt K, _, rfl, iteT ?_⟩
    refine ⟨_, rfl, q, _, rfl, .inr (SqT.of hq), _, rfl, rfl, ?_⟩
    rw [dec_len]
    exact qq
  · obtain ⟨t, ty, k⟩ := hN.kit (K := K)
    exact ⟨_, rfl, x, _, t, false, rfl, ty, k, _, rfl, iteF qq⟩
/-! ### end_of, end_in_piece, goes_on -/
def spEnd : Sp := fun vs H Q _ => ∃ (q : Addr) (r : S4), vs = [.ref q] ∧ H q = some (.tup (tv r)) ∧ Q (.int (r.1 + r.2.1)) H
theorem scEnd : FnScope ["stretch"] ["stretch"] (defScope sEnd) := ⟨rfl, rfl, rfl, by decide +kernel, rfl, by decide +kernel, by decide +kernel⟩
theorem ok_End (F : Fun K "end_of" "end_of" sEnd f fd) (T : Txt mg) : FnOk P w K mg base CX0 1 f fd ["stretch"] spEnd := by
  refine F.ok scEnd (fun vs H Q E h => ?_) (fun cdv A outer s H vs Q E hr h => ?_)
  · obtain ⟨q, r, rfl, _⟩ := h
    rfl
  obtain ⟨q, r, rfl, hq, qq⟩ := h
  obtain ⟨t1, at0⟩ := T.at0
  obtain ⟨t2, lg⟩ := T.lg
  refine ⟨_, (pss_one (ps_ret (pe_op op_add (pe_ix ix_tup (pv 0) (pe_glob (v := .int 0) rfl at0 ⟨_, rfl⟩) (fun _ _ => rfl)) (pe_ix ix_tup (pv 0) (pe_glob (v := .int 1) rfl lg ⟨_, rfl⟩) (fun _ _ => rfl))))), ?_⟩
  exact ⟨_, rfl, q, _, _, .int r.1, rfl, rfl, SqT.of hq, rfl, _, rfl, q, _, _, .int r.2.1, rfl, rfl, SqT.of hq, rfl, _, _, rfl, rfl, qq⟩
def spEip : Sp := fun vs H Q _ => ∃ (q : Addr) (r : S4), vs = [.ref q] ∧ H q = some (.tup (tv r)) ∧ Q (.int (r.2.2.2 + r.2.1)) H
theorem scEip : FnScope ["stretch"] ["stretch"] (defScope sEip) := ⟨rfl, rfl, rfl, by decide +kernel, rfl, by decide +kernel, by decide +kernel⟩
theorem ok_Eip (F : Fun K "end_in_piece" "end_in_piece" sEip f fd) (T : Txt mg) : FnOk P w K mg base CX0 1 f fd ["stretch"] spEip := by
  refine F.ok scEip (fun vs H Q E h => ?_) (fun cdv A outer s H vs Q E hr h => ?_)
  · obtain ⟨q, r, rfl, _⟩ := h
    rfl
  obtain ⟨q, r, rfl, hq, qq⟩ := h
  obtain ⟨t1, sk3⟩ := T.sk3
  obtain ⟨t2, lg⟩ := T.lg
  refine ⟨_, (pss_one (ps_ret (pe_op op_add (pe_ix ix_tup (pv 0) (pe_glob (v := .int 3) rfl sk3 ⟨_, rfl⟩) (fun _ _ => rfl)) (pe_ix ix_tup (pv 0) (pe_glob (v := .int 1) rfl lg ⟨_, rfl⟩) (fun _ _ => rfl))))), ?_⟩
  exact ⟨_, rfl, q, _, _, .int r.2.2.2, rfl, rfl, SqT.of hq, rfl, _, rfl, q, _, _, .int r.2.1, rfl, rfl, SqT.of hq, rfl, _, _, rfl, rfl, qq⟩
def spGoe : Sp := fun vs H Q _ => ∃ (q q' : Addr) (r r' : S4), vs = [.ref q, .ref q'] ∧ H q = some (.tup (tv r)) ∧ H q' = some (.tup (tv r')) ∧ Q (.bl (goOn r r')) H
theorem scGoe : FnScope ["ahead", "stretch"] ["ahead", "stretch"] (defScope sGoe) := ⟨rfl, rfl, rfl, by decide +kernel, rfl, by decide +kernel, by decide +kernel⟩
theorem ok_Goe (F : Fun K "goes_on" "goes_on" sGoe f fd) (hEnd : Has K mg "end_of" sEnd ["stretch"] fEnd dEnd) (GEnd : FnOk P w K mg base CX0 1 fEnd dEnd ["stretch"] spEnd)
    (hEip : Has K mg "end_in_piece" sEip ["stretch"] fEip dEip) (GEip : FnOk P w K mg base CX0 1 fEip dEip ["stretch"] spEip) (T : Txt mg) : FnOk P w K mg base CX0 2 f fd ["ahead", "stretch"] spGoe := by
  refine F.ok scGoe (fun vs H Q E h => ?_) (fun cdv A outer s H vs Q E hr h => ?_)
  · obtain ⟨q, q', r, r', rfl, _⟩ := h
    rfl
  obtain ⟨q, q', r, r', rfl, hq, hq', qq⟩ := h
  obtain ⟨t1, at0⟩ := T.at0
  obtain ⟨t2, pl2⟩ := T.pl2
  obtain ⟨t3, sk3⟩ := T.sk3
  refine ⟨_, (pss_cons (ps_if (PW.pt (pw_or (pt_cmpR op_ne (pe_call GEnd (hr.mono (by decide)) rfl hEnd.nm hEnd.fn.kp hEnd.bd .nil pass0 (pa_cons (pv 0) pa_nil)) (pe_ix ix_tup (pv 1) (pe_glob (v := .int 0) rfl at0 ⟨_, rfl⟩) (fun _ _ => rfl)) (nomark _)) (pw_or1 (pt_cmpR op_ne (pe_ix ix_tup (pv 0) (pe_glob (v := .int 2) rfl pl2 ⟨_, rfl⟩) (fun _ _ => rfl)) (pe_ix ix_tup (pv 1) (pe_glob (v := .int 2) rfl pl2 ⟨_, rfl⟩) (fun _ _ => rfl)) (nomark _)))))
    (pss_one (ps_ret pe_bl))
    pss_nil)
    (pss_one (ps_ret (pe_cmpR op_eq (pe_call GEip (hr.mono (by decide)) rfl hEip.nm hEip.fn.kp hEip.bd .nil pass0 (pa_cons (pv 0) pa_nil)) (pe_ix ix_tup (pv 1) (pe_glob (v := .int 3) rfl sk3 ⟨_, rfl⟩) (fun _ _ => rfl)) (nomark _))))), ?_⟩
  refine ⟨_, rfl, q, r, rfl, hq, _, rfl, q', _, _, .int r'.1, rfl, rfl, SqT.of hq', rfl, rfl, _, rfl, ?_⟩
  unfold goOn at qq
  rw [dec_int]
  by_cases c1 : r.1 + r.2.1 = r'.1
  · rw [decide_eq_true c1] at qq ⊢
    refine iteF ?_
    refine ⟨_, rfl, q, _, _, .int r.2.2.1, rfl, rfl, SqT.of hq, rfl, _, rfl, q', _, _, .int r'.2.2.1, rfl, rfl, SqT.of hq', rfl, rfl, _, rfl, ?_⟩
    rw [dec_int]
    by_cases c2 : r.2.2.1 = r'.2.2.1
    · rw [decide_eq_true c2] at qq ⊢
      refine iteF ?_
      refine ⟨_, rfl, q, r, rfl, hq, _, rfl, q', _, _, .int r'.2.2.2, rfl, rfl, SqT.of hq', rfl, rfl, ?_⟩
      rw [dec_int]
      exact qq
    · rw [decide_eq_false c2] at qq ⊢
      exact iteT qq
  · rw [decide_eq_false c1] at qq ⊢
    exact iteT (iteT qq)
/-! ### is_tree_place, is_stretch -/
def spItp : Sp := fun vs H Q _ => ∃ x, vs = [x] ∧ Ty0 H x ∧ Q (.bl (wth0 x 2 599)) H
theorem scItp : FnScope ["thing"] ["thing"] (defScope sItp) := ⟨rfl, rfl, rfl, by decide +kernel, rfl, by decide +kernel, by decide +kernel⟩
theorem ok_Itp (F : Fun K "is_tree_place" "is_tree_place" sItp f fd) (hWth : Has K mg "is_within" sWth ["thing", "low", "high"] fWth dWth) (GWth : FnOk P w K mg base CX0 2 fWth dWth ["thing", "low", "high"] spWth0) (T : Txt mg) : FnOk P w K mg base CX0 3 f fd ["thing"] spItp := by
  refine F.ok scItp (fun vs H Q E h => ?_) (fun cdv A outer s H vs Q E hr h => ?_)
  · obtain ⟨x, rfl, _⟩ := h
    rfl
  obtain ⟨x, rfl, hT, qq⟩ := h
  obtain ⟨t1, fp⟩ := T.fp
  obtain ⟨t2, lp⟩ := T.lp
  refine ⟨_, (pss_one (ps_ret (pe_call GWth (hr.mono (by decide)) rfl hWth.nm hWth.fn.kp hWth.bd .nil pass0 (pa_cons (pv 0) (pa_cons (pe_glob (v := .int 2) rfl fp ⟨_, rfl⟩) (pa_cons (pe_glob (v := .int 599) rfl lp ⟨_, rfl⟩) pa_nil)))))), ?_⟩
  exact ⟨_, rfl, x, 2, 599, rfl, hT, qq⟩
def spIst : Sp := fun vs H Q _ => ∃ (x : V) (o : Option S4), vs = [x] ∧ PartO H x o ∧ ∀ H', Same H H' → Q (.bl (o.any okP)) H'
theorem scIst : FnScope ["thing"] ["thing"] (defScope sIst) := ⟨rfl, rfl, rfl, by decide +kernel, rfl, by decide +kernel, by decide +kernel⟩
theorem ok_Ist (F : Fun K "is_stretch" "is_stretch" sIst f fd) (hTof : Has K mg "is_tuple_of" sTof ["thing", "many"] fTof dTof) (GTof : FnOk P w K mg base CX0 1 fTof dTof ["thing", "many"] spTof)
    (hWho : Has K mg "is_whole" sWho ["thing"] fWho dWho) (GWho : FnOk P w K mg base CX0 1 fWho dWho ["thing"] spWho0)
    (hEnd : Has K mg "end_of" sEnd ["stretch"] fEnd dEnd) (GEnd : FnOk P w K mg base CX0 1 fEnd dEnd ["stretch"] spEnd)
    (hEip : Has K mg "end_in_piece" sEip ["stretch"] fEip dEip) (GEip : FnOk P w K mg base CX0 1 fEip dEip ["stretch"] spEip)
    (hItp : Has K mg "is_tree_place" sItp ["thing"] fItp dItp) (GItp : FnOk P w K mg base CX0 3 fItp dItp ["thing"] spItp) (T : Txt mg) : FnOk P w K mg base CX0 4 f fd ["thing"] spIst := by
  refine F.ok scIst (fun vs H Q E h => ?_) (fun cdv A outer s H vs Q E hr h => ?_)
  · obtain ⟨x, o, rfl, _⟩ := h
    rfl
  obtain ⟨x, o, rfl, hP, qq⟩ := h
  obtain ⟨t1, at0⟩ := T.at0
  obtain ⟨t2, lg⟩ := T.lg
  obtain ⟨t3, sk3⟩ := T.sk3
  obtain ⟨t4, mc⟩ := T.mc
  obtain ⟨t5, pc8⟩ := T.pc8
  obtain ⟨t6, pl2⟩ := T.pl2
  refine ⟨_, (pss_cons (ps_if (PW.pt (pw_or (pt_not (pt_val (pe_call GTof (hr.mono (by decide)) rfl hTof.nm hTof.fn.kp hTof.bd .nil pass0 (pa_cons (pv 0) (pa_cons pe_int pa_nil))))) (pw_or1 (pt_not (pt_val (pe_callB (call_all hr.hd) rfl T.all PyProof.Rows.boot_all (pa_cons (pe_comp [] [] (pi_tup (pv 0)) (fun _ _ _ _ _ _ => pts_nil)
          (fun _ _ _ _ _ _ => (pe_call GWho (hr.mono (by decide)) rfl hWho.nm hWho.fn.kp hWho.bd .nil pass0 (pa_cons (pv 0) pa_nil)))
          rfl (by decide +kernel) (by decide +kernel) rfl (by decide +kernel) (fun _ _ z => nomatch z) rfl (by decide +kernel) rfl) pa_nil)))))))
    (pss_one (ps_ret pe_bl))
    pss_nil)
    (pss_cons (ps_if (PW.pt (pw_or (pt_cmpR op_lt (pe_ix ix_tup (pv 0) (pe_glob (v := .int 0) rfl at0 ⟨_, rfl⟩) (fun _ _ => rfl)) pe_int (nomark _)) (pw_or (pt_cmpR op_lt (pe_ix ix_tup (pv 0) (pe_glob (v := .int 1) rfl lg ⟨_, rfl⟩) (fun _ _ => rfl)) pe_int (nomark _)) (pw_or1 (pt_cmpR op_lt (pe_ix ix_tup (pv 0) (pe_glob (v := .int 3) rfl sk3 ⟨_, rfl⟩) (fun _ _ => rfl)) pe_int (nomark _))))))
    (pss_one (ps_ret pe_bl))
    pss_nil)
    (pss_cons (ps_if (PW.pt (pw_or (pt_cmpR op_gt (pe_call GEnd (hr.mono (by decide)) rfl hEnd.nm hEnd.fn.kp hEnd.bd .nil pass0 (pa_cons (pv 0) pa_nil)) (pe_glob (v := .int 40) rfl mc ⟨_, rfl⟩) (nomark _)) (pw_or1 (pt_cmpR op_gt (pe_call GEip (hr.mono (by decide)) rfl hEip.nm hEip.fn.kp hEip.bd .nil pass0 (pa_cons (pv 0) pa_nil)) (pe_glob (v := .int 8) rfl pc8 ⟨_, rfl⟩) (nomark _)))))
    (pss_one (ps_ret pe_bl))
    pss_nil)
    (pss_one (ps_ret (pe_call GItp (hr.mono (by decide)) rfl hItp.nm hItp.fn.kp hItp.bd .nil pass0 (pa_cons (pe_ix ix_tup (pv 0) (pe_glob (v := .int 2) rfl pl2 ⟨_, rfl⟩) (fun _ _ => rfl)) pa_nil))))))), ?_⟩
  rcases hP with ⟨q, xs, rfl, hq, hy, hl, ho⟩ | ⟨hN, rfl⟩
  rotate_left
  · exact ⟨_, rfl, x, 4, rfl, .inr ⟨hN, _, rfl, iteT (iteT (qq H (Same.refl H)))⟩⟩
  refine ⟨_, rfl, .ref q, 4, rfl, .inl ⟨q, xs, rfl, hq, _, rfl, ?_⟩⟩
  by_cases c4 : xs.length = 4
  rotate_left
  · rw [decide_eq_false c4]
    rw [ho, st4_len c4] at qq
    exact iteT (iteT (qq H (Same.refl H)))
  rw [decide_eq_true c4]
  refine iteF ?_
  refine ⟨_, rfl, q, rfl, ⟨_, SqT.of hq⟩, fun p hp => ?_⟩
  refine comp_tup (K := K) (a := q) (xs := xs) (fun i ys H2 => ys = (xs.take i).map (fun y => V.bl (who0 y)) ∧ Same H H2 ∧ H2 p = some (.lst ys)) ⟨rfl, same_new hp _, upd_same⟩ (fun i ys H2 _ h2 => SqT.of (h2.2.1 _ _ hq)) ?_ ?_
  · rintro i y ys H2 hi ⟨rfl, s2, e2⟩
    refine ttT ⟨_, rfl, y, rfl, (hy y (List.mem_of_getElem? hi)).mono s2, e2, ?_, (take_snoc (fun y => V.bl (who0 y)) hi).symm, same_over s2 hp _, upd_same⟩
    rw [List.length_map]
    have := List.length_take_le' i xs
    exact small (by omega)
  rintro ys H2 ⟨rfl, s2, e2⟩
  rw [List.take_length] at e2
  refine ⟨p, xs.map who0, rfl, SqL.of (by rw [e2, List.map_map]; rfl), _, rfl, ?_⟩
  have ea : (xs.map who0).all id = xs.all who0 := by
    rw [List.all_map]
    rfl
  rw [ea]
  have q2 := s2 _ _ hq
  cases hw : xs.all who0 with
  | false =>
    rw [ho, (st4_who c4).1 hw] at qq
    exact iteT (qq H2 s2)
  | true =>
    obtain ⟨r, rfl⟩ := (st4_who c4).2 hw
    rw [ho, st4_tv] at qq
    have qq' : ∀ b, okP r = b → Q (.bl b) H2 := fun b e => by rw [← e]; exact qq H2 s2
    have t2 := SqT.of (K := K) q2
    refine iteF ?_
    have no : okP r ≠ true → okP r = false := fun h => Bool.eq_false_iff.mpr h
    refine ⟨_, rfl, q, _, _, .int r.1, rfl, rfl, t2, rfl, _, _, rfl, rfl, _, rfl, ite2 (fun c => ?_) (fun c => ?_)⟩
    · have c' : r.1 < 0 := of_decide_eq_true c
      refine iteT (qq' false (no fun h => ?_))
      unfold okP at h
      simp only [Bool.and_eq_true, decide_eq_true_eq] at h
      omega
    have b1 : ¬ r.1 < 0 := fun e => c (decide_eq_true e)
    refine ⟨_, rfl, q, _, _, .int r.2.1, rfl, rfl, t2, rfl, _, _, rfl, rfl, _, rfl, ite2 (fun c => ?_) (fun c => ?_)⟩
    · have c' : r.2.1 < 1 := of_decide_eq_true c
      refine iteT (qq' false (no fun h => ?_))
      unfold okP at h
      simp only [Bool.and_eq_true, decide_eq_true_eq] at h
      omega
    have b2 : ¬ r.2.1 < 1 := fun e => c (decide_eq_true e)
    refine ⟨_, rfl, q, _, _, .int r.2.2.2, rfl, rfl, t2, rfl, _, _, rfl, rfl, _, rfl, ite2 (fun c => ?_) (fun c => ?_)⟩
    · have c' : r.2.2.2 < 0 := of_decide_eq_true c
      refine qq' false (no fun h => ?_)
      unfold okP at h
      simp only [Bool.and_eq_true, decide_eq_true_eq] at h
      omega
    have b3 : ¬ r.2.2.2 < 0 := fun e => c (decide_eq_true e)
    refine ⟨_, rfl, q, r, rfl, q2, _, _, rfl, rfl, _, rfl, ite2 (fun c => ?_) (fun c => ?_)⟩
    · have c' : 40 < r.1 + r.2.1 := of_decide_eq_true c
      refine iteT (qq' false (no fun h => ?_))
      unfold okP at h
      simp only [Bool.and_eq_true, decide_eq_true_eq] at h
      omega
    have b4 : ¬ 40 < r.1 + r.2.1 := fun e => c (decide_eq_true e)
    refine ⟨_, rfl, q, r, rfl, q2, _, _, rfl, rfl, _, rfl, ite2 (fun c => ?_) (fun c => ?_)⟩
    · have c' : 8 < r.2.2.2 + r.2.1 := of_decide_eq_true c
      refine qq' false (no fun h => ?_)
      unfold okP at h
      simp only [Bool.and_eq_true, decide_eq_true_eq] at h
      omega
    have b5 : ¬ 8 < r.2.2.2 + r.2.1 := fun e => c (decide_eq_true e)
    refine ⟨_, rfl, q, _, _, .int r.2.2.1, rfl, rfl, t2, rfl, .int r.2.2.1, rfl, Ty0.int _, qq' _ ?_⟩
    show okP r = (decide (2 ≤ r.2.2.1) && decide (r.2.2.1 ≤ 599))
    unfold okP
    rw [decide_eq_true (show 0 ≤ r.1 by omega), decide_eq_true (show 1 ≤ r.2.1 by omega), decide_eq_true (show 0 ≤ r.2.2.2 by omega), decide_eq_true (show r.1 + r.2.1 ≤ 40 by omega), decide_eq_true (show r.2.2.2 + r.2.1 ≤ 8 by omega)]
    rfl
/-! ### is_row -/
def spIsr : Sp := fun vs H Q _ => ∃ (x : V) (size : Int), vs = [x, .int size] ∧ ((∃ q ys os, x = .ref q ∧ H q = some (.tup ys) ∧ PartsO H ys os ∧ ys.length ≤ 100 ∧ ∀ H', Same H H' → Q (.bl (rowO os size)) H') ∨ (NotT H x ∧ Q (.bl false) H))
theorem scIsr : FnScope ["thing", "size", "ahead", "stretch"] ["thing", "size"] (defScope sIsr) := ⟨rfl, rfl, rfl, by decide +kernel, rfl, by decide +kernel, by decide +kernel⟩
theorem ok_Isr (F : Fun K "is_row" "is_row" sIsr f fd) (hIst : Has K mg "is_stretch" sIst ["thing"] fIst dIst) (GIst : FnOk P w K mg base CX0 4 fIst dIst ["thing"] spIst)
    (hEnd : Has K mg "end_of" sEnd ["stretch"] fEnd dEnd) (GEnd : FnOk P w K mg base CX0 1 fEnd dEnd ["stretch"] spEnd)
    (hGoe : Has K mg "goes_on" sGoe ["ahead", "stretch"] fGoe dGoe) (GGoe : FnOk P w K mg base CX0 2 fGoe dGoe ["ahead", "stretch"] spGoe) (T : Txt mg) : FnOk P w K mg base CX0 5 f fd ["thing", "size"] spIsr := by
  refine F.ok scIsr (fun vs H Q E h => ?_) (fun cdv A outer s H vs Q E hr h => ?_)
  · obtain ⟨x, size, rfl, _⟩ := h
    rfl
  obtain ⟨x, size, rfl, h⟩ := h
  obtain ⟨t1, at0⟩ := T.at0
  refine ⟨_, (pss_cons (ps_if (PW.pt (pw_or (pt_not (pt_val (pe_callB call_isinst rfl T.isi PyProof.Rows.boot_isinstance (pa_cons (pv 0) (pa_cons (pe_bltn (v := .ty "tuple") rfl T.tup PyProof.Rows.boot_tuple rfl) pa_nil))))) (pw_or1 (pt_not (pt_val (pe_callB (call_all hr.hd) rfl T.all PyProof.Rows.boot_all (pa_cons (pe_comp [] [] (pi_tup (pv 0)) (fun _ _ _ _ _ _ => pts_nil)
          (fun _ _ _ _ _ _ => (pe_call GIst (hr.mono (by decide)) rfl hIst.nm hIst.fn.kp hIst.bd .nil pass0 (pa_cons (pv 0) pa_nil)))
          rfl (by decide +kernel) (by decide +kernel) rfl (by decide +kernel) (fun _ _ z => nomatch z) rfl (by decide +kernel) rfl) pa_nil)))))))
    (pss_one (ps_ret pe_bl))
    pss_nil)
    (pss_cons (ps_for PassesOwn.never rfl (pi_zipT rfl T.zip (pa_cons (pv 0) (pa_cons (pe_slice sl_tupW (pv 0) (po_some pe_int) po_none) pa_nil))) (pg_tup rfl (pgs_cons (pg_name (i := 2) scIsr.nd rfl (Or.inl rfl)) (pgs_cons (pg_name (i := 3) scIsr.nd rfl (Or.inl rfl)) pgs_nil)))
    (pss_one (ps_if (PW.pt (pw_or (pt_cmpR op_gt (pe_call GEnd (hr.mono (by decide)) rfl hEnd.nm hEnd.fn.kp hEnd.bd .nil pass0 (pa_cons (pv 2) pa_nil)) (pe_ix ix_tup (pv 3) (pe_glob (v := .int 0) rfl at0 ⟨_, rfl⟩) (fun _ _ => rfl)) (nomark _)) (pw_or1 (pt_val (pe_call GGoe (hr.mono (by decide)) rfl hGoe.nm hGoe.fn.kp hGoe.bd .nil pass0 (pa_cons (pv 2) (pa_cons (pv 3) pa_nil)))))))
    (pss_one (ps_ret pe_bl))
    pss_nil)))
    (pss_one (ps_ret (pe_callB (call_all hr.hd) rfl T.all PyProof.Rows.boot_all (pa_cons (pe_comp [1] ["size"] (pi_tup (pv 0)) (fun _ _ _ _ _ _ => pts_nil)
          (fun _ _ _ _ _ _ => (pe_cmpR op_le (pe_call GEnd (hr.mono (by decide)) rfl hEnd.nm hEnd.fn.kp hEnd.bd .nil pass0 (pa_cons (pv 0) pa_nil)) (pv 1) (nomark _)))
          rfl (by decide +kernel) (by decide +kernel) rfl (by decide +kernel) (fun j y hj => by
            match j, hj with
            | 0, hj => cases hj; exact ⟨1, rfl, rfl, rfl, .inl rfl⟩) rfl (by decide +kernel) rfl) pa_nil)))))), ?_⟩
  rcases h with ⟨q, ys, os, rfl, hq, hP, hl, qq⟩ | ⟨hN, qq⟩
  rotate_left
  · obtain ⟨t, ty, k⟩ := hN.kit (K := K)
    exact ⟨_, rfl, x, _, t, false, rfl, ty, k, _, rfl, iteT (iteT qq)⟩
  have lo := hP.len
  refine ⟨_, rfl, _, _, _, true, rfl, .tup hq, kit_tt K, _, rfl, iteF ?_⟩
  refine ⟨_, rfl, q, rfl, ⟨_, SqT.of hq⟩, fun p hp => ?_⟩
  refine comp_tup (K := K) (a := q) (xs := ys) (fun i zs H2 => zs = ((os.take i).map (fun o => o.any okP)).map V.bl ∧ Same H H2 ∧ H2 p = some (.lst zs)) ⟨rfl, same_new hp _, upd_same⟩ (fun i zs H2 _ h2 => SqT.of (h2.2.1 _ _ hq)) ?_ ?_
  · rintro i y zs H2 hi ⟨rfl, s2, e2⟩
    obtain ⟨o, ho, hPo⟩ := hP.get hi
    refine ttT ⟨_, rfl, y, o, rfl, hPo.mono s2, fun H3 s3 => ⟨s3 _ _ e2, ?_, ?_, same_over (s2.trans s3) hp _, upd_same⟩⟩
    · rw [List.length_map, List.length_map]
      have := List.length_take_le' i os
      exact small (by omega)
    · rw [take_next ho, List.map_append, List.map_append]
      rfl
  rintro zs H2 ⟨rfl, s2, e2⟩
  rw [lo, List.take_length] at e2
  refine ⟨p, os.map (fun o => o.any okP), rfl, SqL.of e2, _, rfl, ?_⟩
  have ea : (os.map (fun o => o.any okP)).all id = os.all fun o => o.any okP := by
    rw [List.all_map]
    rfl
  rw [ea]
  cases hw : os.all fun o => o.any okP with
  | false =>
    rw [rowO_no hw] at qq
    exact iteT (qq H2 s2)
  | true =>
    refine iteF ?_
    obtain ⟨rs, h1, h2⟩ := allS_all hw
    have hT : TupsAt H ys (rs.map tv) := by
      rw [allS_eq h1] at hP
      exact hP.tups
    have er : rowO os size = (apart rs && rs.all fun r => decide (r.1 + r.2.1 ≤ size)) := by
      unfold rowO
      rw [h1]
      show isRowP rs size = _
      unfold isRowP
      rw [h2, Bool.true_and]
    rw [er] at qq
    have lr := row_len hT
    -- the loop
    refine ⟨_, rfl, _, rfl, _, rfl, q, ys, rfl, s2 _ _ hq, fun b H3 s3 hb => ?_⟩
    rw [cutV_one] at hb
    have s23 := s2.trans s3
    refine ⟨q, b, ys, ys.drop 1, rfl, SqT.of (s23 _ _ hq), SqT.of hb, for_zipT (K := K) (a := q) (b := b) (xs := ys) (ys := ys.drop 1) (fun i σ H4 => ∃ o2 o3, σ = [some (.ref q), some (.int size), o2, o3] ∧ Same H3 H4 ∧ ∀ (j : Nat) a b, j < i → rs[j]? = some a → rs[j + 1]? = some b → ¬ b.1 < a.1 + a.2.1 ∧ goOn a b = false) ⟨none, none, rfl, Same.refl _, fun j _ _ h => by omega⟩ (fun i σ H4 h => ?_) ?_ ?_⟩
    · obtain ⟨_, _, _, s4, _⟩ := h
      exact ⟨SqT.of (s4 _ _ (s23 _ _ hq)), SqT.of (s4 _ _ hb)⟩
    · rintro i x y t σ H4 hx hy ⟨o2, o3, rfl, s4, ok⟩ ht
      have sA := s23.trans s4
      rw [List.getElem?_drop, Nat.add_comm] at hy
      obtain ⟨r, q1, hr1, rfl, hq1⟩ := row_get (hT.mono sA) hx
      obtain ⟨r', q2, hr2, rfl, hq2⟩ := row_get (hT.mono sA) hy
      have s5 := same_new ht (HO.tup [V.ref q1, V.ref q2])
      have no : (¬ (¬ r'.1 < r.1 + r.2.1 ∧ goOn r r' = false)) → Q (.bl false) (upd H4 t (HO.tup [V.ref q1, V.ref q2])) := fun h => by
        have ap : apart rs = false := by
          rw [← Bool.not_eq_true, apart_iff]
          exact fun k => h (k i r r' hr1 hr2)
        have := qq _ (sA.trans s5)
        rw [ap] at this
        exact this
      refine ⟨t, _, rfl, SqT.of upd_same, rfl, _, _, rfl, _, _, rfl, rfl, ?_⟩
      refine ⟨_, rfl, q1, r, rfl, s5 _ _ hq1, _, rfl, q2, _, _, .int r'.1, rfl, rfl, SqT.of (s5 _ _ hq2), rfl, _, _, rfl, rfl, _, rfl, ite2 (fun c => ?_) (fun c => ?_)⟩
      · have c' : r'.1 < r.1 + r.2.1 := of_decide_eq_true c
        exact iteT (no fun h => h.1 c')
      have c' : ¬ r'.1 < r.1 + r.2.1 := fun e => c (decide_eq_true e)
      refine ⟨_, rfl, _, rfl, q1, q2, r, r', rfl, s5 _ _ hq1, s5 _ _ hq2, _, rfl, ?_⟩
      cases hg : goOn r r' with
      | true => exact iteT (no fun h => by rw [hg] at h; cases h.2)
      | false =>
        refine iteF ⟨_, _, rfl, s4.trans s5, fun j a b hj ha hb' => ?_⟩
        by_cases e : j = i
        · subst e
          rw [hr1] at ha
          rw [hr2] at hb'
          cases ha
          cases hb'
          exact ⟨c', hg⟩
        · exact ok j a b (by omega) ha hb'
    · rintro i σ H4 hi ⟨o2, o3, rfl, s4, ok⟩
      have sA := s23.trans s4
      have ap : apart rs = true := apart_iff.mpr fun j a b ha hb' => ok j a b (by
        have := (List.getElem?_eq_some_iff.mp hb').1
        rw [List.length_drop] at hi
        omega) ha hb'
      rw [ap, Bool.true_and] at qq
      have hqA := sA _ _ hq
      refine ⟨_, rfl, q, rfl, ⟨_, SqT.of hqA⟩, fun p3 hp3 => ?_⟩
      refine comp_tup (K := K) (a := q) (xs := ys) (fun i zs H5 => zs = ((rs.take i).map (fun r => decide (r.1 + r.2.1 ≤ size))).map V.bl ∧ Same H4 H5 ∧ H5 p3 = some (.lst zs)) ⟨rfl, same_new hp3 _, upd_same⟩ (fun i zs H5 _ h5 => SqT.of (h5.2.1 _ _ hqA)) ?_ ?_
      · rintro i y zs H5 hi' ⟨rfl, s5, e5⟩
        obtain ⟨r, q1, hr1, rfl, hq1⟩ := row_get (hT.mono (sA.trans s5)) hi'
        refine ttT ⟨_, rfl, q1, r, rfl, hq1, _, rfl, _, _, rfl, rfl, e5, ?_, ?_, same_over s5 hp3 _, upd_same⟩
        · rw [List.length_map, List.length_map]
          have := List.length_take_le' i rs
          exact small (by omega)
        · rw [take_next hr1, List.map_append, List.map_append]
          rfl
      · rintro zs H5 ⟨rfl, s5, e5⟩
        rw [lr, List.take_length] at e5
        refine ⟨p3, rs.map (fun r => decide (r.1 + r.2.1 ≤ size)), rfl, SqL.of e5, ?_⟩
        have ea2 : (rs.map (fun r => decide (r.1 + r.2.1 ≤ size))).all id = rs.all fun r => decide (r.1 + r.2.1 ≤ size) := by
          rw [List.all_map]
          rfl
        rw [ea2]
        exact qq H5 (sA.trans s5)
end
end K22
namespace L2
open PySem PySem.Spec PyProof.Rows
def g2 (K : PySem.W.Frag) : TG := gTup K 2 (gCons (gName 0) (gCons (gName 1) gNil))
theorem comp_zip2 {K : PySem.W.Frag} {a b p : Addr} {tt : TT} {te : TE} {cs : St} {Q : VK} {H1 : Hp} {xs ys : List V} (Pv : Nat → List V → Hp → Prop) (h0 : Pv 0 [] (upd H1 p (.lst [])))
    (hl : ∀ i zs H, Pv i zs H → SqL K H a xs ∧ SqL K H b ys)
    (hs : ∀ i x y t zs H, xs[i]? = some x → ys[i]? = some y → Pv i zs H → H t = none → tt (some x :: some y :: cs) (upd H t (.tup [x, y])) fun bb H4 => if bb = true then te (some x :: some y :: cs) H4 fun z H5 => H5 p = some (.lst zs) ∧ zs.length < sizeLine ∧ Pv (i + 1) (zs ++ [z]) (upd H5 p (.lst (zs ++ [z]))) else Pv (i + 1) zs H4)
    (hd : ∀ zs H, Pv (min xs.length ys.length) zs H → Q (.ref p) H) : CompWT (fun _ => True) (g2 K) 2 (Itz K a b) p tt te cs Q H1 := by
  refine ⟨fun i m zs H => m = min xs.length ys.length - i ∧ i ≤ min xs.length ys.length ∧ Pv i zs H, ⟨min xs.length ys.length, by simp, Nat.zero_le _, h0⟩, ?_⟩
  rintro i m zs H ⟨rfl, hi, pv⟩
  obtain ⟨q1, q2⟩ := hl i zs H pv
  by_cases hlt : i < min xs.length ys.length
  · have l1 : i < xs.length := by omega
    have l2 : i < ys.length := by omega
    refine .inr ⟨⟨xs, ys, xs[i], ys[i], q1, q2, by simp [l1], by simp [l2]⟩, trivial, Pv (i + 1), fun ys' H' p' => ⟨min xs.length ys.length - (i + 1), by omega, rfl, hlt, p'⟩, fun v H3 y => ?_⟩
    obtain ⟨t, x, y, rfl, ht, rfl, hx, hy⟩ := y
    intro vs0 hv
    match vs0, hv with
    | [w1, w2], _ => exact ⟨t, _, rfl, SqT.of upd_same, rfl, x, _, rfl, y, _, rfl, rfl, ⟨[some x, some y], rfl, rfl⟩, hs i x y t zs H (hx xs q1) (hy ys q2) pv ht⟩
  · have e : i = min xs.length ys.length := by omega
    subst e
    refine .inl ⟨⟨xs, ys, q1, q2, by omega⟩, trivial, hd zs H pv⟩
end L2
set_option maxHeartbeats 4000000
namespace K22
open PySem L2
/-! ### what is a knot, of trees -/
mutual
def sm : Tr → Bool
  | .str z => decide (z.length ≤ 100)
  | .tup l => decide (l.length ≤ 100) && sms l
  | .lst l => decide (l.length ≤ 100) && sms l
  | _ => true
def sms : List Tr → Bool
  | [] => true
  | t :: ts => sm t && sms ts
end
theorem sms_mem : ∀ {l : List Tr} {t : Tr}, sms l = true → t ∈ l → sm t = true
  | u :: ts, t, h, m => by
    unfold sms at h
    rw [Bool.and_eq_true] at h
    cases m with
    | head => exact h.1
    | tail _ m => exact sms_mem h.2 m
theorem sm_tup {l : List Tr} (h : sm (.tup l) = true) : l.length ≤ 100 ∧ ∀ t ∈ l, sm t = true := by
  unfold sm at h
  rw [Bool.and_eq_true, decide_eq_true_eq] at h
  exact ⟨h.1, fun t m => sms_mem h.2 m⟩
def rowT (r : Tr) (n : Int) : Bool := match r with
  | .tup rs => rowO (rs.map st4T) n
  | _ => false
def cellsP (l : List Tr) : Bool := match l with
  | [_, _, .tup cs] => decide (1 ≤ cs.length) && decide (cs.length ≤ 8) && cs.all fun c => wthT c 0 999999
  | _ => false
def fileP (l : List Tr) : Bool := match l with
  | [_, _, .int n, r] => decide (0 ≤ n) && decide (n ≤ 40) && rowT r n
  | _ => false
def entP (t : Tr) : Bool := match t with
  | .tup [a, b, c] => wordT a && (strIs b "folder" || strIs b "file") && wthT c 2 599
  | _ => false
def nameT (t : Tr) : Str := match t with
  | .tup (.str z :: _) => z
  | _ => Str.ofString ""
def risS : List Str → Bool
  | a :: b :: t => decide (a.cps.toList < b.cps.toList) && risS (b :: t)
  | _ => true
def foldP (l : List Tr) : Bool := match l with
  | [_, _, m, .tup es] => wthT m 0 999 && decide (es.length ≤ 8) && es.all entP && risS (es.map nameT)
  | _ => false
def knotP (t : Tr) : Bool := match t with
  | .tup (a :: b :: r) => wthT b 1 4294967295 && (if strIs a "cells" then cellsP (a :: b :: r) else if strIs a "file" then fileP (a :: b :: r) else strIs a "folder" && foldP (a :: b :: r))
  | _ => false
/-- what may be compared with texts -/
def entFl (t : Tr) : Bool := match t with
  | .tup [_, b, _] => flatT b
  | _ => true
def knFl (t : Tr) : Bool := match t with
  | .tup (a :: _ :: r) => flatT a && (match r with
    | [_, .tup es] => es.all entFl
    | _ => true)
  | _ => true
theorem at_tup {H : Hp} {l : List Tr} {vs : List V} {i : Nat} {t : Tr} (k : Ats H l vs) (e : l[i]? = some t) : ∃ v, atI vs (i : Int) = some v ∧ At H t v := by
  obtain ⟨v, hv, h⟩ := k.at e
  exact ⟨v, atI_nat hv, h⟩
section
variable {P : Program} {w : World} {K : PySem.W.Frag} {mg : Str → Option Value} {base : Heap} {f fWth fCll fIsr fTof fWor fItp fEnt fRis fSta fIcs fIfs fIos : Addr} {fd dWth dCll dIsr dTof dWor dItp dEnt dRis dSta dIcs dIfs dIos : FuncData}
def spSta : Sp := fun vs H Q _ => ∃ x t, vs = [x] ∧ At H t x ∧ Q (.bl (wthT t 1 4294967295)) H
theorem scSta : FnScope ["thing"] ["thing"] (defScope sSta) := ⟨rfl, rfl, rfl, by decide +kernel, rfl, by decide +kernel, by decide +kernel⟩
theorem ok_Sta (F : Fun K "is_stamp" "is_stamp" sSta f fd) (hWth : Has K mg "is_within" sWth ["thing", "low", "high"] fWth dWth) (GWth : FnOk P w K mg base CX0 2 fWth dWth ["thing", "low", "high"] spWth0) (T : Txt mg) : FnOk P w K mg base CX0 3 f fd ["thing"] spSta := by
  refine F.ok scSta (fun vs H Q E h => ?_) (fun cdv A outer s H vs Q E hr h => ?_)
  · obtain ⟨x, t, rfl, _⟩ := h
    rfl
  obtain ⟨x, t, rfl, hx, q⟩ := h
  obtain ⟨t1, grt⟩ := T.grt
  refine ⟨_, (pss_one (ps_ret (pe_call GWth (hr.mono (by decide)) rfl hWth.nm hWth.fn.kp hWth.bd .nil pass0 (pa_cons (pv 0) (pa_cons pe_int (pa_cons (pe_glob (v := .int 4294967295) rfl grt ⟨_, rfl⟩) pa_nil)))))), ?_⟩
  rw [← hx.wth] at q
  exact ⟨_, rfl, x, 1, 4294967295, rfl, hx.ty0, q⟩
def spCll : Sp := fun vs H Q _ => ∃ x t, vs = [x] ∧ At H t x ∧ Q (.bl (wthT t 0 999999)) H
theorem scCll : FnScope ["thing"] ["thing"] (defScope sCll) := ⟨rfl, rfl, rfl, by decide +kernel, rfl, by decide +kernel, by decide +kernel⟩
theorem ok_Cll (F : Fun K "is_cell" "is_cell" sCll f fd) (hWth : Has K mg "is_within" sWth ["thing", "low", "high"] fWth dWth) (GWth : FnOk P w K mg base CX0 2 fWth dWth ["thing", "low", "high"] spWth0) (T : Txt mg) : FnOk P w K mg base CX0 3 f fd ["thing"] spCll := by
  refine F.ok scCll (fun vs H Q E h => ?_) (fun cdv A outer s H vs Q E hr h => ?_)
  · obtain ⟨x, t, rfl, _⟩ := h
    rfl
  obtain ⟨x, t, rfl, hx, q⟩ := h
  obtain ⟨t1, mce⟩ := T.mce
  refine ⟨_, (pss_one (ps_ret (pe_call GWth (hr.mono (by decide)) rfl hWth.nm hWth.fn.kp hWth.bd .nil pass0 (pa_cons (pv 0) (pa_cons pe_int (pa_cons (pe_glob (v := .int 999999) rfl mce ⟨_, rfl⟩) pa_nil)))))), ?_⟩
  rw [← hx.wth] at q
  exact ⟨_, rfl, x, 0, 999999, rfl, hx.ty0, q⟩
def spRis : Sp := fun vs H Q _ => ∃ (p : Addr) (zs : List Str), vs = [.ref p] ∧ H p = some (.lst (zs.map V.str)) ∧ zs.length ≤ 100 ∧ ∀ H', Same H H' → Q (.bl (risS zs)) H'
def pairB (zs : List Str) (i : Nat) : Bool := match zs[i]?, zs[i + 1]? with
  | some a, some b => decide (a.cps.toList < b.cps.toList)
  | _, _ => true
theorem ris_all : ∀ zs : List Str, ((List.range (min zs.length (zs.drop 1).length)).map (pairB zs)).all id = risS zs
  | [] => rfl
  | [a] => rfl
  | a :: b :: t => by
    have ih := ris_all (b :: t)
    have e1 : min (a :: b :: t).length ((a :: b :: t).drop 1).length = t.length + 1 := by simp
    have e2 : min (b :: t).length ((b :: t).drop 1).length = t.length := by simp
    rw [e2] at ih
    rw [e1, List.range_succ_eq_map, List.map_cons, List.all_cons, List.map_map]
    show (decide (a.cps.toList < b.cps.toList) && ((List.range t.length).map (pairB (a :: b :: t) ∘ Nat.succ)).all id) = (decide (a.cps.toList < b.cps.toList) && risS (b :: t))
    rw [← ih]
    rfl
theorem scRis : FnScope ["things"] ["things"] (defScope sRis) := ⟨rfl, rfl, rfl, by decide +kernel, rfl, by decide +kernel, by decide +kernel⟩
theorem ok_Ris (F : Fun K "is_rising" "is_rising" sRis f fd) (T : Txt mg) : FnOk P w K mg base CX0 1 f fd ["things"] spRis := by
  refine F.ok scRis (fun vs H Q E h => ?_) (fun cdv A outer s H vs Q E hr h => ?_)
  · obtain ⟨p, zs, rfl, _⟩ := h
    rfl
  obtain ⟨p, zs, rfl, hp, hl, q⟩ := h
  refine ⟨_, (pss_one (ps_ret (pe_callB (call_all hr.hd) rfl T.all PyProof.Rows.boot_all (pa_cons (pe_compR (g := g2 K) ["one", "other"] [] [] (pi_zip rfl T.zip (pa_cons (pv 0) (pa_cons (pe_slice sl_list (pv 0) (po_some pe_int) po_none) pa_nil))) (fun _ _ _ _ _ _ => pg_tup rfl (pgs_cons (pg_name (i := 0) (show (["one", "other"] : List Str).Nodup by decide +kernel) rfl (Or.inl rfl)) (pgs_cons (pg_name (i := 1) (show (["one", "other"] : List Str).Nodup by decide +kernel) rfl (Or.inl rfl)) pgs_nil))) (fun _ _ _ _ _ _ => pts_nil)
          (fun _ _ _ _ _ _ => (pe_cmpR op_lt_str (pv 0) (pv 1) (nomark _)))
          rfl (by decide +kernel) (by decide +kernel) (by decide +kernel) (fun _ _ z => nomatch z) rfl rfl) pa_nil)))), ?_⟩
  refine ⟨_, rfl, _, rfl, 1, rfl, p, _, rfl, SqL.of hp, fun b hb => ?_⟩
  rw [cutV_one]
  have s1 := same_new hb (HO.lst ((zs.map V.str).drop 1))
  have hb2 : upd H b (HO.lst ((zs.map V.str).drop 1)) b = some (.lst ((zs.map V.str).drop 1)) := upd_same
  revert s1 hb2
  generalize upd H b (HO.lst ((zs.map V.str).drop 1)) = H1
  intro s1 hb2
  refine ⟨p, b, _, _, rfl, SqL.of (s1 _ _ hp), SqL.of hb2, fun pk hpk => ?_⟩
  refine comp_zip2 (K := K) (a := p) (b := b) (xs := zs.map V.str) (ys := (zs.map V.str).drop 1) (fun i us H2 => Same H1 H2 ∧ H2 pk = some (.lst us) ∧ us = ((List.range i).map (pairB zs)).map V.bl) ⟨same_new hpk _, upd_same, rfl⟩ (fun i us H2 h2 => ⟨SqL.of (h2.1 _ _ (s1 _ _ hp)), SqL.of (h2.1 _ _ hb2)⟩) ?_ ?_
  · rintro i x y t us H2 hx hy ⟨s2, e2, rfl⟩ ht
    rw [List.getElem?_map] at hx
    obtain ⟨za, ha, rfl⟩ := Option.map_eq_some_iff.mp hx
    rw [List.getElem?_drop, List.getElem?_map] at hy
    obtain ⟨zb, hb', rfl⟩ := Option.map_eq_some_iff.mp hy
    rw [Nat.add_comm] at hb'
    have s3 := same_new ht (HO.tup [V.str za, V.str zb])
    have hi : i < zs.length := (List.getElem?_eq_some_iff.mp ha).1
    refine ttT ⟨_, rfl, _, rfl, za, zb, rfl, rfl, s3 _ _ e2, small (by simp; omega), same_over (s2.trans s3) hpk _, upd_same, ?_⟩
    rw [List.range_succ, List.map_append, List.map_append]
    have ep : pairB zs i = decide (za.cps.toList < zb.cps.toList) := by
      unfold pairB
      rw [ha, hb']
    show _ = _ ++ [V.bl (pairB zs i)]
    rw [ep]
  · rintro us H2 ⟨s2, e2, rfl⟩
    have el : min (zs.map V.str).length ((zs.map V.str).drop 1).length = min zs.length (zs.drop 1).length := by
      simp only [List.length_map, List.length_drop]
    rw [el] at e2
    refine ⟨pk, _, rfl, SqL.of e2, ?_⟩
    rw [ris_all]
    exact q H2 (s1.trans s2)
def spWor : Sp := fun vs H Q _ => ∃ x t, vs = [x] ∧ At H t x ∧ sm t = true ∧ ∀ H', Same H H' → Q (.bl (wordT t)) H'
theorem scWor : FnScope ["thing"] ["thing"] (defScope sWor) := ⟨rfl, rfl, rfl, by decide +kernel, rfl, by decide +kernel, by decide +kernel⟩
theorem ok_Wor (F : Fun K "is_word" "is_word" sWor f fd) (T : Txt mg) : FnOk P w K mg base CX0 1 f fd ["thing"] spWor := by
  refine F.ok scWor (fun vs H Q E h => ?_) (fun cdv A outer s H vs Q E hr h => ?_)
  · obtain ⟨x, t, rfl, _⟩ := h
    rfl
  obtain ⟨x, t, rfl, hx, hs, q⟩ := h
  obtain ⟨ty, ht, _, k3, _⟩ := hx.ty (K := K)
  obtain ⟨t1, sgn⟩ := T.sgn
  obtain ⟨t2, msg⟩ := T.msg
  refine ⟨_, (pss_cons (ps_if (PW.pt (pw_or (pt_not (pt_val (pe_callB call_isinst rfl T.isi PyProof.Rows.boot_isinstance (pa_cons (pv 0) (pa_cons (pe_bltn (v := .ty "str") rfl T.str PyProof.Rows.boot_str rfl) pa_nil))))) (pw_or1 (pt_not (pt_chain op_le op_le pe_int (pe_callB call_len_str rfl T.len PySem.boot_len (pa_cons (pv 0) pa_nil)) (pe_glob (v := .int 8) rfl msg ⟨_, rfl⟩))))))
    (pss_one (ps_ret pe_bl))
    pss_nil)
    (pss_one (ps_ret (pe_callB (call_all hr.hd) rfl T.all PyProof.Rows.boot_all (pa_cons (pe_comp [] [] (pi_str (pv 0)) (fun _ _ _ _ _ _ => pts_nil)
          (fun _ _ _ _ _ _ => (pe_cmpR op_in_str (pv 0) (pe_glob (v := .str sigS) rfl sgn ⟨_, rfl⟩) rfl))
          rfl (by decide +kernel) (by decide +kernel) rfl (by decide +kernel) (fun _ _ z => nomatch z) rfl (by decide +kernel) rfl) pa_nil))))), ?_⟩
  refine ⟨_, rfl, x, "str", ty, isStrT t, rfl, ht, k3, _, rfl, ?_⟩
  cases e : isStrT t with
  | false =>
    have : wordT t = false := by cases t <;> first | rfl | cases e
    rw [this] at q
    exact iteT (iteT (q H (Same.refl H)))
  | true =>
    cases t with
    | str z =>
      have ex : x = .str z := by unfold At at hx; exact hx
      subst ex
      have hz : z.length ≤ 100 := by unfold sm at hs; exact of_decide_eq_true hs
      refine iteF ?_
      refine ⟨_, rfl, z, rfl, Nat.le_of_lt (small (by omega)), _, _, rfl, rfl, _, rfl, ?_⟩
      refine ite2 (fun c => ?_) (fun c => ?_)
      · have c1 : (1 : Int) ≤ (z.length : Int) := of_decide_eq_true c
        refine ⟨_, _, rfl, rfl, _, rfl, ?_⟩
        refine ite2 (fun d => ?_) (fun d => ?_)
        · have d1 : ¬ (z.length : Int) ≤ 8 := fun e => by rw [decide_eq_true e] at d; cases d
          have e : wordT (.str z) = false := isw_len (by omega)
          rw [e] at q
          exact q H (Same.refl H)
        · have d1 : (z.length : Int) ≤ 8 := by
            by_cases e : (z.length : Int) ≤ 8
            · exact e
            · rw [decide_eq_false e] at d; exact absurd rfl d
          refine ⟨_, rfl, z, rfl, fun p hp => comp_by z.length (fun i ys H2 => ys = (z.cps.toList.take i).map (fun c => V.bl (okc c)) ∧ H2 = upd H p (.lst ys)) ⟨rfl, rfl⟩ ?_ ?_⟩
          · rintro i ys H2 hi ⟨rfl, rfl⟩
            refine ⟨hi, ?_⟩
            rintro v H3 ⟨rfl, c', hc', rfl⟩
            refine ttT ?_
            refine ⟨_, rfl, _, _, rfl, rfl, upd_same, ?_, ?_, upd_upd⟩
            · rw [List.length_map, List.length_take, codes_len]
              exact small (by omega)
            · rw [in_sig]
              exact (take_snoc (fun c => V.bl (okc c)) (codes_at hc')).symm
          · rintro ys H2 ⟨rfl, rfl⟩
            have e : (z.cps.toList.take z.length) = z.cps.toList := List.take_of_length_le (by rw [codes_len]; exact Nat.le_refl _)
            refine ⟨Nat.le_refl _, p, z.cps.toList.map okc, rfl, SqL.of ?_, ?_⟩
            · rw [upd_same, e, List.map_map]
              rfl
            · have e2 : wordT (.str z) = (z.cps.toList.map okc).all id := by
                rw [List.all_map]
                exact isw_all (by omega)
              rw [← e2]
              exact q _ (same_new hp _)
      · have c1 : ¬ (1 : Int) ≤ (z.length : Int) := fun e => c (decide_eq_true e)
        have e : wordT (.str z) = false := isw_len (by omega)
        rw [e] at q
        exact ⟨_, rfl, iteT (q H (Same.refl H))⟩
    | _ => cases e
def spIcs : Sp := fun vs H Q _ => ∃ x l, vs = [x] ∧ At H (.tup l) x ∧ sm (.tup l) = true ∧ ∀ H', Same H H' → Q (.bl (cellsP l)) H'
theorem dec_lenI (a : Nat) (b : Int) : decide (V.int ((a : Nat) : Int) = V.int b) = decide ((a : Int) = b) := decide_eq_decide.mpr ⟨fun h => by injection h, fun h => by rw [h]⟩
theorem scIcs : FnScope ["thing"] ["thing"] (defScope sIcs) := ⟨rfl, rfl, rfl, by decide +kernel, rfl, by decide +kernel, by decide +kernel⟩
theorem ok_Ics (F : Fun K "is_cells_stuff" "is_cells_stuff" sIcs f fd) (hCll : Has K mg "is_cell" sCll ["thing"] fCll dCll) (GCll : FnOk P w K mg base CX0 3 fCll dCll ["thing"] spCll) (T : Txt mg) : FnOk P w K mg base CX0 4 f fd ["thing"] spIcs := by
  refine F.ok scIcs (fun vs H Q E h => ?_) (fun cdv A outer s H vs Q E hr h => ?_)
  · obtain ⟨x, l, rfl, _⟩ := h
    rfl
  obtain ⟨x, l, rfl, hx, hs, q⟩ := h
  obtain ⟨t1, pc8⟩ := T.pc8
  obtain ⟨a, vs, rfl, ha, k⟩ := hx.tup
  have ln := k.len
  refine ⟨_, (pss_cons (ps_if (PW.pt (pw_or (pt_cmpR op_ne (pe_callB call_len_seq rfl T.len PySem.boot_len (pa_cons (pv 0) pa_nil)) pe_int (nomark _)) (pw_or1 (pt_not (pt_val (pe_callB call_isinst rfl T.isi PyProof.Rows.boot_isinstance (pa_cons (pe_ix ix_tup (pv 0) pe_int (fun _ _ => rfl)) (pa_cons (pe_bltn (v := .ty "tuple") rfl T.tup PyProof.Rows.boot_tuple rfl) pa_nil))))))))
    (pss_one (ps_ret pe_bl))
    pss_nil)
    (pss_one (ps_ret (pe_and (pe_chain op_le op_le pe_int (pe_callB call_len_seq rfl T.len PySem.boot_len (pa_cons (pe_ix ix_tup (pv 0) pe_int (fun _ _ => rfl)) pa_nil)) (pe_glob (v := .int 8) rfl pc8 ⟨_, rfl⟩)) (pe_one (pe_callB (call_all hr.hd) rfl T.all PyProof.Rows.boot_all (pa_cons (pe_comp [] [] (pi_tup (pe_ix ix_tup (pv 0) pe_int (fun _ _ => rfl))) (fun _ _ _ _ _ _ => pts_nil)
          (fun _ _ _ _ _ _ => (pe_call GCll (hr.mono (by decide)) rfl hCll.nm hCll.fn.kp hCll.bd .nil pass0 (pa_cons (pv 0) pa_nil)))
          rfl (by decide +kernel) (by decide +kernel) rfl (by decide +kernel) (fun _ _ z => nomatch z) rfl (by decide +kernel) rfl) pa_nil))))))), ?_⟩
  refine ⟨_, rfl, a, vs, rfl, .inr (SqT.of ha), rfl, _, rfl, ?_⟩
  by_cases h3 : l.length = 3
  · have e1 : decide (V.int (vs.length : Int) = V.int 3) = true := by
      rw [dec_lenI]
      exact decide_eq_true (by omega)
    rw [e1]
    refine iteF ?_
    match l, h3 with
    | [u0, u1, c], _ =>
      obtain ⟨v2, e2, h2⟩ := at_tup k (i := 2) (t := c) rfl
      obtain ⟨ty, ht, k2, _⟩ := h2.ty (K := K)
      refine ⟨_, rfl, a, vs, 2, v2, rfl, rfl, SqT.of ha, e2, v2, "tuple", ty, isTup c, rfl, ht, k2, _, rfl, ?_⟩
      cases e : isTup c with
      | false =>
        have : cellsP [u0, u1, c] = false := by cases c <;> first | rfl | cases e
        rw [this] at q
        exact iteT (q H (Same.refl H))
      | true =>
        cases c with
        | tup cs =>
          refine iteF ?_
          obtain ⟨a2, ws, rfl, ha2, k3⟩ := h2.tup
          have ln2 := k3.len
          have hc := sm_tup ((sm_tup hs).2 (.tup cs) (by simp))
          refine ⟨_, rfl, a, vs, 2, _, rfl, rfl, SqT.of ha, e2, a2, ws, rfl, .inr (SqT.of ha2), _, _, rfl, rfl, _, rfl, ?_⟩
          refine ite2 (fun c1 => ?_) (fun c1 => ?_)
          · have c1 : (1 : Int) ≤ (ws.length : Int) := of_decide_eq_true c1
            refine ⟨_, _, rfl, rfl, _, rfl, ite2 (fun c2 => ?_) (fun c2 => ?_)⟩
            · have c2 : (ws.length : Int) ≤ 8 := of_decide_eq_true c2
              have ec : cellsP [u0, u1, .tup cs] = cs.all fun c => wthT c 0 999999 := by
                show (decide (1 ≤ cs.length) && decide (cs.length ≤ 8) && _) = _
                rw [decide_eq_true (by omega), decide_eq_true (by omega)]
                rfl
              rw [ec] at q
              refine ⟨_, rfl, a, vs, 2, _, rfl, rfl, SqT.of ha, e2, a2, rfl, ⟨_, SqT.of ha2⟩, fun p hp => ?_⟩
              refine comp_tup (K := K) (a := a2) (xs := ws) (fun i us H2 => Same H H2 ∧ H2 p = some (.lst us) ∧ us = ((cs.take i).map fun c => wthT c 0 999999).map V.bl) ⟨same_new hp _, upd_same, rfl⟩ (fun i us H2 _ h2 => SqT.of (h2.1 _ _ ha2)) ?_ ?_
              · rintro i x us H2 hx ⟨s2, e3, rfl⟩
                obtain ⟨t, ht, hat⟩ := (k3.mono s2).get hx
                have li : i < cs.length := (List.getElem?_eq_some_iff.mp ht).1
                refine ttT ⟨_, rfl, x, t, rfl, hat, e3, small (by simp; omega), same_over s2 hp _, upd_same, ?_⟩
                rw [take_next ht, List.map_append, List.map_append]
                rfl
              · rintro us H2 ⟨s2, e3, rfl⟩
                rw [ln2, List.take_length] at e3
                refine ⟨p, _, rfl, SqL.of e3, ?_⟩
                rw [List.all_map]
                exact q H2 s2
            · have c2 : ¬ (ws.length : Int) ≤ 8 := fun z => c2 (decide_eq_true z)
              have ec : cellsP [u0, u1, .tup cs] = false := by
                show (decide (1 ≤ cs.length) && decide (cs.length ≤ 8) && _) = _
                rw [decide_eq_false (show ¬ cs.length ≤ 8 by omega), Bool.and_false, Bool.false_and]
              rw [ec] at q
              exact q H (Same.refl H)
          · have c1 : ¬ (1 : Int) ≤ (ws.length : Int) := fun z => c1 (decide_eq_true z)
            have ec : cellsP [u0, u1, .tup cs] = false := by
              show (decide (1 ≤ cs.length) && decide (cs.length ≤ 8) && _) = _
              rw [decide_eq_false (show ¬ 1 ≤ cs.length by omega), Bool.false_and, Bool.false_and]
            rw [ec] at q
            exact ⟨_, rfl, iteF (q H (Same.refl H))⟩
        | _ => cases e
  · have e1 : decide (V.int (vs.length : Int) = V.int 3) = false := by
      rw [dec_lenI]
      exact decide_eq_false (by omega)
    rw [e1]
    have : cellsP l = false := by
      unfold cellsP
      split
      · next h => exact absurd rfl h3
      · rfl
    rw [this] at q
    exact iteT (iteT (q H (Same.refl H)))
def spIfs : Sp := fun vs H Q _ => ∃ x l, vs = [x] ∧ At H (.tup l) x ∧ sm (.tup l) = true ∧ ∀ H', Same H H' → Q (.bl (fileP l)) H'
theorem scIfs : FnScope ["thing"] ["thing"] (defScope sIfs) := ⟨rfl, rfl, rfl, by decide +kernel, rfl, by decide +kernel, by decide +kernel⟩
theorem ok_Ifs (F : Fun K "is_file_stuff" "is_file_stuff" sIfs f fd) (hWth : Has K mg "is_within" sWth ["thing", "low", "high"] fWth dWth) (GWth : FnOk P w K mg base CX0 2 fWth dWth ["thing", "low", "high"] spWth0)
    (hIsr : Has K mg "is_row" sIsr ["thing", "size"] fIsr dIsr) (GIsr : FnOk P w K mg base CX0 5 fIsr dIsr ["thing", "size"] spIsr) (T : Txt mg) : FnOk P w K mg base CX0 6 f fd ["thing"] spIfs := by
  refine F.ok scIfs (fun vs H Q E h => ?_) (fun cdv A outer s H vs Q E hr h => ?_)
  · obtain ⟨x, l, rfl, _⟩ := h
    rfl
  obtain ⟨x, l, rfl, hx, hs, q⟩ := h
  obtain ⟨t1, mc⟩ := T.mc
  obtain ⟨a, vs, rfl, ha, k⟩ := hx.tup
  have ln := k.len
  refine ⟨_, (pss_one (ps_ret (pe_and (pe_cmpR op_eq (pe_callB call_len_seq rfl T.len PySem.boot_len (pa_cons (pv 0) pa_nil)) pe_int (nomark _)) (pe_and (pe_call GWth (hr.mono (by decide)) rfl hWth.nm hWth.fn.kp hWth.bd .nil pass0 (pa_cons (pe_ix ix_tup (pv 0) pe_int (fun _ _ => rfl)) (pa_cons pe_int (pa_cons (pe_glob (v := .int 40) rfl mc ⟨_, rfl⟩) pa_nil)))) (pe_one (pe_call GIsr (hr.mono (by decide)) rfl hIsr.nm hIsr.fn.kp hIsr.bd .nil pass0 (pa_cons (pe_ix ix_tup (pv 0) pe_int (fun _ _ => rfl)) (pa_cons (pe_ix ix_tup (pv 0) pe_int (fun _ _ => rfl)) pa_nil)))))))), ?_⟩
  refine ⟨_, rfl, a, vs, rfl, .inr (SqT.of ha), rfl, _, rfl, ?_⟩
  by_cases h4 : l.length = 4
  · have e1 : decide (V.int (vs.length : Int) = V.int 4) = true := by
      rw [dec_lenI]
      exact decide_eq_true (by omega)
    rw [e1]
    refine iteT ?_
    match l, h4 with
    | [u0, u1, m, r], _ =>
      obtain ⟨v2, e2, h2⟩ := at_tup k (i := 2) (t := m) rfl
      obtain ⟨v3, e3, h3⟩ := at_tup k (i := 3) (t := r) rfl
      refine ⟨_, rfl, a, vs, 2, v2, rfl, rfl, SqT.of ha, e2, v2, 0, 40, rfl, h2.ty0, _, rfl, ?_⟩
      rw [h2.wth]
      cases em : wthT m 0 40 with
      | false =>
        have : fileP [u0, u1, m, r] = false := by
          cases m with
          | int n =>
            show (wthT (.int n) 0 40 && rowT r n) = false
            rw [em]
            rfl
          | _ => rfl
        rw [this] at q
        exact iteF (q H (Same.refl H))
      | true =>
        cases m with
        | int n =>
          have ev : v2 = .int n := by unfold At at h2; exact h2
          subst ev
          have ef : fileP [u0, u1, .int n, r] = rowT r n := by
            show (wthT (.int n) 0 40 && rowT r n) = _
            rw [em]
            rfl
          rw [ef] at q
          refine iteT ⟨_, rfl, a, vs, 3, v3, rfl, rfl, SqT.of ha, e3, _, rfl, a, vs, 2, _, rfl, rfl, SqT.of ha, e2, v3, n, rfl, ?_⟩
          cases er : isTup r with
          | false =>
            have : rowT r n = false := by cases r <;> first | rfl | cases er
            rw [this] at q
            exact .inr ⟨h3.notT er, q H (Same.refl H)⟩
          | true =>
            cases r with
            | tup rs =>
              obtain ⟨a3, ws, rfl, ha3, k3⟩ := h3.tup
              have hr' := sm_tup ((sm_tup hs).2 (.tup rs) (by simp))
              have ln3 := k3.len
              exact .inl ⟨a3, ws, rs.map st4T, rfl, ha3, k3.partsO (fun t ht u e => by subst e; exact (sm_tup (hr'.2 _ ht)).1), by omega, fun H' s' => q H' s'⟩
            | _ => cases er
        | _ => cases em
  · have e1 : decide (V.int (vs.length : Int) = V.int 4) = false := by
      rw [dec_lenI]
      exact decide_eq_false (by omega)
    rw [e1]
    have : fileP l = false := by
      unfold fileP
      split
      · next h => exact absurd rfl h4
      · rfl
    rw [this] at q
    exact iteF (q H (Same.refl H))
def spEnt : Sp := fun vs H Q _ => ∃ x t, vs = [x] ∧ At H t x ∧ sm t = true ∧ entFl t = true ∧ ∀ H', Same H H' → Q (.bl (entP t)) H'
theorem in2 (t : Tr) (hf : flatT t = true) : flatV (vT t) = true ∧ inV (vT t) [V.str "folder", V.str "file"] = (strIs t "folder" || strIs t "file") := by
  cases t with
  | int n => exact ⟨rfl, rfl⟩
  | str y =>
    refine ⟨rfl, ?_⟩
    show ((Str.ofString "folder" == y) || ((Str.ofString "file" == y) || false)) = (decide (y = Str.ofString "folder") || decide (y = Str.ofString "file"))
    rw [Bool.or_false, Bool.eq_iff_iff, Bool.or_eq_true, Bool.or_eq_true, beq_iff_eq, beq_iff_eq, decide_eq_true_eq, decide_eq_true_eq]
    exact or_congr eq_comm eq_comm
  | bl n => exact ⟨rfl, rfl⟩
  | non => exact ⟨rfl, rfl⟩
  | dct => cases hf
  | tup l => cases hf
  | lst l => cases hf
theorem scEnt : FnScope ["thing"] ["thing"] (defScope sEnt) := ⟨rfl, rfl, rfl, by decide +kernel, rfl, by decide +kernel, by decide +kernel⟩
theorem ok_Ent (F : Fun K "is_entry" "is_entry" sEnt f fd) (hTof : Has K mg "is_tuple_of" sTof ["thing", "many"] fTof dTof) (GTof : FnOk P w K mg base CX0 1 fTof dTof ["thing", "many"] spTof)
    (hWor : Has K mg "is_word" sWor ["thing"] fWor dWor) (GWor : FnOk P w K mg base CX0 1 fWor dWor ["thing"] spWor)
    (hItp : Has K mg "is_tree_place" sItp ["thing"] fItp dItp) (GItp : FnOk P w K mg base CX0 3 fItp dItp ["thing"] spItp) (T : Txt mg) : FnOk P w K mg base CX0 4 f fd ["thing"] spEnt := by
  refine F.ok scEnt (fun vs H Q E h => ?_) (fun cdv A outer s H vs Q E hr h => ?_)
  · obtain ⟨x, t, rfl, _⟩ := h
    rfl
  obtain ⟨x, t, rfl, hx, hs, hf, q⟩ := h
  refine ⟨_, (pss_cons (ps_if (pt_not (pt_val (pe_call GTof (hr.mono (by decide)) rfl hTof.nm hTof.fn.kp hTof.bd .nil pass0 (pa_cons (pv 0) (pa_cons pe_int pa_nil)))))
    (pss_one (ps_ret pe_bl))
    pss_nil)
    (pss_one (ps_ret (pe_and (pe_call GWor (hr.mono (by decide)) rfl hWor.nm hWor.fn.kp hWor.bd .nil pass0 (pa_cons (pe_ix ix_tup (pv 0) pe_int (fun _ _ => rfl)) pa_nil)) (pe_and (pe_cmpR op_in_seq (pe_ix ix_tup (pv 0) pe_int (fun _ _ => rfl)) (pe_tup (pa_cons pe_str (pa_cons pe_str pa_nil))) rfl) (pe_one (pe_call GItp (hr.mono (by decide)) rfl hItp.nm hItp.fn.kp hItp.bd .nil pass0 (pa_cons (pe_ix ix_tup (pv 0) pe_int (fun _ _ => rfl)) pa_nil)))))))), ?_⟩
  have no : ∀ l, t = .tup l → l.length ≠ 3 → entP t = false := fun l e h3 => by
    subst e
    unfold entP
    split
    · next h => injection h with h; subst h; exact absurd rfl h3
    · rfl
  cases et : isTup t with
  | false =>
    have : entP t = false := by cases t <;> first | rfl | cases et
    rw [this] at q
    exact ⟨_, rfl, x, 3, rfl, .inr ⟨hx.notT et, _, rfl, iteT (q H (Same.refl H))⟩⟩
  | true =>
    cases t with
    | tup l =>
      obtain ⟨a, vs, rfl, ha, k⟩ := hx.tup
      have ln := k.len
      refine ⟨_, rfl, _, 3, rfl, .inl ⟨a, vs, rfl, ha, ?_⟩⟩
      by_cases h3 : l.length = 3
      · rw [decide_eq_true (show vs.length = 3 by omega)]
        refine ⟨_, rfl, iteF ?_⟩
        match l, h3 with
        | [c0, c1, c2], _ =>
          obtain ⟨v0, e0, z0⟩ := at_tup k (i := 0) (t := c0) rfl
          obtain ⟨v1, e1, z1⟩ := at_tup k (i := 1) (t := c1) rfl
          obtain ⟨v2, e2, z2⟩ := at_tup k (i := 2) (t := c2) rfl
          have hf1 : flatT c1 = true := hf
          refine ⟨_, rfl, a, vs, 0, v0, rfl, rfl, SqT.of ha, e0, v0, c0, rfl, z0, (sm_tup hs).2 c0 (by simp), fun H1 s1 => ?_⟩
          refine ⟨_, rfl, ite2 (fun w1 => ?_) (fun w1 => ?_)⟩
          · refine ⟨_, rfl, a, vs, 1, v1, rfl, rfl, SqT.of (s1 _ _ ha), e1, (by show 2 ≤ sizeLine; decide), fun p2 hp2 => ?_⟩
            have s2 := same_new hp2 (HO.tup [V.str "folder", V.str "file"])
            have ev1 := z1.flat hf1
            subst ev1
            have i2 := in2 c1 hf1
            refine ⟨p2, _, rfl, .inr (SqT.of upd_same), i2.1, rfl, ?_⟩
            have ei : (if false = true then !inV (vT c1) [V.str "folder", V.str "file"] else inV (vT c1) [V.str "folder", V.str "file"]) = (strIs c1 "folder" || strIs c1 "file") := i2.2
            rw [ei]
            refine ⟨_, rfl, ite2 (fun w2 => ?_) (fun w2 => ?_)⟩
            · have : entP (.tup [c0, c1, c2]) = wthT c2 2 599 := by
                show (wordT c0 && (strIs c1 "folder" || strIs c1 "file") && wthT c2 2 599) = _
                rw [w1, w2]
                rfl
              rw [this, ← z2.wth] at q
              exact ⟨_, rfl, a, vs, 2, v2, rfl, rfl, SqT.of (s2 _ _ (s1 _ _ ha)), e2, v2, rfl, ((z2.mono s1).mono s2).ty0, q _ (s1.trans s2)⟩
            · rw [Bool.not_eq_true] at w2
              have : entP (.tup [c0, c1, c2]) = false := by
                show (wordT c0 && (strIs c1 "folder" || strIs c1 "file") && wthT c2 2 599) = _
                rw [w1, w2]
                rfl
              rw [this] at q
              exact q _ (s1.trans s2)
          · rw [Bool.not_eq_true] at w1
            have : entP (.tup [c0, c1, c2]) = false := by
              show (wordT c0 && _ && _) = false
              rw [w1]
              rfl
            rw [this] at q
            exact q H1 s1
      · rw [decide_eq_false (show ¬ vs.length = 3 by omega)]
        rw [no l rfl h3] at q
        exact ⟨_, rfl, iteT (q H (Same.refl H))⟩
    | _ => cases et
def spIos : Sp := fun vs H Q _ => ∃ x l, vs = [x] ∧ At H (.tup l) x ∧ sm (.tup l) = true ∧ knFl (.tup l) = true ∧ ∀ H', Same H H' → Q (.bl (foldP l)) H'
theorem scIos : FnScope ["thing"] ["thing"] (defScope sIos) := ⟨rfl, rfl, rfl, by decide +kernel, rfl, by decide +kernel, by decide +kernel⟩
theorem ok_Ios (F : Fun K "is_folder_stuff" "is_folder_stuff" sIos f fd) (hWth : Has K mg "is_within" sWth ["thing", "low", "high"] fWth dWth) (GWth : FnOk P w K mg base CX0 2 fWth dWth ["thing", "low", "high"] spWth0)
    (hEnt : Has K mg "is_entry" sEnt ["thing"] fEnt dEnt) (GEnt : FnOk P w K mg base CX0 4 fEnt dEnt ["thing"] spEnt)
    (hRis : Has K mg "is_rising" sRis ["things"] fRis dRis) (GRis : FnOk P w K mg base CX0 1 fRis dRis ["things"] spRis) (T : Txt mg) : FnOk P w K mg base CX0 5 f fd ["thing"] spIos := by
  refine F.ok scIos (fun vs H Q E h => ?_) (fun cdv A outer s H vs Q E hr h => ?_)
  · obtain ⟨x, l, rfl, _⟩ := h
    rfl
  obtain ⟨x, l, rfl, hx, hs, hf, q⟩ := h
  obtain ⟨t1, mli⟩ := T.mli
  obtain ⟨t2, men⟩ := T.men
  obtain ⟨a, vs, rfl, ha, k⟩ := hx.tup
  have ln := k.len
  refine ⟨_, (pss_cons (ps_if (PW.pt (pw_or (pt_cmpR op_ne (pe_callB call_len_seq rfl T.len PySem.boot_len (pa_cons (pv 0) pa_nil)) pe_int (nomark _)) (pw_or (pt_not (pt_val (pe_call GWth (hr.mono (by decide)) rfl hWth.nm hWth.fn.kp hWth.bd .nil pass0 (pa_cons (pe_ix ix_tup (pv 0) pe_int (fun _ _ => rfl)) (pa_cons pe_int (pa_cons (pe_glob (v := .int 999) rfl mli ⟨_, rfl⟩) pa_nil)))))) (pw_or1 (pt_not (pt_val (pe_callB call_isinst rfl T.isi PyProof.Rows.boot_isinstance (pa_cons (pe_ix ix_tup (pv 0) pe_int (fun _ _ => rfl)) (pa_cons (pe_bltn (v := .ty "tuple") rfl T.tup PyProof.Rows.boot_tuple rfl) pa_nil)))))))))
    (pss_one (ps_ret pe_bl))
    pss_nil)
    (pss_cons (ps_if (PW.pt (pw_or (pt_cmpR op_gt (pe_callB call_len_seq rfl T.len PySem.boot_len (pa_cons (pe_ix ix_tup (pv 0) pe_int (fun _ _ => rfl)) pa_nil)) (pe_glob (v := .int 8) rfl men ⟨_, rfl⟩) (nomark _)) (pw_or1 (pt_not (pt_val (pe_callB (call_all hr.hd) rfl T.all PyProof.Rows.boot_all (pa_cons (pe_comp [] [] (pi_tup (pe_ix ix_tup (pv 0) pe_int (fun _ _ => rfl))) (fun _ _ _ _ _ _ => pts_nil)
          (fun _ _ _ _ _ _ => (pe_call GEnt (hr.mono (by decide)) rfl hEnt.nm hEnt.fn.kp hEnt.bd .nil pass0 (pa_cons (pv 0) pa_nil)))
          rfl (by decide +kernel) (by decide +kernel) rfl (by decide +kernel) (fun _ _ z => nomatch z) rfl (by decide +kernel) rfl) pa_nil)))))))
    (pss_one (ps_ret pe_bl))
    pss_nil)
    (pss_one (ps_ret (pe_call GRis (hr.mono (by decide)) rfl hRis.nm hRis.fn.kp hRis.bd .nil pass0 (pa_cons (pe_comp [] [] (pi_tup (pe_ix ix_tup (pv 0) pe_int (fun _ _ => rfl))) (fun _ _ _ _ _ _ => pts_nil)
          (fun _ _ _ _ _ _ => (pe_ix (ix_tupK (K := K) rfl) (pv 0) pe_int (fun _ _ => rfl)))
          rfl (by decide +kernel) (by decide +kernel) rfl (by decide +kernel) (fun _ _ z => nomatch z) rfl (by decide +kernel) rfl) pa_nil)))))), ?_⟩
  refine ⟨_, rfl, a, vs, rfl, .inr (SqT.of ha), rfl, _, rfl, ?_⟩
  by_cases h4 : l.length = 4
  · have e1 : decide (V.int (vs.length : Int) = V.int 4) = true := by
      rw [dec_lenI]
      exact decide_eq_true (by omega)
    rw [e1]
    refine iteF ?_
    match l, h4 with
    | [u0, u1, m, r], _ =>
      obtain ⟨v2, e2, h2⟩ := at_tup k (i := 2) (t := m) rfl
      obtain ⟨v3, e3, h3⟩ := at_tup k (i := 3) (t := r) rfl
      refine ⟨_, rfl, a, vs, 2, v2, rfl, rfl, SqT.of ha, e2, v2, 0, 999, rfl, h2.ty0, _, rfl, ?_⟩
      rw [h2.wth]
      cases em : wthT m 0 999 with
      | false =>
        have : foldP [u0, u1, m, r] = false := by
          cases r with
          | tup es =>
            show (wthT m 0 999 && _ && _ && _) = false
            rw [em]
            rfl
          | _ => rfl
        rw [this] at q
        exact iteT (iteT (q H (Same.refl H)))
      | true =>
        refine iteF ?_
        obtain ⟨ty, ht, k2, _⟩ := h3.ty (K := K)
        refine ⟨_, rfl, a, vs, 3, v3, rfl, rfl, SqT.of ha, e3, v3, "tuple", ty, isTup r, rfl, ht, k2, _, rfl, ?_⟩
        cases er : isTup r with
        | false =>
          have : foldP [u0, u1, m, r] = false := by cases r <;> first | rfl | cases er
          rw [this] at q
          exact iteT (q H (Same.refl H))
        | true =>
          cases r with
          | tup es =>
            refine iteF ?_
            obtain ⟨a3, ws, rfl, ha3, k3⟩ := h3.tup
            have hes := sm_tup ((sm_tup hs).2 (.tup es) (by simp))
            have ln3 := k3.len
            have hfl : ∀ t ∈ es, entFl t = true := by
              have h0 : (flatT u0 && es.all entFl) = true := hf
              rw [Bool.and_eq_true, List.all_eq_true] at h0
              exact h0.2
            refine ⟨_, rfl, a, vs, 3, _, rfl, rfl, SqT.of ha, e3, a3, ws, rfl, .inr (SqT.of ha3), _, _, rfl, rfl, _, rfl, ?_⟩
            by_cases h8 : es.length ≤ 8
            · have e8 : decide ((ws.length : Int) > 8) = false := decide_eq_false (by omega)
              rw [e8]
              refine iteF ?_
              refine ⟨_, rfl, a, vs, 3, _, rfl, rfl, SqT.of ha, e3, a3, rfl, ⟨_, SqT.of ha3⟩, fun p hp => ?_⟩
              refine comp_tup (K := K) (a := a3) (xs := ws) (fun i us H2 => Same H H2 ∧ H2 p = some (.lst us) ∧ us = ((es.take i).map entP).map V.bl) ⟨same_new hp _, upd_same, rfl⟩ (fun i us H2 _ h2 => SqT.of (h2.1 _ _ ha3)) ?_ ?_
              · rintro i x us H2 hx ⟨s2, e4, rfl⟩
                obtain ⟨t, ht, hat⟩ := (k3.mono s2).get hx
                have li : i < es.length := (List.getElem?_eq_some_iff.mp ht).1
                have mt := List.mem_of_getElem? ht
                refine ttT ⟨_, rfl, x, t, rfl, hat, hes.2 t mt, hfl t mt, fun H3 s3 => ⟨s3 _ _ e4, small (by simp; omega), same_over (s2.trans s3) hp _, upd_same, ?_⟩⟩
                rw [take_next ht, List.map_append, List.map_append]
                rfl
              · rintro us H2 ⟨s2, e4, rfl⟩
                rw [ln3, List.take_length] at e4
                refine ⟨p, _, rfl, SqL.of e4, ?_⟩
                rw [List.all_map]
                have ea : (es.all (id ∘ entP)) = es.all entP := rfl
                rw [ea]
                cases eall : es.all entP with
                | false =>
                  have : foldP [u0, u1, m, .tup es] = false := by
                    show (wthT m 0 999 && decide (es.length ≤ 8) && es.all entP && _) = false
                    rw [eall, Bool.and_false, Bool.false_and]
                  rw [this] at q
                  exact ⟨_, rfl, iteT (q H2 s2)⟩
                | true =>
                  have ef : foldP [u0, u1, m, .tup es] = risS (es.map nameT) := by
                    show (wthT m 0 999 && decide (es.length ≤ 8) && es.all entP && _) = _
                    rw [eall, em, decide_eq_true h8]
                    rfl
                  rw [ef] at q
                  refine ⟨_, rfl, iteF ?_⟩
                  have a3' := s2 _ _ ha3
                  refine ⟨_, rfl, a, vs, 3, _, rfl, rfl, SqT.of (s2 _ _ ha), e3, a3, rfl, ⟨_, SqT.of a3'⟩, fun p2 hp2 => ?_⟩
                  have nm : ∀ t ∈ es, ∃ z b c, t = .tup [.str z, b, c] := fun t mt => by
                    have := List.all_eq_true.mp eall t mt
                    unfold entP at this
                    split at this
                    · next c0 c1 c2 =>
                      rw [Bool.and_eq_true, Bool.and_eq_true] at this
                      cases c0 with
                      | str z => exact ⟨z, c1, c2, rfl⟩
                      | _ => cases this.1.1
                    · cases this
                  refine comp_tup (K := K) (a := a3) (xs := ws) (fun i us H5 => Same H2 H5 ∧ H5 p2 = some (.lst us) ∧ us = ((es.take i).map nameT).map V.str) ⟨same_new hp2 _, upd_same, rfl⟩ (fun i us H5 _ h5 => SqT.of (h5.1 _ _ a3')) ?_ ?_
                  · rintro i x us H5 hx ⟨s5, e5, rfl⟩
                    obtain ⟨t, ht, hat⟩ := ((k3.mono s2).mono s5).get hx
                    have li : i < es.length := (List.getElem?_eq_some_iff.mp ht).1
                    obtain ⟨z, b, c, rfl⟩ := nm t (List.mem_of_getElem? ht)
                    obtain ⟨ax, wx, rfl, hax, kx⟩ := hat.tup
                    obtain ⟨v0, ev0, hv0⟩ := at_tup kx (i := 0) (t := .str z) rfl
                    have : v0 = .str z := by unfold At at hv0; exact hv0
                    subst this
                    refine ttT ⟨_, rfl, ax, wx, 0, _, rfl, rfl, SqT.of hax, ev0, e5, small (by simp; omega), same_over s5 hp2 _, upd_same, ?_⟩
                    rw [take_next ht, List.map_append, List.map_append]
                    rfl
                  · rintro us H5 ⟨s5, e5, rfl⟩
                    rw [ln3, List.take_length] at e5
                    exact ⟨p2, es.map nameT, rfl, e5, by rw [List.length_map]; omega, fun H6 s6 => q H6 (s2.trans (s5.trans s6))⟩
            · have e8 : decide ((ws.length : Int) > 8) = true := decide_eq_true (by omega)
              rw [e8]
              have : foldP [u0, u1, m, .tup es] = false := by
                show (wthT m 0 999 && decide (es.length ≤ 8) && _ && _) = false
                rw [decide_eq_false h8, Bool.and_false, Bool.false_and, Bool.false_and]
              rw [this] at q
              exact iteT (iteT (q H (Same.refl H)))
          | _ => cases er
  · have e1 : decide (V.int (vs.length : Int) = V.int 4) = false := by
      rw [dec_lenI]
      exact decide_eq_false (by omega)
    rw [e1]
    have : foldP l = false := by
      unfold foldP
      split
      · next h => exact absurd rfl h4
      · rfl
    rw [this] at q
    exact iteT (iteT (q H (Same.refl H)))
def spKno : Sp := fun vs H Q _ => ∃ x t, vs = [x] ∧ At H t x ∧ sm t = true ∧ knFl t = true ∧ ∀ H', Same H H' → Q (.bl (knotP t)) H'
theorem scKno : FnScope ["thing"] ["thing"] (defScope sKno) := ⟨rfl, rfl, rfl, by decide +kernel, rfl, by decide +kernel, by decide +kernel⟩
theorem ok_Kno (F : Fun K "is_knot" "is_knot" sKno f fd) (hSta : Has K mg "is_stamp" sSta ["thing"] fSta dSta) (GSta : FnOk P w K mg base CX0 3 fSta dSta ["thing"] spSta)
    (hIcs : Has K mg "is_cells_stuff" sIcs ["thing"] fIcs dIcs) (GIcs : FnOk P w K mg base CX0 4 fIcs dIcs ["thing"] spIcs)
    (hIfs : Has K mg "is_file_stuff" sIfs ["thing"] fIfs dIfs) (GIfs : FnOk P w K mg base CX0 6 fIfs dIfs ["thing"] spIfs)
    (hIos : Has K mg "is_folder_stuff" sIos ["thing"] fIos dIos) (GIos : FnOk P w K mg base CX0 5 fIos dIos ["thing"] spIos) (T : Txt mg) : FnOk P w K mg base CX0 7 f fd ["thing"] spKno := by
  refine F.ok scKno (fun vs H Q E h => ?_) (fun cdv A outer s H vs Q E hr h => ?_)
  · obtain ⟨x, t, rfl, _⟩ := h
    rfl
  obtain ⟨x, t, rfl, hx, hs, hf, q⟩ := h
  obtain ⟨ty, ht, k2, _⟩ := hx.ty (K := K)
  refine ⟨_, (pss_cons (ps_if (PW.pt (pw_or (pt_not (pt_val (pe_callB call_isinst rfl T.isi PyProof.Rows.boot_isinstance (pa_cons (pv 0) (pa_cons (pe_bltn (v := .ty "tuple") rfl T.tup PyProof.Rows.boot_tuple rfl) pa_nil))))) (pw_or (pt_cmpR op_lt (pe_callB call_len_seq rfl T.len PySem.boot_len (pa_cons (pv 0) pa_nil)) pe_int (nomark _)) (pw_or1 (pt_not (pt_val (pe_call GSta (hr.mono (by decide)) rfl hSta.nm hSta.fn.kp hSta.bd .nil pass0 (pa_cons (pe_ix ix_tup (pv 0) pe_int (fun _ _ => rfl)) pa_nil))))))))
    (pss_one (ps_ret pe_bl))
    pss_nil)
    (pss_cons (ps_if (pt_cmpR op_eq (pe_ix ix_tup (pv 0) pe_int (fun _ _ => rfl)) pe_str (nomark _))
    (pss_one (ps_ret (pe_call GIcs (hr.mono (by decide)) rfl hIcs.nm hIcs.fn.kp hIcs.bd .nil pass0 (pa_cons (pv 0) pa_nil))))
    pss_nil)
    (pss_cons (ps_if (pt_cmpR op_eq (pe_ix ix_tup (pv 0) pe_int (fun _ _ => rfl)) pe_str (nomark _))
    (pss_one (ps_ret (pe_call GIfs (hr.mono (by decide)) rfl hIfs.nm hIfs.fn.kp hIfs.bd .nil pass0 (pa_cons (pv 0) pa_nil))))
    pss_nil)
    (pss_one (ps_ret (pe_and (pe_cmpR op_eq (pe_ix ix_tup (pv 0) pe_int (fun _ _ => rfl)) pe_str (nomark _)) (pe_one (pe_call GIos (hr.mono (by decide)) rfl hIos.nm hIos.fn.kp hIos.bd .nil pass0 (pa_cons (pv 0) pa_nil))))))))), ?_⟩
  refine ⟨_, rfl, x, "tuple", ty, isTup t, rfl, ht, k2, _, rfl, ?_⟩
  cases et : isTup t with
  | false =>
    have : knotP t = false := by cases t <;> first | rfl | cases et
    rw [this] at q
    exact iteT (iteT (q H (Same.refl H)))
  | true =>
    cases t with
    | tup l =>
      refine iteF ?_
      obtain ⟨a, vs, rfl, ha, k⟩ := hx.tup
      have ln := k.len
      refine ⟨_, rfl, a, vs, rfl, .inr (SqT.of ha), _, _, rfl, rfl, _, rfl, ?_⟩
      match l, ln, hs, hf, hx, k, q with
      | [], ln, hs, hf, hx, k, q =>
        have e2 : decide ((vs.length : Int) < 2) = true := decide_eq_true (by have l0 : vs.length = 0 := ln; omega)
        rw [e2]
        exact iteT (iteT (q H (Same.refl H)))
      | [u0], ln, hs, hf, hx, k, q =>
        have e2 : decide ((vs.length : Int) < 2) = true := decide_eq_true (by have l0 : vs.length = 1 := ln; omega)
        rw [e2]
        exact iteT (iteT (q H (Same.refl H)))
      | u0 :: u1 :: r, ln, hs, hf, hx, k, q =>
        have e2 : decide ((vs.length : Int) < 2) = false := decide_eq_false (by have l0 : vs.length = r.length + 2 := ln; omega)
        rw [e2]
        refine iteF ?_
        obtain ⟨v0, e0, h0⟩ := at_tup k (i := 0) (t := u0) rfl
        obtain ⟨v1, e1, h1⟩ := at_tup k (i := 1) (t := u1) rfl
        have f0 : flatT u0 = true := by
          have : (flatT u0 && _) = true := hf
          rw [Bool.and_eq_true] at this
          exact this.1
        refine ⟨_, rfl, a, vs, 1, v1, rfl, rfl, SqT.of ha, e1, v1, u1, rfl, h1, _, rfl, ?_⟩
        cases es : wthT u1 1 4294967295 with
        | false =>
          have : knotP (.tup (u0 :: u1 :: r)) = false := by
            show (wthT u1 1 4294967295 && _) = false
            rw [es]
            rfl
          rw [this] at q
          exact iteT (q H (Same.refl H))
        | true =>
          have ek : knotP (.tup (u0 :: u1 :: r)) = (if strIs u0 "cells" then cellsP (u0 :: u1 :: r) else if strIs u0 "file" then fileP (u0 :: u1 :: r) else strIs u0 "folder" && foldP (u0 :: u1 :: r)) := by
            show (wthT u1 1 4294967295 && _) = _
            rw [es]
            rfl
          rw [ek] at q
          have ev := h0.flat f0
          subst ev
          have i1 := flat_is f0 "cells"
          have i2 := flat_is f0 "file"
          have i3 := flat_is f0 "folder"
          refine iteF ?_
          refine ⟨_, rfl, a, vs, 0, _, rfl, rfl, SqT.of ha, e0, i1.1, _, rfl, ?_⟩
          rw [i1.2]
          refine ite2 (fun c1 => ?_) (fun c1 => ?_)
          · rw [if_pos c1] at q
            exact ⟨_, rfl, _, _, rfl, hx, hs, q⟩
          · rw [if_neg c1] at q
            refine ⟨_, rfl, a, vs, 0, _, rfl, rfl, SqT.of ha, e0, i2.1, _, rfl, ?_⟩
            rw [i2.2]
            refine ite2 (fun c2 => ?_) (fun c2 => ?_)
            · rw [if_pos c2] at q
              exact ⟨_, rfl, _, _, rfl, hx, hs, q⟩
            · rw [if_neg c2] at q
              refine ⟨_, rfl, a, vs, 0, _, rfl, rfl, SqT.of ha, e0, i3.1, _, rfl, ?_⟩
              rw [i3.2]
              refine ite2 (fun c3 => ?_) (fun c3 => ?_)
              · rw [c3, Bool.true_and] at q
                exact ⟨_, rfl, _, _, rfl, hx, hs, hf, q⟩
              · rw [Bool.not_eq_true] at c3
                rw [c3, Bool.false_and] at q
                exact q H (Same.refl H)
    | _ => cases et
end
end K22
namespace L2
open PySem PySem.Spec PyProof.Rows
/-! ### trees of tuples only; lists frozen -/
mutual
def nl : Tr → Bool
  | .lst _ => false
  | .dct => false
  | .tup l => nls l
  | _ => true
def nls : List Tr → Bool
  | [] => true
  | t :: ts => nl t && nls ts
end
mutual
theorem At.keepT {H H' : Hp} (k : ∀ q u, H q = some (.tup u) → H' q = some (.tup u)) : ∀ {t : Tr} {v : V}, nl t = true → At H t v → At H' t v
  | .int n, v, _, h => by unfold At at *; exact h
  | .str n, v, _, h => by unfold At at *; exact h
  | .bl n, v, _, h => by unfold At at *; exact h
  | .non, v, _, h => by unfold At at *; exact h
  | .dct, v, n, h => by unfold nl at n; cases n
  | .lst l, v, n, h => by unfold nl at n; cases n
  | .tup l, v, n, h => by
    unfold nl at n
    unfold At at *
    obtain ⟨a, vs, e, h, z⟩ := h
    exact ⟨a, vs, e, k _ _ h, Ats.keepT k n z⟩
theorem Ats.keepT {H H' : Hp} (k : ∀ q u, H q = some (.tup u) → H' q = some (.tup u)) : ∀ {l : List Tr} {vs : List V}, nls l = true → Ats H l vs → Ats H' l vs
  | [], vs, _, h => by unfold Ats at *; exact h
  | t :: ts, vs, n, h => by
    unfold nls at n
    rw [Bool.and_eq_true] at n
    unfold Ats at *
    obtain ⟨v, ws, e, h, z⟩ := h
    exact ⟨v, ws, e, At.keepT k n.1 h, Ats.keepT k n.2 z⟩
end
theorem nls_mem : ∀ {l : List Tr} {t : Tr}, nls l = true → t ∈ l → nl t = true
  | u :: ts, t, h, m => by
    unfold nls at h
    rw [Bool.and_eq_true] at h
    cases m with
    | head => exact h.1
    | tail _ m => exact nls_mem h.2 m
theorem nls_of : ∀ {l : List Tr}, (∀ t ∈ l, nl t = true) → nls l = true
  | [], _ => rfl
  | t :: ts, h => by
    unfold nls
    rw [h t (List.mem_cons_self ..), nls_of fun u hu => h u (List.mem_cons_of_mem _ hu)]
    rfl
theorem frzs_map : ∀ l : List Tr, frzs l = l.map frz
  | [] => rfl
  | t :: ts => by
    unfold frzs
    rw [frzs_map ts]
    rfl
theorem deps_mem : ∀ {l : List Tr} {t : Tr}, t ∈ l → dep t ≤ deps l
  | u :: ts, t, m => by
    unfold deps
    cases m with
    | head => omega
    | tail _ m =>
      have := deps_mem m
      omega
theorem frz_not {t : Tr} (h : isLstT t = false) : frz t = t := by
  cases t <;> first | rfl | cases h
end L2
set_option maxHeartbeats 4000000
namespace K22
open PySem L2
section
variable {P : Program} {w : World} {K : PySem.W.Frag} {mg : Str → Option Value} {base : Heap} {f fMix : Addr} {fd dMix : FuncData}
def spCel (K : PySem.W.Frag) : Sp := fun vs H Q _ => ∃ (a : Addr) (ns : List Int) (k : Int), vs = [.ref a, .int k] ∧ 0 ≤ k ∧ SqL K H a (ns.map V.int) ∧ ∀ z : Int, Q (.int z) H
theorem scCel : FnScope ["_law_script", "_law_k"] ["_law_script", "_law_k"] (defScope sCel) := ⟨rfl, rfl, rfl, by decide +kernel, rfl, by decide +kernel, by decide +kernel⟩
theorem ok_Cel (F : Fun K "_law_cell_at" "_law_cell_at" sCel f fd) (T : Txt mg) : FnOk P w K mg base CX0 1 f fd ["_law_script", "_law_k"] (spCel K) := by
  refine F.ok scCel (fun vs H Q E h => ?_) (fun cdv A outer s H vs Q E hr h => ?_)
  · obtain ⟨a, ns, k, rfl, _⟩ := h
    rfl
  obtain ⟨a, ns, k, rfl, h0, hS, q⟩ := h
  refine ⟨_, (pss_cons (ps_if (pt_cmpR op_lt (pv 1) (pe_callB call_len_seq rfl T.len PySem.boot_len (pa_cons (pv 0) pa_nil)) (nomark _))
    (pss_one (ps_ret (pe_ix ix_list (pv 0) (pv 1) (fun _ _ => rfl))))
    pss_nil)
    (pss_one (ps_ret pe_int))), ?_⟩
  refine ⟨_, rfl, _, rfl, a, _, rfl, .inl hS, _, _, rfl, rfl, _, rfl, ?_⟩
  refine ite2 (fun c => ?_) (fun c => ?_)
  · have c' : k < (((ns.map V.int).length : Nat) : Int) := of_decide_eq_true c
    rw [List.length_map] at c'
    obtain ⟨j, rfl⟩ := Int.eq_ofNat_of_zero_le h0
    have hk : j < ns.length := by omega
    exact ⟨_, rfl, _, rfl, a, _, _, .int ns[j], rfl, rfl, hS, atI_nat (by simp [hk]), q _⟩
  · exact q 0
def spMix : Sp := fun vs H Q _ => ∃ (c k : Int), vs = [.int c, .int k] ∧ 0 ≤ k ∧ k ≤ 1000 ∧ ∀ z : Int, 0 ≤ z → z < 2147483587 → Q (.int z) H
theorem scMix : FnScope ["_law_cell", "_law_k", "_law_j", "_law_number"] ["_law_cell", "_law_k"] (defScope sMix) := ⟨rfl, rfl, rfl, by decide +kernel, rfl, by decide +kernel, by decide +kernel⟩
theorem ok_Mix (F : Fun K "_law_mixed" "_law_mixed" sMix f fd) (T : Txt mg) : FnOk P w K mg base CX0 1 f fd ["_law_cell", "_law_k"] spMix := by
  refine F.ok scMix (fun vs H Q E h => ?_) (fun cdv A outer s H vs Q E hr h => ?_)
  · obtain ⟨c, k, rfl, _⟩ := h
    rfl
  obtain ⟨c, k, rfl, k0, k1, q⟩ := h
  refine ⟨_, (pss_cons (ps_if (PW.pt (pw_and (pt_cmpR op_gt (pv 0) pe_int (nomark _)) (pw_and1 (pt_cmpR op_eq (pe_op op_mod (pv 0) pe_int) pe_int (nomark _)))))
    (pss_cons (ps_set (i := 0) scMix.nd rfl (Or.inl rfl) (pe_op op_fdiv (pv 0) pe_int))
    (pss_cons (ps_for PassesOwn.never rfl (pi_range1 rfl T.rng (pa_cons (pv 1) pa_nil)) (pg_name (i := 2) scMix.nd rfl (Or.inl rfl))
    (pss_one (ps_set (i := 0) scMix.nd rfl (Or.inl rfl) (pe_op op_fdivB (pv 0) pe_int))))
    (pss_one (ps_ret (pe_op op_mod (pv 0) pe_int)))))
    pss_nil)
    (pss_cons (ps_set (i := 3) scMix.nd rfl (Or.inl rfl) (pe_op op_mod (pe_op op_add (pe_op op_add (pe_op op_mod (pv 0) pe_int) (pe_op op_mul pe_int (pv 1))) pe_int) pe_int))
    (pss_cons (ps_set (i := 3) scMix.nd rfl (Or.inl rfl) (pe_op op_mod (pe_op op_mul (pv 3) (pv 3)) pe_int))
    (pss_one (ps_ret (pe_op op_mod (pe_op op_add (pe_op op_add (pe_op op_mul (pv 3) (pv 3)) (pe_op op_mul pe_int (pv 3))) (pe_op op_mul pe_int (pv 1))) pe_int)))))), ?_⟩
  refine ⟨_, rfl, _, _, rfl, rfl, _, rfl, ite2 (fun c1 => ?_) (fun c1 => ?_)⟩
  · refine ⟨_, rfl, _, _, rfl, rfl, (by show (0 : Int) < 2; decide), rfl, _, rfl, ite2 (fun c2 => ?_) (fun c2 => ?_)⟩
    · refine ⟨_, rfl, _, _, rfl, rfl, ⟨by decide, by decide⟩, ?_⟩
      refine ⟨_, rfl, k, rfl, by omega, by omega, ?_⟩
      refine for_range (lo := 0) (n := k.toNat) (fun j σ H2 => ∃ (z : Int) (o : Option V), σ = [some (.int z), some (.int k), o, none] ∧ H2 = H) ⟨_, _, rfl, rfl⟩ ?_ ?_
      · rintro j σ H2 hj ⟨z, o, rfl, rfl⟩
        exact ⟨_, rfl, _, _, rfl, rfl, ⟨by decide, by decide⟩, _, _, rfl, rfl⟩
      · rintro σ H2 ⟨z, o, rfl, rfl⟩
        exact ⟨_, rfl, _, _, rfl, rfl, (by show (0 : Int) < 2147483587; decide), q _ (by show (0 : Int) ≤ z % 2147483587; omega) (by show z % 2147483587 < 2147483587; omega)⟩
    · refine ⟨_, rfl, _, _, rfl, rfl, (by show (0 : Int) < 2147483629; decide), _, rfl, _, _, rfl, rfl, .inl ⟨by decide, by decide⟩, _, _, rfl, rfl, _, _, rfl, rfl, _, _, rfl, rfl, (by show (0 : Int) < 2147483629; decide), ?_⟩
      have a0 : 0 ≤ (c % 2147483629 + 7919 * k + 17) % 2147483629 := by omega
      have a1 : (c % 2147483629 + 7919 * k + 17) % 2147483629 < 2147483629 := by omega
      dsimp only
      generalize (c % 2147483629 + 7919 * k + 17) % 2147483629 = n at a0 a1
      refine ⟨_, rfl, _, rfl, _, _, rfl, rfl, .inl ⟨by omega, by omega⟩, _, _, rfl, rfl, (by show (0 : Int) < 2147483629; decide), ?_⟩
      have b0 := Int.emod_nonneg (n * n) (show (2147483629 : Int) ≠ 0 by decide)
      have b1 := Int.emod_lt_of_pos (n * n) (show (0 : Int) < 2147483629 by decide)
      dsimp only
      generalize n * n % 2147483629 = n2 at b0 b1
      exact ⟨_, rfl, _, rfl, _, _, rfl, rfl, .inl ⟨by omega, by omega⟩, _, rfl, _, _, rfl, rfl, .inl ⟨by decide, by decide⟩, _, _, rfl, rfl, _, rfl, _, _, rfl, rfl, .inl ⟨by decide, by decide⟩, _, _, rfl, rfl, _, _, rfl, rfl, (by show (0 : Int) < 2147483587; decide), q _ (Int.emod_nonneg _ (by decide)) (Int.emod_lt_of_pos _ (by decide))⟩
  · refine iteF ?_
    refine ⟨_, rfl, _, _, rfl, rfl, (by show (0 : Int) < 2147483629; decide), _, rfl, _, _, rfl, rfl, .inl ⟨by decide, by decide⟩, _, _, rfl, rfl, _, _, rfl, rfl, _, _, rfl, rfl, (by show (0 : Int) < 2147483629; decide), ?_⟩
    have a0 : 0 ≤ (c % 2147483629 + 7919 * k + 17) % 2147483629 := by omega
    have a1 : (c % 2147483629 + 7919 * k + 17) % 2147483629 < 2147483629 := by omega
    dsimp only
    generalize (c % 2147483629 + 7919 * k + 17) % 2147483629 = n at a0 a1
    refine ⟨_, rfl, _, rfl, _, _, rfl, rfl, .inl ⟨by omega, by omega⟩, _, _, rfl, rfl, (by show (0 : Int) < 2147483629; decide), ?_⟩
    have b0 := Int.emod_nonneg (n * n) (show (2147483629 : Int) ≠ 0 by decide)
    have b1 := Int.emod_lt_of_pos (n * n) (show (0 : Int) < 2147483629 by decide)
    dsimp only
    generalize n * n % 2147483629 = n2 at b0 b1
    exact ⟨_, rfl, _, rfl, _, _, rfl, rfl, .inl ⟨by omega, by omega⟩, _, rfl, _, _, rfl, rfl, .inl ⟨by decide, by decide⟩, _, _, rfl, rfl, _, rfl, _, _, rfl, rfl, .inl ⟨by decide, by decide⟩, _, _, rfl, rfl, _, _, rfl, rfl, (by show (0 : Int) < 2147483587; decide), q _ (Int.emod_nonneg _ (by decide)) (Int.emod_lt_of_pos _ (by decide))⟩
/-- a number between two bounds -/
def spNea : Sp := fun vs H Q _ => ∃ (n lo hi : Int), vs = [.int n, .int lo, .int hi] ∧ lo ≤ hi ∧ ∀ (v : Int) H', lo ≤ v → v ≤ hi → Same H H' → Q (.int v) H'
theorem pick3 (n a b c : Int) : ∃ v : Int, (v = a ∨ v = b ∨ v = c) ∧ atI [V.int a, V.int b, V.int c] (n % 4 % 3) = some (.int v) := by
  obtain e | e | e : n % 4 % 3 = 0 ∨ n % 4 % 3 = 1 ∨ n % 4 % 3 = 2 := by omega
  · rw [e]; exact ⟨a, .inl rfl, rfl⟩
  · rw [e]; exact ⟨b, .inr (.inl rfl), rfl⟩
  · rw [e]; exact ⟨c, .inr (.inr rfl), rfl⟩
theorem scNea : FnScope ["_law_number", "_law_low", "_law_high", "_law_some"] ["_law_number", "_law_low", "_law_high"] (defScope sNea) := ⟨rfl, rfl, rfl, by decide +kernel, rfl, by decide +kernel, by decide +kernel⟩
theorem ok_Nea (F : Fun K "_law_near" "_law_near" sNea f fd) (T : Txt mg) : FnOk P w K mg base CX0 1 f fd ["_law_number", "_law_low", "_law_high"] spNea := by
  refine F.ok scNea (fun vs H Q E h => ?_) (fun cdv A outer s H vs Q E hr h => ?_)
  · obtain ⟨n, lo, hi, rfl, _⟩ := h
    rfl
  obtain ⟨n, lo, hi, rfl, hl, q⟩ := h
  refine ⟨_, (pss_cons (ps_set (i := 3) scNea.nd rfl (Or.inl rfl) (pe_lst (pa_cons (pv 1) (pa_cons (pv 2) (pa_cons (pe_op op_add (pv 1) (pe_op op_mod (pe_op op_fdiv (pv 0) pe_int) (pe_op op_add (pe_op op_sub (pv 2) (pv 1)) pe_int))) pa_nil)))))
    (pss_one (ps_ret (pe_ix ix_list (pv 3) (pe_op op_mod (pe_op op_mod (pv 0) pe_int) pe_int) (fun _ _ => rfl))))), ?_⟩
  refine ⟨_, rfl, _, rfl, _, rfl, _, rfl, _, _, rfl, rfl, ⟨by decide, by decide⟩, _, rfl, _, rfl, _, _, rfl, rfl, _, _, rfl, rfl, _, _, rfl, rfl, (by show (0 : Int) < hi - lo + 1; omega), _, _, rfl, rfl, (by show 3 ≤ sizeLine; decide), fun p hp => ?_⟩
  have b0 := Int.emod_nonneg (n / 4) (show hi - lo + 1 ≠ 0 by omega)
  have b1 := Int.emod_lt_of_pos (n / 4) (show 0 < hi - lo + 1 by omega)
  dsimp only
  generalize n / 4 % (hi - lo + 1) = m at b0 b1
  obtain ⟨v, hv, ev⟩ := pick3 n lo hi (lo + m)
  exact ⟨_, rfl, _, rfl, _, _, rfl, rfl, (by show (0 : Int) < 4; decide), _, _, rfl, rfl, (by show (0 : Int) < 3; decide), p, _, _, .int v, rfl, rfl, SqL.of upd_same, ev, q v _ (by omega) (by omega) (same_new hp _)⟩
/-- something that is none of these -/
theorem str_small : ∀ i : Int, 0 ≤ i → i ≤ 9 → (Str.ofString (toString i)).length ≤ 100 := fun i h0 h9 => by
  obtain e | e | e | e | e | e | e | e | e | e : i = 0 ∨ i = 1 ∨ i = 2 ∨ i = 3 ∨ i = 4 ∨ i = 5 ∨ i = 6 ∨ i = 7 ∨ i = 8 ∨ i = 9 := by omega
  all_goals subst e; decide +kernel
theorem log_small : ∀ i : Int, 0 ≤ i → i ≤ 9 → i.natAbs.log2 < 1920 := fun i h0 h9 => by
  obtain e | e | e | e | e | e | e | e | e | e : i = 0 ∨ i = 1 ∨ i = 2 ∨ i = 3 ∨ i = 4 ∨ i = 5 ∨ i = 6 ∨ i = 7 ∨ i = 8 ∨ i = 9 := by omega
  all_goals subst e; decide +kernel
theorem off_int {v lo hi : Int} (h : v < lo ∨ hi < v) : wthT (.int v) lo hi = false := by
  show (decide (lo ≤ v) && decide (v ≤ hi)) = false
  rcases h with h | h
  · rw [decide_eq_false (by omega), Bool.false_and]
  · rw [decide_eq_false (show ¬ v ≤ hi by omega), Bool.and_false]
def spOff : Sp := fun vs H Q _ => ∃ (n lo hi : Int), vs = [.int n, .int lo, .int hi] ∧ 0 ≤ n ∧ n < 2147483587 ∧ 0 ≤ lo ∧ lo ≤ 9 ∧ lo ≤ hi ∧ ∀ v t H', Same H H' → At H' t v → wthT t lo hi = false → sm t = true → dep t ≤ 1 → isLstT t = false → nl t = true → Q v H'
theorem scOff : FnScope ["_law_number", "_law_low", "_law_high", "_law_some"] ["_law_number", "_law_low", "_law_high"] (defScope sOff) := ⟨rfl, rfl, rfl, by decide +kernel, rfl, by decide +kernel, by decide +kernel⟩
theorem ok_Off (F : Fun K "_law_off" "_law_off" sOff f fd) (T : Txt mg) : FnOk P w K mg base CX0 1 f fd ["_law_number", "_law_low", "_law_high"] spOff := by
  refine F.ok scOff (fun vs H Q E h => ?_) (fun cdv A outer s H vs Q E hr h => ?_)
  · obtain ⟨n, lo, hi, rfl, _⟩ := h
    rfl
  obtain ⟨n, lo, hi, rfl, n0, n1, l0, l9, hl, q⟩ := h
  refine ⟨_, (pss_cons (ps_set (i := 3) scOff.nd rfl (Or.inl rfl) (pe_lst (pa_cons (pe_op op_sub (pv 1) pe_int) (pa_cons (pe_op op_add (pv 2) pe_int) (pa_cons (pe_op op_sub (pe_op op_sub (pv 1) pe_int) (pe_op op_mul (pv 0) (pe_op op_pow pe_int pe_int))) (pa_cons (pe_op op_add (pe_op op_add (pv 2) pe_int) (pe_op op_mul (pv 0) (pe_op op_pow pe_int pe_int))) (pa_cons pe_bl (pa_cons pe_non (pa_cons (pe_callTy call_str_int rfl T.str PyProof.Rows.boot_str (pa_cons (pv 1) pa_nil)) (pa_cons (pe_tup (pa_cons (pv 1) pa_nil)) pa_nil))))))))))
    (pss_one (ps_ret (pe_ix ix_list (pv 3) (pe_op op_mod (pv 0) pe_int) (fun _ _ => rfl))))), ?_⟩
  refine ⟨_, rfl, _, _, rfl, rfl, _, rfl, _, _, rfl, rfl, _, rfl, _, _, rfl, rfl, _, rfl, ?_⟩
  refine ⟨_, _, rfl, rfl, ⟨by decide, by decide, by decide⟩, _, _, rfl, rfl, .inl ⟨by omega, by omega⟩, _, _, rfl, rfl, ?_⟩
  refine ⟨_, rfl, _, _, rfl, rfl, _, rfl, _, _, rfl, rfl, ⟨by decide, by decide, by decide⟩, _, _, rfl, rfl, .inl ⟨by omega, by omega⟩, _, _, rfl, rfl, ?_⟩
  refine ⟨_, rfl, lo, rfl, log_small lo l0 l9, ?_⟩
  refine ⟨_, rfl, (by show 1 ≤ sizeLine; decide), fun pt hpt => ⟨(by show 8 ≤ sizeLine; decide), fun p hp => ?_⟩⟩
  have s1 := same_new hpt (HO.tup [V.int lo])
  have big : 0 ≤ n * 10 ^ Int.toNat 20 := Int.mul_nonneg n0 (by decide)
  dsimp only at hp ⊢
  generalize n * 10 ^ Int.toNat 20 = m at big hp
  have s2 := s1.trans (same_new hp (HO.lst [V.int (lo - 1), V.int (hi + 1), V.int (lo - 1 - m), V.int (hi + 1 + m), V.bl true, V.non, V.str (Str.ofString (toString lo)), V.ref pt]))
  have ht : upd (upd H pt (HO.tup [V.int lo])) p (HO.lst [V.int (lo - 1), V.int (hi + 1), V.int (lo - 1 - m), V.int (hi + 1 + m), V.bl true, V.non, V.str (Str.ofString (toString lo)), V.ref pt]) pt = some (.tup [V.int lo]) := (same_new hp _) _ _ upd_same
  refine ⟨_, rfl, _, rfl, _, _, rfl, rfl, (by show (0 : Int) < 8; decide), ?_⟩
  dsimp only
  obtain e | e | e | e | e | e | e | e : n % 8 = 0 ∨ n % 8 = 1 ∨ n % 8 = 2 ∨ n % 8 = 3 ∨ n % 8 = 4 ∨ n % 8 = 5 ∨ n % 8 = 6 ∨ n % 8 = 7 := by omega
  · exact ⟨p, _, _, _, rfl, rfl, SqL.of upd_same, (by rw [e]; rfl), q _ _ _ s2 (At.int _) (off_int (by omega)) rfl (by show (0 : Nat) ≤ 1; decide) rfl rfl⟩
  · exact ⟨p, _, _, _, rfl, rfl, SqL.of upd_same, (by rw [e]; rfl), q _ _ _ s2 (At.int _) (off_int (by omega)) rfl (by show (0 : Nat) ≤ 1; decide) rfl rfl⟩
  · exact ⟨p, _, _, _, rfl, rfl, SqL.of upd_same, (by rw [e]; rfl), q _ _ _ s2 (At.int _) (off_int (by omega)) rfl (by show (0 : Nat) ≤ 1; decide) rfl rfl⟩
  · exact ⟨p, _, _, _, rfl, rfl, SqL.of upd_same, (by rw [e]; rfl), q _ _ _ s2 (At.int _) (off_int (by omega)) rfl (by show (0 : Nat) ≤ 1; decide) rfl rfl⟩
  · exact ⟨p, _, _, _, rfl, rfl, SqL.of upd_same, (by rw [e]; rfl), q _ _ _ s2 (At.bl _) rfl rfl (by decide) rfl rfl⟩
  · exact ⟨p, _, _, _, rfl, rfl, SqL.of upd_same, (by rw [e]; rfl), q _ _ _ s2 At.non rfl rfl (by decide) rfl rfl⟩
  · exact ⟨p, _, _, _, rfl, rfl, SqL.of upd_same, (by rw [e]; rfl), q _ _ _ s2 (At.str _) rfl (by unfold sm; exact decide_eq_true (str_small lo l0 l9)) (by unfold dep; decide) rfl rfl⟩
  · exact ⟨p, _, _, _, rfl, rfl, SqL.of upd_same, (by rw [e]; rfl), q _ (.tup [.int lo]) _ s2 (At.mkT ht (Ats.cons (At.int _) (Ats.nil _))) rfl rfl (by show (1 : Nat) ≤ 1; decide) rfl rfl⟩
end
end K22
set_option maxHeartbeats 4000000
namespace K22
open PySem L2
/-! ### words that rise -/
def sgS : Str := Str.ofString "0123456789abcdefghijklmnopqrstuvwxyz"
def sgL : List Nat := [48, 49, 50, 51, 52, 53, 54, 55, 56, 57, 97, 98, 99, 100, 101, 102, 103, 104, 105, 106, 107, 108, 109, 110, 111, 112, 113, 114, 115, 116, 117, 118, 119, 120, 121, 122]
theorem sgS_codes : sgS.cps.toList = sgL := by decide +kernel
def sgC (i : Nat) : Nat := sgL.getD i 0
theorem sg_ok : ∀ i : Nat, i < 36 → okc (sgC i) = true := by decide +kernel
theorem sg_rise : ∀ i : Nat, i < 36 → ∀ j : Nat, j < 36 → i < j → sgC i < sgC j := by decide +kernel
theorem sg_at (i : Int) (h0 : 0 ≤ i) (h1 : i < 36) : atI sgS.cps.toList i = some (sgC i.toNat) := by
  rw [sgS_codes]
  have e : i = ((i.toNat : Nat) : Int) := by omega
  rw [e]
  refine atI_nat ?_
  unfold sgC
  rw [Int.toNat_natCast, List.getD_eq_getElem?_getD]
  have : i.toNat < sgL.length := by
    show i.toNat < 36
    omega
  rw [List.getElem?_eq_getElem this]
  rfl
def one (c : Nat) : Str := ⟨#[c]⟩
theorem glued_nil : ∀ (l : List Str) (acc : Array Nat), (l.foldl (fun a p => a ++ (Str.ofString "").cps ++ p.cps) acc).toList = acc.toList ++ (l.map (·.cps.toList)).flatten
  | [], acc => by simp
  | x :: l, acc => by
    have e : (Str.ofString "").cps = #[] := by decide +kernel
    rw [List.foldl_cons, glued_nil l]
    simp [e]
theorem join_codes (l : List Str) : (Txt.join (Str.ofString "") l).cps.toList = (l.map (·.cps.toList)).flatten := by
  cases l with
  | nil => decide +kernel
  | cons x l =>
    show ((List.foldl (fun a p => a ++ (Str.ofString "").cps ++ p.cps) x.cps l)).toList = _
    rw [glued_nil]
    rfl
theorem join_ones : ∀ cs : List Nat, (Txt.join (Str.ofString "") (cs.map one)).cps.toList = cs := fun cs => by
  rw [join_codes, List.map_map]
  induction cs with
  | nil => rfl
  | cons c cs ih =>
    show [c] ++ ((cs.map _).flatten) = c :: cs
    rw [ih]
    rfl
theorem len_codes (z : Str) : z.length = z.cps.toList.length := by
  rw [codes_len]
theorem app_codes (a b : Str) : (a ++ b).cps.toList = a.cps.toList ++ b.cps.toList := by
  show (a.cps ++ b.cps).toList = _
  rw [Array.toList_append]
theorem lt_snoc {c d : Nat} (h : c < d) : ∀ l : List Nat, l ++ [c] < l ++ [d]
  | [] => by
    show [c] < [d]
    simp [List.cons_lt_cons_iff, h]
  | x :: l => by
    show x :: (l ++ [c]) < x :: (l ++ [d])
    rw [List.cons_lt_cons_iff]
    exact .inr ⟨rfl, lt_snoc h l⟩
theorem ris_of : ∀ {zs : List Str}, (∀ (i : Nat) a b, zs[i]? = some a → zs[i + 1]? = some b → a.cps.toList < b.cps.toList) → risS zs = true
  | [], _ => rfl
  | [a], _ => rfl
  | a :: b :: t, h => by
    show (decide (a.cps.toList < b.cps.toList) && risS (b :: t)) = true
    rw [decide_eq_true (h 0 a b rfl rfl), ris_of fun i x y hx hy => h (i + 1) x y hx hy]
    rfl
section
variable {P : Program} {w : World} {K : PySem.W.Frag} {mg : Str → Option Value} {base : Heap} {f fMix : Addr} {fd dMix : FuncData}
theorem comp_rng {lo : Int} {n : Nat} {p : Addr} {tt : TT} {te : TE} {cs : St} {Q : VK} {H1 : Hp} (Pv : Nat → List V → Hp → Prop) (h0 : Pv 0 [] (upd H1 p (.lst [])))
    (hs : ∀ i ys H, i < n → Pv i ys H → tt (some (.int (lo + i)) :: cs) H fun b H4 => if b = true then te (some (.int (lo + i)) :: cs) H4 fun y H5 => H5 p = some (.lst ys) ∧ ys.length < sizeLine ∧ Pv (i + 1) (ys ++ [y]) (upd H5 p (.lst (ys ++ [y]))) else Pv (i + 1) ys H4)
    (hd : ∀ ys H, Pv n ys H → Q (.ref p) H) : CompW (Itr lo n) p tt te cs Q H1 := by
  refine comp_by n Pv h0 ?_ ?_
  · intro i ys H hi pv
    refine ⟨hi, fun v H3 y => ?_⟩
    obtain ⟨rfl, rfl⟩ := y
    exact hs i ys _ hi pv
  · intro ys H pv
    exact ⟨Nat.le_refl _, hd ys H pv⟩
def spWds : Sp := fun vs H Q _ => ∃ (n : Int), vs = [.int n] ∧ ∀ p H' (zs : List Str), Same H H' → H p = none → H' p = some (.lst (zs.map V.str)) → zs.length ≤ 8 → (∀ z ∈ zs, isw z = true) → risS zs = true → Q (.ref p) H'
theorem scWds : FnScope ["_law_number", "_law_signs", "_law_size", "_law_base"] ["_law_number"] (defScope sWds) := ⟨rfl, rfl, rfl, by decide +kernel, rfl, by decide +kernel, by decide +kernel⟩
theorem ok_Wds (F : Fun K "_law_words" "_law_words" sWds f fd) (hMix : Has K mg "_law_mixed" sMix ["_law_cell", "_law_k"] fMix dMix) (GMix : FnOk P w K mg base CX0 1 fMix dMix ["_law_cell", "_law_k"] spMix) (T : Txt mg) : FnOk P w K mg base CX0 2 f fd ["_law_number"] spWds := by
  refine F.ok scWds (fun vs H Q E h => ?_) (fun cdv A outer s H vs Q E hr h => ?_)
  · obtain ⟨n, rfl, _⟩ := h
    rfl
  obtain ⟨n, rfl, q⟩ := h
  refine ⟨_, (pss_cons (ps_set (i := 1) scWds.nd rfl (Or.inr rfl) pe_str)
    (pss_cons (ps_set (i := 2) scWds.nd rfl (Or.inl rfl) (pe_op op_mod (pv 0) pe_int))
    (pss_cons (ps_set (i := 3) scWds.nd rfl (Or.inr rfl) (pe_bm PySem.F.plainAttrs_str PySem.F.slot_str_join PySem.F.type_str_join mt_join pe_str (pa_cons (pe_comp [0, 1] ["_law_number", "_law_signs"] (pi_range1 rfl T.rng (pa_cons (pv 2) pa_nil)) (fun _ _ _ _ _ _ => pts_nil)
          (fun _ _ _ _ _ _ => (pe_ix ix_str (pv 2) (pe_op op_mod (pe_call GMix (hr.mono (by decide)) rfl hMix.nm hMix.fn.kp hMix.bd .nil pass0 (pa_cons (pv 1) (pa_cons (pv 0) pa_nil))) pe_int) (fun _ _ => rfl)))
          rfl (by decide +kernel) (by decide +kernel) rfl (by decide +kernel) (fun j y hj => by
            match j, hj with
            | 0, hj => cases hj; exact ⟨0, rfl, rfl, rfl, .inl rfl⟩ 
            | 1, hj => cases hj; exact ⟨1, rfl, rfl, rfl, .inl rfl⟩) rfl (by decide +kernel) rfl) pa_nil)))
    (pss_one (ps_ret (pe_comp [0, 1, 3] ["_law_number", "_law_signs", "_law_base"] (pi_range1 rfl T.rng (pa_cons (pe_op op_mod (pe_op op_fdiv (pv 0) pe_int) pe_int) pa_nil)) (fun _ _ _ _ _ _ => pts_nil)
          (fun _ _ _ _ _ _ => (pe_op op_add_str (pv 3) (pe_ix ix_str (pv 2) (pe_op op_add (pe_op op_mul pe_int (pv 0)) (pe_op op_mod (pe_op op_fdiv (pv 1) pe_int) pe_int)) (fun _ _ => rfl))))
          rfl (by decide +kernel) (by decide +kernel) rfl (by decide +kernel) (fun j y hj => by
            match j, hj with
            | 0, hj => cases hj; exact ⟨0, rfl, rfl, rfl, .inl rfl⟩ 
            | 1, hj => cases hj; exact ⟨1, rfl, rfl, rfl, .inl rfl⟩ 
            | 2, hj => cases hj; exact ⟨3, rfl, rfl, rfl, .inl rfl⟩) rfl (by decide +kernel) rfl)))))), ?_⟩
  refine ⟨_, rfl, _, _, rfl, rfl, (by show (0 : Int) < 8; decide), ?_⟩
  have a0 : 0 ≤ n % 8 := by omega
  have a1 : n % 8 < 8 := by omega
  dsimp only
  generalize n % 8 = size at a0 a1
  refine ⟨rfl, _, rfl, size, rfl, by omega, by omega, fun p hp => ?_⟩
  refine comp_rng (fun i us H2 => ∃ cs : List Nat, Same H H2 ∧ H2 p = some (.lst us) ∧ us = (cs.map one).map V.str ∧ cs.length = i ∧ ∀ c ∈ cs, okc c = true) ⟨[], same_new hp _, upd_same, rfl, rfl, fun c h => by cases h⟩ ?_ ?_
  · rintro i us H2 hi ⟨cs, s2, e2, rfl, lc, oc⟩
    have hi' : i < size.toNat := hi
    refine ttT ⟨_, rfl, _, rfl, _, rfl, n, 0 + (i : Int), rfl, by omega, by omega, fun z z0 z1 => ⟨_, _, rfl, rfl, (by show (0 : Int) < 36; decide), ?_⟩⟩
    have b0 : 0 ≤ z % 36 := by omega
    have b1 : z % 36 < 36 := by omega
    dsimp only
    refine ⟨sgS, _, sgC (z % 36).toNat, rfl, rfl, by decide +kernel, sg_at _ b0 b1, e2, small (by simp; omega), cs ++ [sgC (z % 36).toNat], same_over s2 hp _, upd_same, by rw [List.map_append, List.map_append]; rfl, by simp [lc], fun c hc => ?_⟩
    rcases List.mem_append.mp hc with m | m
    · exact oc c m
    · rw [List.mem_singleton.mp m]
      exact sg_ok _ (by omega)
  rintro us H2 ⟨cs, s2, e2, rfl, lc, oc⟩
  refine ⟨Str.ofString "", p, cs.map one, rfl, rfl, SqL.of e2, ?_, ?_⟩
  · have : ∀ l : List Nat, ((l.map one).map (·.length)).sum = l.length := fun l => by
      induction l with
      | nil => rfl
      | cons c l ih =>
        show 1 + ((l.map one).map (·.length)).sum = l.length + 1
        rw [ih, Nat.add_comm]
    rw [this, List.length_map]
    have e0 : (Str.ofString "").length = 0 := by decide +kernel
    rw [e0]
    omega
  have bc := join_ones cs
  generalize Txt.join (Str.ofString "") (cs.map one) = bs at bc
  have lb : bs.length = cs.length := by rw [len_codes, bc]
  refine ⟨_, rfl, _, _, rfl, rfl, ⟨by decide, by decide⟩, _, _, rfl, rfl, (by show (0 : Int) < 9; decide), ?_⟩
  have c0 : 0 ≤ n / 32 % 9 := by omega
  have c1 : n / 32 % 9 < 9 := by omega
  dsimp only
  generalize n / 32 % 9 = many at c0 c1
  refine ⟨many, rfl, by omega, by omega, fun p2 hp2 => ?_⟩
  have d0 : 0 ≤ n / 8 % 4 := by omega
  have d1 : n / 8 % 4 < 4 := by omega
  refine comp_rng (fun i us H5 => Same H2 H5 ∧ H5 p2 = some (.lst us) ∧ us = ((List.range i).map fun k : Nat => bs ++ one (sgC (4 * k + (n / 8 % 4).toNat))).map V.str) ⟨same_new hp2 _, upd_same, rfl⟩ ?_ ?_
  · rintro i us H5 hi ⟨s5, e5, rfl⟩
    have hi' : i < many.toNat := hi
    refine ttT ⟨_, rfl, _, rfl, _, rfl, _, _, rfl, rfl, .inl ⟨by decide, by decide⟩, _, rfl, _, _, rfl, rfl, ⟨by decide, by decide⟩, _, _, rfl, rfl, (by show (0 : Int) < 4; decide), _, _, rfl, rfl, ?_⟩
    dsimp only
    refine ⟨sgS, _, _, rfl, rfl, by decide +kernel, sg_at _ (by omega) (by omega), bs, _, rfl, rfl, ?_, e5, small (by simp; omega), same_over s5 hp2 _, upd_same, ?_⟩
    · show bs.length + 1 ≤ sizeLine
      exact Nat.le_of_lt (small (by omega))
    · rw [List.range_succ, List.map_append, List.map_append]
      have : (4 * (0 + (i : Int)) + n / 8 % 4).toNat = 4 * i + (n / 8 % 4).toNat := by omega
      rw [this]
      rfl
  rintro us H5 ⟨s5, e5, rfl⟩
  refine q p2 H5 _ (s2.trans s5) (s2.free hp2) e5 (by simp; omega) (fun z hz => ?_) (ris_of fun i a b ha hb => ?_)
  · obtain ⟨k, hk, rfl⟩ := List.mem_map.mp hz
    have hk := List.mem_range.mp hk
    have lz : (bs ++ one (sgC (4 * k + (n / 8 % 4).toNat))).length = bs.length + 1 := by
      rw [Str.length_append]
      rfl
    rw [isw_all (by omega), app_codes, List.all_append, bc, Bool.and_eq_true]
    refine ⟨List.all_eq_true.mpr fun c hc => oc c hc, ?_⟩
    show (okc (sgC (4 * k + (n / 8 % 4).toNat)) && true) = true
    rw [sg_ok _ (by omega)]
    rfl
  · have li : i + 1 < many.toNat := by
      have := (List.getElem?_eq_some_iff.mp hb).1
      simpa using this
    rw [List.getElem?_map, List.getElem?_range (by omega)] at ha hb
    cases ha
    cases hb
    rw [app_codes, app_codes]
    exact lt_snoc (sg_rise _ (by omega) _ (by omega) (by omega)) _
end
end K22
set_option maxHeartbeats 4000000
namespace K22
open PySem L2
/-! ### a row of lists -/
def LsAt (H : Hp) (as : List Addr) (rs : List S4) : Prop := as.length = rs.length ∧ ∀ (i : Nat) a r, as[i]? = some a → rs[i]? = some r → H a = some (.lst (tv r))
theorem LsAt.keep {H H' : Hp} {as : List Addr} {rs : List S4} (h : LsAt H as rs) (k : ∀ a ∈ as, ∀ o, H a = some o → H' a = some o) : LsAt H' as rs :=
  ⟨h.1, fun i a r ha hr => k a (List.mem_of_getElem? ha) _ (h.2 i a r ha hr)⟩
theorem LsAt.mono {H H' : Hp} {as : List Addr} {rs : List S4} (h : LsAt H as rs) (s : Same H H') : LsAt H' as rs := h.keep fun a _ o e => s a o e
theorem LsAt.snoc {H : Hp} {as : List Addr} {rs : List S4} {a : Addr} {r : S4} (h : LsAt H as rs) (e : H a = some (.lst (tv r))) : LsAt H (as ++ [a]) (rs ++ [r]) := by
  refine ⟨by simp [h.1], fun i b q hb hq => ?_⟩
  by_cases z : i < as.length
  · rw [List.getElem?_append_left z] at hb
    rw [List.getElem?_append_left (by rw [← h.1]; exact z)] at hq
    exact h.2 i b q hb hq
  · have li : i < (as ++ [a]).length := (List.getElem?_eq_some_iff.mp hb).1
    rw [List.length_append, List.length_singleton] at li
    have ei : i = as.length := by omega
    subst ei
    rw [List.getElem?_append_right (Nat.le_refl _), Nat.sub_self] at hb
    rw [h.1, List.getElem?_append_right (Nat.le_refl _), Nat.sub_self] at hq
    cases hb
    cases hq
    exact e
def okR (r : S4) : Prop := 1 ≤ r.2.1 ∧ 2 ≤ r.2.2.1 ∧ r.2.2.1 ≤ 599 ∧ 0 ≤ r.2.2.2 ∧ r.2.2.2 + r.2.1 ≤ 8
theorem row_is {rs : List S4} {n : Int} (o : Ord 0 rs n) (h40 : n ≤ 40) (g : noGo rs = true) (k : ∀ r ∈ rs, okR r) : isRowP rs n = true := by
  unfold isRowP
  rw [ord_apart o g, Bool.and_true, Bool.and_eq_true, List.all_eq_true, List.all_eq_true]
  constructor
  · intro r hr
    have b := o.mem hr
    have z := k r hr
    unfold okR at z
    unfold okP
    simp only [Bool.and_eq_true, decide_eq_true_eq]
    omega
  · intro r hr
    exact decide_eq_true (o.mem hr).2.2
theorem noGo_add : ∀ {rs : List S4} {r : S4}, noGo rs = true → (∀ z, rs.getLast? = some z → goOn z r = false) → noGo (rs ++ [r]) = true
  | [], r, _, _ => rfl
  | [a], r, _, h => by
    show (!goOn a r && true) = true
    rw [h a rfl]
    rfl
  | a :: b :: t, r, g, h => by
    have g' : (!goOn a b && noGo (b :: t)) = true := g
    rw [Bool.and_eq_true] at g'
    show (!goOn a b && noGo ((b :: t) ++ [r])) = true
    rw [g'.1, noGo_add g'.2 fun z hz => h z (by rw [List.getLast?_cons_cons]; exact hz)]
    rfl
section
variable {P : Program} {w : World} {K : PySem.W.Frag} {mg : Str → Option Value} {base : Heap} {f fMix fNea : Addr} {fd dMix dNea : FuncData}
def spRow : Sp := fun vs H Q _ => ∃ (n : Int), vs = [.int n] ∧ ∀ tp H' rl (as : List Addr) (rs : List S4) (size : Int), Same H H' → H' tp = some (.tup [.int size, .ref rl]) → H rl = none → H' rl = some (.lst (as.map V.ref)) → LsAt H' as rs → as.Nodup → rl ∉ as → (∀ a ∈ as, H a = none) → rs.length ≤ 4 → 0 ≤ size → size ≤ 40 → isRowP rs size = true → Q (.ref tp) H'
theorem scRow : FnScope ["_law_number", "_law_row_here", "_law_at", "_law_k", "_law_more", "_law_long", "_law_place", "_law_skip"] ["_law_number"] (defScope sRow) := ⟨rfl, rfl, rfl, by decide +kernel, rfl, by decide +kernel, by decide +kernel⟩
theorem ok_Row (F : Fun K "_law_row" "_law_row" sRow f fd) (hMix : Has K mg "_law_mixed" sMix ["_law_cell", "_law_k"] fMix dMix) (GMix : FnOk P w K mg base CX0 1 fMix dMix ["_law_cell", "_law_k"] spMix)
    (hNea : Has K mg "_law_near" sNea ["_law_number", "_law_low", "_law_high"] fNea dNea) (GNea : FnOk P w K mg base CX0 1 fNea dNea ["_law_number", "_law_low", "_law_high"] spNea) (T : Txt mg) : FnOk P w K mg base CX0 2 f fd ["_law_number"] spRow := by
  refine F.ok scRow (fun vs H Q E h => ?_) (fun cdv A outer s H vs Q E hr h => ?_)
  · obtain ⟨n, rfl, _⟩ := h
    rfl
  obtain ⟨n, rfl, q⟩ := h
  have hu := hu_of hr
  refine ⟨_, (pss_cons (ps_set (i := 1) scRow.nd rfl (Or.inl rfl) (pe_lst pa_nil))
    (pss_cons (ps_set (i := 2) scRow.nd rfl (Or.inl rfl) pe_int)
    (pss_cons (ps_for PassesOwn.never rfl (pi_range1 rfl T.rng (pa_cons (pe_op op_mod (pv 0) pe_int) pa_nil)) (pg_name (i := 3) scRow.nd rfl (Or.inl rfl))
    (pss_cons (ps_set (i := 4) scRow.nd rfl (Or.inl rfl) (pe_call GMix (hr.mono (by decide)) rfl hMix.nm hMix.fn.kp hMix.bd .nil pass0 (pa_cons (pv 0) (pa_cons (pv 3) pa_nil))))
    (pss_cons (ps_set (i := 5) scRow.nd rfl (Or.inl rfl) (pe_call GNea (hr.mono (by decide)) rfl hNea.nm hNea.fn.kp hNea.bd .nil pass0 (pa_cons (pv 4) (pa_cons pe_int (pa_cons pe_int pa_nil)))))
    (pss_cons (ps_set (i := 2) scRow.nd rfl (Or.inl rfl) (pe_op op_add (pv 2) (pe_op op_mod (pe_op op_fdiv (pv 4) pe_int) pe_int)))
    (pss_cons (ps_set (i := 6) scRow.nd rfl (Or.inl rfl) (pe_call GNea (hr.mono (by decide)) rfl hNea.nm hNea.fn.kp hNea.bd .nil pass0 (pa_cons (pe_op op_fdiv (pv 4) pe_int) (pa_cons pe_int (pa_cons pe_int pa_nil)))))
    (pss_cons (ps_set (i := 7) scRow.nd rfl (Or.inl rfl) (pe_call GNea (hr.mono (by decide)) rfl hNea.nm hNea.fn.kp hNea.bd .nil pass0 (pa_cons (pe_op op_fdiv (pv 4) pe_int) (pa_cons pe_int (pa_cons (pe_op op_sub pe_int (pv 5)) pa_nil)))))
    (pss_cons (ps_if (PW.pt (pw_and (pt_cmpR (op_neE (hu_of hr |> Nat.lt_of_succ_lt)) (pv 1) (pe_lst pa_nil) (nomark _)) (pw_and (pt_cmpR (op_eqL (hu_of hr |> Nat.lt_of_succ_lt)) (pe_slice sl_list (pe_ix ix_list (pv 1) (pe_un un_neg pe_int) (fun _ _ => rfl)) (po_some pe_int) po_none) (pe_lst (pa_cons (pv 6) (pa_cons (pe_op op_sub (pv 7) (pe_ix ix_list (pe_ix ix_list (pv 1) (pe_un un_neg pe_int) (fun _ _ => rfl)) pe_int (fun _ _ => rfl))) pa_nil))) (nomark _)) (pw_and1 (pt_cmpR op_eq (pe_callB (call_sum hr.hd) rfl T.sum PyProof.Rows.boot_sum (pa_cons (pe_slice sl_list (pe_ix ix_list (pv 1) (pe_un un_neg pe_int) (fun _ _ => rfl)) po_none (po_some pe_int)) pa_nil)) (pv 2) (nomark _))))))
    (pss_one (ps_set (i := 2) scRow.nd rfl (Or.inl rfl) (pe_op op_add (pv 2) pe_int)))
    pss_nil)
    (pss_cons (ps_if (pt_cmpR op_gt (pe_op op_add (pv 2) (pv 5)) pe_int (nomark _))
    (pss_one ps_break)
    pss_nil)
    (pss_cons (ps_expr (pe_bm PySem.F.plainAttrs_list PySem.F.slot_list_append PySem.F.type_list_append mt_append (pv 1) (pa_cons (pe_lst (pa_cons (pv 2) (pa_cons (pv 5) (pa_cons (pv 6) (pa_cons (pv 7) pa_nil))))) pa_nil)))
    (pss_one (ps_set (i := 2) scRow.nd rfl (Or.inl rfl) (pe_op op_add (pv 2) (pv 5)))))))))))))
    (pss_one (ps_ret (pe_tup (pa_cons (pe_callB (call_min2 rfl) rfl T.min PyProof.Rows.boot_min (pa_cons pe_int (pa_cons (pe_op op_add (pv 2) (pe_op op_mod (pe_op op_fdiv (pv 0) pe_int) pe_int)) pa_nil))) (pa_cons (pv 1) pa_nil)))))))), ?_⟩
  refine ⟨by decide, fun rl hrl => ?_⟩
  have s1 := same_new hrl (HO.lst [])
  refine ⟨_, rfl, _, _, rfl, rfl, (by show (0 : Int) < 5; decide), ?_⟩
  have a0 : 0 ≤ n % 5 := by omega
  have a1 : n % 5 < 5 := by omega
  refine ⟨n % 5, rfl, by omega, by omega, ?_⟩
  refine for_range (lo := 0) (n := (n % 5).toNat) (fun i σ H3 => ∃ (at' : Int) (o3 o4 o5 o6 o7 : Option V) (as : List Addr) (rs : List S4), σ = [some (.int n), some (.ref rl), some (.int at'), o3, o4, o5, o6, o7] ∧ Same H H3 ∧ H3 rl = some (.lst (as.map V.ref)) ∧ LsAt H3 as rs ∧ as.Nodup ∧ rl ∉ as ∧ (∀ a ∈ as, H a = none) ∧ rs.length ≤ i ∧ 0 ≤ at' ∧ Ord 0 rs at' ∧ Ord 0 rs 40 ∧ noGo rs = true ∧ (∀ r ∈ rs, okR r))
    ⟨0, none, none, none, none, none, [], [], rfl, s1, upd_same, ⟨rfl, fun i a r h => by cases h⟩, List.nodup_nil, by simp, by simp, Nat.le_refl _, Int.le_refl _, Int.le_refl _, (by show (0 : Int) ≤ 40; decide), rfl, by simp⟩ ?_ ?_
  · rintro i σ H3 hi ⟨at', o3, o4, o5, o6, o7, as, rs, rfl, s3, e3, ls3, nd, nrl, nw, lr, at0, od, od40, ng, okk⟩
    have hi' : i < (n % 5).toNat := hi
    refine ⟨_, rfl, _, rfl, n, 0 + (i : Int), rfl, by omega, by omega, fun more m0 m1 => ?_⟩
    refine ⟨_, rfl, more, 1, 8, rfl, by decide, fun long H4 l1 l8 s4 => ?_⟩
    refine ⟨_, rfl, _, rfl, _, _, rfl, rfl, ⟨by decide, by decide⟩, _, _, rfl, rfl, (by show (0 : Int) < 2; decide), _, _, rfl, rfl, ?_⟩
    have b0 : 0 ≤ at' + more / 32 % 2 := by omega
    have od1 : Ord 0 rs (at' + more / 32 % 2) := od.up (by omega)
    dsimp only
    generalize at' + more / 32 % 2 = at2 at b0 od1
    refine ⟨_, rfl, _, _, rfl, rfl, ⟨by decide, by decide⟩, _, 2, 599, rfl, by decide, fun place H5 p2 p599 s5 => ?_⟩
    refine ⟨_, rfl, _, _, rfl, rfl, ⟨by decide, by decide⟩, _, rfl, _, _, rfl, rfl, _, 0, 8 - long, rfl, by omega, fun skip H6 k0 k1 s6 => ?_⟩
    have sA := s4.trans (s5.trans s6)
    have e6 := sA _ _ e3
    have ls6 := ls3.mono sA
    have s36 := s3.trans sA
    dsimp only
    refine at_next ?_
    refine seq_in (if_rest (fun σ' H' => ∃ (at3 : Int), σ' = [some (.int n), some (.ref rl), some (.int at3), some (.int (0 + (i : Int))), some (.int more), some (.int long), some (.int place), some (.int skip)] ∧ Same H6 H' ∧ at2 ≤ at3 ∧ ∀ z, rs.getLast? = some z → goOn z (at3, long, place, skip) = false) (fun σ' H' hR => ?_) (fun go => ?_))
    · obtain ⟨at3, rfl, s7, a23, ngo⟩ := hR
      have e7 := s7 _ _ e6
      have ls7 := ls6.mono s7
      have s37 := s36.trans s7
      have c0 : 0 ≤ at3 := by omega
      have od3 : Ord 0 rs at3 := od1.up a23
      refine ⟨_, rfl, _, rfl, _, _, rfl, rfl, _, _, rfl, rfl, _, rfl, ite2 (fun c => ?_) (fun c => ?_)⟩
      · refine ⟨_, rfl, _, rfl, _, _, rfl, rfl, ⟨by decide, by decide⟩, _, _, rfl, rfl, (by show (0 : Int) < 2; decide), _, _, rfl, rfl, _, _, rfl, _, rfl, (by show 2 ≤ sizeLine; decide), fun tp htp => ?_⟩
        have s8 := same_new htp (HO.tup [V.int (if at3 + n / 5 % 2 < 40 then at3 + n / 5 % 2 else 40), V.ref rl])
        have hz : 0 ≤ (if at3 + n / 5 % 2 < 40 then at3 + n / 5 % 2 else 40) ∧ (if at3 + n / 5 % 2 < 40 then at3 + n / 5 % 2 else 40) ≤ 40 ∧ Ord 0 rs (if at3 + n / 5 % 2 < 40 then at3 + n / 5 % 2 else 40) := by
          split
          · exact ⟨by omega, by omega, od3.up (by omega)⟩
          · exact ⟨by decide, Int.le_refl _, od40⟩
        exact q tp _ rl as rs _ (s37.trans s8) upd_same hrl (s8 _ _ e7) (ls7.mono s8) nd nrl nw (by omega) hz.1 hz.2.1 (row_is hz.2.2 hz.2.1 ng okk)
      · have c' : ¬ 40 < at3 + long := fun z => c (decide_eq_true z)
        refine ⟨_, rfl, .inl ⟨rfl, _, SqL.of e7⟩, _, rfl, _, rfl, _, rfl, _, rfl, (by show 4 ≤ sizeLine; decide), fun na hna => ?_⟩
        have s8 := same_new hna (HO.lst (tv (at3, long, place, skip)))
        have e8 := s8 _ _ e7
        have hnaH := s37.free hna
        have nar : na ≠ rl := fun z => by rw [z, e7] at hna; cases hna
        have nam : na ∉ as := fun z => by
          obtain ⟨j, hj⟩ := List.mem_iff_getElem?.mp z
          have lj : j < rs.length := by
            have := (List.getElem?_eq_some_iff.mp hj).1
            rw [ls7.1] at this
            exact this
          have := ls7.2 j na _ hj (List.getElem?_eq_getElem lj)
          rw [this] at hna
          cases hna
        have las : as.length ≤ 5 := by rw [ls7.1]; omega
        refine ⟨rl, _, _, rfl, rfl, e8, small (by rw [List.length_map]; omega), ?_⟩
        refine ⟨_, rfl, _, rfl, _, _, rfl, rfl, ?_⟩
        have od4 : Ord 0 (rs ++ [(at3, long, place, skip)]) (at3 + long) := od3.snoc (Int.le_refl _) (by show 0 < long; omega) (Int.le_refl _)
        have ls8 : LsAt (upd (upd H' na (HO.lst (tv (at3, long, place, skip)))) rl (.lst (as.map V.ref ++ [.ref na]))) (as ++ [na]) (rs ++ [(at3, long, place, skip)]) := by
          refine LsAt.snoc ((ls7.mono s8).keep fun a ha o e => ?_) ?_
          · rw [upd_ne (show a ≠ rl from fun z => nrl (by rw [← z]; exact ha))]
            exact e
          · rw [upd_ne nar]
            exact upd_same
        refine ⟨_, _, _, _, _, _, as ++ [na], rs ++ [(at3, long, place, skip)], rfl, same_over (s37.trans s8) hrl _, by rw [upd_same, List.map_append]; rfl, ls8, ?_, ?_, fun a ha => ?_, by simp; omega, by omega, od4, od4.up (by omega), noGo_add ng ngo, fun r hr2 => ?_⟩
        · exact List.nodup_append.mpr ⟨nd, by simp, fun a ha b hb z => by rw [List.mem_singleton.mp hb] at z; exact nam (z ▸ ha)⟩
        · intro z
          rcases List.mem_append.mp z with z | z
          · exact nrl z
          · exact nar (List.mem_singleton.mp z).symm
        · rcases List.mem_append.mp ha with z | z
          · exact nw a z
          · rw [List.mem_singleton.mp z]
            exact hnaH
        · rcases List.mem_append.mp hr2 with z | z
          · exact okk r z
          · rw [List.mem_singleton.mp z]
            exact ⟨l1, p2, p599, k0, by show skip + long ≤ 8; omega⟩
    · refine ⟨_, rfl, by decide, fun pe hpe => ?_⟩
      have s7 := same_new hpe (HO.lst [])
      refine ⟨rl, pe, _, rfl, rfl, SqL.of (s7 _ _ e6), SqL.of upd_same, _, rfl, ?_⟩
      have out : (∀ z, rs.getLast? = some z → goOn z (at2, long, place, skip) = false) → ∀ {H' : Hp}, Same H6 H' → ∃ (at3 : Int), [some (V.int n), some (.ref rl), some (.int at2), some (.int (0 + (i : Int))), some (.int more), some (.int long), some (.int place), some (.int skip)] = [some (V.int n), some (.ref rl), some (.int at3), some (.int (0 + (i : Int))), some (.int more), some (.int long), some (.int place), some (.int skip)] ∧ Same H6 H' ∧ at2 ≤ at3 ∧ ∀ z, rs.getLast? = some z → goOn z (at3, long, place, skip) = false := fun h _ s' => ⟨at2, rfl, s', Int.le_refl _, h⟩
      rcases List.eq_nil_or_concat rs with eg | ⟨g0, z, eg⟩
      · have ea : as = [] := List.length_eq_zero_iff.mp (by rw [ls6.1, eg]; rfl)
        subst ea
        exact iteF (iteF (go _ _ (out (by rw [eg]; intro z hz; cases hz) s7)))
      · rcases List.eq_nil_or_concat as with ea | ⟨as0, az, ea⟩
        · exfalso
          have := ls6.1
          rw [ea, eg] at this
          simp at this
        have eaz : H6 az = some (.lst (tv z)) := by
          refine ls6.2 g0.length az z ?_ ?_
          · have : as0.length = g0.length := by
              have := ls6.1
              rw [ea, eg] at this
              simpa using this
            rw [ea, List.concat_eq_append, ← this]
            simp
          · rw [eg, List.concat_eq_append]
            simp
        have ne : decide (as.map V.ref ≠ []) = true := decide_eq_true (by rw [ea]; simp)
        rw [ne]
        refine iteT ?_
        have em : as.map V.ref = as0.map V.ref ++ [V.ref az] := by rw [ea, List.concat_eq_append, List.map_append]; rfl
        have atl : atI (as.map V.ref) (-1) = some (.ref az) := by rw [em]; exact atI_last _ _
        refine ⟨_, rfl, _, rfl, rl, _, _, .ref az, rfl, rfl, SqL.of (s7 _ _ e6), atl, 2, rfl, az, _, rfl, SqL.of (s7 _ _ eaz), fun b1 hb1 => ?_⟩
        have ec1 : cutV (tv z) (some 2) none = [V.int z.2.2.1, V.int z.2.2.2] := rfl
        rw [ec1]
        have s8 := same_new hb1 (HO.lst [V.int z.2.2.1, V.int z.2.2.2])
        have s78 := s7.trans s8
        refine ⟨_, rfl, _, rfl, _, rfl, _, rfl, rl, _, _, .ref az, rfl, rfl, SqL.of (s78 _ _ e6), atl, az, _, 1, _, rfl, rfl, SqL.of (s78 _ _ eaz), rfl, _, _, rfl, rfl, (by show 2 ≤ sizeLine; decide), fun b2 hb2 => ?_⟩
        have s9 := same_new hb2 (HO.lst [V.int place, V.int (skip - z.2.1)])
        have s79 := s78.trans s9
        refine ⟨b1, b2, _, _, rfl, rfl, SqL.of (s9 _ _ upd_same), SqL.of upd_same, rfl, rfl, _, rfl, ?_⟩
        have eb : (if false = true then !eqVs [V.int z.2.2.1, V.int z.2.2.2] [V.int place, V.int (skip - z.2.1)] else eqVs [V.int z.2.2.1, V.int z.2.2.2] [V.int place, V.int (skip - z.2.1)]) = (decide (z.2.2.1 = place) && decide (z.2.2.2 = skip - z.2.1)) := by
          show (decide (z.2.2.1 = place) && (decide (z.2.2.2 = skip - z.2.1) && true)) = _
          rw [Bool.and_true]
        have last : ∀ y, rs.getLast? = some y → y = z := fun y hy => by
          rw [eg, List.concat_eq_append, List.getLast?_concat] at hy
          injection hy with hy
          exact hy.symm
        dsimp only at eb ⊢
        rw [eb]
        refine ite2 (fun c1 => ?_) (fun c1 => ?_)
        · rw [Bool.and_eq_true, decide_eq_true_eq, decide_eq_true_eq] at c1
          refine ⟨_, rfl, _, rfl, rl, _, _, .ref az, rfl, rfl, SqL.of (s79 _ _ e6), atl, 2, rfl, az, _, rfl, SqL.of (s79 _ _ eaz), fun b3 hb3 => ?_⟩
          have ec2 : cutV (tv z) none (some 2) = [z.1, z.2.1].map V.int := rfl
          rw [ec2]
          have s10 := s79.trans (same_new hb3 (HO.lst ([z.1, z.2.1].map V.int)))
          refine ⟨b3, [z.1, z.2.1], rfl, SqL.of upd_same, _, rfl, rfl, _, rfl, ?_⟩
          have esum : [z.1, z.2.1].sum = z.1 + z.2.1 := by simp
          rw [esum]
          refine ite2 (fun c2 => ?_) (fun c2 => ?_)
          · have c2 : z.1 + z.2.1 = at2 := by
              have := of_decide_eq_true c2
              injection this
            refine ⟨_, rfl, _, _, rfl, rfl, go _ _ ⟨at2 + 1, rfl, s10, by omega, fun y hy => ?_⟩⟩
            rw [last y hy, Bool.eq_false_iff]
            intro g
            have := (goOn_iff.mp g).1
            simp only at this
            omega
          · refine go _ _ (out (fun y hy => ?_) s10)
            rw [last y hy, Bool.eq_false_iff]
            intro g
            have := (goOn_iff.mp g).1
            exact c2 (decide_eq_true (by rw [this]))
        · refine iteF (go _ _ (out (fun y hy => ?_) s79))
          rw [last y hy, Bool.eq_false_iff]
          intro g
          obtain ⟨_, g2, g3⟩ := goOn_iff.mp g
          simp only at g2 g3
          exact c1 (by rw [Bool.and_eq_true, decide_eq_true_eq, decide_eq_true_eq]; exact ⟨g2, by omega⟩)
  · rintro σ H3 ⟨at', o3, o4, o5, o6, o7, as, rs, rfl, s3, e3, ls3, nd, nrl, nw, lr, at0, od, od40, ng, okk⟩
    refine ⟨_, rfl, _, rfl, _, _, rfl, rfl, ⟨by decide, by decide⟩, _, _, rfl, rfl, (by show (0 : Int) < 2; decide), _, _, rfl, rfl, _, _, rfl, _, rfl, (by show 2 ≤ sizeLine; decide), fun tp htp => ?_⟩
    have s8 := same_new htp (HO.tup [V.int (if at' + n / 5 % 2 < 40 then at' + n / 5 % 2 else 40), V.ref rl])
    have hz : 0 ≤ (if at' + n / 5 % 2 < 40 then at' + n / 5 % 2 else 40) ∧ (if at' + n / 5 % 2 < 40 then at' + n / 5 % 2 else 40) ≤ 40 ∧ Ord 0 rs (if at' + n / 5 % 2 < 40 then at' + n / 5 % 2 else 40) := by
      split
      · exact ⟨by omega, by omega, od.up (by omega)⟩
      · exact ⟨by decide, Int.le_refl _, od40⟩
    exact q tp _ rl as rs _ (s3.trans s8) upd_same hrl (s8 _ _ e3) (ls3.mono s8) nd nrl nw (by omega) hz.1 hz.2.1 (row_is hz.2.2 hz.2.1 ng okk)
end
end K22
set_option maxHeartbeats 4000000
namespace K22
open PySem L2
section
variable {P : Program} {w : World} {K : PySem.W.Frag} {mg : Str → Option Value} {base : Heap} {f : Addr} {fd : FuncData}
def spFro (n : Nat) : Sp := fun vs H Q _ => ∃ x t, vs = [x] ∧ At H t x ∧ sm t = true ∧ nl (frz t) = true ∧ dep t ≤ n ∧ ∀ y H', Same H H' → At H' (frz t) y → Q y H'
def spFroN : Nat → Sp
  | 0 => fun _ _ _ _ => False
  | n + 1 => spFro n
theorem scFro : FnScope ["_law_stuff_here"] ["_law_stuff_here"] (defScope sFro) := ⟨rfl, rfl, rfl, by decide +kernel, rfl, by decide +kernel, by decide +kernel⟩
theorem ok_Fro (F : Fun K "_law_frozen" "_law_frozen" sFro f fd) (hFro : Has K mg "_law_frozen" sFro ["_law_stuff_here"] f fd) (T : Txt mg) : ∀ n : Nat, FnOk P w K mg base CX0 n f fd ["_law_stuff_here"] (spFroN n)
  | 0 => ⟨fun _ _ _ _ h => h.elim, fun _ _ _ _ _ _ _ _ _ _ _ _ _ h => h.elim⟩
  | n + 1 => by
    have GFro := ok_Fro F hFro T n
    refine F.ok scFro (fun vs H Q E h => ?_) (fun cdv A outer s H vs Q E hr h => ?_)
    · obtain ⟨x, t, rfl, _⟩ := h
      rfl
    obtain ⟨x, t, rfl, hx, hs, hn, hd, q⟩ := h
    obtain ⟨ty, ht, _, _, k4⟩ := hx.ty (K := K)
    refine ⟨_, (pss_cons (ps_if (pt_val (pe_callB call_isinst rfl T.isi PyProof.Rows.boot_isinstance (pa_cons (pv 0) (pa_cons (pe_bltn (v := .ty "list") rfl T.lst PyProof.Rows.boot_list rfl) pa_nil))))
      (pss_one (ps_ret (pe_callTy call_tuple_of rfl T.tup PyProof.Rows.boot_tuple (pa_cons (pe_comp [] [] (pi_list (pv 0)) (fun _ _ _ _ _ _ => pts_nil)
            (fun _ _ _ _ _ _ => (pe_call GFro (hr.mono (Nat.le_refl _)) rfl hFro.nm hFro.fn.kp hFro.bd .nil pass0 (pa_cons (pv 0) pa_nil)))
            rfl (by decide +kernel) (by decide +kernel) rfl (by decide +kernel) (fun _ _ z => nomatch z) rfl (by decide +kernel) rfl) pa_nil))))
      pss_nil)
      (pss_one (ps_ret (pv 0)))), ?_⟩
    refine ⟨_, rfl, x, "list", ty, isLstT t, rfl, ht, k4, _, rfl, ?_⟩
    cases e : isLstT t with
    | false =>
      rw [frz_not e] at q
      exact iteF ⟨_, rfl, q x H (Same.refl H) hx⟩
    | true =>
      cases t with
      | lst l =>
        refine iteT ?_
        obtain ⟨a, ws, rfl, ha, k⟩ := hx.lst
        have ln := k.len
        have hs' : l.length ≤ 100 ∧ ∀ t ∈ l, sm t = true := by
          unfold sm at hs
          rw [Bool.and_eq_true, decide_eq_true_eq] at hs
          exact ⟨hs.1, fun t m => sms_mem hs.2 m⟩
        have ef : frz (.lst l) = .tup (l.map frz) := by
          show Tr.tup (frzs l) = _
          rw [frzs_map]
        rw [ef] at q hn
        have hn' : ∀ t ∈ l, nl (frz t) = true := fun t m => nls_mem (l := l.map frz) hn (List.mem_map.mpr ⟨t, m, rfl⟩)
        have hd' : deps l + 1 ≤ n := hd
        obtain ⟨m, rfl⟩ : ∃ m, n = m + 1 := ⟨n - 1, by omega⟩
        refine ⟨_, rfl, a, rfl, ⟨_, SqL.of ha⟩, fun p hp => ?_⟩
        refine comp_seq (K := K) (tu := false) (a := a) (xs := ws) (fun i us H2 => Same H H2 ∧ H2 p = some (.lst us) ∧ Ats H2 ((l.take i).map frz) us) ⟨same_new hp _, upd_same, Ats.nil _⟩ (fun i us H2 _ h2 => Sq.of (tu := false) (h2.1 _ _ ha)) ?_ ?_
        · rintro i v us H2 hv ⟨s2, e2, k2⟩
          obtain ⟨t, ht, hat⟩ := (k.mono s2).get hv
          have mt := List.mem_of_getElem? ht
          have li : i < l.length := (List.getElem?_eq_some_iff.mp ht).1
          have lu := k2.len
          rw [List.length_map, List.length_take] at lu
          refine ttT ⟨_, rfl, v, t, rfl, hat, hs'.2 t mt, hn' t mt, ?_, fun y H3 s3 hy => ⟨s3 _ _ e2, small (by omega), same_over (s2.trans s3) hp _, upd_same, ?_⟩⟩
          · have := deps_mem mt
            omega
          · rw [take_next ht, List.map_append]
            have kt : ∀ q u, H3 q = some (.tup u) → upd H3 p (.lst (us ++ [y])) q = some (.tup u) := fun q u e => by
              rw [upd_ne (fun z => by rw [z, s3 _ _ e2] at e; cases e)]
              exact e
            refine Ats.app (Ats.cons (At.keepT kt (hn' t mt) hy) (Ats.nil _)) (Ats.keepT kt (nls_of fun u hu => ?_) (k2.mono s3))
            obtain ⟨u', hu', rfl⟩ := List.mem_map.mp hu
            exact hn' u' (List.mem_of_mem_take hu')
        · rintro us H2 ⟨s2, e2, k2⟩
          rw [ln, List.take_length] at k2
          refine ⟨p, us, rfl, .inl ⟨SqL.of e2, fun tq htq => ?_⟩⟩
          have s3 := same_new htq (HO.tup us)
          exact q _ _ (s2.trans s3) (At.mkT upd_same (k2.mono s3))
      | _ => cases e
end
end K22
set_option maxHeartbeats 4000000
namespace K22
open PySem L2
/-! ### the stuff as lists -/
def LgAt (H : Hp) (as : List Addr) (vss : List (List V)) : Prop := as.length = vss.length ∧ ∀ (i : Nat) a vs, as[i]? = some a → vss[i]? = some vs → H a = some (.lst vs)
theorem LgAt.mono {H H' : Hp} {as : List Addr} {vss : List (List V)} (h : LgAt H as vss) (s : Same H H') : LgAt H' as vss := ⟨h.1, fun i a vs ha hv => s _ _ (h.2 i a vs ha hv)⟩
theorem LgAt.keep {H H' : Hp} {as : List Addr} {vss : List (List V)} (h : LgAt H as vss) (k : ∀ a ∈ as, ∀ o, H a = some o → H' a = some o) : LgAt H' as vss :=
  ⟨h.1, fun i a r ha hr => k a (List.mem_of_getElem? ha) _ (h.2 i a r ha hr)⟩
theorem LsAt.lg {H : Hp} {as : List Addr} {rs : List S4} (h : LsAt H as rs) : LgAt H as (rs.map tv) := by
  refine ⟨by rw [List.length_map]; exact h.1, fun i a vs ha hv => ?_⟩
  rw [List.getElem?_map] at hv
  obtain ⟨r, hr, rfl⟩ := Option.map_eq_some_iff.mp hv
  exact h.2 i a r ha hr
theorem LgAt.snoc {H : Hp} {as : List Addr} {vss : List (List V)} {a : Addr} {vs : List V} (h : LgAt H as vss) (e : H a = some (.lst vs)) : LgAt H (as ++ [a]) (vss ++ [vs]) := by
  refine ⟨by simp [h.1], fun i b q hb hq => ?_⟩
  by_cases z : i < as.length
  · rw [List.getElem?_append_left z] at hb
    rw [List.getElem?_append_left (by rw [← h.1]; exact z)] at hq
    exact h.2 i b q hb hq
  · have li : i < (as ++ [a]).length := (List.getElem?_eq_some_iff.mp hb).1
    rw [List.length_append, List.length_singleton] at li
    have ei : i = as.length := by omega
    subst ei
    rw [List.getElem?_append_right (Nat.le_refl _), Nat.sub_self] at hb
    rw [h.1, List.getElem?_append_right (Nat.le_refl _), Nat.sub_self] at hq
    cases hb
    cases hq
    exact e
abbrev En := Str × Str × Int
def ev (e : En) : List V := [.str e.1, .str e.2.1, .int e.2.2]
def okE (e : En) : Prop := isw e.1 = true ∧ (e.2.1 = Str.ofString "folder" ∨ e.2.1 = Str.ofString "file") ∧ 2 ≤ e.2.2 ∧ e.2.2 ≤ 599
def okB (b : Int) : Prop := 1 ≤ b ∧ b ≤ 4294967295
def ShC (H0 H : Hp) (L : Addr) : Prop := ∃ (born : Int) (c : Addr) (cs : List Int), H L = some (.lst [.str "cells", .int born, .ref c]) ∧ H c = some (.lst (cs.map V.int)) ∧ H0 c = none ∧ okB born ∧ 1 ≤ cs.length ∧ cs.length ≤ 8 ∧ ∀ x ∈ cs, 0 ≤ x ∧ x ≤ 999999
def ShF (H0 H : Hp) (L : Addr) : Prop := ∃ (born n : Int) (rl : Addr) (as : List Addr) (rs : List S4), H L = some (.lst [.str "file", .int born, .int n, .ref rl]) ∧ H rl = some (.lst (as.map V.ref)) ∧ LgAt H as (rs.map tv) ∧ as.Nodup ∧ H0 rl = none ∧ (∀ a ∈ as, H0 a = none) ∧ okB born ∧ 0 ≤ n ∧ n ≤ 40 ∧ isRowP rs n = true ∧ rs.length ≤ 4
def ShE (H0 H : Hp) (L : Addr) : Prop := ∃ (born m : Int) (el : Addr) (as : List Addr) (es : List En), H L = some (.lst [.str "folder", .int born, .int m, .ref el]) ∧ H el = some (.lst (as.map V.ref)) ∧ LgAt H as (es.map ev) ∧ as.Nodup ∧ H0 el = none ∧ (∀ a ∈ as, H0 a = none) ∧ okB born ∧ 0 ≤ m ∧ m ≤ 999 ∧ es.length ≤ 8 ∧ (∀ e ∈ es, okE e) ∧ risS (es.map (·.1)) = true
def Sh (kd : Nat) (H0 H : Hp) (L : Addr) : Prop := match kd with
  | 0 => ShC H0 H L
  | 1 => ShF H0 H L
  | _ => ShE H0 H L
theorem Sh.mono {kd : Nat} {H0 H H' : Hp} {L : Addr} (h : Sh kd H0 H L) (s : Same H H') : Sh kd H0 H' L := by
  match kd, h with
  | 0, ⟨born, c, cs, h1, h2, h3⟩ => exact ⟨born, c, cs, s _ _ h1, s _ _ h2, h3⟩
  | 1, ⟨born, n, rl, as, rs, h1, h2, h3, h4⟩ => exact ⟨born, n, rl, as, rs, s _ _ h1, s _ _ h2, h3.mono s, h4⟩
  | k + 2, ⟨born, n, rl, as, rs, h1, h2, h3, h4⟩ => exact ⟨born, n, rl, as, rs, s _ _ h1, s _ _ h2, h3.mono s, h4⟩
theorem pickF (n : Int) : ∃ z : Str, (z = Str.ofString "folder" ∨ z = Str.ofString "file") ∧ atI [V.str "folder", V.str "file"] (n % 2) = some (.str z) := by
  obtain e | e : n % 2 = 0 ∨ n % 2 = 1 := by omega
  · rw [e]; exact ⟨_, .inl rfl, rfl⟩
  · rw [e]; exact ⟨_, .inr rfl, rfl⟩
section
variable {P : Program} {w : World} {K : PySem.W.Frag} {mg : Str → Option Value} {base : Heap} {f fMix fNea fRow fWds : Addr} {fd dMix dNea dRow dWds : FuncData}
def spStu : Sp := fun vs H Q _ => ∃ (n : Int) (kd : Nat), vs = [.int n, .int (kd : Int)] ∧ kd < 3 ∧ ∀ L H', Same H H' → H L = none → Sh kd H H' L → Q (.ref L) H'
theorem scStu : FnScope ["_law_number", "_law_kind", "_law_born", "_law_many", "_law_size", "_law_row_here", "_law_entries", "_law_k", "_law_name", "_law_more"] ["_law_number", "_law_kind"] (defScope sStu) := ⟨rfl, rfl, rfl, by decide +kernel, rfl, by decide +kernel, by decide +kernel⟩
theorem ok_Stu (F : Fun K "_law_stuff" "_law_stuff" sStu f fd) (hMix : Has K mg "_law_mixed" sMix ["_law_cell", "_law_k"] fMix dMix) (GMix : FnOk P w K mg base CX0 1 fMix dMix ["_law_cell", "_law_k"] spMix)
    (hNea : Has K mg "_law_near" sNea ["_law_number", "_law_low", "_law_high"] fNea dNea) (GNea : FnOk P w K mg base CX0 1 fNea dNea ["_law_number", "_law_low", "_law_high"] spNea)
    (hRow : Has K mg "_law_row" sRow ["_law_number"] fRow dRow) (GRow : FnOk P w K mg base CX0 2 fRow dRow ["_law_number"] spRow)
    (hWds : Has K mg "_law_words" sWds ["_law_number"] fWds dWds) (GWds : FnOk P w K mg base CX0 2 fWds dWds ["_law_number"] spWds) (T : Txt mg) : FnOk P w K mg base CX0 3 f fd ["_law_number", "_law_kind"] spStu := by
  refine F.ok scStu (fun vs H Q E h => ?_) (fun cdv A outer s H vs Q E hr h => ?_)
  · obtain ⟨n, kd, rfl, _⟩ := h
    rfl
  obtain ⟨n, kd, rfl, hk, q⟩ := h
  refine ⟨_, (pss_cons (ps_set (i := 2) scStu.nd rfl (Or.inl rfl) (pe_call GNea (hr.mono (by decide)) rfl hNea.nm hNea.fn.kp hNea.bd .nil pass0 (pa_cons (pv 0) (pa_cons pe_int (pa_cons pe_int pa_nil)))))
    (pss_cons (ps_if (pt_cmpR op_eq (pv 1) pe_int (nomark _))
    (pss_cons (ps_set (i := 3) scStu.nd rfl (Or.inl rfl) (pe_op op_add pe_int (pe_op op_mod (pe_op op_fdiv (pv 0) pe_int) pe_int)))
    (pss_one (ps_ret (pe_lst (pa_cons pe_str (pa_cons (pv 2) (pa_cons (pe_comp [0] ["_law_number"] (pi_range1 rfl T.rng (pa_cons (pv 3) pa_nil)) (fun _ _ _ _ _ _ => pts_nil)
          (fun _ _ _ _ _ _ => (pe_call GNea (hr.mono (by decide)) rfl hNea.nm hNea.fn.kp hNea.bd .nil pass0 (pa_cons (pe_call GMix (hr.mono (by decide)) rfl hMix.nm hMix.fn.kp hMix.bd .nil pass0 (pa_cons (pv 1) (pa_cons (pv 0) pa_nil))) (pa_cons pe_int (pa_cons pe_int pa_nil)))))
          rfl (by decide +kernel) (by decide +kernel) rfl (by decide +kernel) (fun j y hj => by
            match j, hj with
            | 0, hj => cases hj; exact ⟨0, rfl, rfl, rfl, .inl rfl⟩) rfl (by decide +kernel) rfl) pa_nil)))))))
    pss_nil)
    (pss_cons (ps_if (pt_cmpR op_eq (pv 1) pe_int (nomark _))
    (pss_cons (ps_asg (pe_call GRow (hr.mono (by decide)) rfl hRow.nm hRow.fn.kp hRow.bd .nil pass0 (pa_cons (pe_op op_fdiv (pv 0) pe_int) pa_nil)) (pg_tup rfl (pgs_cons (pg_name (i := 4) scStu.nd rfl (Or.inl rfl)) (pgs_cons (pg_name (i := 5) scStu.nd rfl (Or.inl rfl)) pgs_nil))))
    (pss_one (ps_ret (pe_lst (pa_cons pe_str (pa_cons (pv 2) (pa_cons (pv 4) (pa_cons (pv 5) pa_nil))))))))
    pss_nil)
    (pss_cons (ps_set (i := 6) scStu.nd rfl (Or.inl rfl) (pe_lst pa_nil))
    (pss_cons (ps_for PassesOwn.never rfl (pi_enum rfl T.enu (pa_cons (pe_call GWds (hr.mono (by decide)) rfl hWds.nm hWds.fn.kp hWds.bd .nil pass0 (pa_cons (pe_op op_fdiv (pv 0) pe_int) pa_nil)) pa_nil)) (pg_tup rfl (pgs_cons (pg_name (i := 7) scStu.nd rfl (Or.inl rfl)) (pgs_cons (pg_name (i := 8) scStu.nd rfl (Or.inl rfl)) pgs_nil)))
    (pss_cons (ps_set (i := 9) scStu.nd rfl (Or.inl rfl) (pe_call GMix (hr.mono (by decide)) rfl hMix.nm hMix.fn.kp hMix.bd .nil pass0 (pa_cons (pv 0) (pa_cons (pv 7) pa_nil))))
    (pss_one (ps_expr (pe_bm PySem.F.plainAttrs_list PySem.F.slot_list_append PySem.F.type_list_append mt_append (pv 6) (pa_cons (pe_lst (pa_cons (pv 8) (pa_cons (pe_ix ix_list (pe_lst (pa_cons pe_str (pa_cons pe_str pa_nil))) (pe_op op_mod (pv 9) pe_int) (fun _ _ => rfl)) (pa_cons (pe_call GNea (hr.mono (by decide)) rfl hNea.nm hNea.fn.kp hNea.bd .nil pass0 (pa_cons (pe_op op_fdiv (pv 9) pe_int) (pa_cons pe_int (pa_cons pe_int pa_nil)))) pa_nil)))) pa_nil))))))
    (pss_one (ps_ret (pe_lst (pa_cons pe_str (pa_cons (pv 2) (pa_cons (pe_call GNea (hr.mono (by decide)) rfl hNea.nm hNea.fn.kp hNea.bd .nil pass0 (pa_cons (pe_op op_fdiv (pv 0) pe_int) (pa_cons pe_int (pa_cons pe_int pa_nil)))) (pa_cons (pv 6) pa_nil)))))))))))), ?_⟩
  refine ⟨_, rfl, n, 1, 4294967295, rfl, by decide, fun born H1 b0 b1 s1 => ?_⟩
  refine ⟨_, rfl, rfl, _, rfl, ?_⟩
  match kd, hk, q with
  | 0, _, q =>
    refine iteT ?_
    refine ⟨_, rfl, _, _, rfl, rfl, ⟨by decide, by decide⟩, _, _, rfl, rfl, (by show (0 : Int) < 8; decide), _, _, rfl, rfl, ?_⟩
    have c0 : 1 ≤ 1 + n / 32 % 8 := by omega
    have c1 : 1 + n / 32 % 8 ≤ 8 := by omega
    dsimp only
    generalize 1 + n / 32 % 8 = many at c0 c1
    refine ⟨_, rfl, _, rfl, many, rfl, by omega, by omega, fun p hp => ?_⟩
    refine comp_rng (fun i us H2 => ∃ cs : List Int, Same H1 H2 ∧ H2 p = some (.lst us) ∧ us = cs.map V.int ∧ cs.length = i ∧ ∀ x ∈ cs, 0 ≤ x ∧ x ≤ 999999) ⟨[], same_new hp _, upd_same, rfl, rfl, fun x h => by cases h⟩ ?_ ?_
    · rintro i us H2 hi ⟨cs, s2, e2, rfl, lc, oc⟩
      have hi' : i < many.toNat := hi
      refine ttT ⟨_, rfl, _, rfl, n, 0 + (i : Int), rfl, by omega, by omega, fun z z0 z1 => ⟨z, 0, 999999, rfl, by decide, fun v H3 v0 v1 s3 => ?_⟩⟩
      refine ⟨s3 _ _ e2, small (by rw [List.length_map]; omega), cs ++ [v], same_over (s2.trans s3) hp _, upd_same, by rw [List.map_append]; rfl, by simp [lc], fun x hx => ?_⟩
      rcases List.mem_append.mp hx with m | m
      · exact oc x m
      · rw [List.mem_singleton.mp m]
        exact ⟨v0, v1⟩
    rintro us H2 ⟨cs, s2, e2, rfl, lc, oc⟩
    refine ⟨(by show 3 ≤ sizeLine; decide), fun L hL => ?_⟩
    have s3 := same_new hL (HO.lst [V.str "cells", V.int born, V.ref p])
    exact q L _ (s1.trans (s2.trans s3)) ((s1.trans s2).free hL) ⟨born, p, cs, upd_same, s3 _ _ e2, s1.free hp, ⟨b0, b1⟩, by omega, by omega, oc⟩
  | 1, _, q =>
    refine iteF ?_
    refine ⟨_, rfl, rfl, _, rfl, iteT ?_⟩
    refine ⟨_, rfl, _, _, rfl, rfl, ⟨by decide, by decide⟩, _, rfl, fun tp H2 rl as rs size s2 e2 hrl er ls nd nrl nw lr z0 z1 ir => ?_⟩
    refine ⟨tp, _, rfl, SqT.of e2, rfl, _, _, rfl, _, _, rfl, rfl, ?_⟩
    refine ⟨_, rfl, _, rfl, _, rfl, (by show 4 ≤ sizeLine; decide), fun L hL => ?_⟩
    have s3 := same_new hL (HO.lst [V.str "file", V.int born, V.int size, V.ref rl])
    exact q L _ (s1.trans (s2.trans s3)) ((s1.trans s2).free hL) ⟨born, size, rl, as, rs, upd_same, s3 _ _ er, ls.lg.mono s3, nd, s1.free hrl, fun a ha => s1.free (nw a ha), ⟨b0, b1⟩, z0, z1, ir, lr⟩
  | 2, _, q =>
    refine iteF ?_
    refine ⟨_, rfl, rfl, _, rfl, iteF ?_⟩
    refine ⟨by decide, fun el hel => ?_⟩
    have s2 := same_new hel (HO.lst [])
    refine ⟨_, rfl, _, _, rfl, rfl, ⟨by decide, by decide⟩, _, rfl, fun pw H3 zs s3 hpw e3 l8 isz ris => ?_⟩
    have npw : pw ≠ el := fun z => by rw [z, upd_same] at hpw; cases hpw
    refine ⟨pw, _, rfl, SqL.of e3, for_enum (K := K) (a := pw) (xs := zs.map V.str) (fun i σ H4 => ∃ (o7 o8 o9 : Option V) (as : List Addr) (es : List En), σ = [some (.int n), some (.int (2 : Int)), some (.int born), none, none, none, some (.ref el), o7, o8, o9] ∧ Same H1 H4 ∧ H4 pw = some (.lst (zs.map V.str)) ∧ H4 el = some (.lst (as.map V.ref)) ∧ LgAt H4 as (es.map ev) ∧ as.Nodup ∧ el ∉ as ∧ pw ∉ as ∧ (∀ a ∈ as, H1 a = none) ∧ es.map (·.1) = zs.take i ∧ ∀ e ∈ es, okE e)
      ⟨none, none, none, [], [], rfl, s2.trans s3, e3, s3 _ _ upd_same, ⟨rfl, fun i a vs h => by cases h⟩, List.nodup_nil, by simp, by simp, by simp, rfl, by simp⟩ (fun i σ H4 h4 => ?_) ?_ ?_⟩
    · obtain ⟨_, _, _, _, _, _, _, e4, _⟩ := h4
      exact SqL.of e4
    · rintro i x t σ H4 hx ⟨o7, o8, o9, as, es, rfl, s4, e4, e5, lg, nd, nel, npa, nw, en, oke⟩ ht
      rw [List.getElem?_map] at hx
      obtain ⟨zn, hzn, rfl⟩ := Option.map_eq_some_iff.mp hx
      have li : i < zs.length := (List.getElem?_eq_some_iff.mp hzn).1
      have s5 := same_new ht (HO.tup [V.int (i : Int), V.str zn])
      refine ⟨t, _, rfl, SqT.of upd_same, rfl, _, _, rfl, _, _, rfl, rfl, ?_⟩
      refine ⟨_, rfl, _, rfl, n, (i : Int), rfl, by omega, by omega, fun more m0 m1 => ?_⟩
      refine ⟨_, rfl, .inl ⟨rfl, _, SqL.of (s5 _ _ e5)⟩, _, rfl, (by show 2 ≤ sizeLine; decide), fun pl hpl => ?_⟩
      have s6 := s5.trans (same_new hpl (HO.lst [V.str "folder", V.str "file"]))
      obtain ⟨kz, hkz, ekz⟩ := pickF more
      refine ⟨_, rfl, _, _, rfl, rfl, (by show (0 : Int) < 2; decide), pl, _, _, .str kz, rfl, rfl, SqL.of upd_same, ekz, ?_⟩
      refine ⟨_, rfl, _, _, rfl, rfl, ⟨by decide, by decide⟩, _, 2, 599, rfl, by decide, fun pv H5 v0 v1 s7 => ⟨(by show 3 ≤ sizeLine; decide), fun na hna => ?_⟩⟩
      have s8 := s6.trans (s7.trans (same_new hna (HO.lst (ev (zn, kz, pv)))))
      have s67 := s6.trans s7
      have nan : na ≠ el := fun z => by rw [z, s67 _ _ e5] at hna; cases hna
      have nap : na ≠ pw := fun z => by rw [z, s67 _ _ e4] at hna; cases hna
      have nam : na ∉ as := fun z => by
        obtain ⟨j, hj⟩ := List.mem_iff_getElem?.mp z
        have lj : j < (es.map ev).length := by
          have := (List.getElem?_eq_some_iff.mp hj).1
          rw [lg.1] at this
          exact this
        have := s67 _ _ (lg.2 j na _ hj (List.getElem?_eq_getElem lj))
        rw [this] at hna
        cases hna
      have las : as.length = i := by
        rw [lg.1, List.length_map]
        have := congrArg List.length en
        rw [List.length_map, List.length_take] at this
        omega
      have e8 := s8 _ _ e5
      refine ⟨el, _, _, rfl, rfl, e8, small (by rw [List.length_map]; omega), ?_⟩
      have lg8 : LgAt (upd (upd H5 na (HO.lst (ev (zn, kz, pv)))) el (.lst (as.map V.ref ++ [.ref na]))) (as ++ [na]) ((es ++ [(zn, kz, pv)]).map ev) := by
        rw [List.map_append]
        refine LgAt.snoc ((lg.mono s8).keep fun a ha o e => ?_) ?_
        · rw [upd_ne (show a ≠ el from fun z => nel (by rw [← z]; exact ha))]
          exact e
        · rw [upd_ne nan]
          exact upd_same
      refine ⟨_, _, _, as ++ [na], es ++ [(zn, kz, pv)], rfl, same_over (s4.trans s8) hel _, by rw [upd_ne npw]; exact s8 _ _ e4, by rw [upd_same, List.map_append]; rfl, lg8, ?_, ?_, ?_, fun a ha => ?_, ?_, fun e he => ?_⟩
      · exact List.nodup_append.mpr ⟨nd, by simp, fun a ha b hb z => by rw [List.mem_singleton.mp hb] at z; exact nam (z ▸ ha)⟩
      · intro z
        rcases List.mem_append.mp z with z | z
        · exact nel z
        · exact nan (List.mem_singleton.mp z).symm
      · intro z
        rcases List.mem_append.mp z with z | z
        · exact npa z
        · exact nap (List.mem_singleton.mp z).symm
      · rcases List.mem_append.mp ha with z | z
        · exact nw a z
        · rw [List.mem_singleton.mp z]
          exact (s4.trans s67).free hna
      · rw [List.map_append, en, take_next hzn]
        rfl
      · rcases List.mem_append.mp he with z | z
        · exact oke e z
        · rw [List.mem_singleton.mp z]
          exact ⟨isz zn (List.mem_of_getElem? hzn), hkz, v0, v1⟩
    · rintro σ H4 ⟨o7, o8, o9, as, es, rfl, s4, e4, e5, lg, nd, nel, npa, nw, en, oke⟩
      rw [List.length_map, List.take_length] at en
      have les : es.length ≤ 8 := by
        have := congrArg List.length en
        rw [List.length_map] at this
        omega
      refine ⟨_, rfl, _, rfl, _, _, rfl, rfl, ⟨by decide, by decide⟩, _, 0, 999, rfl, by decide, fun m H5 m0 m1 s5 => ⟨_, rfl, (by show 4 ≤ sizeLine; decide), fun L hL => ?_⟩⟩
      have s6 := same_new hL (HO.lst [V.str "folder", V.int born, V.int m, V.ref el])
      have s56 := s5.trans s6
      exact q L _ (s1.trans (s4.trans s56)) ((s1.trans (s4.trans s5)).free hL) ⟨born, m, el, as, es, upd_same, s56 _ _ e5, lg.mono s56, nd, s1.free hel, fun a ha => s1.free (nw a ha), ⟨b0, b1⟩, m0, m1, les, oke, by rw [en]; exact ris⟩
end
end K22
set_option maxHeartbeats 4000000
namespace K22
open PySem L2
/-! ### trees of the stuff -/
theorem ats_of {H : Hp} : ∀ {l : List Tr} {vs : List V}, l.length = vs.length → (∀ (i : Nat) t v, l[i]? = some t → vs[i]? = some v → At H t v) → Ats H l vs
  | [], [], _, _ => Ats.nil H
  | t :: ts, v :: vs, h, k => Ats.cons (k 0 t v rfl rfl) (ats_of (by simpa using h) fun i a b ha hb => k (i + 1) a b ha hb)
theorem ats_ints {H : Hp} : ∀ cs : List Int, Ats H (cs.map Tr.int) (cs.map V.int)
  | [] => Ats.nil H
  | c :: cs => Ats.cons (At.int c) (ats_ints cs)
theorem ats_lg {H : Hp} {as : List Addr} {vss : List (List V)} {tss : List (List Tr)} (h : LgAt H as vss) (hl : tss.length = vss.length) (k : ∀ (i : Nat) ts vs, tss[i]? = some ts → vss[i]? = some vs → Ats H ts vs) : Ats H (tss.map Tr.lst) (as.map V.ref) := by
  refine ats_of (by rw [List.length_map, List.length_map, h.1, hl]) fun i t v ht hv => ?_
  rw [List.getElem?_map] at ht hv
  obtain ⟨ts, hts, rfl⟩ := Option.map_eq_some_iff.mp ht
  obtain ⟨a, ha, rfl⟩ := Option.map_eq_some_iff.mp hv
  have li : i < vss.length := by
    have := (List.getElem?_eq_some_iff.mp hts).1
    omega
  have hvs := List.getElem?_eq_getElem li
  exact At.mkL (h.2 i a _ ha hvs) (k i ts _ hts hvs)
def q4 (r : S4) : List Tr := [.int r.1, .int r.2.1, .int r.2.2.1, .int r.2.2.2]
def q3 (e : En) : List Tr := [.str e.1, .str e.2.1, .int e.2.2]
theorem ats_q4 {H : Hp} (r : S4) : Ats H (q4 r) (tv r) := Ats.cons (At.int _) (Ats.cons (At.int _) (Ats.cons (At.int _) (Ats.cons (At.int _) (Ats.nil _))))
theorem ats_q3 {H : Hp} (e : En) : Ats H (q3 e) (ev e) := Ats.cons (At.str _) (Ats.cons (At.str _) (Ats.cons (At.int _) (Ats.nil _)))
def treeC (born : Tr) (cs : List Tr) : Tr := .lst [.str "cells", born, .lst cs]
def treeE (born m : Tr) (ents : List (List Tr)) : Tr := .lst [.str "folder", born, m, .lst (ents.map Tr.lst)]
/-- what frozen trees of these are -/
theorem frz_flat {l : List Tr} (h : ∀ t ∈ l, isLstT t = false) : frzs l = l := by
  rw [frzs_map]
  have : l.map frz = l.map id := List.map_congr_left fun t ht => frz_not (h t ht)
  rw [this, List.map_id]
theorem frz_rows {rows : List (List Tr)} (h : ∀ l ∈ rows, ∀ t ∈ l, isLstT t = false) : frzs (rows.map Tr.lst) = rows.map Tr.tup := by
  rw [frzs_map, List.map_map]
  refine List.map_congr_left fun l hl => ?_
  show Tr.tup (frzs l) = Tr.tup l
  rw [frz_flat (h l hl)]
theorem frz_C {born : Tr} {cs : List Tr} (hb : isLstT born = false) (h : ∀ t ∈ cs, isLstT t = false) : frz (treeC born cs) = .tup [.str "cells", born, .tup cs] := by
  show Tr.tup [.str "cells", frz born, .tup (frzs cs)] = _
  rw [frz_not hb, frz_flat h]
theorem frz_E {born n : Tr} {rows : List (List Tr)} (hb : isLstT born = false) (hn : isLstT n = false) (h : ∀ l ∈ rows, ∀ t ∈ l, isLstT t = false) : frz (treeE born n rows) = .tup [.str "folder", born, n, .tup (rows.map Tr.tup)] := by
  show Tr.tup [.str "folder", frz born, frz n, .tup (frzs (rows.map Tr.lst))] = _
  rw [frz_not hb, frz_not hn, frz_rows h]
theorem knot_C (born : Tr) (cs : List Tr) : knotP (.tup [.str "cells", born, .tup cs]) = (wthT born 1 4294967295 && (decide (1 ≤ cs.length) && decide (cs.length ≤ 8) && cs.all fun c => wthT c 0 999999)) := by
  have e : strIs (.str (Str.ofString "cells")) "cells" = true := by decide +kernel
  show (wthT born 1 4294967295 && if strIs (.str (Str.ofString "cells")) "cells" = true then _ else _) = _
  rw [if_pos e]
  rfl
theorem knot_F (born n : Tr) (r : Tr) : knotP (.tup [.str "file", born, n, r]) = (wthT born 1 4294967295 && fileP [.str "file", born, n, r]) := by
  have e1 : ¬ strIs (.str (Str.ofString "file")) "cells" = true := by decide +kernel
  have e2 : strIs (.str (Str.ofString "file")) "file" = true := by decide +kernel
  show (wthT born 1 4294967295 && if strIs (.str (Str.ofString "file")) "cells" = true then _ else if strIs (.str (Str.ofString "file")) "file" = true then _ else _) = _
  rw [if_neg e1, if_pos e2]
theorem knot_E (born n : Tr) (r : Tr) : knotP (.tup [.str "folder", born, n, r]) = (wthT born 1 4294967295 && foldP [.str "folder", born, n, r]) := by
  have e1 : ¬ strIs (.str (Str.ofString "folder")) "cells" = true := by decide +kernel
  have e2 : ¬ strIs (.str (Str.ofString "folder")) "file" = true := by decide +kernel
  have e3 : strIs (.str (Str.ofString "folder")) "folder" = true := by decide +kernel
  show (wthT born 1 4294967295 && if strIs (.str (Str.ofString "folder")) "cells" = true then _ else if strIs (.str (Str.ofString "folder")) "file" = true then _ else (strIs (.str (Str.ofString "folder")) "folder" && foldP [.str "folder", born, n, r])) = _
  rw [if_neg e1, if_neg e2, e3, Bool.true_and]
theorem file_row (born : Tr) (n : Int) (rows : List Tr) : fileP [.str "file", born, .int n, .tup rows] = (decide (0 ≤ n) && decide (n ≤ 40) && rowO (rows.map st4T) n) := rfl
theorem rowO_map (rs : List S4) (n : Int) : rowO (rs.map some) n = isRowP rs n := by
  unfold rowO
  rw [allS_map]
/-- a tree that the law may hand on: what is to be known of it -/
structure Tok (t : Tr) : Prop where
  sm : sm t = true
  nl : nl (frz t) = true
  dep : dep t ≤ 4
  fl : knFl (frz t) = true
end K22
set_option maxHeartbeats 4000000
namespace K22
open PySem L2
theorem cut_to (xs : List V) (n : Nat) : cutV xs none (some (n : Int)) = xs.take n := by
  unfold cutV
  rw [HT.sIx_none, HT.sIx_nat, Nat.sub_zero, List.drop_zero, ← List.take_eq_take_min]
theorem cut_from (xs : List V) (n : Nat) : cutV xs (some (n : Int)) none = xs.drop n := by
  unfold cutV
  rw [HT.sIx_none, HT.sIx_nat]
  rcases Nat.le_total n xs.length with z | z
  · rw [Nat.min_eq_left z]
    exact List.take_of_length_le (by rw [List.length_drop]; omega)
  · rw [Nat.min_eq_right z, List.drop_eq_nil_of_le z]
    simp
def Leaf (t : Tr) : Prop := sm t = true ∧ nl t = true ∧ isLstT t = false ∧ dep t ≤ 1
theorem Leaf.int (n : Int) : Leaf (.int n) := ⟨rfl, rfl, rfl, by show (0 : Nat) ≤ 1; decide⟩
theorem Leaf.non : Leaf .non := ⟨rfl, rfl, rfl, by show (0 : Nat) ≤ 1; decide⟩
theorem Leaf.bl (b : Bool) : Leaf (.bl b) := ⟨rfl, rfl, rfl, by show (0 : Nat) ≤ 1; decide⟩
theorem Leaf.str {z : Str} (h : z.length ≤ 100) : Leaf (.str z) := ⟨by unfold sm; exact decide_eq_true h, rfl, rfl, by show (0 : Nat) ≤ 1; decide⟩
theorem sms_of : ∀ {l : List Tr}, (∀ t ∈ l, sm t = true) → sms l = true
  | [], _ => rfl
  | t :: ts, h => by
    unfold sms
    rw [h t (List.mem_cons_self ..), sms_of fun u hu => h u (List.mem_cons_of_mem _ hu)]
    rfl
theorem sm_lst {l : List Tr} (h : l.length ≤ 100) (k : ∀ t ∈ l, sm t = true) : sm (.lst l) = true := by
  unfold sm
  rw [decide_eq_true h, sms_of k]
  rfl
theorem deps_of {n : Nat} : ∀ {l : List Tr}, (∀ t ∈ l, dep t ≤ n) → deps l ≤ n
  | [], _ => by
    show 0 ≤ n
    omega
  | t :: ts, h => by
    unfold deps
    have := h t (List.mem_cons_self ..)
    have := deps_of (n := n) (l := ts) fun u hu => h u (List.mem_cons_of_mem _ hu)
    omega
theorem dep_lst {l : List Tr} : dep (.lst l) = deps l + 1 := by
  conv => lhs; unfold dep
theorem s100 (z : String) (h : (Str.ofString z).length ≤ 100 := by decide +kernel) : Leaf (.str (Str.ofString z)) := Leaf.str h
theorem forall3 {p : Tr → Prop} {a b c : Tr} (h1 : p a) (h2 : p b) (h3 : p c) : ∀ t ∈ [a, b, c], p t := fun t ht => by
  simp only [List.mem_cons, List.not_mem_nil, or_false] at ht
  rcases ht with rfl | rfl | rfl
  · exact h1
  · exact h2
  · exact h3
theorem forall4 {p : Tr → Prop} {a b c d : Tr} (h1 : p a) (h2 : p b) (h3 : p c) (h4 : p d) : ∀ t ∈ [a, b, c, d], p t := fun t ht => by
  simp only [List.mem_cons, List.not_mem_nil, or_false] at ht
  rcases ht with rfl | rfl | rfl | rfl
  · exact h1
  · exact h2
  · exact h3
  · exact h4
theorem tokC {born : Tr} {cs : List Tr} (hb : Leaf born) (hl : cs.length ≤ 100) (hc : ∀ t ∈ cs, Leaf t) : Tok (treeC born cs) := by
  refine ⟨sm_lst (by show (3 : Nat) ≤ 100; decide) (forall3 (s100 "cells").1 hb.1 (sm_lst hl fun t m => (hc t m).1)), ?_, ?_, ?_⟩
  · rw [frz_C hb.2.2.1 fun t m => (hc t m).2.2.1]
    show (true && (nl born && (nls cs && true))) = true
    rw [hb.2.1, nls_of fun t m => (hc t m).2.1]
    rfl
  · unfold treeC
    rw [dep_lst]
    have : deps [Tr.str (Str.ofString "cells"), born, .lst cs] ≤ 2 := deps_of (forall3 (by show (0 : Nat) ≤ 2; decide) (by have := hb.2.2.2; omega) (by
      rw [dep_lst]
      have := deps_of (n := 1) fun t m => (hc t m).2.2.2
      omega))
    omega
  · rw [frz_C hb.2.2.1 fun t m => (hc t m).2.2.1]
    rfl
def Bad (t : Tr) : Prop := Tok t ∧ knotP (frz t) = false
theorem badC {born : Tr} {cs : List Tr} (hb : Leaf born) (hl : cs.length ≤ 100) (hc : ∀ t ∈ cs, Leaf t) (h : cs.length = 0 ∨ 8 < cs.length ∨ (∃ t ∈ cs, wthT t 0 999999 = false) ∨ wthT born 1 4294967295 = false) : Bad (treeC born cs) := by
  refine ⟨tokC hb hl hc, ?_⟩
  rw [frz_C hb.2.2.1 fun t m => (hc t m).2.2.1, knot_C]
  rcases h with h | h | ⟨t, m, h⟩ | h
  · rw [decide_eq_false (show ¬ 1 ≤ cs.length by omega), Bool.false_and, Bool.false_and, Bool.and_false]
  · rw [decide_eq_false (show ¬ cs.length ≤ 8 by omega), Bool.and_false, Bool.false_and, Bool.and_false]
  · have : (cs.all fun c => wthT c 0 999999) = false := by
      rw [Bool.eq_false_iff]
      intro z
      have := List.all_eq_true.mp z t m
      rw [h] at this
      cases this
    rw [this, Bool.and_false, Bool.and_false]
  · rw [h, Bool.false_and]
theorem ats_set {H H' : Hp} {l : List Tr} {vs : List V} {i : Nat} {t : Tr} {v : V} (k : Ats H l vs) (s : ∀ (j : Nat) u x, l[j]? = some u → vs[j]? = some x → At H u x → At H' u x) (h : At H' t v) : Ats H' (l.set i t) (vs.set i v) := by
  refine ats_of (by rw [List.length_set, List.length_set, k.len]) fun j u x hu hx => ?_
  rw [List.getElem?_set] at hu hx
  by_cases z : i = j
  · subst z
    rw [if_pos rfl] at hu hx
    split at hu
    · cases hu
      split at hx
      · cases hx
        exact h
      · cases hx
    · cases hu
  · rw [if_neg z] at hu hx
    obtain ⟨u', hu', hat⟩ := k.get hx
    rw [hu] at hu'
    cases hu'
    exact s j u x hu hx hat
section
variable {P : Program} {w : World} {K : PySem.W.Frag} {mg : Str → Option Value} {base : Heap} {f fOff : Addr} {fd dOff : FuncData}
def spSpc : Sp := fun vs H Q _ => ∃ (L : Addr) (n : Int) (H0 : Hp), vs = [.ref L, .int n] ∧ 0 ≤ n ∧ n < 2147483587 ∧ Same H0 H ∧ H0 L = none ∧ ShC H0 H L ∧ ∀ H' t, Same H0 H' → At H' t (.ref L) → Bad t → Q .non H'
theorem ixN_nat {n : Nat} {i : Int} (h0 : 0 ≤ i) (h1 : i < (n : Int)) : ixN n i = some i.toNat := by
  unfold ixN
  rw [if_pos h0, if_pos (by omega)]
theorem scSpc : FnScope ["_law_stuff_here", "_law_number", "_law_at", "_law_way"] ["_law_stuff_here", "_law_number"] (defScope sSpc) := ⟨rfl, rfl, rfl, by decide +kernel, rfl, by decide +kernel, by decide +kernel⟩
theorem ok_Spc (F : Fun K "_law_spoiled_cells" "_law_spoiled_cells" sSpc f fd) (hOff : Has K mg "_law_off" sOff ["_law_number", "_law_low", "_law_high"] fOff dOff) (GOff : FnOk P w K mg base CX0 1 fOff dOff ["_law_number", "_law_low", "_law_high"] spOff) (T : Txt mg) : FnOk P w K mg base CX0 2 f fd ["_law_stuff_here", "_law_number"] spSpc := by
  refine F.ok scSpc (fun vs H Q E h => ?_) (fun cdv A outer s H vs Q E hr h => ?_)
  · obtain ⟨L, n, H0, rfl, _⟩ := h
    rfl
  obtain ⟨L, n, H0, rfl, n0, n1, s0, hL0, ⟨born, c, cs, eL, ec, hc0, ob, lc0, lc8, oc⟩, q⟩ := h
  refine ⟨_, (pss_cons (ps_set (i := 2) scSpc.nd rfl (Or.inl rfl) (pe_op op_mod (pe_op op_fdiv (pv 1) pe_int) (pe_callB call_len_seq rfl T.len PySem.boot_len (pa_cons (pe_ix ix_list (pv 0) pe_int (fun _ _ => rfl)) pa_nil))))
    (pss_cons (ps_set (i := 3) scSpc.nd rfl (Or.inl rfl) (pe_op op_mod (pv 1) pe_int))
    (pss_one (ps_if (pt_cmpR op_eq (pv 3) pe_int (nomark _))
    (pss_one (ps_asg (pe_lst pa_nil) (pg_sub (pv 0) pe_int set_list)))
    (pss_one (ps_if (pt_cmpR op_eq (pv 3) pe_int (nomark _))
    (pss_one (ps_asg (pe_slice sl_list (pe_op op_rep (pe_ix ix_list (pv 0) pe_int (fun _ _ => rfl)) pe_int) po_none (po_some pe_int)) (pg_sub (pv 0) pe_int set_list)))
    (pss_one (ps_asg (pe_call GOff (hr.mono (by decide)) rfl hOff.nm hOff.fn.kp hOff.bd .nil pass0 (pa_cons (pe_op op_fdiv (pv 1) pe_int) (pa_cons pe_int (pa_cons pe_int pa_nil)))) (pg_sub (pe_ix ix_list (pv 0) pe_int (fun _ _ => rfl)) (pv 2) set_list))))))))), ?_⟩
  have lm : (cs.map V.int).length = cs.length := List.length_map _
  have nLc : c ≠ L := fun z => by
    rw [z, eL] at ec
    injection ec with ec
    injection ec with ec
    match cs, ec with
    | x :: _, ec => cases ec
  refine ⟨_, rfl, _, _, rfl, rfl, ⟨by decide, by decide⟩, _, rfl, L, _, 2, _, rfl, rfl, SqL.of eL, rfl, c, _, rfl, .inl (SqL.of ec), ?_⟩
  rw [lm]
  refine ⟨_, _, rfl, rfl, (by show (0 : Int) < (cs.length : Int); omega), ?_⟩
  have a0 := Int.emod_nonneg (n / 8) (show (cs.length : Int) ≠ 0 by omega)
  have a1 := Int.emod_lt_of_pos (n / 8) (show 0 < (cs.length : Int) by omega)
  dsimp only
  generalize n / 8 % (cs.length : Int) = at' at a0 a1
  refine ⟨_, rfl, _, _, rfl, rfl, (by show (0 : Int) < 8; decide), ?_⟩
  dsimp only
  refine ⟨_, rfl, rfl, _, rfl, ite2 (fun c1 => ?_) (fun c1 => ?_)⟩
  · refine ⟨by decide, fun p hp => ?_⟩
    have s1 := same_new hp (HO.lst [])
    have npL : p ≠ L := fun z => by rw [z, eL] at hp; cases hp
    refine ⟨_, rfl, L, _, 2, 2, rfl, rfl, s1 _ _ eL, rfl, ?_⟩
    refine q _ (treeC (.int born) []) (same_over (s0.trans s1) hL0 _) (At.mkL upd_same (Ats.cons (At.str _) (Ats.cons (At.int _) (Ats.cons (At.mkL ?_ (Ats.nil _)) (Ats.nil _))))) (badC (Leaf.int _) (by decide) (by simp) (.inl rfl))
    rw [upd_ne npL]
    exact upd_same
  · refine ⟨_, rfl, rfl, _, rfl, ite2 (fun c2 => ?_) (fun c2 => ?_)⟩
    · refine ⟨_, rfl, L, _, 2, _, rfl, rfl, SqL.of eL, rfl, c, 9, _, rfl, rfl, ec, by decide, by decide, ?_, fun p hp => ?_⟩
      · show (cs.map V.int).length * 9 ≤ sizeLine
        rw [lm]
        exact Nat.le_of_lt (small (by omega))
      have s1 := same_new hp (HO.lst (List.replicate (Int.toNat 9) (cs.map V.int)).flatten)
      refine ⟨9, rfl, p, _, rfl, SqL.of upd_same, fun b hb => ?_⟩
      have ed : cutV (List.replicate (Int.toNat 9) (cs.map V.int)).flatten none (some 9) = ((List.replicate 9 cs).flatten.take 9).map V.int := by
        rw [show (9 : Int) = ((9 : Nat) : Int) from rfl, cut_to, List.map_take]
        congr 1
        show (List.replicate 9 (cs.map V.int)).flatten = _
        rw [List.map_flatten, List.map_replicate]
      rw [ed]
      have ld : ((List.replicate 9 cs).flatten.take 9).length = 9 := by
        rw [List.length_take]
        have : (List.replicate 9 cs).flatten.length = 9 * cs.length := by simp; omega
        omega
      generalize (List.replicate 9 cs).flatten.take 9 = ds at ld
      have s2 := s1.trans (same_new hb (HO.lst (ds.map V.int)))
      have nbL : b ≠ L := fun z => by rw [z, s1 _ _ eL] at hb; cases hb
      refine ⟨_, rfl, L, _, 2, 2, rfl, rfl, s2 _ _ eL, rfl, ?_⟩
      refine q _ (treeC (.int born) (ds.map Tr.int)) (same_over (s0.trans s2) hL0 _) (At.mkL upd_same (Ats.cons (At.str _) (Ats.cons (At.int _) (Ats.cons (At.mkL (vs := ds.map V.int) ?_ (ats_ints _)) (Ats.nil _))))) (badC (Leaf.int _) (by rw [List.length_map]; omega) (fun t m => ?_) (.inr (.inl (by rw [List.length_map]; omega))))
      · rw [upd_ne nbL]
        exact upd_same
      · obtain ⟨x, _, rfl⟩ := List.mem_map.mp m
        exact Leaf.int x
    · refine ⟨_, rfl, _, _, rfl, rfl, ⟨by decide, by decide⟩, n / 64, 0, 999999, rfl, by omega, by omega, by decide, by decide, by decide, fun v t H1 s1 hv wf sf df lf nf => ?_⟩
      have ec1 := s1 _ _ ec
      have eL1 := s1 _ _ eL
      refine ⟨_, rfl, L, _, 2, _, rfl, rfl, SqL.of eL1, rfl, _, rfl, c, _, at', _, rfl, rfl, ec1, by rw [lm]; exact ixN_nat a0 a1, ?_⟩
      have kt : ∀ q u, H1 q = some (.tup u) → upd H1 c (.lst ((cs.map V.int).set at'.toNat v)) q = some (.tup u) := fun q u e => by
        rw [upd_ne (fun z => by rw [z, ec1] at e; cases e)]
        exact e
      refine q _ (treeC (.int born) ((cs.map Tr.int).set at'.toNat t)) (same_over (s0.trans s1) hc0 _) (At.mkL (vs := [.str "cells", .int born, .ref c]) ?_ (Ats.cons (At.str _) (Ats.cons (At.int _) (Ats.cons (At.mkL upd_same (ats_set (ats_ints (H := H1) cs) (fun j u x hu hx hat => ?_) (At.keepT kt nf hv))) (Ats.nil _))))) (badC (Leaf.int _) (by rw [List.length_set, List.length_map]; omega) (fun u m => ?_) (.inr (.inr (.inl ⟨t, ?_, wf⟩))))
      · rw [upd_ne (Ne.symm nLc)]
        exact eL1
      · rw [List.getElem?_map] at hu
        obtain ⟨y, _, rfl⟩ := Option.map_eq_some_iff.mp hu
        unfold At at *
        exact hat
      · rcases List.mem_or_eq_of_mem_set m with m | m
        · obtain ⟨x, _, rfl⟩ := List.mem_map.mp m
          exact Leaf.int x
        · rw [m]
          exact ⟨sf, nf, lf, df⟩
      · exact List.mem_set (by rw [List.length_map]; omega) _
end
end K22
namespace L2
open PySem PySem.Spec PyProof.Rows
/-! ### a, b, .. = a list -/
theorem draw_list {prog : Program} {w : World} {A : Around} {E : Value → Shared → Prop} {it l : Addr} {items : Array Value} (ne : l ≠ it) :
    ∀ (n i : Nat) (s : Shared) (Q : List Value → Shared → Prop), s.heap.IsListIter it l i → s.heap.IsList l items → i + n ≤ items.size →
      (∀ h' : Heap, h'.IsListIter it l (i + n) → Heap.SameBut it s.heap h' → Q ((items.toList.drop i).take n) { s with heap := h' }) →
      wpAny (model prog w) A (draw (.ref it) n) Q E s
  | 0, i, s, Q, hi, hl, hn, q => by
    rw [PySem.draw.eq_1]
    exact wpAny_pure (q s.heap hi ⟨rfl, fun _ _ => rfl⟩)
  | n + 1, i, s, Q, hi, hl, hn, q => by
    rw [PySem.draw.eq_2]
    have li : i < items.size := by omega
    refine wpAny_bind (wpAny_pyNext_list_item hi hl (x := items[i]) (by simp [li]) fun h1 hi1 sb => ?_)
    have hl1 : h1.IsList l items := by
      obtain ⟨o, e, r⟩ := hl
      exact ⟨o, (sb.2 l ne).trans e, r⟩
    refine wpAny_bind (wpAny_holding (draw_list ne n (i + 1) { s with heap := h1 } _ hi1 hl1 (by omega) fun h2 hi2 sb2 => wpAny_pure ?_))
    have e1 : i + 1 + n = i + (n + 1) := by omega
    rw [e1] at hi2
    have e2 : items[i] :: (items.toList.drop (i + 1)).take n = (items.toList.drop i).take (n + 1) := by
      have : items.toList.drop i = items[i] :: items.toList.drop (i + 1) := by
        rw [List.drop_eq_getElem_cons (by simpa using li)]
        simp
      rw [this, List.take_succ_cons]
    rw [e2]
    exact q h2 hi2 ⟨sb2.1.trans sb.1, fun b hb => (sb2.2 b hb).trans (sb.2 b hb)⟩
theorem unpackItems_list {prog : Program} {w : World} {A : Around} {E : Value → Shared → Prop} {s : Shared} {l : Addr} {items : Array Value} {Q : List Value → Shared → Prop} (hh : A.handled = none) (hl : s.heap.IsList l items)
    (q : ∀ h' : Heap, Heap.ExtBut s.heap.objs.size s.heap h' → Q items.toList { s with heap := h' }) : wpAny (model prog w) A (unpackItems (.ref l) items.size none) Q E s := by
  have ne : l ≠ s.heap.objs.size := by
    obtain ⟨o, e, _⟩ := hl
    exact Nat.ne_of_lt (Heap.lt_size e)
  unfold unpackItems
  refine wpAny_bind ?_
  unfold notIterableAtAll
  refine wpAny_bind (wpAny_specialOf (T := "list") hl.typeIs F.slot_list_iter.lookup ?_)
  refine wpAny_pure ?_
  show wpAny (model prog w) A (holding [.ref l] (pyIter (.ref l)) >>= _) Q E s
  refine wpAny_bind (wpAny_holding (wpAny_pyIter_list hl ?_))
  have hl1 : (s.heap.push { cls := .type "list_iterator", data := .fields #[.ref l, .int 0 0] }).IsList l items := by
    obtain ⟨o, e, r⟩ := hl
    exact ⟨o, Heap.get?_push_of_some _ e, r⟩
  refine wpAny_bind (wpAny_holding (draw_list ne items.size 0 _ _ ⟨_, Heap.get?_push_size _ rfl, rfl, rfl⟩ hl1 (by omega) fun h2 hi2 sb2 => ?_))
  have el : (items.toList.drop 0).take items.size = items.toList := by
    rw [List.drop_zero]
    exact List.take_of_length_le (by simp)
  rw [el]
  have nl : ¬ items.toList.length < items.size := by simp
  rw [if_neg nl]
  have hl2 : h2.IsList l items := by
    obtain ⟨o, e, r⟩ := hl1
    exact ⟨o, (sb2.2 l ne).trans e, r⟩
  refine wpAny_bind (wpAny_holding (wpAny_pyNext_list_end hh hi2 hl2 (by simp) fun h3 eb => ?_))
  refine wpAny_pure (q h3 fun b o nb e => eb b o nb ((sb2.2 b nb).trans (Heap.get?_push_of_some _ e)))
def gTupL (K : PySem.W.Frag) (n : Nat) (t : TGs) : TG := fun v σ H Q => ∃ a xs, v = .ref a ∧ SqL K H a xs ∧ xs.length = n ∧ t xs σ H Q
theorem pg_tupL {X : Cx} {pos : Pos} {es : List Expr} {k : Nat} {t : TGs} {n : Nat} (hc : X.calm = true) (h : PGs X es t)
    (hn : (assignEach es X.env).length = n := by rfl) (hst : (assignEach es X.env).findIdx? (·.1) = none := by rfl) : PG X (.Tuple es k pos) (gTupL X.K n t) := by
  intro pins s σ H v u Q I r hw
  obtain ⟨a, xs, e1, hq, hl, hw⟩ := hw
  subst e1
  cases r
  obtain ⟨its, rv, ht, hz⟩ := I.list hq
  have lz : (assignEach es X.env).length = its.toArray.size := by simp [hn, ← hl, rv.length]
  rw [PyProof.Rows.assign_Tuple]
  refine wpAny_bind (wpAny_standAt ?_)
  unfold PySem.unpack
  rw [hst, lz]
  refine wpAny_bind (wpAny_holding (unpackItems_list (I.ok.hd hc) ht.isList fun h' hx => ?_))
  have I1 : Inv X pins σ H { s with heap := h' } := I.kept (t' := s.toks) fun b o e => hx b o (Nat.ne_of_lt (Heap.lt_size e)) e
  exact h pins _ σ H xs _ Q I1 (by simpa using rv) hw
end L2
set_option maxHeartbeats 4000000
namespace K22
open PySem L2
/-! ### spoiled rows -/
def RowOk (t : Tr) : Prop := (∃ l, t = .lst l ∧ 4 ≤ l.length ∧ l.length ≤ 100 ∧ ∀ x ∈ l, Leaf x) ∨ t = .non
def treeG (born n : Tr) (ts : List Tr) : Tr := .lst [.str "file", born, n, .lst ts]
theorem RowOk.q4 (r : S4) : RowOk (.lst (q4 r)) := .inl ⟨_, rfl, by show (4 : Nat) ≤ 4; decide, by show (4 : Nat) ≤ 100; decide, forall4 (Leaf.int _) (Leaf.int _) (Leaf.int _) (Leaf.int _)⟩
theorem frz_G {born n : Tr} {ts : List Tr} (hb : Leaf born) (hn : Leaf n) : frz (treeG born n ts) = .tup [.str "file", born, n, .tup (ts.map frz)] := by
  show Tr.tup [.str "file", frz born, frz n, .tup (frzs ts)] = _
  rw [frz_not hb.2.2.1, frz_not hn.2.2.1, frzs_map]
theorem RowOk.sm {t : Tr} (h : RowOk t) : sm t = true := by
  rcases h with ⟨l, rfl, h4, h100, hx⟩ | rfl
  · exact sm_lst h100 fun x m => (hx x m).1
  · rfl
theorem RowOk.frz {t : Tr} (h : RowOk t) : nl (frz t) = true ∧ dep t ≤ 2 ∧ entFl (frz t) = true := by
  rcases h with ⟨l, rfl, h4, h100, hx⟩ | rfl
  · have ef : L2.frz (.lst l) = .tup l := by
      show Tr.tup (frzs l) = _
      rw [frz_flat fun x m => (hx x m).2.2.1]
    rw [ef, dep_lst]
    refine ⟨nls_of fun x m => (hx x m).2.1, ?_, ?_⟩
    · have := deps_of (n := 1) fun x m => (hx x m).2.2.2
      omega
    · unfold entFl
      split
      · next h => injection h with h; subst h; exact absurd h4 (by show ¬ (4 : Nat) ≤ 3; decide)
      · rfl
  · exact ⟨rfl, by show (0 : Nat) ≤ 2; decide, rfl⟩
theorem tokG {born n : Tr} {ts : List Tr} (hb : Leaf born) (hn : Leaf n) (hl : ts.length ≤ 100) (ht : ∀ t ∈ ts, RowOk t) : Tok (treeG born n ts) := by
  refine ⟨sm_lst (by show (4 : Nat) ≤ 100; decide) (forall4 (s100 "file").1 hb.1 hn.1 (sm_lst hl fun t m => (ht t m).sm)), ?_, ?_, ?_⟩
  · rw [frz_G hb hn]
    show (true && (nl born && (nl n && (nls (ts.map L2.frz) && true)))) = true
    rw [hb.2.1, hn.2.1, nls_of fun t m => by
      obtain ⟨u, hu, rfl⟩ := List.mem_map.mp m
      exact (ht u hu).frz.1]
    rfl
  · unfold treeG
    rw [dep_lst]
    have : deps [Tr.str (Str.ofString "file"), born, n, .lst ts] ≤ 3 := deps_of (forall4 (by show (0 : Nat) ≤ 3; decide) (by have := hb.2.2.2; omega) (by have := hn.2.2.2; omega) (by
      rw [dep_lst]
      have := deps_of (n := 2) fun t m => (ht t m).frz.2.1
      omega))
    omega
  · rw [frz_G hb hn]
    show (true && (ts.map L2.frz).all entFl) = true
    rw [Bool.true_and, List.all_eq_true]
    intro t m
    obtain ⟨u, hu, rfl⟩ := List.mem_map.mp m
    exact (ht u hu).frz.2.2
theorem badG {born n : Tr} {ts : List Tr} (hb : Leaf born) (hn : Leaf n) (hl : ts.length ≤ 100) (ht : ∀ t ∈ ts, RowOk t) (h : wthT n 0 40 = false ∨ ∃ m, n = .int m ∧ rowO ((ts.map frz).map st4T) m = false) : Bad (treeG born n ts) := by
  refine ⟨tokG hb hn hl ht, ?_⟩
  rw [frz_G hb hn, knot_F]
  have : fileP [.str (Str.ofString "file"), born, n, .tup (ts.map frz)] = false := by
    rcases h with h | ⟨m, rfl, h⟩
    · cases n with
      | int m =>
        show (wthT (.int m) 0 40 && _) = false
        rw [h, Bool.false_and]
      | _ => rfl
    · rw [file_row, h, Bool.and_false]
  rw [this, Bool.and_false]
theorem badRow {os : List (Option S4)} {m : Int} {i : Nat} {o : Option S4} (h : os[i]? = some o) (k : o.any okP = false) : rowO os m = false := by
  refine rowO_no ?_
  rw [Bool.eq_false_iff]
  intro z
  have := List.all_eq_true.mp z o (List.mem_of_getElem? h)
  rw [k] at this
  cases this
theorem os_q4 (rs : List S4) : ((rs.map fun r => Tr.lst (q4 r)).map frz).map st4T = rs.map some := by
  rw [List.map_map, List.map_map]
  rfl
/-- one row of lists exchanged, its stretch no good -/
theorem badSet {born : Tr} {m : Int} {rs : List S4} {i : Nat} {row : List Tr} (hb : Leaf born) (hl : rs.length ≤ 4) (hi : i < rs.length) (h4 : 4 ≤ row.length) (h100 : row.length ≤ 100) (hx : ∀ x ∈ row, Leaf x) (k : (st4T (.tup row)).any okP = false) :
    Bad (treeG born (.int m) ((rs.map fun r => Tr.lst (q4 r)).set i (.lst row))) := by
  refine badG hb (Leaf.int m) (by rw [List.length_set, List.length_map]; omega) (fun t ht => ?_) (.inr ⟨m, rfl, badRow (i := i) (o := st4T (.tup row)) ?_ k⟩)
  · rcases List.mem_or_eq_of_mem_set ht with ht | rfl
    · obtain ⟨r, _, rfl⟩ := List.mem_map.mp ht
      exact RowOk.q4 r
    · exact .inl ⟨row, rfl, h4, h100, hx⟩
  · rw [List.getElem?_map, List.getElem?_map, List.getElem?_set, if_pos rfl, if_pos (by rw [List.length_map]; exact hi)]
    show some (st4T (.tup (frzs row))) = _
    rw [frz_flat fun x m => (hx x m).2.2.1]
theorem badRows {born : Tr} {m : Int} {rs : List S4} (hb : Leaf born) (hl : rs.length ≤ 100) (k : isRowP rs m = false) : Bad (treeG born (.int m) (rs.map fun r => Tr.lst (q4 r))) :=
  badG hb (Leaf.int m) (by rw [List.length_map]; omega) (fun t ht => by
    obtain ⟨r, _, rfl⟩ := List.mem_map.mp ht
    exact RowOk.q4 r) (.inr ⟨m, rfl, by rw [os_q4, rowO_map, k]⟩)
theorem ats_rows {H : Hp} {as : List Addr} {rs : List S4} (h : LgAt H as (rs.map tv)) : Ats H (rs.map fun r => Tr.lst (q4 r)) (as.map V.ref) := by
  have e : (rs.map fun r => Tr.lst (q4 r)) = (rs.map q4).map Tr.lst := by rw [List.map_map]; rfl
  rw [e]
  refine ats_lg h (by rw [List.length_map, List.length_map]) fun i ts vs ht hv => ?_
  rw [List.getElem?_map] at ht hv
  obtain ⟨r, hr, rfl⟩ := Option.map_eq_some_iff.mp ht
  rw [hr] at hv
  cases hv
  exact ats_q4 r
theorem not_row {rs : List S4} {m : Int} {i : Nat} {a b : S4} (ha : rs[i]? = some a) (hb : rs[i + 1]? = some b) (h : b.1 < a.1 + a.2.1 ∨ goOn a b = true) : isRowP rs m = false := by
  have : apart rs = false := by
    rw [Bool.eq_false_iff]
    intro z
    have := apart_iff.mp z i a b ha hb
    rcases h with h | h
    · exact this.1 h
    · rw [this.2] at h
      cases h
  unfold isRowP
  rw [this, Bool.and_false, Bool.false_and]
end K22
set_option maxHeartbeats 4000000
namespace K22
open PySem L2
theorem lg_set {H : Hp} {as : List Addr} {vss : List (List V)} {i : Nat} {a : Addr} {vs : List V} (h : LgAt H as vss) (nd : as.Nodup) (ha : as[i]? = some a) : LgAt (upd H a (.lst vs)) as (vss.set i vs) := by
  refine ⟨by rw [List.length_set]; exact h.1, fun j b ws hb hw => ?_⟩
  rw [List.getElem?_set] at hw
  by_cases z : i = j
  · subst z
    rw [if_pos rfl] at hw
    rw [ha] at hb
    cases hb
    split at hw
    · cases hw
      exact upd_same
    · cases hw
  · rw [if_neg z] at hw
    have nb : b ≠ a := fun e => z (by
      subst e
      have l1 := (List.getElem?_eq_some_iff.mp ha).1
      exact (List.getElem?_inj l1 nd).mp (ha.trans hb.symm))
    rw [upd_ne nb]
    exact h.2 j b ws hb hw
theorem ats_inner {H : Hp} {as : List Addr} {rs : List S4} {i j : Nat} {a : Addr} {r : S4} {v : V} {t : Tr} (lg : LgAt H as (rs.map tv)) (nd : as.Nodup) (ha : as[i]? = some a) (hr : rs[i]? = some r) (hv : At (upd H a (.lst ((tv r).set j v))) t v) :
    Ats (upd H a (.lst ((tv r).set j v))) ((rs.map fun r => Tr.lst (q4 r)).set i (.lst ((q4 r).set j t))) (as.map V.ref) := by
  have e : ((rs.map fun r => Tr.lst (q4 r)).set i (.lst ((q4 r).set j t))) = ((rs.map q4).set i ((q4 r).set j t)).map Tr.lst := by
    rw [List.map_set, List.map_map]
    rfl
  rw [e]
  refine ats_lg (lg_set (vs := (tv r).set j v) lg nd ha) (by rw [List.length_set, List.length_set, List.length_map, List.length_map]) fun k ts vs ht hv' => ?_
  rw [List.getElem?_set] at ht hv'
  by_cases z : i = k
  · subst z
    rw [if_pos rfl] at ht hv'
    split at ht
    · cases ht
      split at hv'
      · cases hv'
        exact ats_set (ats_q4 (H := upd H a (.lst ((tv r).set j v))) r) (fun _ _ _ _ _ h => h) hv
      · cases hv'
    · cases ht
  · rw [if_neg z] at ht hv'
    rw [List.getElem?_map] at ht hv'
    obtain ⟨r', hr', rfl⟩ := Option.map_eq_some_iff.mp ht
    rw [hr'] at hv'
    cases hv'
    exact ats_q4 r'
theorem okP_no {r : S4} (h : ¬ (0 ≤ r.1 ∧ 1 ≤ r.2.1 ∧ 0 ≤ r.2.2.2 ∧ r.1 + r.2.1 ≤ 40 ∧ r.2.2.2 + r.2.1 ≤ 8 ∧ 2 ≤ r.2.2.1 ∧ r.2.2.1 ≤ 599)) : (some r).any okP = false := by
  show okP r = false
  rw [Bool.eq_false_iff]
  intro z
  unfold okP at z
  simp only [Bool.and_eq_true, decide_eq_true_eq] at z
  exact h ⟨z.1.1.1.1.1, z.1.1.1.1.2, z.1.1.1.2, z.1.1.2, z.1.2, z.2.1, z.2.2⟩
section
variable {P : Program} {w : World} {K : PySem.W.Frag} {mg : Str → Option Value} {base : Heap} {f fOff : Addr} {fd dOff : FuncData}
def spSpr : Sp := fun vs H Q _ => ∃ (L : Addr) (n : Int) (H0 : Hp), vs = [.ref L, .int n] ∧ 0 ≤ n ∧ n < 2147483587 ∧ Same H0 H ∧ H0 L = none ∧ ShF H0 H L ∧ ∀ H' t, Same H0 H' → At H' t (.ref L) → Bad t → Q .non H'
theorem scSpr : FnScope ["_law_stuff_here", "_law_number", "_law_way", "_law_at", "_law_more", "_law_start", "_law_long", "_law_place", "_law_skip", "_law_two"] ["_law_stuff_here", "_law_number"] (defScope sSpr) := ⟨rfl, rfl, rfl, by decide +kernel, rfl, by decide +kernel, by decide +kernel⟩
theorem ok_Spr (F : Fun K "_law_spoiled_row" "_law_spoiled_row" sSpr f fd) (hOff : Has K mg "_law_off" sOff ["_law_number", "_law_low", "_law_high"] fOff dOff) (GOff : FnOk P w K mg base CX0 1 fOff dOff ["_law_number", "_law_low", "_law_high"] spOff) (T : Txt mg) : FnOk P w K mg base CX0 2 f fd ["_law_stuff_here", "_law_number"] spSpr := by
  refine F.ok scSpr (fun vs H Q E h => ?_) (fun cdv A outer s H vs Q E hr h => ?_)
  · obtain ⟨L, n, H0, rfl, _⟩ := h
    rfl
  obtain ⟨L, n, H0, rfl, n0, n1, s0, hL0, ⟨born, m, rl, as, rs, eL, er, lg, nd, hr0, ha0, ob, m0, m40, irow, l4⟩, q⟩ := h
  refine ⟨_, (pss_cons (ps_set (i := 2) scSpr.nd rfl (Or.inl rfl) (pe_op op_mod (pv 1) pe_int))
    (pss_cons (ps_set (i := 3) scSpr.nd rfl (Or.inl rfl) pe_int)
    (pss_cons (ps_if (pt_cmpR (op_neE (hu_of hr |> Nat.lt_of_succ_lt)) (pe_ix ix_list (pv 0) pe_int (fun _ _ => rfl)) (pe_lst pa_nil) (nomark _))
    (pss_one (ps_set (i := 3) scSpr.nd rfl (Or.inl rfl) (pe_op op_mod (pe_op op_fdiv (pv 1) pe_int) (pe_callB call_len_seq rfl T.len PySem.boot_len (pa_cons (pe_ix ix_list (pv 0) pe_int (fun _ _ => rfl)) pa_nil)))))
    pss_nil)
    (pss_cons (ps_set (i := 4) scSpr.nd rfl (Or.inl rfl) (pe_op op_fdiv (pv 1) pe_int))
    (pss_one (ps_if (PW.pt (pw_or (pt_cmpR op_eq (pv 2) pe_int (nomark _)) (pw_or1 (pt_cmpR (op_eqE (hu_of hr |> Nat.lt_of_succ_lt)) (pe_ix ix_list (pv 0) pe_int (fun _ _ => rfl)) (pe_lst pa_nil) (nomark _)))))
    (pss_one (ps_asg (pe_call GOff (hr.mono (by decide)) rfl hOff.nm hOff.fn.kp hOff.bd .nil pass0 (pa_cons (pv 4) (pa_cons pe_int (pa_cons pe_int pa_nil)))) (pg_sub (pv 0) pe_int set_list)))
    (pss_one (ps_if (pt_cmpR op_eq (pv 2) pe_int (nomark _))
    (pss_one (ps_asg (pe_op op_cat (pe_ix ix_list (pe_ix ix_list (pv 0) pe_int (fun _ _ => rfl)) (pv 3) (fun _ _ => rfl)) (pe_lst (pa_cons pe_int pa_nil))) (pg_sub (pe_ix ix_list (pv 0) pe_int (fun _ _ => rfl)) (pv 3) set_list)))
    (pss_one (ps_if (pt_cmpR op_eq (pv 2) pe_int (nomark _))
    (pss_one (ps_asg (pe_op op_add (pe_op op_sub (pe_ix ix_list (pv 0) pe_int (fun _ _ => rfl)) (pe_ix ix_list (pe_ix ix_list (pe_ix ix_list (pv 0) pe_int (fun _ _ => rfl)) (pv 3) (fun _ _ => rfl)) pe_int (fun _ _ => rfl))) pe_int) (pg_sub (pe_ix ix_list (pe_ix ix_list (pv 0) pe_int (fun _ _ => rfl)) (pv 3) (fun _ _ => rfl)) pe_int set_list)))
    (pss_one (ps_if (pt_cmpR op_eq (pv 2) pe_int (nomark _))
    (pss_one (ps_asg (pe_ix ix_list (pe_lst (pa_cons pe_int (pa_cons pe_int (pa_cons pe_bl (pa_cons pe_non pa_nil))))) (pe_op op_mod (pv 4) pe_int) (fun _ _ => rfl)) (pg_sub (pe_ix ix_list (pe_ix ix_list (pv 0) pe_int (fun _ _ => rfl)) (pv 3) (fun _ _ => rfl)) pe_int set_list)))
    (pss_one (ps_if (pt_cmpR op_eq (pv 2) pe_int (nomark _))
    (pss_one (ps_asg (pe_call GOff (hr.mono (by decide)) rfl hOff.nm hOff.fn.kp hOff.bd .nil pass0 (pa_cons (pv 4) (pa_cons pe_int (pa_cons pe_int pa_nil)))) (pg_sub (pe_ix ix_list (pe_ix ix_list (pv 0) pe_int (fun _ _ => rfl)) (pv 3) (fun _ _ => rfl)) pe_int set_list)))
    (pss_one (ps_if (pt_cmpR op_eq (pv 2) pe_int (nomark _))
    (pss_one (ps_asg (pe_ix ix_list (pe_lst (pa_cons (pe_un un_neg pe_int) (pa_cons (pe_op op_sub pe_int (pe_ix ix_list (pe_ix ix_list (pe_ix ix_list (pv 0) pe_int (fun _ _ => rfl)) (pv 3) (fun _ _ => rfl)) pe_int (fun _ _ => rfl))) (pa_cons pe_bl (pa_cons pe_str pa_nil))))) (pe_op op_mod (pv 4) pe_int) (fun _ _ => rfl)) (pg_sub (pe_ix ix_list (pe_ix ix_list (pv 0) pe_int (fun _ _ => rfl)) (pv 3) (fun _ _ => rfl)) pe_int set_list)))
    (pss_one (ps_if (PW.pt (pw_and (pt_cmpR op_eq (pv 2) pe_int (nomark _)) (pw_and (pt_cmpR op_gt (pe_ix ix_list (pe_ix ix_list (pe_ix ix_list (pv 0) pe_int (fun _ _ => rfl)) (pv 3) (fun _ _ => rfl)) pe_int (fun _ _ => rfl)) pe_int (nomark _)) (pw_and1 (pt_cmpR op_eq (pe_op op_mod (pv 4) pe_int) pe_int (nomark _))))))
    (pss_cons (ps_asg (pe_ix ix_list (pe_ix ix_list (pv 0) pe_int (fun _ _ => rfl)) (pv 3) (fun _ _ => rfl)) (pg_tupL rfl (pgs_cons (pg_name (i := 5) scSpr.nd rfl (Or.inl rfl)) (pgs_cons (pg_name (i := 6) scSpr.nd rfl (Or.inl rfl)) (pgs_cons (pg_name (i := 7) scSpr.nd rfl (Or.inl rfl)) (pgs_cons (pg_name (i := 8) scSpr.nd rfl (Or.inl rfl)) pgs_nil))))))
    (pss_cons (ps_set (i := 9) scSpr.nd rfl (Or.inl rfl) (pe_lst (pa_cons (pe_lst (pa_cons (pv 5) (pa_cons pe_int (pa_cons (pv 7) (pa_cons (pv 8) pa_nil))))) (pa_cons (pe_lst (pa_cons (pe_op op_add (pv 5) pe_int) (pa_cons (pe_op op_sub (pv 6) pe_int) (pa_cons (pv 7) (pa_cons (pe_op op_add (pv 8) pe_int) pa_nil))))) pa_nil))))
    (pss_one (ps_asg (pe_op op_cat (pe_op op_cat (pe_slice sl_list (pe_ix ix_list (pv 0) pe_int (fun _ _ => rfl)) po_none (po_some (pv 3))) (pv 9)) (pe_slice sl_list (pe_ix ix_list (pv 0) pe_int (fun _ _ => rfl)) (po_some (pe_op op_add (pv 3) pe_int)) po_none)) (pg_sub (pv 0) pe_int set_list)))))
    (pss_one (ps_if (pt_cmpR op_eq (pv 2) pe_int (nomark _))
    (pss_one (ps_asg (pe_op op_cat (pe_slice sl_list (pe_ix ix_list (pv 0) pe_int (fun _ _ => rfl)) po_none (po_some (pe_op op_add (pv 3) pe_int))) (pe_slice sl_list (pe_ix ix_list (pv 0) pe_int (fun _ _ => rfl)) (po_some (pv 3)) po_none)) (pg_sub (pv 0) pe_int set_list)))
    (pss_one (ps_asg (pe_lst (pa_cons (pe_ix ix_list (pe_ix ix_list (pv 0) pe_int (fun _ _ => rfl)) pe_int (fun _ _ => rfl)) (pa_cons pe_non pa_nil))) (pg_sub (pv 0) pe_int set_list))))))))))))))))))))))), ?_⟩
  refine ⟨_, rfl, _, _, rfl, rfl, (by show (0 : Int) < 8; decide), ?_⟩
  dsimp only
  have las : as.length = rs.length := by rw [lg.1, List.length_map]
  have nrl : rl ≠ L := fun z => by
    rw [z, eL] at er
    injection er with er
    injection er with er
    match as, er with
    | x :: _, er => cases er
  have naL : ∀ a ∈ as, a ≠ L ∧ a ≠ rl := fun a ha => by
    obtain ⟨j, hj⟩ := List.mem_iff_getElem?.mp ha
    have lj : j < (rs.map tv).length := by
      have := (List.getElem?_eq_some_iff.mp hj).1
      rw [lg.1] at this
      exact this
    have e := lg.2 j a _ hj (List.getElem?_eq_getElem lj)
    rw [List.getElem_map] at e
    refine ⟨fun z => ?_, fun z => ?_⟩
    · rw [z, eL] at e
      injection e with e
      injection e with e
      cases e
    · rw [z, er] at e
      injection e with e
      injection e with e
      match as, e with
      | x :: _, e => cases e
  -- what a state with the top changed at 2 gives
  have off2 : ∀ {v t H1}, Same H H1 → At H1 t v → wthT t 0 40 = false → Leaf t → Q .non (upd H1 L (.lst [.str "file", .int born, v, .ref rl])) := fun {v t H1} s1 hv wf lf => by
    have kL : ∀ b o, b ≠ L → H1 b = some o → upd H1 L (.lst [.str "file", .int born, v, .ref rl]) b = some o := fun b o nb e => by
      rw [upd_ne nb]
      exact e
    refine q _ (treeG (.int born) t (rs.map fun r => Tr.lst (q4 r))) (same_over (s0.trans s1) hL0 _) (At.mkL upd_same (Ats.cons (At.str _) (Ats.cons (At.int _) (Ats.cons (At.keepT (fun b u e => kL _ _ (fun z => by rw [z, s1 _ _ eL] at e; cases e) e) lf.2.1 hv) (Ats.cons (At.mkL (kL _ _ nrl (s1 _ _ er)) (ats_rows ((lg.mono s1).keep fun a ha o e => kL _ _ (naL a ha).1 e))) (Ats.nil _)))))) (badG (Leaf.int _) lf (by rw [List.length_map]; omega) (fun u hu => ?_) (.inl wf))
    obtain ⟨r, _, rfl⟩ := List.mem_map.mp hu
    exact RowOk.q4 r
  refine ⟨_, rfl, L, _, 3, _, rfl, rfl, SqL.of eL, rfl, by decide, fun pe hpe => ?_⟩
  have s1 := same_new hpe (HO.lst [])
  refine ⟨rl, pe, _, rfl, rfl, SqL.of (s1 _ _ er), SqL.of upd_same, _, rfl, ?_⟩
  revert s1
  generalize upd H pe (HO.lst []) = H1
  intro s1
  by_cases hne : as = []
  · subst hne
    refine iteF ?_
    refine ⟨_, rfl, _, _, rfl, rfl, ⟨by decide, by decide⟩, ?_⟩
    dsimp only
    refine ⟨_, rfl, rfl, _, rfl, ite2 (fun c1 => iteT ?_) (fun c1 => ?_)⟩
    · exact ⟨_, rfl, n / 64, 0, 40, rfl, by omega, by omega, by decide, by decide, by decide, fun v t H2 s2 hv wf sf df lf nf => ⟨_, rfl, L, _, 2, 2, rfl, rfl, (s1.trans s2) _ _ eL, rfl, off2 (s1.trans s2) hv wf ⟨sf, nf, lf, df⟩⟩⟩
    · refine ⟨_, rfl, L, _, 3, _, rfl, rfl, SqL.of (s1 _ _ eL), rfl, by decide, fun pf hpf => ⟨rl, pf, _, rfl, rfl, SqL.of ((same_new hpf _) _ _ (s1 _ _ er)), SqL.of upd_same, _, rfl, iteT ?_⟩⟩
      have s1' := s1.trans (same_new hpf (HO.lst []))
      exact ⟨_, rfl, n / 64, 0, 40, rfl, by omega, by omega, by decide, by decide, by decide, fun v t H2 s2 hv wf sf df lf nf => ⟨_, rfl, L, _, 2, 2, rfl, rfl, (s1'.trans s2) _ _ eL, rfl, off2 (s1'.trans s2) hv wf ⟨sf, nf, lf, df⟩⟩⟩
  · have dne : decide (as.map V.ref ≠ []) = true := decide_eq_true (fun z => hne (by cases as with | nil => rfl | cons => cases z))
    rw [dne]
    refine iteT ?_
    have lp : 0 < as.length := List.length_pos_iff.mpr hne
    have lmr : (as.map V.ref).length = as.length := List.length_map _
    refine ⟨_, rfl, _, _, rfl, rfl, ⟨by decide, by decide⟩, _, rfl, L, _, 3, _, rfl, rfl, SqL.of (s1 _ _ eL), rfl, rl, _, rfl, .inl (SqL.of (s1 _ _ er)), ?_⟩
    rw [lmr]
    refine ⟨_, _, rfl, rfl, (by show (0 : Int) < (as.length : Int); omega), ?_⟩
    have b0 := Int.emod_nonneg (n / 8) (show (as.length : Int) ≠ 0 by omega)
    have b1 := Int.emod_lt_of_pos (n / 8) (show 0 < (as.length : Int) by omega)
    dsimp only
    generalize n / 8 % (as.length : Int) = at' at b0 b1
    obtain ⟨i, rfl⟩ := Int.eq_ofNat_of_zero_le b0
    have li : i < as.length := by omega
    have lir : i < rs.length := by omega
    obtain ⟨a, ha⟩ : ∃ a, as[i]? = some a := ⟨_, List.getElem?_eq_getElem li⟩
    obtain ⟨r, hri⟩ : ∃ r, rs[i]? = some r := ⟨_, List.getElem?_eq_getElem lir⟩
    have ea : H a = some (.lst (tv r)) := lg.2 i a _ ha (by rw [List.getElem?_map, hri]; rfl)
    have am := List.mem_of_getElem? ha
    have atR : atI (as.map V.ref) (i : Int) = some (.ref a) := atI_nat (by rw [List.getElem?_map, ha]; rfl)
    have okr : okP r = true := by
      have := irow
      unfold isRowP at this
      rw [Bool.and_eq_true, Bool.and_eq_true, List.all_eq_true] at this
      exact this.1.1 r (List.mem_of_getElem? hri)
    have okr' : 0 ≤ r.1 ∧ 1 ≤ r.2.1 ∧ 0 ≤ r.2.2.2 ∧ r.1 + r.2.1 ≤ 40 ∧ r.2.2.2 + r.2.1 ≤ 8 ∧ 2 ≤ r.2.2.1 ∧ r.2.2.1 ≤ 599 := by
      unfold okP at okr
      simp only [Bool.and_eq_true, decide_eq_true_eq] at okr
      exact ⟨okr.1.1.1.1.1, okr.1.1.1.1.2, okr.1.1.1.2, okr.1.1.2, okr.1.2, okr.2.1, okr.2.2⟩
    -- what a stretch's list changed gives
    have top : ∀ {H3 H4 ts vs}, Same H H3 → (∀ b o, b ≠ a → H3 b = some o → H4 b = some o) → Same H0 H4 → Ats H4 ts vs → H4 rl = some (.lst vs) → Bad (treeG (.int born) (.int m) ts) → Q .non H4 := fun {H3 H4 ts vs} s3 k4 s4 k e b => q _ _ s4 (At.mkL (k4 _ _ (Ne.symm (naL a am).1) (s3 _ _ eL)) (Ats.cons (At.str _) (Ats.cons (At.int _) (Ats.cons (At.int _) (Ats.cons (At.mkL e k) (Ats.nil _)))))) b
    have inner : ∀ {j v t H3}, Same H H3 → At H3 t v → Leaf t → Bad (treeG (.int born) (.int m) ((rs.map fun r => Tr.lst (q4 r)).set i (.lst ((q4 r).set j t)))) → Q .non (upd H3 a (.lst ((tv r).set j v))) := fun {j v t H3} s3 hv lf b => by
      have kt : ∀ q u, H3 q = some (.tup u) → upd H3 a (.lst ((tv r).set j v)) q = some (.tup u) := fun q u e => by
        rw [upd_ne (fun z => by rw [z, s3 _ _ ea] at e; cases e)]
        exact e
      exact top s3 (fun b o nb e => by rw [upd_ne nb]; exact e) (same_over (s0.trans s3) (ha0 a am) _) (ats_inner (lg.mono s3) nd ha hri (At.keepT kt lf.2.1 hv)) (by rw [upd_ne (Ne.symm (naL a am).2)]; exact s3 _ _ er) b
    -- the list of the row exchanged
    have outer : ∀ {ts vs p H3}, Same H H3 → H3 p = some (.lst vs) → p ≠ L → Ats (upd H3 L (.lst [.str "file", .int born, .int m, .ref p])) ts vs → Bad (treeG (.int born) (.int m) ts) → Q .non (upd H3 L (.lst [.str "file", .int born, .int m, .ref p])) := fun {ts vs p H3} s3 e np k b => q _ _ (same_over (s0.trans s3) hL0 _) (At.mkL upd_same (Ats.cons (At.str _) (Ats.cons (At.int _) (Ats.cons (At.int _) (Ats.cons (At.mkL (by rw [upd_ne np]; exact e) k) (Ats.nil _)))))) b
    refine ⟨_, rfl, _, _, rfl, rfl, ⟨by decide, by decide⟩, ?_⟩
    dsimp only
    refine ⟨_, rfl, rfl, _, rfl, ite2 (fun c1 => iteT ?_) (fun c1 => ?_)⟩
    · exact ⟨_, rfl, n / 64, 0, 40, rfl, by omega, by omega, by decide, by decide, by decide, fun v t H2 s2 hv wf sf df lf nf => ⟨_, rfl, L, _, 2, 2, rfl, rfl, (s1.trans s2) _ _ eL, rfl, off2 (s1.trans s2) hv wf ⟨sf, nf, lf, df⟩⟩⟩
    refine ⟨_, rfl, L, _, 3, _, rfl, rfl, SqL.of (s1 _ _ eL), rfl, by decide, fun pf hpf => ⟨rl, pf, _, rfl, rfl, SqL.of ((same_new hpf _) _ _ (s1 _ _ er)), SqL.of upd_same, _, rfl, ?_⟩⟩
    have s2 := s1.trans (same_new hpf (HO.lst []))
    revert s2
    generalize upd H1 pf (HO.lst []) = H2
    intro s2
    have deq : decide (as.map V.ref = []) = false := decide_eq_false (fun z => hne (by cases as with | nil => rfl | cons => cases z))
    rw [deq]
    refine iteF ?_
    have eL2 := s2 _ _ eL
    have er2 := s2 _ _ er
    have ea2 := s2 _ _ ea
    refine ⟨_, rfl, rfl, _, rfl, ite2 (fun c2 => ?_) (fun c2 => ?_)⟩
    · refine ⟨_, rfl, L, _, 3, _, rfl, rfl, SqL.of eL2, rfl, _, rfl, rl, _, _, .ref a, rfl, rfl, SqL.of er2, atR, (by show 1 ≤ sizeLine; decide), fun pz hpz => ?_⟩
      have s3 := same_new hpz (HO.lst [V.int 0])
      refine ⟨a, pz, _, _, rfl, rfl, s3 _ _ ea2, upd_same, (by show 5 ≤ sizeLine; decide), fun pn hpn => ?_⟩
      have s4 := s2.trans (s3.trans (same_new hpn (HO.lst (tv r ++ [V.int 0]))))
      have en : upd (upd H2 pz (HO.lst [V.int 0])) pn (HO.lst (tv r ++ [V.int 0])) pn = some (.lst (tv r ++ [V.int 0])) := upd_same
      have er4 := s4 _ _ er
      have npr : pn ≠ rl := fun z => by rw [z, s3 _ _ er2] at hpn; cases hpn
      revert s4 en er4
      generalize upd (upd H2 pz (HO.lst [V.int 0])) pn (HO.lst (tv r ++ [V.int 0])) = H4
      intro s4 en er4
      refine ⟨_, rfl, L, _, 3, _, rfl, rfl, SqL.of (s4 _ _ eL), rfl, _, rfl, rl, _, _, i, rfl, rfl, er4, by rw [lmr]; exact ixN_nat (i := (i : Int)) (by omega) (by omega), ?_⟩
      have lg4 : LgAt (upd H4 rl (.lst ((as.map V.ref).set i (.ref pn)))) as (rs.map tv) := (lg.mono s4).keep fun b hb o e => by
        rw [upd_ne (naL b hb).2]
        exact e
      have en4 : upd H4 rl (.lst ((as.map V.ref).set i (.ref pn))) pn = some (.lst (tv r ++ [V.int 0])) := by
        rw [upd_ne npr]
        exact en
      refine q _ (treeG (.int born) (.int m) ((rs.map fun r => Tr.lst (q4 r)).set i (.lst (q4 r ++ [.int 0])))) (same_over (s0.trans s4) hr0 _) (At.mkL (vs := [.str "file", .int born, .int m, .ref rl]) (by rw [upd_ne (Ne.symm nrl)]; exact s4 _ _ eL) (Ats.cons (At.str _) (Ats.cons (At.int _) (Ats.cons (At.int _) (Ats.cons (At.mkL upd_same (ats_set (ats_rows lg4) (fun _ _ _ _ _ h => h) (At.mkL en4 (Ats.app (Ats.cons (At.int _) (Ats.nil _)) (ats_q4 r))))) (Ats.nil _)))))) (badSet (Leaf.int _) l4 lir (by show (4 : Nat) ≤ 5; decide) (by show (5 : Nat) ≤ 100; decide) (fun x hx => ?_) rfl)
      rcases List.mem_append.mp hx with hx | hx
      · exact forall4 (p := Leaf) (Leaf.int _) (Leaf.int _) (Leaf.int _) (Leaf.int _) x hx
      · rw [List.mem_singleton.mp hx]
        exact Leaf.int _
    have badIn : ∀ {j t}, Leaf t → (st4T (.tup ((q4 r).set j t))).any okP = false → Bad (treeG (.int born) (.int m) ((rs.map fun r => Tr.lst (q4 r)).set i (.lst ((q4 r).set j t)))) := fun {j t} lf k => badSet (Leaf.int _) l4 lir (by rw [List.length_set]; show (4 : Nat) ≤ 4; decide) (by rw [List.length_set]; show (4 : Nat) ≤ 100; decide) (fun x hx => by
      rcases List.mem_or_eq_of_mem_set hx with hx | rfl
      · exact forall4 (p := Leaf) (Leaf.int _) (Leaf.int _) (Leaf.int _) (Leaf.int _) x hx
      · exact lf) k
    refine ⟨_, rfl, rfl, _, rfl, ite2 (fun c3 => ?_) (fun c3 => ?_)⟩
    · refine ⟨_, rfl, L, _, 2, _, rfl, rfl, SqL.of eL2, rfl, _, rfl, L, _, 3, _, rfl, rfl, SqL.of eL2, rfl, _, rfl, rl, _, _, .ref a, rfl, rfl, SqL.of er2, atR, a, _, 1, _, rfl, rfl, SqL.of ea2, rfl, _, _, rfl, rfl, _, _, rfl, rfl, _, rfl, L, _, 3, _, rfl, rfl, SqL.of eL2, rfl, _, rfl, rl, _, _, .ref a, rfl, rfl, SqL.of er2, atR, a, _, 0, 0, rfl, rfl, ea2, rfl, ?_⟩
      refine inner (j := 0) s2 (At.int (m - r.2.1 + 1)) (Leaf.int _) ?_
      have e : ((rs.map fun r => Tr.lst (q4 r)).set i (.lst ((q4 r).set 0 (.int (m - r.2.1 + 1))))) = (rs.set i (m - r.2.1 + 1, r.2.1, r.2.2.1, r.2.2.2)).map fun r => Tr.lst (q4 r) := by
        rw [List.map_set]
        rfl
      rw [e]
      refine badRows (Leaf.int _) (by rw [List.length_set]; omega) ?_
      unfold isRowP
      have : ((rs.set i (m - r.2.1 + 1, r.2.1, r.2.2.1, r.2.2.2)).all fun r => decide (r.1 + r.2.1 ≤ m)) = false := by
        rw [Bool.eq_false_iff]
        intro z
        have := List.all_eq_true.mp z _ (List.mem_set lir (m - r.2.1 + 1, r.2.1, r.2.2.1, r.2.2.2))
        have := of_decide_eq_true this
        simp only at this
        omega
      rw [this, Bool.and_false]
    refine ⟨_, rfl, rfl, _, rfl, ite2 (fun c4 => ?_) (fun c4 => ?_)⟩
    · refine ⟨(by show 4 ≤ sizeLine; decide), fun pl hpl => ?_⟩
      have s3 := s2.trans (same_new hpl (HO.lst [V.int 0, V.int 9, V.bl true, V.non]))
      have hp3 : upd H2 pl (HO.lst [V.int 0, V.int 9, V.bl true, V.non]) pl = some (.lst [V.int 0, V.int 9, V.bl true, V.non]) := upd_same
      revert s3 hp3
      generalize upd H2 pl (HO.lst [V.int 0, V.int 9, V.bl true, V.non]) = H3
      intro s3 hp3
      obtain ⟨v, t, e, hv, lf, k⟩ : ∃ v t, atI [V.int 0, V.int 9, V.bl true, V.non] (n / 64 % 4) = some v ∧ At H3 t v ∧ Leaf t ∧ (st4T (.tup ((q4 r).set 1 t))).any okP = false := by
        obtain e | e | e | e : n / 64 % 4 = 0 ∨ n / 64 % 4 = 1 ∨ n / 64 % 4 = 2 ∨ n / 64 % 4 = 3 := by omega
        · exact ⟨_, .int 0, by rw [e]; rfl, At.int _, Leaf.int _, okP_no (r := (r.1, 0, r.2.2.1, r.2.2.2)) fun z => by have := z.2.1; simp only at this; omega⟩
        · exact ⟨_, .int 9, by rw [e]; rfl, At.int _, Leaf.int _, okP_no (r := (r.1, 9, r.2.2.1, r.2.2.2)) fun z => by have := z.2.2.2.2.1; simp only at this; omega⟩
        · exact ⟨_, .bl true, by rw [e]; rfl, At.bl _, Leaf.bl _, rfl⟩
        · exact ⟨_, .non, by rw [e]; rfl, At.non, Leaf.non, rfl⟩
      exact ⟨_, rfl, _, _, rfl, rfl, (by show (0 : Int) < 4; decide), pl, _, _, v, rfl, rfl, SqL.of hp3, e, _, rfl, L, _, 3, _, rfl, rfl, SqL.of (s3 _ _ eL), rfl, _, rfl, rl, _, _, .ref a, rfl, rfl, SqL.of (s3 _ _ er), atR, a, _, 1, 1, rfl, rfl, s3 _ _ ea, rfl, inner (j := 1) s3 hv lf (badIn lf k)⟩
    refine ⟨_, rfl, rfl, _, rfl, ite2 (fun c5 => ?_) (fun c5 => ?_)⟩
    · refine ⟨_, rfl, n / 64, 2, 599, rfl, by omega, by omega, by decide, by decide, by decide, fun v t H3 s3 hv wf sf df lf nf => ?_⟩
      have s23 := s2.trans s3
      refine ⟨_, rfl, L, _, 3, _, rfl, rfl, SqL.of (s23 _ _ eL), rfl, _, rfl, rl, _, _, .ref a, rfl, rfl, SqL.of (s23 _ _ er), atR, a, _, 2, 2, rfl, rfl, s23 _ _ ea, rfl, inner (j := 2) s23 hv ⟨sf, nf, lf, df⟩ (badIn ⟨sf, nf, lf, df⟩ ?_)⟩
      cases t with
      | int x =>
        refine okP_no (r := (r.1, r.2.1, x, r.2.2.2)) fun z => ?_
        have z1 := z.2.2.2.2.2.1
        have z2 := z.2.2.2.2.2.2
        simp only at z1 z2
        have : wthT (.int x) 2 599 = true := by
          show (decide (2 ≤ x) && decide (x ≤ 599)) = true
          rw [decide_eq_true z1, decide_eq_true z2]
          rfl
        rw [wf] at this
        cases this
      | _ => rfl
    refine ⟨_, rfl, rfl, _, rfl, ite2 (fun c6 => ?_) (fun c6 => ?_)⟩
    · refine ⟨_, rfl, _, rfl, L, _, 3, _, rfl, rfl, SqL.of eL2, rfl, _, rfl, rl, _, _, .ref a, rfl, rfl, SqL.of er2, atR, a, _, 1, _, rfl, rfl, SqL.of ea2, rfl, _, _, rfl, rfl, (by show 4 ≤ sizeLine; decide), fun pl hpl => ?_⟩
      have s3 := s2.trans (same_new hpl (HO.lst [V.int (-1), V.int (9 - r.2.1), V.bl false, V.str "0"]))
      have hp3 : upd H2 pl (HO.lst [V.int (-1), V.int (9 - r.2.1), V.bl false, V.str "0"]) pl = some (.lst [V.int (-1), V.int (9 - r.2.1), V.bl false, V.str "0"]) := upd_same
      obtain ⟨v, t, e, hv, lf, k⟩ : ∃ v t, atI [V.int (-1), V.int (9 - r.2.1), V.bl false, V.str "0"] (n / 64 % 4) = some v ∧ At (upd H2 pl (HO.lst [V.int (-1), V.int (9 - r.2.1), V.bl false, V.str "0"])) t v ∧ Leaf t ∧ (st4T (.tup ((q4 r).set 3 t))).any okP = false := by
        obtain e | e | e | e : n / 64 % 4 = 0 ∨ n / 64 % 4 = 1 ∨ n / 64 % 4 = 2 ∨ n / 64 % 4 = 3 := by omega
        · exact ⟨_, .int (-1), by rw [e]; rfl, At.int _, Leaf.int _, okP_no (r := (r.1, r.2.1, r.2.2.1, -1)) fun z => by have := z.2.2.1; simp only at this; omega⟩
        · exact ⟨_, .int (9 - r.2.1), by rw [e]; rfl, At.int _, Leaf.int _, okP_no (r := (r.1, r.2.1, r.2.2.1, 9 - r.2.1)) fun z => by have := z.2.2.2.2.1; simp only at this; omega⟩
        · exact ⟨_, .bl false, by rw [e]; rfl, At.bl _, Leaf.bl _, rfl⟩
        · exact ⟨_, .str (Str.ofString "0"), by rw [e]; rfl, At.str _, s100 "0", rfl⟩
      exact ⟨_, rfl, _, _, rfl, rfl, (by show (0 : Int) < 4; decide), pl, _, _, v, rfl, rfl, SqL.of hp3, e, _, rfl, L, _, 3, _, rfl, rfl, SqL.of (s3 _ _ eL), rfl, _, rfl, rl, _, _, .ref a, rfl, rfl, SqL.of (s3 _ _ er), atR, a, _, 3, 3, rfl, rfl, s3 _ _ ea, rfl, inner (j := 3) s3 hv lf (badIn lf k)⟩
    refine ⟨_, rfl, rfl, _, rfl, ite2 (fun c7 => ?_) (fun c7 => iteF ?_)⟩
    · refine ⟨_, rfl, L, _, 3, _, rfl, rfl, SqL.of eL2, rfl, _, rfl, rl, _, _, .ref a, rfl, rfl, SqL.of er2, atR, a, _, 1, _, rfl, rfl, SqL.of ea2, rfl, _, _, rfl, rfl, _, rfl, ite2 (fun d1 => ?_) (fun d1 => iteF ?_)⟩
      · refine ⟨_, rfl, _, _, rfl, rfl, (by show (0 : Int) < 2; decide), rfl, _, rfl, ite2 (fun d2 => ?_) (fun d2 => ?_)⟩
        · refine ⟨_, rfl, L, _, 3, _, rfl, rfl, SqL.of eL2, rfl, _, rfl, rl, _, _, .ref a, rfl, rfl, SqL.of er2, atR, a, _, rfl, SqL.of ea2, rfl, _, _, rfl, _, _, rfl, _, _, rfl, _, _, rfl, rfl, ?_⟩
          refine ⟨_, rfl, _, rfl, _, rfl, (by show 4 ≤ sizeLine; decide), fun b1 hb1 => ?_⟩
          have t1 := same_new hb1 (HO.lst (tv (r.1, 1, r.2.2.1, r.2.2.2)))
          refine ⟨_, rfl, _, _, rfl, rfl, _, rfl, _, _, rfl, rfl, _, rfl, _, rfl, _, _, rfl, rfl, (by show 4 ≤ sizeLine; decide), fun b2 hb2 => ?_⟩
          have t2 := same_new hb2 (HO.lst (tv (r.1 + 1, r.2.1 - 1, r.2.2.1, r.2.2.2 + 1)))
          refine ⟨(by show 2 ≤ sizeLine; decide), fun pt hpt => ?_⟩
          have t3 := same_new hpt (HO.lst [V.ref b1, V.ref b2])
          have t12 := t1.trans t2
          have t13 := t12.trans t3
          have eb1 := t3 _ _ (t2 _ _ (upd_same (H := H2) (a := b1) (o := HO.lst (tv (r.1, 1, r.2.2.1, r.2.2.2)))))
          have eb2 := t3 _ _ (upd_same (H := upd H2 b1 (HO.lst (tv (r.1, 1, r.2.2.1, r.2.2.2)))) (a := b2) (o := HO.lst (tv (r.1 + 1, r.2.1 - 1, r.2.2.1, r.2.2.2 + 1))))
          have nb1 : b1 ≠ L := fun z => by rw [z, eL2] at hb1; cases hb1
          have nb2 : b2 ≠ L := fun z => by
            have := (t1 _ _ eL2).symm.trans ((congrArg _ z.symm).trans hb2)
            cases this
          have ept : upd (upd (upd H2 b1 (HO.lst (tv (r.1, 1, r.2.2.1, r.2.2.2)))) b2 (HO.lst (tv (r.1 + 1, r.2.1 - 1, r.2.2.1, r.2.2.2 + 1)))) pt (HO.lst [V.ref b1, V.ref b2]) pt = some (.lst [V.ref b1, V.ref b2]) := upd_same
          refine ⟨_, rfl, L, _, 3, _, rfl, rfl, SqL.of (t13 _ _ eL2), rfl, _, rfl, _, rfl, rl, _, rfl, SqL.of (t13 _ _ er2), fun p1 hp1 => ?_⟩
          rw [cut_to]
          have t4 := same_new hp1 (HO.lst ((as.map V.ref).take i))
          refine ⟨_, rfl, p1, pt, _, _, rfl, rfl, upd_same, t4 _ _ ept, Nat.le_of_lt (small (by rw [List.length_take, lmr]; show _ + 2 ≤ _; omega)), fun p2 hp2 => ?_⟩
          have t5 := same_new hp2 (HO.lst ((as.map V.ref).take i ++ [V.ref b1, V.ref b2]))
          refine ⟨_, rfl, L, _, 3, _, rfl, rfl, SqL.of (t5 _ _ (t4 _ _ (t13 _ _ eL2))), rfl, _, rfl, _, _, rfl, rfl, _, rfl, rl, _, rfl, SqL.of (t5 _ _ (t4 _ _ (t13 _ _ er2))), fun p3 hp3 => ?_⟩
          rw [show (i : Int) + 1 = ((i + 1 : Nat) : Int) from by omega, cut_from]
          have t6 := same_new hp3 (HO.lst ((as.map V.ref).drop (i + 1)))
          refine ⟨p2, p3, _, _, rfl, rfl, t6 _ _ upd_same, upd_same, Nat.le_of_lt (small (by rw [List.length_append, List.length_take, List.length_drop, lmr]; show _ + 2 + _ ≤ _; omega)), fun p4 hp4 => ?_⟩
          have t7 := same_new hp4 (HO.lst ((as.map V.ref).take i ++ [V.ref b1, V.ref b2] ++ (as.map V.ref).drop (i + 1)))
          have t47 := t4.trans (t5.trans (t6.trans t7))
          have tA := s2.trans (t13.trans t47)
          have np4 : p4 ≠ L := fun z => by
            have := (t6 _ _ (t5 _ _ (t4 _ _ (t13 _ _ eL2)))).symm.trans ((congrArg _ z.symm).trans hp4)
            cases this
          refine ⟨_, rfl, L, _, 3, 3, rfl, rfl, tA _ _ eL, rfl, ?_⟩
          refine outer (ts := (rs.take i ++ [(r.1, 1, r.2.2.1, r.2.2.2), (r.1 + 1, r.2.1 - 1, r.2.2.1, r.2.2.2 + 1)] ++ rs.drop (i + 1)).map fun r => Tr.lst (q4 r)) tA upd_same np4 ?_ (badRows (Leaf.int _) (by rw [List.length_append, List.length_append, List.length_take, List.length_drop]; show _ + 2 + _ ≤ _; omega) (not_row (i := i) (a := (r.1, 1, r.2.2.1, r.2.2.2)) (b := (r.1 + 1, r.2.1 - 1, r.2.2.1, r.2.2.2 + 1)) ?_ ?_ (.inr ?_)))
          · have k := ats_rows ((lg.mono tA).keep (H' := upd _ L (.lst [.str "file", .int born, .int m, .ref p4])) fun b hb o e => by
              rw [upd_ne (naL b hb).1]
              exact e)
            rw [List.map_append, List.map_append, List.map_take, List.map_drop]
            refine Ats.app (k.drop (i + 1)) (Ats.app (Ats.cons (At.mkL (vs := tv (r.1, 1, r.2.2.1, r.2.2.2)) ?_ (ats_q4 _)) (Ats.cons (At.mkL (vs := tv (r.1 + 1, r.2.1 - 1, r.2.2.1, r.2.2.2 + 1)) ?_ (ats_q4 _)) (Ats.nil _))) (k.take i))
            · rw [upd_ne nb1]
              exact t47 _ _ eb1
            · rw [upd_ne nb2]
              exact t47 _ _ eb2
          · have lt : (rs.take i).length = i := by rw [List.length_take]; omega
            rw [List.append_assoc, List.getElem?_append_right (by omega), lt, Nat.sub_self]
            rfl
          · have lt : (rs.take i).length = i := by rw [List.length_take]; omega
            rw [List.append_assoc, List.getElem?_append_right (by omega), lt, Nat.add_sub_cancel_left]
            rfl
          · exact goOn_iff.mpr ⟨rfl, rfl, rfl⟩
        · refine ⟨_, rfl, rfl, _, rfl, ite2 (fun c8 => ?_) (fun c8 => ?_)⟩
          · refine ⟨_, rfl, L, _, 3, _, rfl, rfl, SqL.of eL2, rfl, _, rfl, _, _, rfl, rfl, _, rfl, rl, _, rfl, SqL.of er2, fun p1 hp1 => ?_⟩
            rw [show (i : Int) + 1 = ((i + 1 : Nat) : Int) from by omega, cut_to]
            have t1 := same_new hp1 (HO.lst ((as.map V.ref).take (i + 1)))
            refine ⟨_, rfl, L, _, 3, _, rfl, rfl, SqL.of (t1 _ _ eL2), rfl, _, rfl, _, rfl, rl, _, rfl, SqL.of (t1 _ _ er2), fun p2 hp2 => ?_⟩
            rw [cut_from]
            have t2 := same_new hp2 (HO.lst ((as.map V.ref).drop i))
            refine ⟨p1, p2, _, _, rfl, rfl, t2 _ _ upd_same, upd_same, Nat.le_of_lt (small (by rw [List.length_take, List.length_drop, lmr]; omega)), fun p3 hp3 => ?_⟩
            have t3 := s2.trans (t1.trans (t2.trans (same_new hp3 (HO.lst ((as.map V.ref).take (i + 1) ++ (as.map V.ref).drop i)))))
            have np3 : p3 ≠ L := fun z => by rw [z, t2 _ _ (t1 _ _ eL2)] at hp3; cases hp3
            refine ⟨_, rfl, L, _, 3, 3, rfl, rfl, t3 _ _ eL, rfl, ?_⟩
            refine outer (ts := (rs.take (i + 1) ++ rs.drop i).map fun r => Tr.lst (q4 r)) t3 upd_same np3 ?_ (badRows (Leaf.int _) (by rw [List.length_append, List.length_take, List.length_drop]; omega) (not_row (i := i) (a := r) (b := r) ?_ ?_ (.inl (by omega))))
            · have k := ats_rows ((lg.mono t3).keep (H' := upd _ L (.lst [.str "file", .int born, .int m, .ref p3])) fun b hb o e => by
                rw [upd_ne (naL b hb).1]
                exact e)
              rw [List.map_append, List.map_take, List.map_drop]
              exact Ats.app (k.drop i) (k.take (i + 1))
            · rw [List.getElem?_append_left (by rw [List.length_take]; omega), List.getElem?_take, if_pos (by omega)]
              exact hri
            · have lt : (rs.take (i + 1)).length = i + 1 := by rw [List.length_take]; omega
              rw [List.getElem?_append_right (by omega), lt, Nat.sub_self, List.getElem?_drop]
              exact hri
          · obtain ⟨a0, ha00⟩ : ∃ a0, as[0]? = some a0 := ⟨_, List.getElem?_eq_getElem lp⟩
            obtain ⟨r0, hr00⟩ : ∃ r0, rs[0]? = some r0 := ⟨_, List.getElem?_eq_getElem (show 0 < rs.length by omega)⟩
            have ea0 : H a0 = some (.lst (tv r0)) := lg.2 0 a0 _ ha00 (by rw [List.getElem?_map, hr00]; rfl)
            refine ⟨_, rfl, L, _, 3, _, rfl, rfl, SqL.of eL2, rfl, rl, _, 0, .ref a0, rfl, rfl, SqL.of er2, atI_nat (j := 0) (by rw [List.getElem?_map, ha00]; rfl), (by show 2 ≤ sizeLine; decide), fun p1 hp1 => ?_⟩
            have t3 := s2.trans (same_new hp1 (HO.lst [V.ref a0, V.non]))
            have np1 : p1 ≠ L := fun z => by rw [z, eL2] at hp1; cases hp1
            refine ⟨_, rfl, L, _, 3, 3, rfl, rfl, t3 _ _ eL, rfl, ?_⟩
            refine outer (ts := [.lst (q4 r0), .non]) t3 upd_same np1 (Ats.cons (At.mkL (vs := tv r0) ?_ (ats_q4 r0)) (Ats.cons At.non (Ats.nil _))) (badG (Leaf.int _) (Leaf.int _) (by show (2 : Nat) ≤ 100; decide) (fun t ht => ?_) (.inr ⟨m, rfl, badRow (i := 1) (o := none) rfl rfl⟩))
            · rw [upd_ne (naL a0 (List.mem_of_getElem? ha00)).1]
              exact t3 _ _ ea0
            · simp only [List.mem_cons, List.not_mem_nil, or_false] at ht
              rcases ht with rfl | rfl
              · exact RowOk.q4 r0
              · exact .inr rfl
      · refine ⟨_, rfl, rfl, _, rfl, ite2 (fun c8 => ?_) (fun c8 => ?_)⟩
        · refine ⟨_, rfl, L, _, 3, _, rfl, rfl, SqL.of eL2, rfl, _, rfl, _, _, rfl, rfl, _, rfl, rl, _, rfl, SqL.of er2, fun p1 hp1 => ?_⟩
          rw [show (i : Int) + 1 = ((i + 1 : Nat) : Int) from by omega, cut_to]
          have t1 := same_new hp1 (HO.lst ((as.map V.ref).take (i + 1)))
          refine ⟨_, rfl, L, _, 3, _, rfl, rfl, SqL.of (t1 _ _ eL2), rfl, _, rfl, _, rfl, rl, _, rfl, SqL.of (t1 _ _ er2), fun p2 hp2 => ?_⟩
          rw [cut_from]
          have t2 := same_new hp2 (HO.lst ((as.map V.ref).drop i))
          refine ⟨p1, p2, _, _, rfl, rfl, t2 _ _ upd_same, upd_same, Nat.le_of_lt (small (by rw [List.length_take, List.length_drop, lmr]; omega)), fun p3 hp3 => ?_⟩
          have t3 := s2.trans (t1.trans (t2.trans (same_new hp3 (HO.lst ((as.map V.ref).take (i + 1) ++ (as.map V.ref).drop i)))))
          have np3 : p3 ≠ L := fun z => by rw [z, t2 _ _ (t1 _ _ eL2)] at hp3; cases hp3
          refine ⟨_, rfl, L, _, 3, 3, rfl, rfl, t3 _ _ eL, rfl, ?_⟩
          refine outer (ts := (rs.take (i + 1) ++ rs.drop i).map fun r => Tr.lst (q4 r)) t3 upd_same np3 ?_ (badRows (Leaf.int _) (by rw [List.length_append, List.length_take, List.length_drop]; omega) (not_row (i := i) (a := r) (b := r) ?_ ?_ (.inl (by omega))))
          · have k := ats_rows ((lg.mono t3).keep (H' := upd _ L (.lst [.str "file", .int born, .int m, .ref p3])) fun b hb o e => by
              rw [upd_ne (naL b hb).1]
              exact e)
            rw [List.map_append, List.map_take, List.map_drop]
            exact Ats.app (k.drop i) (k.take (i + 1))
          · rw [List.getElem?_append_left (by rw [List.length_take]; omega), List.getElem?_take, if_pos (by omega)]
            exact hri
          · have lt : (rs.take (i + 1)).length = i + 1 := by rw [List.length_take]; omega
            rw [List.getElem?_append_right (by omega), lt, Nat.sub_self, List.getElem?_drop]
            exact hri
        · obtain ⟨a0, ha00⟩ : ∃ a0, as[0]? = some a0 := ⟨_, List.getElem?_eq_getElem lp⟩
          obtain ⟨r0, hr00⟩ : ∃ r0, rs[0]? = some r0 := ⟨_, List.getElem?_eq_getElem (show 0 < rs.length by omega)⟩
          have ea0 : H a0 = some (.lst (tv r0)) := lg.2 0 a0 _ ha00 (by rw [List.getElem?_map, hr00]; rfl)
          refine ⟨_, rfl, L, _, 3, _, rfl, rfl, SqL.of eL2, rfl, rl, _, 0, .ref a0, rfl, rfl, SqL.of er2, atI_nat (j := 0) (by rw [List.getElem?_map, ha00]; rfl), (by show 2 ≤ sizeLine; decide), fun p1 hp1 => ?_⟩
          have t3 := s2.trans (same_new hp1 (HO.lst [V.ref a0, V.non]))
          have np1 : p1 ≠ L := fun z => by rw [z, eL2] at hp1; cases hp1
          refine ⟨_, rfl, L, _, 3, 3, rfl, rfl, t3 _ _ eL, rfl, ?_⟩
          refine outer (ts := [.lst (q4 r0), .non]) t3 upd_same np1 (Ats.cons (At.mkL (vs := tv r0) ?_ (ats_q4 r0)) (Ats.cons At.non (Ats.nil _))) (badG (Leaf.int _) (Leaf.int _) (by show (2 : Nat) ≤ 100; decide) (fun t ht => ?_) (.inr ⟨m, rfl, badRow (i := 1) (o := none) rfl rfl⟩))
          · rw [upd_ne (naL a0 (List.mem_of_getElem? ha00)).1]
            exact t3 _ _ ea0
          · simp only [List.mem_cons, List.not_mem_nil, or_false] at ht
            rcases ht with rfl | rfl
            · exact RowOk.q4 r0
            · exact .inr rfl
    refine ⟨_, rfl, rfl, _, rfl, ite2 (fun c8 => ?_) (fun c8 => ?_)⟩
    · refine ⟨_, rfl, L, _, 3, _, rfl, rfl, SqL.of eL2, rfl, _, rfl, _, _, rfl, rfl, _, rfl, rl, _, rfl, SqL.of er2, fun p1 hp1 => ?_⟩
      rw [show (i : Int) + 1 = ((i + 1 : Nat) : Int) from by omega, cut_to]
      have t1 := same_new hp1 (HO.lst ((as.map V.ref).take (i + 1)))
      refine ⟨_, rfl, L, _, 3, _, rfl, rfl, SqL.of (t1 _ _ eL2), rfl, _, rfl, _, rfl, rl, _, rfl, SqL.of (t1 _ _ er2), fun p2 hp2 => ?_⟩
      rw [cut_from]
      have t2 := same_new hp2 (HO.lst ((as.map V.ref).drop i))
      refine ⟨p1, p2, _, _, rfl, rfl, t2 _ _ upd_same, upd_same, Nat.le_of_lt (small (by rw [List.length_take, List.length_drop, lmr]; omega)), fun p3 hp3 => ?_⟩
      have t3 := s2.trans (t1.trans (t2.trans (same_new hp3 (HO.lst ((as.map V.ref).take (i + 1) ++ (as.map V.ref).drop i)))))
      have np3 : p3 ≠ L := fun z => by rw [z, t2 _ _ (t1 _ _ eL2)] at hp3; cases hp3
      refine ⟨_, rfl, L, _, 3, 3, rfl, rfl, t3 _ _ eL, rfl, ?_⟩
      refine outer (ts := (rs.take (i + 1) ++ rs.drop i).map fun r => Tr.lst (q4 r)) t3 upd_same np3 ?_ (badRows (Leaf.int _) (by rw [List.length_append, List.length_take, List.length_drop]; omega) (not_row (i := i) (a := r) (b := r) ?_ ?_ (.inl (by omega))))
      · have k := ats_rows ((lg.mono t3).keep (H' := upd _ L (.lst [.str "file", .int born, .int m, .ref p3])) fun b hb o e => by
          rw [upd_ne (naL b hb).1]
          exact e)
        rw [List.map_append, List.map_take, List.map_drop]
        exact Ats.app (k.drop i) (k.take (i + 1))
      · rw [List.getElem?_append_left (by rw [List.length_take]; omega), List.getElem?_take, if_pos (by omega)]
        exact hri
      · have lt : (rs.take (i + 1)).length = i + 1 := by rw [List.length_take]; omega
        rw [List.getElem?_append_right (by omega), lt, Nat.sub_self, List.getElem?_drop]
        exact hri
    · obtain ⟨a0, ha00⟩ : ∃ a0, as[0]? = some a0 := ⟨_, List.getElem?_eq_getElem lp⟩
      obtain ⟨r0, hr00⟩ : ∃ r0, rs[0]? = some r0 := ⟨_, List.getElem?_eq_getElem (show 0 < rs.length by omega)⟩
      have ea0 : H a0 = some (.lst (tv r0)) := lg.2 0 a0 _ ha00 (by rw [List.getElem?_map, hr00]; rfl)
      refine ⟨_, rfl, L, _, 3, _, rfl, rfl, SqL.of eL2, rfl, rl, _, 0, .ref a0, rfl, rfl, SqL.of er2, atI_nat (j := 0) (by rw [List.getElem?_map, ha00]; rfl), (by show 2 ≤ sizeLine; decide), fun p1 hp1 => ?_⟩
      have t3 := s2.trans (same_new hp1 (HO.lst [V.ref a0, V.non]))
      have np1 : p1 ≠ L := fun z => by rw [z, eL2] at hp1; cases hp1
      refine ⟨_, rfl, L, _, 3, 3, rfl, rfl, t3 _ _ eL, rfl, ?_⟩
      refine outer (ts := [.lst (q4 r0), .non]) t3 upd_same np1 (Ats.cons (At.mkL (vs := tv r0) ?_ (ats_q4 r0)) (Ats.cons At.non (Ats.nil _))) (badG (Leaf.int _) (Leaf.int _) (by show (2 : Nat) ≤ 100; decide) (fun t ht => ?_) (.inr ⟨m, rfl, badRow (i := 1) (o := none) rfl rfl⟩))
      · rw [upd_ne (naL a0 (List.mem_of_getElem? ha00)).1]
        exact t3 _ _ ea0
      · simp only [List.mem_cons, List.not_mem_nil, or_false] at ht
        rcases ht with rfl | rfl
        · exact RowOk.q4 r0
        · exact .inr rfl
end
end K22
set_option maxHeartbeats 4000000
namespace K22
open PySem L2
/-! ### the law -/
theorem tokE {born n : Tr} {es : List En} (hb : Leaf born) (hn : Leaf n) (hl : es.length ≤ 100) (he : ∀ e ∈ es, e.1.length ≤ 100 ∧ e.2.1.length ≤ 100) : Tok (treeE born n (es.map q3)) := by
  have lf : ∀ l ∈ es.map q3, ∀ t ∈ l, Leaf t := fun l hl => by
    obtain ⟨e, m, rfl⟩ := List.mem_map.mp hl
    exact forall3 (Leaf.str (he e m).1) (Leaf.str (he e m).2) (Leaf.int _)
  have ef := frz_E (born := born) (n := n) (rows := es.map q3) hb.2.2.1 hn.2.2.1 fun l hl t ht => (lf l hl t ht).2.2.1
  have l3 : ∀ l ∈ es.map q3, l.length ≤ 100 := fun l hl => by
    obtain ⟨e, _, rfl⟩ := List.mem_map.mp hl
    show (3 : Nat) ≤ 100
    decide
  refine ⟨sm_lst (by show (4 : Nat) ≤ 100; decide) (forall4 (s100 "folder").1 hb.1 hn.1 (sm_lst (by rw [List.length_map, List.length_map]; exact hl) fun t ht => ?_)), ?_, ?_, ?_⟩
  · obtain ⟨l, hl', rfl⟩ := List.mem_map.mp ht
    exact sm_lst (l3 l hl') fun u hu => (lf l hl' u hu).1
  · rw [ef]
    show (true && (nl born && (nl n && (nls ((es.map q3).map Tr.tup) && true)))) = true
    rw [hb.2.1, hn.2.1, nls_of fun t ht => by
      obtain ⟨l, hl', rfl⟩ := List.mem_map.mp ht
      exact nls_of fun u hu => (lf l hl' u hu).2.1]
    rfl
  · unfold treeE
    rw [dep_lst]
    have : deps [Tr.str (Str.ofString "folder"), born, n, .lst ((es.map q3).map Tr.lst)] ≤ 3 := deps_of (forall4 (by show (0 : Nat) ≤ 3; decide) (by have := hb.2.2.2; omega) (by have := hn.2.2.2; omega) (by
      rw [dep_lst]
      have : deps ((es.map q3).map Tr.lst) ≤ 2 := deps_of fun t ht => by
        obtain ⟨l, hl', rfl⟩ := List.mem_map.mp ht
        rw [dep_lst]
        have := deps_of (n := 1) fun u hu => (lf l hl' u hu).2.2.2
        omega
      omega))
    omega
  · rw [ef]
    show (true && ((es.map q3).map Tr.tup).all entFl) = true
    rw [Bool.true_and, List.all_eq_true]
    intro t ht
    obtain ⟨l, hl', rfl⟩ := List.mem_map.mp ht
    obtain ⟨e, _, rfl⟩ := List.mem_map.mp hl'
    rfl
theorem isw_small {z : Str} (h : isw z = true) : z.length ≤ 8 := by
  unfold isw at h
  rw [Bool.and_eq_true, Bool.and_eq_true, decide_eq_true_eq, decide_eq_true_eq] at h
  exact h.1.2
theorem good_E {born m : Int} {es : List En} (ob : okB born) (m0 : 0 ≤ m) (m1 : m ≤ 999) (l8 : es.length ≤ 8) (oke : ∀ e ∈ es, okE e) (ris : risS (es.map (·.1)) = true) : knotP (frz (treeE (.int born) (.int m) (es.map q3))) = true := by
  rw [frz_E rfl rfl fun l hl t ht => by
    obtain ⟨e, _, rfl⟩ := List.mem_map.mp hl
    exact forall3 (p := fun t => isLstT t = false) rfl rfl rfl t ht, knot_E]
  have e1 : wthT (.int born) 1 4294967295 = true := by
    show (decide (1 ≤ born) && decide (born ≤ 4294967295)) = true
    rw [decide_eq_true ob.1, decide_eq_true ob.2]
    rfl
  have e2 : wthT (.int m) 0 999 = true := by
    show (decide (0 ≤ m) && decide (m ≤ 999)) = true
    rw [decide_eq_true m0, decide_eq_true m1]
    rfl
  show (wthT (.int born) 1 4294967295 && (wthT (.int m) 0 999 && decide (((es.map q3).map Tr.tup).length ≤ 8) && ((es.map q3).map Tr.tup).all entP && risS (((es.map q3).map Tr.tup).map nameT))) = true
  have e3 : ((es.map q3).map Tr.tup).map nameT = es.map (·.1) := by
    rw [List.map_map, List.map_map]
    rfl
  have e4 : ((es.map q3).map Tr.tup).all entP = true := by
    rw [List.all_eq_true]
    intro t ht
    obtain ⟨l, hl, rfl⟩ := List.mem_map.mp ht
    obtain ⟨e, he, rfl⟩ := List.mem_map.mp hl
    have k := oke e he
    show (isw e.1 && (decide (e.2.1 = Str.ofString "folder") || decide (e.2.1 = Str.ofString "file")) && (decide (2 ≤ e.2.2) && decide (e.2.2 ≤ 599))) = true
    rw [k.1, decide_eq_true k.2.2.1, decide_eq_true k.2.2.2]
    rcases k.2.1 with h | h
    · rw [decide_eq_true h]
      rfl
    · rw [decide_eq_true h, Bool.or_true]
      rfl
  rw [e1, e2, e3, e4, ris, decide_eq_true (by rw [List.length_map, List.length_map]; exact l8)]
  rfl
theorem wth_born {born : Int} (ob : okB born) : wthT (.int born) 1 4294967295 = true := by
  show (decide (1 ≤ born) && decide (born ≤ 4294967295)) = true
  rw [decide_eq_true ob.1, decide_eq_true ob.2]
  rfl
theorem ats_ents {H : Hp} {as : List Addr} {es : List En} (h : LgAt H as (es.map ev)) : Ats H ((es.map q3).map Tr.lst) (as.map V.ref) := by
  refine ats_lg h (by rw [List.length_map, List.length_map]) fun i ts vs ht hv => ?_
  rw [List.getElem?_map] at ht hv
  obtain ⟨r, hr, rfl⟩ := Option.map_eq_some_iff.mp ht
  rw [hr] at hv
  cases hv
  exact ats_q3 r
theorem Sh.good {kd : Nat} {H0 H : Hp} {L : Addr} (h : Sh kd H0 H L) : ∃ t, At H t (.ref L) ∧ Tok t ∧ knotP (frz t) = true := by
  match kd, h with
  | 0, ⟨born, c, cs, h1, h2, h3, ob, l1, l8, oc⟩ =>
    have lf : ∀ t ∈ cs.map Tr.int, Leaf t := fun t m => by
      obtain ⟨x, _, rfl⟩ := List.mem_map.mp m
      exact Leaf.int x
    refine ⟨treeC (.int born) (cs.map Tr.int), At.mkL h1 (Ats.cons (At.str _) (Ats.cons (At.int _) (Ats.cons (At.mkL h2 (ats_ints cs)) (Ats.nil _)))), tokC (Leaf.int _) (by rw [List.length_map]; omega) lf, ?_⟩
    rw [frz_C rfl fun t m => (lf t m).2.2.1, knot_C, wth_born ob, List.length_map, decide_eq_true l1, decide_eq_true l8]
    show ((cs.map Tr.int).all fun c => wthT c 0 999999) = true
    rw [List.all_eq_true]
    intro t m
    obtain ⟨x, hx, rfl⟩ := List.mem_map.mp m
    show (decide (0 ≤ x) && decide (x ≤ 999999)) = true
    rw [decide_eq_true (oc x hx).1, decide_eq_true (oc x hx).2]
    rfl
  | 1, ⟨born, n, rl, as, rs, h1, h2, h3, nd, z1, z2, ob, n0, n40, ir, l4⟩ =>
    refine ⟨treeG (.int born) (.int n) (rs.map fun r => Tr.lst (q4 r)), At.mkL h1 (Ats.cons (At.str _) (Ats.cons (At.int _) (Ats.cons (At.int _) (Ats.cons (At.mkL h2 (ats_rows h3)) (Ats.nil _))))), tokG (Leaf.int _) (Leaf.int _) (by rw [List.length_map]; omega) (fun t ht => by
      obtain ⟨r, _, rfl⟩ := List.mem_map.mp ht
      exact RowOk.q4 r), ?_⟩
    rw [frz_G (Leaf.int _) (Leaf.int _), knot_F, wth_born ob, file_row, os_q4, rowO_map, ir, decide_eq_true n0, decide_eq_true n40]
    rfl
  | k + 2, ⟨born, m, el, as, es, h1, h2, h3, nd, z1, z2, ob, m0, m1, l8, oke, ris⟩ =>
    have sf : ∀ z : Str, z = Str.ofString "folder" ∨ z = Str.ofString "file" → z.length ≤ 100 := fun z hz => by
      rcases hz with rfl | rfl <;> decide +kernel
    exact ⟨treeE (.int born) (.int m) (es.map q3), At.mkL h1 (Ats.cons (At.str _) (Ats.cons (At.int _) (Ats.cons (At.int _) (Ats.cons (At.mkL h2 (ats_ents h3)) (Ats.nil _))))), tokE (Leaf.int _) (Leaf.int _) (by omega) (fun e he => ⟨by have := isw_small (oke e he).1; omega, sf _ (oke e he).2.1⟩), good_E ob m0 m1 l8 oke ris⟩
end K22
set_option maxHeartbeats 4000000
namespace K22
open PySem L2
section
variable {P : Program} {w : World} {K : PySem.W.Frag} {mg : Str → Option Value} {base : Heap} {f fKno fCel fMix fStu fFro fLis fSpo fOth : Addr} {fd dKno dCel dMix dStu dFro dLis dSpo dOth : FuncData}
def spLis : Sp := fun vs H Q _ => ∃ x t due, vs = [x, .bl due] ∧ At H t x ∧ sm t = true ∧ knFl t = true ∧ knotP t = due ∧ ∀ H', Same H H' → Q (.bl true) H'
theorem scLis : FnScope ["_law_thing", "_law_due", "_law_told"] ["_law_thing", "_law_due"] (defScope sLis) := ⟨rfl, rfl, rfl, by decide +kernel, rfl, by decide +kernel, by decide +kernel⟩
theorem ok_Lis (F : Fun K "_law_is" "_law_is" sLis f fd) (hKno : Has K mg "is_knot" sKno ["thing"] fKno dKno) (GKno : FnOk P w K mg base CX0 7 fKno dKno ["thing"] spKno) (T : Txt mg) : FnOk P w K mg base CX0 8 f fd ["_law_thing", "_law_due"] spLis := by
  refine F.ok scLis (fun vs H Q E h => ?_) (fun cdv A outer s H vs Q E hr h => ?_)
  · obtain ⟨x, t, due, rfl, _⟩ := h
    rfl
  obtain ⟨x, t, due, rfl, hx, hs, hf, hk, q⟩ := h
  refine ⟨_, (pss_cons (ps_set (i := 2) scLis.nd rfl (Or.inl rfl) (pe_call GKno (hr.mono (by decide)) rfl hKno.nm hKno.fn.kp hKno.bd .nil pass0 (pa_cons (pv 0) pa_nil)))
    (pss_one (ps_ret (pe_and (pe_callB call_isinst rfl T.isi PyProof.Rows.boot_isinstance (pa_cons (pv 2) (pa_cons (pe_bltn (v := .ty "bool") rfl T.bol PyProof.Rows.boot_bool rfl) pa_nil))) (pe_and (pe_cmpR op_eq (pv 2) (pv 1) (nomark _)) (pe_one (pe_cmpR op_eq (pe_call GKno (hr.mono (by decide)) rfl hKno.nm hKno.fn.kp hKno.bd .nil pass0 (pa_cons (pv 0) pa_nil)) (pv 1) (nomark _)))))))), ?_⟩
  refine ⟨_, rfl, x, t, rfl, hx, hs, hf, fun H1 s1 => ?_⟩
  rw [hk]
  have ed : decide (V.bl due = V.bl due) = true := decide_eq_true rfl
  refine ⟨_, rfl, _, "bool", _, true, rfl, .bl _, kit_bb K, true, rfl, iteT ⟨_, rfl, _, rfl, rfl, true, by rw [ed], iteT ⟨_, rfl, x, t, rfl, hx.mono s1, hs, hf, fun H2 s2 => ?_⟩⟩⟩
  rw [hk]
  refine ⟨_, rfl, rfl, ?_⟩
  rw [ed]
  exact q H2 (s1.trans s2)
/-- what a spoiled one is -/
def spSpo : Sp := fun vs H Q _ => ∃ (L : Addr) (kd : Nat) (n : Int) (H0 : Hp), vs = [.ref L, .int (kd : Int), .int n] ∧ kd < 3 ∧ 0 ≤ n ∧ n < 2147483587 ∧ Same H0 H ∧ H0 L = none ∧ Sh kd H0 H L ∧ ∀ y t H', Same H0 H' → At H' t y → sm t = true → knFl t = true → knotP t = false → Q y H'
/-- what is of another kind -/
def spOth : Sp := fun vs H Q _ => ∃ (x : V) (l : List Tr) (n : Int), vs = [x, .int n] ∧ At H (.tup l) x ∧ sm (.tup l) = true ∧ knFl (.tup l) = true ∧ knotP (.tup l) = true ∧ ∀ y t H', Same H H' → At H' t y → sm t = true → knFl t = true → knotP t = false → Q y H'
def spLaw (K : PySem.W.Frag) : Sp := fun vs H Q _ => ∃ (a : Addr) (ns : List Int), vs = [.ref a] ∧ SqL K H a (ns.map V.int) ∧ ns.length ≤ 63 ∧ ∀ H', Q (.bl true) H'
mutual
theorem sm_frz : ∀ {t : Tr}, sm t = true → sm (frz t) = true
  | .lst l, h => by
    unfold sm at h
    rw [Bool.and_eq_true, decide_eq_true_eq] at h
    show sm (.tup (frzs l)) = true
    unfold sm
    rw [sms_frz h.2, Bool.and_true]
    rw [frzs_map, List.length_map]
    exact decide_eq_true h.1
  | .int _, h => h
  | .str _, h => h
  | .bl _, h => h
  | .non, h => h
  | .dct, h => h
  | .tup _, h => h
theorem sms_frz : ∀ {l : List Tr}, sms l = true → sms (frzs l) = true
  | [], h => h
  | t :: ts, h => by
    unfold sms at h
    rw [Bool.and_eq_true] at h
    unfold frzs sms
    rw [sm_frz h.1, sms_frz h.2]
    rfl
end
theorem scLaw : FnScope ["_law_script", "_law_k", "_law_number", "_law_kind", "_law_stuff_here", "_law_whole", "_law_way"] ["_law_script"] (defScope sLaw) := ⟨rfl, rfl, rfl, by decide +kernel, rfl, by decide +kernel, by decide +kernel⟩
theorem ok_law (F : Fun K "law" "law" sLaw f fd) (hCel : Has K mg "_law_cell_at" sCel ["_law_script", "_law_k"] fCel dCel) (GCel : FnOk P w K mg base CX0 1 fCel dCel ["_law_script", "_law_k"] (spCel K))
    (hMix : Has K mg "_law_mixed" sMix ["_law_cell", "_law_k"] fMix dMix) (GMix : FnOk P w K mg base CX0 1 fMix dMix ["_law_cell", "_law_k"] spMix)
    (hStu : Has K mg "_law_stuff" sStu ["_law_number", "_law_kind"] fStu dStu) (GStu : FnOk P w K mg base CX0 3 fStu dStu ["_law_number", "_law_kind"] spStu)
    (hFro : Has K mg "_law_frozen" sFro ["_law_stuff_here"] fFro dFro) (GFro : FnOk P w K mg base CX0 5 fFro dFro ["_law_stuff_here"] (spFro 4))
    (hLis : Has K mg "_law_is" sLis ["_law_thing", "_law_due"] fLis dLis) (GLis : FnOk P w K mg base CX0 8 fLis dLis ["_law_thing", "_law_due"] spLis)
    (hSpo : Has K mg "_law_spoiled" sSpo ["_law_stuff_here", "_law_kind", "_law_number"] fSpo dSpo) (GSpo : FnOk P w K mg base CX0 6 fSpo dSpo ["_law_stuff_here", "_law_kind", "_law_number"] spSpo)
    (hOth : Has K mg "_law_other_kind" sOth ["_law_stuff_here", "_law_number"] fOth dOth) (GOth : FnOk P w K mg base CX0 1 fOth dOth ["_law_stuff_here", "_law_number"] spOth) (T : Txt mg) : FnOk P w K mg base CX0 9 f fd ["_law_script"] (spLaw K) := by
  refine F.ok scLaw (fun vs H Q E h => ?_) (fun cdv A outer s H vs Q E hr h => ?_)
  · obtain ⟨a, ns, rfl, _⟩ := h
    rfl
  obtain ⟨a, ns, rfl, hS, h63, q⟩ := h
  refine ⟨_, (pss_cons (ps_for PassesOwn.never rfl (pi_range1 rfl T.rng (pa_cons (pe_callB (call_max2 rfl) rfl T.max PyProof.Rows.boot_max (pa_cons pe_int (pa_cons (pe_callB (call_min2 rfl) rfl T.min PyProof.Rows.boot_min (pa_cons (pe_callB call_len_seq rfl T.len PySem.boot_len (pa_cons (pv 0) pa_nil)) (pa_cons pe_int pa_nil))) pa_nil))) pa_nil)) (pg_name (i := 1) scLaw.nd rfl (Or.inl rfl))
    (pss_cons (ps_set (i := 2) scLaw.nd rfl (Or.inl rfl) (pe_call GMix (hr.mono (by decide)) rfl hMix.nm hMix.fn.kp hMix.bd .nil pass0 (pa_cons (pe_call GCel (hr.mono (by decide)) rfl hCel.nm hCel.fn.kp hCel.bd .nil pass0 (pa_cons (pv 0) (pa_cons (pv 1) pa_nil))) (pa_cons (pv 1) pa_nil))))
    (pss_cons (ps_set (i := 3) scLaw.nd rfl (Or.inl rfl) (pe_op op_mod (pv 2) pe_int))
    (pss_cons (ps_set (i := 4) scLaw.nd rfl (Or.inl rfl) (pe_call GStu (hr.mono (by decide)) rfl hStu.nm hStu.fn.kp hStu.bd .nil pass0 (pa_cons (pe_op op_fdiv (pv 2) pe_int) (pa_cons (pv 3) pa_nil))))
    (pss_cons (ps_set (i := 5) scLaw.nd rfl (Or.inl rfl) (pe_call GFro (hr.mono (by decide)) rfl hFro.nm hFro.fn.kp hFro.bd .nil pass0 (pa_cons (pv 4) pa_nil)))
    (pss_cons (ps_if (pt_not (pt_val (pe_call GLis (hr.mono (by decide)) rfl hLis.nm hLis.fn.kp hLis.bd .nil pass0 (pa_cons (pv 5) (pa_cons pe_bl pa_nil)))))
    (pss_one (ps_ret pe_bl))
    pss_nil)
    (pss_cons (ps_set (i := 6) scLaw.nd rfl (Or.inl rfl) (pe_op op_mod (pe_op op_fdiv (pv 2) pe_int) pe_int))
    (pss_cons (ps_if (PW.pt (pw_and (pt_cmpR op_lt (pv 6) pe_int (nomark _)) (pw_and1 (pt_not (pt_val (pe_call GLis (hr.mono (by decide)) rfl hLis.nm hLis.fn.kp hLis.bd .nil pass0 (pa_cons (pe_call GSpo (hr.mono (by decide)) rfl hSpo.nm hSpo.fn.kp hSpo.bd .nil pass0 (pa_cons (pv 4) (pa_cons (pv 3) (pa_cons (pe_op op_fdiv (pv 2) pe_int) pa_nil)))) (pa_cons pe_bl pa_nil))))))))
    (pss_one (ps_ret pe_bl))
    pss_nil)
    (pss_one (ps_if (PW.pt (pw_and (pt_cmpR op_eq (pv 6) pe_int (nomark _)) (pw_and1 (pt_not (pt_val (pe_call GLis (hr.mono (by decide)) rfl hLis.nm hLis.fn.kp hLis.bd .nil pass0 (pa_cons (pe_call GOth (hr.mono (by decide)) rfl hOth.nm hOth.fn.kp hOth.bd .nil pass0 (pa_cons (pv 5) (pa_cons (pe_op op_fdiv (pv 2) pe_int) pa_nil))) (pa_cons pe_bl pa_nil))))))))
    (pss_one (ps_ret pe_bl))
    pss_nil))))))))))
    (pss_one (ps_ret pe_bl))), ?_⟩
  have lm : (ns.map V.int).length = ns.length := List.length_map _
  refine ⟨_, rfl, a, _, rfl, .inl hS, ?_⟩
  rw [lm]
  refine ⟨_, _, rfl, _, _, rfl, ?_⟩
  have hz : 0 ≤ (if (if (20 : Int) < (ns.length : Int) then (20 : Int) else (ns.length : Int)) > 1 then (if (20 : Int) < (ns.length : Int) then (20 : Int) else (ns.length : Int)) else 1) ∧ (if (if (20 : Int) < (ns.length : Int) then (20 : Int) else (ns.length : Int)) > 1 then (if (20 : Int) < (ns.length : Int) then (20 : Int) else (ns.length : Int)) else 1) ≤ 20 := by
    split <;> split <;> omega
  generalize (if (if (20 : Int) < (ns.length : Int) then (20 : Int) else (ns.length : Int)) > 1 then (if (20 : Int) < (ns.length : Int) then (20 : Int) else (ns.length : Int)) else 1) = many at hz
  refine ⟨many, rfl, by omega, by omega, ?_⟩
  refine for_range (lo := 0) (n := many.toNat) (fun i σ H3 => ∃ (o1 o2 o3 o4 o5 o6 : Option V), σ = [some (.ref a), o1, o2, o3, o4, o5, o6] ∧ Same H H3) ⟨none, none, none, none, none, none, rfl, Same.refl H⟩ ?_ ?_
  · rintro i σ H3 hi ⟨o1, o2, o3, o4, o5, o6, rfl, s3⟩
    have hi' : i < many.toNat := hi
    refine ⟨_, rfl, _, rfl, a, ns, 0 + (i : Int), rfl, by omega, s3.seq hS, fun z => ⟨_, rfl, z, 0 + (i : Int), rfl, by omega, by omega, fun num n0 n1 => ?_⟩⟩
    refine ⟨_, rfl, _, _, rfl, rfl, (by show (0 : Int) < 3; decide), ?_⟩
    obtain ⟨kd, ek, hk⟩ : ∃ kd : Nat, num % 3 = (kd : Int) ∧ kd < 3 := ⟨(num % 3).toNat, by omega, by omega⟩
    dsimp only
    rw [ek]
    refine ⟨_, rfl, _, _, rfl, rfl, ⟨by decide, by decide⟩, _, rfl, num / 3, kd, rfl, hk, fun L H4 s4 hL sh => ?_⟩
    obtain ⟨t, ht, tok, good⟩ := sh.good
    refine ⟨_, rfl, .ref L, t, rfl, ht, tok.sm, tok.nl, tok.dep, fun y H5 s5 hy => ?_⟩
    refine ⟨_, rfl, y, frz t, true, rfl, hy, sm_frz tok.sm, tok.fl, good, fun H6 s6 => ⟨_, rfl, iteF ?_⟩⟩
    refine ⟨_, rfl, _, _, rfl, rfl, ⟨by decide, by decide⟩, _, _, rfl, rfl, (by show (0 : Int) < 6; decide), ?_⟩
    have s36 := s4.trans (s5.trans s6)
    dsimp only
    generalize num / 21 % 6 = way
    have isT : ∃ l, frz t = .tup l := by
      cases e : frz t with
      | tup l => exact ⟨l, rfl⟩
      | _ => rw [e] at good; cases good
    refine ⟨_, rfl, _, _, rfl, rfl, _, rfl, ite2 (fun c1 => ?_) (fun c1 => iteF ?_)⟩
    · have c1 : way < 4 := of_decide_eq_true c1
      refine ⟨_, rfl, _, rfl, _, rfl, _, _, rfl, rfl, ⟨by decide, by decide⟩, L, kd, num / 126, H3, rfl, hk, by omega, by omega, s36, hL, sh.mono (s5.trans s6), fun y2 t2 H7 s7 hy2 sm2 fl2 bad2 => ⟨y2, t2, false, rfl, hy2, sm2, fl2, bad2, fun H8 s8 => ⟨_, rfl, iteF ?_⟩⟩⟩
      have e4 : decide (V.int way = V.int 4) = false := decide_eq_false (fun z => by injection z with z; omega)
      refine ⟨_, rfl, rfl, _, rfl, ?_⟩
      rw [e4]
      exact iteF (iteF ⟨_, _, _, _, _, _, rfl, s3.trans (s7.trans s8)⟩)
    · refine ⟨_, rfl, rfl, _, rfl, ite2 (fun c2 => ?_) (fun c2 => iteF ⟨_, _, _, _, _, _, rfl, s3.trans s36⟩)⟩
      obtain ⟨l, el⟩ := isT
      rw [el] at hy good
      have sf := sm_frz tok.sm
      have fl := tok.fl
      rw [el] at sf fl
      exact ⟨_, rfl, _, rfl, _, _, rfl, rfl, ⟨by decide, by decide⟩, y, l, num / 126, rfl, hy.mono s6, sf, fl, good, fun y2 t2 H7 s7 hy2 sm2 fl2 bad2 => ⟨y2, t2, false, rfl, hy2, sm2, fl2, bad2, fun H8 s8 => ⟨_, rfl, iteF ⟨_, _, _, _, _, _, rfl, s3.trans (s36.trans (s7.trans s8))⟩⟩⟩⟩
  · rintro σ H3 ⟨o1, o2, o3, o4, o5, o6, rfl, s3⟩
    exact q H3
end
end K22
set_option maxHeartbeats 4000000
namespace K22
open PySem L2
theorem knot_last {l : List Tr} (h : knotP (.tup l) = true) : ∃ l0 e, l = l0 ++ [.tup e] ∧ 2 ≤ l0.length ∧ knotP (.tup (l0 ++ [.lst e])) = false ∧ (knFl (.tup l) = true → knFl (.tup (l0 ++ [.lst e])) = true) ∧ l0.length ≤ 3 := by
  match l, h with
  | a :: b :: r, h =>
    have h' : (wthT b 1 4294967295 && (if strIs a "cells" then cellsP (a :: b :: r) else if strIs a "file" then fileP (a :: b :: r) else strIs a "folder" && foldP (a :: b :: r))) = true := h
    rw [Bool.and_eq_true] at h'
    have no : ∀ r', (cellsP (a :: b :: r') = false) → fileP (a :: b :: r') = false → foldP (a :: b :: r') = false → knotP (.tup (a :: b :: r')) = false := fun r' h1 h2 h3 => by
      show (wthT b 1 4294967295 && (if strIs a "cells" then cellsP (a :: b :: r') else if strIs a "file" then fileP (a :: b :: r') else strIs a "folder" && foldP (a :: b :: r'))) = false
      rw [h1, h2, h3]
      split
      · exact Bool.and_false _
      · split
        · exact Bool.and_false _
        · rw [Bool.and_false, Bool.and_false]
    have fl3 : ∀ {c e}, knFl (.tup [a, b, c, .tup e]) = true → knFl (.tup [a, b, c, .lst e]) = true := fun {c e} h => by
      have h : (flatT a && _) = true := h
      rw [Bool.and_eq_true] at h
      show (flatT a && true) = true
      rw [h.1]
      rfl
    have k := h'.2
    split at k
    · unfold cellsP at k
      split at k
      · next cs hh =>
        injection hh with _ hh
        injection hh with _ hh
        subst hh
        exact ⟨[a, b], cs, rfl, by show 2 ≤ 2; decide, no [.lst cs] rfl rfl rfl, fun h => h, by show 2 ≤ 3; decide⟩
      · cases k
    · split at k
      · unfold fileP at k
        split at k
        · next n r2 hh =>
          injection hh with _ hh
          injection hh with _ hh
          subst hh
          rw [Bool.and_eq_true] at k
          cases r2 with
          | tup e => exact ⟨[a, b, .int n], e, rfl, by show 2 ≤ 3; decide, no [.int n, .lst e] rfl (by show (_ && _ && false) = false; rw [Bool.and_false]) rfl, fl3, by show 3 ≤ 3; decide⟩
          | _ => cases k.2
        · cases k
      · rw [Bool.and_eq_true] at k
        have k := k.2
        unfold foldP at k
        split at k
        · next m es hh =>
          injection hh with _ hh
          injection hh with _ hh
          subst hh
          refine ⟨[a, b, m], es, rfl, by show 2 ≤ 3; decide, no [m, .lst es] (by cases m <;> rfl) ?_ (by cases m <;> rfl), fl3, by show 3 ≤ 3; decide⟩
          cases m with
          | int n =>
            show (_ && _ && false) = false
            rw [Bool.and_false]
          | _ => rfl
        · cases k
theorem sm_tupI {l : List Tr} (h : l.length ≤ 100) (k : ∀ t ∈ l, sm t = true) : sm (.tup l) = true := by
  unfold sm
  rw [decide_eq_true h, sms_of k]
  rfl
theorem sIx_m1 (n d : Nat) (h : 1 ≤ n) : HT.sIx n d (some (-1)) = n - 1 := by
  unfold HT.sIx
  simp
  omega
theorem cut_m1 (xs : List V) (h : 1 ≤ xs.length) : cutV xs none (some (-1)) = xs.take (xs.length - 1) := by
  unfold cutV
  rw [HT.sIx_none, sIx_m1 _ _ h, Nat.sub_zero, List.drop_zero]
section
variable {P : Program} {w : World} {K : PySem.W.Frag} {mg : Str → Option Value} {base : Heap} {f : Addr} {fd : FuncData}
theorem scOth : FnScope ["_law_stuff_here", "_law_number", "_law_some"] ["_law_stuff_here", "_law_number"] (defScope sOth) := ⟨rfl, rfl, rfl, by decide +kernel, rfl, by decide +kernel, by decide +kernel⟩
theorem ok_Oth (F : Fun K "_law_other_kind" "_law_other_kind" sOth f fd) (T : Txt mg) : FnOk P w K mg base CX0 1 f fd ["_law_stuff_here", "_law_number"] spOth := by
  refine F.ok scOth (fun vs H Q E h => ?_) (fun cdv A outer s H vs Q E hr h => ?_)
  · obtain ⟨x, l, n, rfl, _⟩ := h
    rfl
  obtain ⟨x, l, n, rfl, hx, hs, hf, hk, q⟩ := h
  obtain ⟨l0, e, rfl, g2, bad, gf, g3⟩ := knot_last hk
  obtain ⟨a, vs, rfl, ha, k⟩ := hx.tup
  have hu := hu_of hr
  have ln := k.len
  rw [List.length_append] at ln
  have l1 : [Tr.tup e].length = 1 := rfl
  refine ⟨_, (pss_cons (ps_set (i := 2) scOth.nd rfl (Or.inl rfl) (pe_lst (pa_cons pe_non (pa_cons pe_int (pa_cons pe_str (pa_cons (pe_callTy call_list_of rfl T.lst PyProof.Rows.boot_list (pa_cons (pv 0) pa_nil)) (pa_cons pe_dnewK (pa_cons pe_bl (pa_cons (pe_lst pa_nil) (pa_cons (pe_op op_catA (pe_slice sl_tup (pv 0) po_none (po_some (pe_un un_neg pe_int))) (pe_tup (pa_cons (pe_callTy call_list_of rfl T.lst PyProof.Rows.boot_list (pa_cons (pe_ix ix_tup (pv 0) (pe_un un_neg pe_int) (fun _ _ => rfl)) pa_nil)) pa_nil))) pa_nil))))))))))
    (pss_one (ps_ret (pe_ix ix_list (pv 2) (pe_op op_mod (pv 1) pe_int) (fun _ _ => rfl))))), ?_⟩
  refine ⟨_, rfl, a, vs, rfl, .inr (SqT.of ha), fun p1 hp1 => ?_⟩
  have s1 := same_new hp1 (HO.lst vs)
  intro p2 hp2
  have s2 := same_new hp2 (HO.dK [])
  refine ⟨by decide, fun p3 hp3 => ?_⟩
  have s3 := same_new hp3 (HO.lst [])
  have s13 := s1.trans (s2.trans s3)
  have ha3 := s13 _ _ ha
  refine ⟨_, rfl, _, rfl, _, rfl, a, vs, rfl, SqT.of ha3, (fun z => by have := z.2; rw [sIx_m1 _ _ (by omega)] at this; omega), fun p4 hp4 => ?_⟩
  rw [cut_m1 _ (by omega)]
  have s4 := same_new hp4 (HO.tup (vs.take (vs.length - 1)))
  have s14 := s13.trans s4
  have e4 : upd (upd (upd (upd H p1 (HO.lst vs)) p2 (HO.dK [])) p3 (HO.lst [])) p4 (HO.tup (vs.take (vs.length - 1))) p4 = some (.tup (vs.take (vs.length - 1))) := upd_same
  have ep1 := s4 _ _ (s3 _ _ (s2 _ _ (upd_same (H := H) (a := p1) (o := HO.lst vs))))
  have ep2 := s4 _ _ (s3 _ _ (upd_same (H := upd H p1 (HO.lst vs)) (a := p2) (o := HO.dK [])))
  have ep3 := s4 _ _ (upd_same (H := upd (upd H p1 (HO.lst vs)) p2 (HO.dK [])) (a := p3) (o := HO.lst []))
  revert s14 e4 ep1 ep2 ep3
  clear s13 ha3
  generalize upd (upd (upd (upd H p1 (HO.lst vs)) p2 (HO.dK [])) p3 (HO.lst [])) p4 (HO.tup (vs.take (vs.length - 1))) = H4
  intro s14 e4 ep1 ep2 ep3
  obtain ⟨vl, hvl, hal⟩ := k.at (i := l0.length) (t := .tup e) (by rw [List.getElem?_append_right (Nat.le_refl _), Nat.sub_self]; rfl)
  obtain ⟨al, wl, rfl, hal1, kl⟩ := hal.tup
  have evs : vs = vs.take (vs.length - 1) ++ [.ref al] := by
    have e1 : vs.length - 1 = l0.length := by omega
    rw [e1]
    have := take_next hvl
    rw [← this]
    exact (List.take_of_length_le (by omega)).symm
  have atl : atI vs (-1) = some (.ref al) := by
    rw [evs]
    exact atI_last _ _
  refine ⟨_, rfl, _, rfl, a, _, _, .ref al, rfl, rfl, SqT.of (s14 _ _ ha), atl, al, wl, rfl, .inr (SqT.of (s14 _ _ hal1)), fun p5 hp5 => ?_⟩
  have s5 := same_new hp5 (HO.lst wl)
  refine ⟨(by show 1 ≤ sizeLine; decide), fun p6 hp6 => ?_⟩
  have s6 := same_new hp6 (HO.tup [V.ref p5])
  have s46 := s5.trans s6
  refine ⟨p4, p6, _, _, rfl, rfl, s46 _ _ e4, upd_same, Nat.le_of_lt (small (by rw [List.length_take]; show _ + 1 ≤ _; omega)), fun p7 H7 s7 e7 => ?_⟩
  have s17 := s14.trans (s46.trans s7)
  have s47 := s46.trans s7
  refine ⟨(by show 8 ≤ sizeLine; decide), fun p8 hp8 => ?_⟩
  have s8 := same_new hp8 (HO.lst [V.non, V.int 5, V.str "cells", V.ref p1, V.ref p2, V.bl true, V.ref p3, V.ref p7])
  have s18 := s17.trans s8
  have s48 := s47.trans s8
  refine ⟨_, rfl, _, rfl, _, _, rfl, rfl, (by show (0 : Int) < 8; decide), ?_⟩
  dsimp only
  have hs' := sm_tup hs
  have k18 := k.mono s18
  obtain e | e | e | e | e | e | e | e : n % 8 = 0 ∨ n % 8 = 1 ∨ n % 8 = 2 ∨ n % 8 = 3 ∨ n % 8 = 4 ∨ n % 8 = 5 ∨ n % 8 = 6 ∨ n % 8 = 7 := by omega
  · exact ⟨p8, _, _, _, rfl, rfl, SqL.of upd_same, (by rw [e]; rfl), q _ _ _ s18 At.non rfl rfl rfl⟩
  · exact ⟨p8, _, _, _, rfl, rfl, SqL.of upd_same, (by rw [e]; rfl), q _ _ _ s18 (At.int 5) rfl rfl rfl⟩
  · exact ⟨p8, _, _, _, rfl, rfl, SqL.of upd_same, (by rw [e]; rfl), q _ _ _ s18 (At.str _) (s100 "cells").1 rfl rfl⟩
  · exact ⟨p8, _, _, _, rfl, rfl, SqL.of upd_same, (by rw [e]; rfl), q _ _ _ s18 (At.mkL (s48 _ _ ep1) k18) (sm_lst hs'.1 hs'.2) rfl rfl⟩
  · refine ⟨p8, _, _, _, rfl, rfl, SqL.of upd_same, (by rw [e]; rfl), q _ .dct _ s18 ?_ rfl rfl rfl⟩
    unfold At
    exact ⟨p2, [], rfl, s48 _ _ ep2⟩
  · exact ⟨p8, _, _, _, rfl, rfl, SqL.of upd_same, (by rw [e]; rfl), q _ _ _ s18 (At.bl true) rfl rfl rfl⟩
  · exact ⟨p8, _, _, _, rfl, rfl, SqL.of upd_same, (by rw [e]; rfl), q _ _ _ s18 (At.mkL (s48 _ _ ep3) (Ats.nil _)) rfl rfl rfl⟩
  · refine ⟨p8, _, _, _, rfl, rfl, SqL.of upd_same, (by rw [e]; rfl), q _ (.tup (l0 ++ [.lst _])) _ s18 (At.mkT (s8 _ _ e7) (Ats.app (Ats.cons (At.mkL (vs := wl) ((s6.trans (s7.trans s8)) _ _ upd_same) (kl.mono s18)) (Ats.nil _)) ?_)) ?_ ?_ bad⟩
    · have e1 : vs.length - 1 = l0.length := by omega
      have kt := k18.take l0.length
      rw [List.take_left] at kt
      rw [e1]
      exact kt
    · refine sm_tupI (by rw [List.length_append]; show _ + 1 ≤ _; omega) fun t ht => ?_
      rcases List.mem_append.mp ht with ht | ht
      · exact hs'.2 t (List.mem_append_left _ ht)
      · rw [List.mem_singleton.mp ht]
        have z := sm_tup (hs'.2 _ (List.mem_append_right _ (List.mem_singleton.mpr rfl)))
        exact sm_lst z.1 z.2
    · exact gf hf
end
end K22
set_option maxHeartbeats 4000000
namespace K22
open PySem L2
theorem knot_shape {a b : Tr} {r : List Tr} (h : knotP (.tup (a :: b :: r)) = true) : wthT b 1 4294967295 = true ∧ ((strIs a "cells" = true ∧ r.length = 1) ∨ (strIs a "file" = true ∧ r.length = 2) ∨ (strIs a "folder" = true ∧ r.length = 2)) := by
  have h' : (wthT b 1 4294967295 && (if strIs a "cells" then cellsP (a :: b :: r) else if strIs a "file" then fileP (a :: b :: r) else strIs a "folder" && foldP (a :: b :: r))) = true := h
  rw [Bool.and_eq_true] at h'
  refine ⟨h'.1, ?_⟩
  have k := h'.2
  split at k
  · next c =>
    unfold cellsP at k
    split at k
    · next hh =>
      injection hh with _ hh
      injection hh with _ hh
      subst hh
      exact .inl ⟨c, rfl⟩
    · cases k
  · split at k
    · next c =>
      unfold fileP at k
      split at k
      · next hh =>
        injection hh with _ hh
        injection hh with _ hh
        subst hh
        exact .inr (.inl ⟨c, rfl⟩)
      · cases k
    · rw [Bool.and_eq_true] at k
      have c := k.1
      have k := k.2
      unfold foldP at k
      split at k
      · next hh =>
        injection hh with _ hh
        injection hh with _ hh
        subst hh
        exact .inr (.inr ⟨c, rfl⟩)
      · cases k
/-- the top of a stuff -/
structure Top (kd : Nat) (H : Hp) (L : Addr) (s : Str) (born : Int) (vs : List V) (rest : List Tr) : Prop where
  e : H L = some (.lst (.str s :: .int born :: vs))
  k : ∀ o, Ats (upd H L o) rest vs
  k0 : Ats H rest vs
  ob : okB born
  nm : (kd = 0 ∧ s = Str.ofString "cells" ∧ rest.length = 1) ∨ (1 ≤ kd ∧ (s = Str.ofString "file" ∨ s = Str.ofString "folder") ∧ rest.length = 2)
  sm : ∀ t ∈ rest, sm t = true
  nl : ∀ t ∈ rest, nl (frz t) = true
  dp : ∀ t ∈ rest, dep t ≤ 2
  fl : ∀ a b, flatT a = true → knFl (.tup (a :: b :: rest.map frz)) = true
theorem Top.len {kd : Nat} {H : Hp} {L : Addr} {s : Str} {born : Int} {vs : List V} {rest : List Tr} (t : Top kd H L s born vs rest) : vs.length = rest.length ∧ 1 ≤ rest.length ∧ rest.length ≤ 2 ∧ s.length ≤ 100 := by
  refine ⟨t.k0.len, ?_⟩
  rcases t.nm with ⟨_, rfl, h⟩ | ⟨_, hs, h⟩
  · exact ⟨by omega, by omega, by decide +kernel⟩
  · refine ⟨by omega, by omega, ?_⟩
    rcases hs with rfl | rfl <;> decide +kernel
theorem lg_keep {H : Hp} {L : Addr} {as : List Addr} {vss : List (List V)} {xs : List V} {o : HO} (lg : LgAt H as vss) (e : H L = some (.lst xs)) (h : ∀ vs ∈ vss, vs ≠ xs) : LgAt (upd H L o) as vss := by
  refine ⟨lg.1, fun i a vs ha hv => ?_⟩
  have z := lg.2 i a vs ha hv
  rw [upd_ne (fun q => by
    rw [q, e] at z
    injection z with z
    injection z with z
    exact h vs (List.mem_of_getElem? hv) z.symm)]
  exact z
theorem lst_keep {H : Hp} {L p : Addr} {ys xs : List V} {o : HO} (ep : H p = some (.lst ys)) (e : H L = some (.lst xs)) (h : ys ≠ xs) : upd H L o p = some (.lst ys) := by
  rw [upd_ne (fun q => by
    rw [q, e] at ep
    injection ep with ep
    injection ep with ep
    exact h ep.symm)]
  exact ep
theorem Sh.top {kd : Nat} {H0 H : Hp} {L : Addr} (hk : kd < 3) (h : Sh kd H0 H L) : ∃ s born vs rest, Top kd H L s born vs rest := by
  match kd, hk, h with
  | 0, _, ⟨born, c, cs, h1, h2, h3, ob, l1, l8, oc⟩ =>
    refine ⟨_, born, _, [.lst (cs.map Tr.int)], h1, fun o => Ats.cons (At.mkL (lst_keep h2 h1 (fun z => ?_)) (ats_ints cs)) (Ats.nil _), Ats.cons (At.mkL h2 (ats_ints cs)) (Ats.nil _), ob, .inl ⟨rfl, rfl, rfl⟩, fun t ht => ?_, fun t ht => ?_, fun t ht => ?_, fun a b hf => ?_⟩
    · match cs, z with
      | x :: _, z => cases z
    · rw [List.mem_singleton.mp ht]
      exact sm_lst (by rw [List.length_map]; omega) fun t m => by
        obtain ⟨x, _, rfl⟩ := List.mem_map.mp m
        rfl
    · rw [List.mem_singleton.mp ht]
      show nls (frzs (cs.map Tr.int)) = true
      rw [frzs_map]
      exact nls_of fun t m => by
        obtain ⟨x, m2, rfl⟩ := List.mem_map.mp m
        obtain ⟨y, _, rfl⟩ := List.mem_map.mp m2
        rfl
    · rw [List.mem_singleton.mp ht, dep_lst]
      have : deps (cs.map Tr.int) ≤ 0 := deps_of fun t m => by
        obtain ⟨x, _, rfl⟩ := List.mem_map.mp m
        exact Nat.le_refl _
      omega
    · show (flatT a && true) = true
      rw [hf]
      rfl
  | 1, _, ⟨born, n, rl, as, rs, h1, h2, h3, nd, z1, z2, ob, n0, n40, ir, l4⟩ =>
    have rok : ∀ t ∈ rs.map fun r => Tr.lst (q4 r), RowOk t := fun t ht => by
      obtain ⟨r, _, rfl⟩ := List.mem_map.mp ht
      exact RowOk.q4 r
    refine ⟨_, born, _, [.int n, .lst (rs.map fun r => Tr.lst (q4 r))], h1, fun o => Ats.cons (At.int _) (Ats.cons (At.mkL (lst_keep h2 h1 (fun z => ?_)) (ats_rows (lg_keep h3 h1 fun vs hv z => ?_))) (Ats.nil _)), Ats.cons (At.int _) (Ats.cons (At.mkL h2 (ats_rows h3)) (Ats.nil _)), ob, .inr ⟨Nat.le_refl _, .inl rfl, rfl⟩, fun t ht => ?_, fun t ht => ?_, fun t ht => ?_, fun a b hf => ?_⟩
    · match as, z with
      | x :: _, z => cases z
    · obtain ⟨r, _, rfl⟩ := List.mem_map.mp hv
      cases z
    · simp only [List.mem_cons, List.not_mem_nil, or_false] at ht
      rcases ht with rfl | rfl
      · rfl
      · exact sm_lst (by rw [List.length_map]; omega) fun t m => (rok t m).sm
    · simp only [List.mem_cons, List.not_mem_nil, or_false] at ht
      rcases ht with rfl | rfl
      · rfl
      · show nls (frzs _) = true
        rw [frzs_map]
        exact nls_of fun t m => by
          obtain ⟨x, m2, rfl⟩ := List.mem_map.mp m
          exact (rok x m2).frz.1
    · simp only [List.mem_cons, List.not_mem_nil, or_false] at ht
      rcases ht with rfl | rfl
      · show (0 : Nat) ≤ 2
        decide
      · rw [dep_lst]
        have : deps (rs.map fun r => Tr.lst (q4 r)) ≤ 1 := deps_of fun t m => by
          obtain ⟨r, _, rfl⟩ := List.mem_map.mp m
          rw [dep_lst]
          have : deps (q4 r) ≤ 0 := deps_of (forall4 (Nat.le_refl 0) (Nat.le_refl 0) (Nat.le_refl 0) (Nat.le_refl 0))
          omega
        omega
    · show (flatT a && (frzs (rs.map fun r => Tr.lst (q4 r))).all entFl) = true
      rw [hf, frzs_map, Bool.true_and, List.all_eq_true]
      intro t m
      obtain ⟨x, m2, rfl⟩ := List.mem_map.mp m
      exact (rok x m2).frz.2.2
  | 2, _, ⟨born, m, el, as, es, h1, h2, h3, nd, z1, z2, ob, m0, m1, l8, oke, ris⟩ =>
    have sf : ∀ z : Str, z = Str.ofString "folder" ∨ z = Str.ofString "file" → z.length ≤ 100 := fun z hz => by
      rcases hz with rfl | rfl <;> decide +kernel
    have tk := tokE (born := .int born) (n := .int m) (es := es) (Leaf.int _) (Leaf.int _) (by omega) (fun e he => ⟨by have := isw_small (oke e he).1; omega, sf _ (oke e he).2.1⟩)
    have lf : ∀ l ∈ es.map q3, ∀ t ∈ l, Leaf t := fun l hl => by
      obtain ⟨e, m, rfl⟩ := List.mem_map.mp hl
      exact forall3 (Leaf.str (by have := isw_small (oke e m).1; omega)) (Leaf.str (sf _ (oke e m).2.1)) (Leaf.int _)
    have l3 : ∀ l ∈ es.map q3, l.length ≤ 100 := fun l hl => by
      obtain ⟨e, _, rfl⟩ := List.mem_map.mp hl
      show (3 : Nat) ≤ 100
      decide
    refine ⟨_, born, _, [.int m, .lst ((es.map q3).map Tr.lst)], h1, fun o => Ats.cons (At.int _) (Ats.cons (At.mkL (lst_keep h2 h1 (fun z => ?_)) (ats_ents (lg_keep h3 h1 fun vs hv z => ?_))) (Ats.nil _)), Ats.cons (At.int _) (Ats.cons (At.mkL h2 (ats_ents h3)) (Ats.nil _)), ob, .inr ⟨by omega, .inr rfl, rfl⟩, fun t ht => ?_, fun t ht => ?_, fun t ht => ?_, fun a b hf => ?_⟩
    · match as, z with
      | x :: _, z => cases z
    · obtain ⟨r, _, rfl⟩ := List.mem_map.mp hv
      exact absurd (congrArg List.length z) (by show (3 : Nat) ≠ 4; decide)
    · simp only [List.mem_cons, List.not_mem_nil, or_false] at ht
      rcases ht with rfl | rfl
      · rfl
      · refine sm_lst (by rw [List.length_map, List.length_map]; omega) fun t ht => ?_
        obtain ⟨l, hl', rfl⟩ := List.mem_map.mp ht
        exact sm_lst (l3 l hl') fun u hu => (lf l hl' u hu).1
    · simp only [List.mem_cons, List.not_mem_nil, or_false] at ht
      rcases ht with rfl | rfl
      · rfl
      · show nls (frzs ((es.map q3).map Tr.lst)) = true
        rw [frz_rows fun l hl t ht => (lf l hl t ht).2.2.1]
        exact nls_of fun t ht => by
          obtain ⟨l, hl', rfl⟩ := List.mem_map.mp ht
          exact nls_of fun u hu => (lf l hl' u hu).2.1
    · simp only [List.mem_cons, List.not_mem_nil, or_false] at ht
      rcases ht with rfl | rfl
      · show (0 : Nat) ≤ 2
        decide
      · rw [dep_lst]
        have : deps ((es.map q3).map Tr.lst) ≤ 1 := deps_of fun t ht => by
          obtain ⟨l, hl', rfl⟩ := List.mem_map.mp ht
          obtain ⟨e, _, rfl⟩ := List.mem_map.mp hl'
          rw [dep_lst]
          have : deps (q3 e) ≤ 0 := deps_of (forall3 (Nat.le_refl 0) (Nat.le_refl 0) (Nat.le_refl 0))
          omega
        omega
    · show (flatT a && (frzs ((es.map q3).map Tr.lst)).all entFl) = true
      rw [hf, frz_rows fun l hl t ht => (lf l hl t ht).2.2.1, Bool.true_and, List.all_eq_true]
      intro t ht
      obtain ⟨l, hl', rfl⟩ := List.mem_map.mp ht
      obtain ⟨e, _, rfl⟩ := List.mem_map.mp hl'
      rfl
end K22
set_option maxHeartbeats 4000000
namespace K22
open PySem L2
/-! ### spoiled entries -/
def spSpe : Sp := fun vs H Q _ => ∃ (L : Addr) (n : Int) (H0 : Hp), vs = [.ref L, .int n] ∧ 0 ≤ n ∧ n < 2147483587 ∧ Same H0 H ∧ H0 L = none ∧ ShE H0 H L ∧ ∀ H' t, Same H0 H' → At H' t (.ref L) → Bad t → Q .non H'
def EntOk (t : Tr) : Prop := ∃ l, t = .lst l ∧ l.length ≤ 100 ∧ (∀ x ∈ l, Leaf x) ∧ entFl (.tup l) = true
def treeN (born n : Tr) (ts : List Tr) : Tr := .lst [.str "folder", born, n, .lst ts]
theorem frz_N {born n : Tr} {ts : List Tr} (hb : Leaf born) (hn : Leaf n) : frz (treeN born n ts) = .tup [.str "folder", born, n, .tup (ts.map frz)] := by
  show Tr.tup [.str "folder", frz born, frz n, .tup (frzs ts)] = _
  rw [frz_not hb.2.2.1, frz_not hn.2.2.1, frzs_map]
theorem frz_leafs {l : List Tr} (hx : ∀ x ∈ l, Leaf x) : frz (.lst l) = .tup l := by
  show Tr.tup (frzs l) = _
  rw [frz_flat fun x m => (hx x m).2.2.1]
theorem EntOk.sm {t : Tr} (h : EntOk t) : sm t = true := by
  obtain ⟨l, rfl, h100, hx, _⟩ := h
  exact sm_lst h100 fun x m => (hx x m).1
theorem EntOk.frz {t : Tr} (h : EntOk t) : nl (frz t) = true ∧ dep t ≤ 2 ∧ entFl (frz t) = true := by
  obtain ⟨l, rfl, h100, hx, hf⟩ := h
  rw [frz_leafs hx, dep_lst]
  refine ⟨nls_of fun x m => (hx x m).2.1, ?_, hf⟩
  have := deps_of (n := 1) fun x m => (hx x m).2.2.2
  omega
theorem tokN {born n : Tr} {ts : List Tr} (hb : Leaf born) (hn : Leaf n) (hl : ts.length ≤ 100) (ht : ∀ t ∈ ts, EntOk t) : Tok (treeN born n ts) := by
  refine ⟨sm_lst (by show (4 : Nat) ≤ 100; decide) (forall4 (s100 "folder").1 hb.1 hn.1 (sm_lst hl fun t m => (ht t m).sm)), ?_, ?_, ?_⟩
  · rw [frz_N hb hn]
    show (true && (nl born && (nl n && (nls (ts.map L2.frz) && true)))) = true
    rw [hb.2.1, hn.2.1, nls_of fun t m => by
      obtain ⟨u, hu, rfl⟩ := List.mem_map.mp m
      exact (ht u hu).frz.1]
    rfl
  · unfold treeN
    rw [dep_lst]
    have : deps [Tr.str (Str.ofString "folder"), born, n, .lst ts] ≤ 3 := deps_of (forall4 (by show (0 : Nat) ≤ 3; decide) (by have := hb.2.2.2; omega) (by have := hn.2.2.2; omega) (by
      rw [dep_lst]
      have := deps_of (n := 2) fun t m => (ht t m).frz.2.1
      omega))
    omega
  · rw [frz_N hb hn]
    show (true && (ts.map L2.frz).all entFl) = true
    rw [Bool.true_and, List.all_eq_true]
    intro t m
    obtain ⟨u, hu, rfl⟩ := List.mem_map.mp m
    exact (ht u hu).frz.2.2
theorem badN {born n : Tr} {ts : List Tr} (hb : Leaf born) (hn : Leaf n) (hl : ts.length ≤ 100) (ht : ∀ t ∈ ts, EntOk t) (h : wthT n 0 999 = false ∨ 8 < ts.length ∨ (∃ t ∈ ts, entP (frz t) = false) ∨ risS ((ts.map frz).map nameT) = false) : Bad (treeN born n ts) := by
  refine ⟨tokN hb hn hl ht, ?_⟩
  rw [frz_N hb hn, knot_E]
  have : foldP [.str (Str.ofString "folder"), born, n, .tup (ts.map frz)] = false := by
    show (wthT n 0 999 && decide ((ts.map frz).length ≤ 8) && (ts.map frz).all entP && risS ((ts.map frz).map nameT)) = false
    rcases h with h | h | ⟨t, m, h⟩ | h
    · rw [h, Bool.false_and, Bool.false_and, Bool.false_and]
    · rw [decide_eq_false (by rw [List.length_map]; omega), Bool.and_false, Bool.false_and, Bool.false_and]
    · have : (ts.map frz).all entP = false := by
        rw [Bool.eq_false_iff]
        intro z
        have := List.all_eq_true.mp z _ (List.mem_map_of_mem (f := frz) m)
        rw [h] at this
        cases this
      rw [this, Bool.and_false, Bool.false_and]
    · rw [h, Bool.and_false]
  rw [this, Bool.and_false]
theorem q3_leaf {e : En} (h : okE e) : ∀ x ∈ q3 e, Leaf x := forall3 (Leaf.str (by have := isw_small h.1; omega)) (Leaf.str (by
  rcases h.2.1 with z | z <;> rw [z] <;> decide +kernel)) (Leaf.int _)
theorem EntOk.q3 {e : En} (h : okE e) : EntOk (.lst (q3 e)) := ⟨_, rfl, by show (3 : Nat) ≤ 100; decide, q3_leaf h, rfl⟩
/-- one entry of lists exchanged -/
theorem badEnt {born : Tr} {m : Int} {es : List En} {i : Nat} {row : List Tr} (hb : Leaf born) (hl : es.length ≤ 8) (oke : ∀ e ∈ es, okE e) (hi : i < es.length) (h100 : row.length ≤ 100) (hx : ∀ x ∈ row, Leaf x) (hf : entFl (.tup row) = true) (k : entP (.tup row) = false) :
    Bad (treeN born (.int m) (((es.map q3).map Tr.lst).set i (.lst row))) := by
  refine badN hb (Leaf.int m) (by rw [List.length_set, List.length_map, List.length_map]; omega) (fun t ht => ?_) (.inr (.inr (.inl ⟨.lst row, List.mem_set (by rw [List.length_map, List.length_map]; exact hi) _, ?_⟩)))
  · rcases List.mem_or_eq_of_mem_set ht with ht | rfl
    · obtain ⟨l, hl, rfl⟩ := List.mem_map.mp ht
      obtain ⟨e, he, rfl⟩ := List.mem_map.mp hl
      exact EntOk.q3 (oke e he)
    · exact ⟨row, rfl, h100, hx, hf⟩
  · rw [frz_leafs hx]
    exact k
theorem names_q3 (es : List En) : ((((es.map q3).map Tr.lst).map frz).map nameT) = es.map (·.1) := by
  rw [List.map_map, List.map_map, List.map_map]
  rfl
/-- the entries exchanged for others -/
theorem badEnts {born : Tr} {m : Int} {es : List En} (hb : Leaf born) (hl : es.length ≤ 100) (oke : ∀ e ∈ es, okE e) (k : 8 < es.length ∨ risS (es.map (·.1)) = false) : Bad (treeN born (.int m) ((es.map q3).map Tr.lst)) := by
  refine badN hb (Leaf.int m) (by rw [List.length_map, List.length_map]; exact hl) (fun t ht => ?_) ?_
  · obtain ⟨l, hl, rfl⟩ := List.mem_map.mp ht
    obtain ⟨e, he, rfl⟩ := List.mem_map.mp hl
    exact EntOk.q3 (oke e he)
  · rcases k with k | k
    · exact .inr (.inl (by rw [List.length_map, List.length_map]; exact k))
    · exact .inr (.inr (.inr (by rw [names_q3]; exact k)))
theorem risS_at : ∀ {l : List Str} {i : Nat} {a b : Str}, risS l = true → l[i]? = some a → l[i + 1]? = some b → a.cps.toList < b.cps.toList
  | [], _, _, _, _, h, _ => by cases h
  | [_], 0, _, _, _, _, h => by cases h
  | [_], i + 1, _, _, _, h, _ => by cases h
  | x :: y :: t, 0, a, b, r, h1, h2 => by
    cases h1
    cases h2
    unfold risS at r
    rw [Bool.and_eq_true, decide_eq_true_eq] at r
    exact r.1
  | x :: y :: t, i + 1, a, b, r, h1, h2 => by
    unfold risS at r
    rw [Bool.and_eq_true] at r
    exact risS_at (l := y :: t) (i := i) r.2 h1 h2
theorem no_ris {l : List Str} {i : Nat} {a b : Str} (h1 : l[i]? = some a) (h2 : l[i + 1]? = some b) (h : ¬ a.cps.toList < b.cps.toList) : risS l = false := by
  rw [Bool.eq_false_iff]
  intro z
  exact h (risS_at z h1 h2)
theorem twice_ris {l : List Str} {i : Nat} {a : Str} (h : l[i]? = some a) : risS (l.take (i + 1) ++ l.drop i) = false := by
  have li := (List.getElem?_eq_some_iff.mp h).1
  have lt : (l.take (i + 1)).length = i + 1 := by rw [List.length_take]; omega
  refine no_ris (i := i) (a := a) (b := a) ?_ ?_ (List.lt_irrefl _)
  · rw [List.getElem?_append_left (by omega), List.getElem?_take, if_pos (by omega)]
    exact h
  · rw [List.getElem?_append_right (by omega), lt, Nat.sub_self, List.getElem?_drop]
    exact h
theorem rev_ris {l : List Str} (hl : 1 < l.length) (r : risS l = true) : risS l.reverse = false := by
  obtain ⟨a, ha⟩ : ∃ a, l[l.length - 2]? = some a := ⟨_, List.getElem?_eq_getElem (by omega)⟩
  obtain ⟨b, hb⟩ : ∃ b, l[l.length - 2 + 1]? = some b := ⟨_, List.getElem?_eq_getElem (by omega)⟩
  have lt := risS_at r ha hb
  refine no_ris (i := 0) (a := b) (b := a) ?_ ?_ (fun z => List.lt_irrefl _ (List.lt_trans lt z))
  · rw [List.getElem?_reverse (by omega), ← hb]
    congr 1
    omega
  · rw [List.getElem?_reverse (by omega), ← ha]
    congr 1
theorem ats_innerE {H : Hp} {as : List Addr} {es : List En} {i j : Nat} {a : Addr} {e : En} {v : V} {t : Tr} (lg : LgAt H as (es.map ev)) (nd : as.Nodup) (ha : as[i]? = some a) (he : es[i]? = some e) (hv : At (upd H a (.lst ((ev e).set j v))) t v) :
    Ats (upd H a (.lst ((ev e).set j v))) (((es.map q3).map Tr.lst).set i (.lst ((q3 e).set j t))) (as.map V.ref) := by
  have e' : (((es.map q3).map Tr.lst).set i (.lst ((q3 e).set j t))) = ((es.map q3).set i ((q3 e).set j t)).map Tr.lst := by
    rw [List.map_set]
  rw [e']
  refine ats_lg (lg_set (vs := (ev e).set j v) lg nd ha) (by rw [List.length_set, List.length_set, List.length_map, List.length_map]) fun k ts vs ht hv' => ?_
  rw [List.getElem?_set] at ht hv'
  by_cases z : i = k
  · subst z
    rw [if_pos rfl] at ht hv'
    split at ht
    · cases ht
      split at hv'
      · cases hv'
        exact ats_set (ats_q3 (H := upd H a (.lst ((ev e).set j v))) e) (fun _ _ _ _ _ h => h) hv
      · cases hv'
    · cases ht
  · rw [if_neg z] at ht hv'
    rw [List.getElem?_map] at ht hv'
    obtain ⟨r', hr', rfl⟩ := Option.map_eq_some_iff.mp ht
    rw [hr'] at hv'
    cases hv'
    exact ats_q3 r'
end K22
set_option maxHeartbeats 4000000
namespace K22
open PySem L2
theorem mem_cons2 {p : Tr → Prop} {x y : Tr} {l : List Tr} (h1 : p x) (h2 : p y) (h3 : ∀ t ∈ l, p t) : ∀ t ∈ x :: y :: l, p t := fun t ht => by
  rcases List.mem_cons.mp ht with rfl | ht
  · exact h1
  · rcases List.mem_cons.mp ht with rfl | ht
    · exact h2
    · exact h3 t ht
/-- trees that are lists of these -/
theorem tokL {l : List Tr} (hl : l.length ≤ 100) (h1 : ∀ t ∈ l, sm t = true) (h2 : ∀ t ∈ l, nl (frz t) = true) (h3 : ∀ t ∈ l, dep t ≤ 3) (h4 : knFl (.tup (l.map frz)) = true) : Tok (.lst l) := by
  have ef : frz (.lst l) = .tup (l.map frz) := by
    show Tr.tup (frzs l) = _
    rw [frzs_map]
  refine ⟨sm_lst hl h1, ?_, ?_, ?_⟩
  · rw [ef]
    exact nls_of fun t m => by
      obtain ⟨u, hu, rfl⟩ := List.mem_map.mp m
      exact h2 u hu
  · rw [dep_lst]
    have := deps_of (n := 3) h3
    omega
  · rw [ef]
    exact h4
theorem frz_L (l : List Tr) : frz (.lst l) = .tup (l.map frz) := by
  show Tr.tup (frzs l) = _
  rw [frzs_map]
theorem same_upd {H H' : Hp} {L : Addr} {o : HO} (s : Same H H') : Same (upd H L o) (upd H' L o) := fun a u e => by
  by_cases z : a = L
  · subst z
    rw [upd_same] at e ⊢
    exact e
  · rw [upd_ne z] at e ⊢
    exact s _ _ e
theorem Top.mono {kd : Nat} {H H' : Hp} {L : Addr} {z : Str} {born : Int} {vs : List V} {rest : List Tr} (t : Top kd H L z born vs rest) (s : Same H H') : Top kd H' L z born vs rest :=
  ⟨s _ _ t.e, fun o => Ats.mono (same_upd s) (t.k o), Ats.mono s t.k0, t.ob, t.nm, t.sm, t.nl, t.dp, t.fl⟩
theorem Top.bad {kd : Nat} {H : Hp} {L : Addr} {z : Str} {born : Int} {vs : List V} {rest : List Tr} (tp : Top kd H L z born vs rest) {a t : Tr} (la : Leaf a) (fa : flatT a = true) (lt : Leaf t) (h : ¬ (wthT t 1 4294967295 = true ∧ ((strIs a "cells" = true ∧ rest.length = 1) ∨ (strIs a "file" = true ∧ rest.length = 2) ∨ (strIs a "folder" = true ∧ rest.length = 2)))) : Bad (.lst (a :: t :: rest)) := by
  obtain ⟨lv, lr1, lr2, lz⟩ := tp.len
  have em : (a :: t :: rest).map frz = a :: t :: rest.map frz := by
    rw [List.map_cons, List.map_cons, frz_not la.2.2.1, frz_not lt.2.2.1]
  refine ⟨tokL (by show rest.length + 2 ≤ 100; omega) (mem_cons2 la.1 lt.1 tp.sm) (mem_cons2 (by rw [frz_not la.2.2.1]; exact la.2.1) (by rw [frz_not lt.2.2.1]; exact lt.2.1) tp.nl) (mem_cons2 (by have := la.2.2.2; omega) (by have := lt.2.2.2; omega) (fun t m => by have := tp.dp t m; omega)) (by rw [em]; exact tp.fl _ _ fa), ?_⟩
  rw [frz_L, em, Bool.eq_false_iff]
  intro k
  have := knot_shape k
  rw [List.length_map] at this
  exact h this
theorem not_cells {z : Str} (h : z = Str.ofString "file" ∨ z = Str.ofString "folder") : strIs (.str z) "cells" = true → False := by
  rcases h with rfl | rfl <;> decide +kernel
theorem cells_not : (strIs (.str (Str.ofString "cells")) "file" = true → False) ∧ (strIs (.str (Str.ofString "cells")) "folder" = true → False) := by
  decide +kernel
section
variable {kd : Nat} {H : Hp} {L : Addr} {z : Str} {born : Int} {vs : List V} {rest : List Tr}
theorem Top.two (tp : Top kd H L z born vs rest) : (kd = 0 ∧ z = Str.ofString "cells" ∧ ∃ x, rest = [x]) ∨ (1 ≤ kd ∧ (z = Str.ofString "file" ∨ z = Str.ofString "folder") ∧ ∃ x y, rest = [x, y]) := by
  rcases tp.nm with ⟨k, e, h⟩ | ⟨k, e, h⟩
  · match rest, h with
    | [x], _ => exact .inl ⟨k, e, x, rfl⟩
  · match rest, h with
    | [x, y], _ => exact .inr ⟨k, e, x, y, rfl⟩
theorem Top.part (tp : Top kd H L z born vs rest) {l : List Tr} (hl : l.length ≤ 100) (hm : ∀ t ∈ l, t = .str z ∨ t = .int born ∨ t = .int 0 ∨ t ∈ rest) (hk : knFl (.tup (l.map frz)) = true) (hn : ¬ knotP (.tup (l.map frz)) = true) : Bad (.lst l) := by
  obtain ⟨lv, lr1, lr2, lz⟩ := tp.len
  refine ⟨tokL hl (fun t m => ?_) (fun t m => ?_) (fun t m => ?_) hk, ?_⟩
  · rcases hm t m with rfl | rfl | rfl | m
    · exact (Leaf.str lz).1
    · rfl
    · rfl
    · exact tp.sm t m
  · rcases hm t m with rfl | rfl | rfl | m
    · rfl
    · rfl
    · rfl
    · exact tp.nl t m
  · rcases hm t m with rfl | rfl | rfl | m
    · show (0 : Nat) ≤ 3
      decide
    · show (0 : Nat) ≤ 3
      decide
    · show (0 : Nat) ≤ 3
      decide
    · have := tp.dp t m
      omega
  · rw [frz_L]
    exact Bool.eq_false_iff.mpr hn
theorem Top.less (tp : Top kd H L z born vs rest) : Bad (.lst ((.str z :: .int born :: rest).take (rest.length + 1))) := by
  rcases tp.two with ⟨_, rfl, x, rfl⟩ | ⟨_, e, x, y, rfl⟩
  · exact tp.part (by show (2 : Nat) ≤ 100; decide) (fun t m => by
      have m' : t ∈ [Tr.str (Str.ofString "cells"), .int born] := m
      simp only [List.mem_cons, List.not_mem_nil, or_false] at m'
      rcases m' with rfl | rfl
      · exact .inl rfl
      · exact .inr (.inl rfl)) rfl (fun k => by
      rcases (knot_shape (r := []) k).2 with h | h | h <;> exact absurd h.2 (by decide))
  · exact tp.part (by show (3 : Nat) ≤ 100; decide) (fun t m => by
      have m' : t ∈ [Tr.str z, .int born, x] := m
      simp only [List.mem_cons, List.not_mem_nil, or_false] at m'
      rcases m' with rfl | rfl | rfl
      · exact .inl rfl
      · exact .inr (.inl rfl)
      · exact .inr (.inr (.inr (List.mem_cons_self ..)))) rfl (fun k => by
      rcases (knot_shape (r := [frz x]) k).2 with h | h | h
      · exact not_cells e h.1
      · exact absurd h.2 (by show ¬ (1 : Nat) = 2; decide)
      · exact absurd h.2 (by show ¬ (1 : Nat) = 2; decide))
theorem Top.more (tp : Top kd H L z born vs rest) : Bad (.lst ((.str z :: .int born :: rest) ++ [.int 0])) := by
  rcases tp.two with ⟨_, rfl, x, rfl⟩ | ⟨_, e, x, y, rfl⟩
  · exact tp.part (by show (4 : Nat) ≤ 100; decide) (fun t m => by
      have m' : t ∈ [Tr.str (Str.ofString "cells"), .int born, x, .int 0] := m
      simp only [List.mem_cons, List.not_mem_nil, or_false] at m'
      rcases m' with rfl | rfl | rfl | rfl
      · exact .inl rfl
      · exact .inr (.inl rfl)
      · exact .inr (.inr (.inr (List.mem_cons_self ..)))
      · exact .inr (.inr (.inl rfl))) rfl (fun k => by
      rcases (knot_shape (r := [frz x, .int 0]) k).2 with h | h | h
      · exact absurd h.2 (by show ¬ (2 : Nat) = 1; decide)
      · exact cells_not.1 h.1
      · exact cells_not.2 h.1)
  · exact tp.part (by show (5 : Nat) ≤ 100; decide) (fun t m => by
      have m' : t ∈ [Tr.str z, .int born, x, y, .int 0] := m
      simp only [List.mem_cons, List.not_mem_nil, or_false] at m'
      rcases m' with rfl | rfl | rfl | rfl | rfl
      · exact .inl rfl
      · exact .inr (.inl rfl)
      · exact .inr (.inr (.inr (List.mem_cons_self ..)))
      · exact .inr (.inr (.inr (List.mem_cons_of_mem _ (List.mem_cons_self ..))))
      · exact .inr (.inr (.inl rfl))) (by
      show knFl (.tup [.str z, .int born, frz x, frz y, .int 0]) = true
      cases frz y <;> rfl) (fun k => by
      rcases (knot_shape (r := [frz x, frz y, .int 0]) k).2 with h | h | h
      · exact absurd h.2 (by show ¬ (3 : Nat) = 1; decide)
      · exact absurd h.2 (by show ¬ (3 : Nat) = 2; decide)
      · exact absurd h.2 (by show ¬ (3 : Nat) = 2; decide))
theorem Top.one (tp : Top kd H L z born vs rest) : Bad (.lst [.str z]) := tp.part (by show (1 : Nat) ≤ 100; decide) (fun t m => .inl (List.mem_singleton.mp m)) rfl (fun k => by cases k)
theorem Top.none' (tp : Top kd H L z born vs rest) : Bad (.lst []) := tp.part (by show (0 : Nat) ≤ 100; decide) (fun t m => by cases m) rfl (fun k => by cases k)
theorem Top.within (tp : Top kd H L z born vs rest) : Bad (.lst [.lst (.str z :: .int born :: rest)]) := by
  obtain ⟨lv, lr1, lr2, lz⟩ := tp.len
  have one : ∀ {p : Tr → Prop}, p (.lst (.str z :: .int born :: rest)) → ∀ t ∈ [Tr.lst (.str z :: .int born :: rest)], p t := fun h t m => by
    rw [List.mem_singleton.mp m]
    exact h
  refine ⟨tokL (by show (1 : Nat) ≤ 100; decide) (one ?_) (one ?_) (one ?_) rfl, ?_⟩
  · exact sm_lst (by show rest.length + 2 ≤ 100; omega) (mem_cons2 (Leaf.str lz).1 rfl tp.sm)
  · rw [frz_L]
    exact nls_of fun t m => by
      obtain ⟨u, hu, rfl⟩ := List.mem_map.mp m
      exact mem_cons2 (p := fun t => L2.nl (frz t) = true) rfl rfl tp.nl u hu
  · rw [dep_lst]
    have := deps_of (n := 2) (mem_cons2 (p := fun t => dep t ≤ 2) (x := .str z) (y := .int born) (by show (0 : Nat) ≤ 2; decide) (by show (0 : Nat) ≤ 2; decide) tp.dp)
    omega
  · rw [frz_L]
    rfl
end
section
variable {K : PySem.W.Frag} {kd : Nat} {H0 H : Hp} {L : Addr} {z : Str} {born n : Int} {vs : List V} {rest : List Tr} {Q : VK}
theorem way1 (hk : kd < 3) (s0 : Same H0 H) (hL0 : H0 L = none) (tp : Top kd H L z born vs rest) (fin : ∀ {p t H'}, Same H0 H' → At H' t (.ref p) → Bad t → spFro 4 [.ref p] H' Q E0) :
    tAsg (tOp (rIxL K) (tLst (tCons (tC (.str "")) (tCons (tC (.str "knot")) (tCons (tC (.str "Cells")) (tCons (tC .non) (tCons (tOp (rIxL K) (tLst (tCons (tC (.str "file")) (tCons (tC (.str "cells")) (tCons (tC (.str "cells")) tNil)))) (tVar 1)) tNil)))))) (tOp (rI (fun _ j => 0 < j) fun i j => V.int (i % j)) (tVar 4) (tC (.int 5)))) (gSub (tVar 0) (tC (.int 0)) rSetL)
      { nx := tRet (tCall (spFro 4) [] E0 (tCons (tVar 0) tNil)) { nx := fun _ H' => Q .non H', rt := Q }, rt := Q } [some (.ref L), some (.int (kd : Int)), some (.int n), some (.int (n % 5)), some (.int (n / 5))] H := by
  obtain ⟨lv, lr1, lr2, lz⟩ := tp.len
  refine ⟨(by show 3 ≤ sizeLine; decide), fun p1 hp1 => ?_⟩
  have s1 := same_new hp1 (HO.lst [V.str "file", V.str "cells", V.str "cells"])
  obtain ⟨y, ey, hy⟩ : ∃ y : Str, atI [V.str "file", V.str "cells", V.str "cells"] (kd : Int) = some (.str y) ∧ ((y = Str.ofString "file" ∧ rest.length = 1) ∨ (y = Str.ofString "cells" ∧ rest.length = 2)) := by
    rcases tp.two with ⟨rfl, _, x, rfl⟩ | ⟨k1, _, x, x', rfl⟩
    · exact ⟨_, rfl, .inl ⟨rfl, rfl⟩⟩
    · match kd, hk, k1 with
      | 1, _, _ => exact ⟨_, rfl, .inr ⟨rfl, rfl⟩⟩
      | 2, _, _ => exact ⟨_, rfl, .inr ⟨rfl, rfl⟩⟩
  refine ⟨_, rfl, p1, _, _, .str y, rfl, rfl, SqL.of upd_same, ey, (by show 5 ≤ sizeLine; decide), fun p2 hp2 => ?_⟩
  have s2 := s1.trans (same_new hp2 (HO.lst [V.str "", V.str "knot", V.str "Cells", V.non, V.str y]))
  have ep2 : upd (upd H p1 (HO.lst [V.str "file", V.str "cells", V.str "cells"])) p2 (HO.lst [V.str "", V.str "knot", V.str "Cells", V.non, V.str y]) p2 = some (.lst [V.str "", V.str "knot", V.str "Cells", V.non, V.str y]) := upd_same
  revert s2 ep2
  generalize upd (upd H p1 (HO.lst [V.str "file", V.str "cells", V.str "cells"])) p2 (HO.lst [V.str "", V.str "knot", V.str "Cells", V.non, V.str y]) = H2
  intro s2 ep2
  obtain ⟨v, t, e, hv, lf, fl, k⟩ : ∃ v t, atI [V.str "", V.str "knot", V.str "Cells", V.non, V.str y] (n / 5 % 5) = some v ∧ (∀ H', At H' t v) ∧ Leaf t ∧ flatT t = true ∧ ¬ ((strIs t "cells" = true ∧ rest.length = 1) ∨ (strIs t "file" = true ∧ rest.length = 2) ∨ (strIs t "folder" = true ∧ rest.length = 2)) := by
    have no : ∀ t : Tr, strIs t "cells" = false ∧ strIs t "file" = false ∧ strIs t "folder" = false → ¬ ((strIs t "cells" = true ∧ rest.length = 1) ∨ (strIs t "file" = true ∧ rest.length = 2) ∨ (strIs t "folder" = true ∧ rest.length = 2)) := fun t h z => by
      rw [h.1, h.2.1, h.2.2] at z
      rcases z with z | z | z <;> cases z.1
    obtain e | e | e | e | e : n / 5 % 5 = 0 ∨ n / 5 % 5 = 1 ∨ n / 5 % 5 = 2 ∨ n / 5 % 5 = 3 ∨ n / 5 % 5 = 4 := by omega
    · exact ⟨_, .str "", by rw [e]; rfl, fun _ => At.str _, s100 "", rfl, no _ (by decide +kernel)⟩
    · exact ⟨_, .str "knot", by rw [e]; rfl, fun _ => At.str _, s100 "knot", rfl, no _ (by decide +kernel)⟩
    · exact ⟨_, .str "Cells", by rw [e]; rfl, fun _ => At.str _, s100 "Cells", rfl, no _ (by decide +kernel)⟩
    · exact ⟨_, .non, by rw [e]; rfl, fun _ => At.non, Leaf.non, rfl, no _ ⟨rfl, rfl, rfl⟩⟩
    · refine ⟨_, .str y, by rw [e]; rfl, fun _ => At.str _, Leaf.str ?_, rfl, fun h => ?_⟩
      · rcases hy with ⟨rfl, _⟩ | ⟨rfl, _⟩ <;> decide +kernel
      · rcases hy with ⟨rfl, hl⟩ | ⟨rfl, hl⟩
        · rw [hl] at h
          rcases h with h | h | h
          · exact absurd h.1 (by decide +kernel)
          · exact absurd h.2 (by decide)
          · exact absurd h.2 (by decide)
        · rw [hl] at h
          rcases h with h | h | h
          · exact absurd h.2 (by decide)
          · exact absurd h.1 (by decide +kernel)
          · exact absurd h.1 (by decide +kernel)
  have tp2 := tp.mono s2
  refine ⟨_, rfl, _, _, rfl, rfl, (by show (0 : Int) < 5; decide), p2, _, _, v, rfl, rfl, SqL.of ep2, e, _, rfl, L, _, 0, 0, rfl, rfl, tp2.e, by show ixN (vs.length + 2) 0 = some 0; exact ixN_nat (by decide) (by omega), ?_⟩
  exact ⟨_, rfl, fin (same_over (s0.trans s2) hL0 _) (At.mkL (vs := v :: .int born :: vs) upd_same (Ats.cons (hv _) (Ats.cons (At.int _) (tp2.k _)))) (tp.bad lf fl (Leaf.int _) fun h => k h.2)⟩
theorem way2 (s0 : Same H0 H) (tp : Top kd H L z born vs rest) (fin : ∀ {p t H'}, Same H0 H' → At H' t (.ref p) → Bad t → spFro 4 [.ref p] H' Q E0) :
    tAsg (tOp (rIxL K) (tLst (tCons (tSl (rSlL K) (tVar 0) tNoPart (tPart (tUn (rU fun i => V.int (-i)) (tC (.int 1))))) (tCons (tOp rCat (tVar 0) (tLst (tCons (tC (.int 0)) tNil))) (tCons (tLst tNil) (tCons (tLst (tCons (tVar 0) tNil)) (tCons (tSl (rSlL K) (tVar 0) tNoPart (tPart (tC (.int 1)))) tNil)))))) (tOp (rI (fun _ j => 0 < j) fun i j => V.int (i % j)) (tVar 4) (tC (.int 5)))) (gName 0)
      { nx := tRet (tCall (spFro 4) [] E0 (tCons (tVar 0) tNil)) { nx := fun _ H' => Q .non H', rt := Q }, rt := Q } [some (.ref L), some (.int (kd : Int)), some (.int n), some (.int (n % 5)), some (.int (n / 5))] H := by
  obtain ⟨lv, lr1, lr2, lz⟩ := tp.len
  have eL := tp.e
  refine ⟨_, rfl, _, rfl, _, rfl, L, _, rfl, SqL.of eL, fun p1 hp1 => ?_⟩
  rw [cut_m1 _ (by show 1 ≤ vs.length + 2; omega)]
  have ln : (V.str z :: V.int born :: vs).length - 1 = rest.length + 1 := by
    show vs.length + 2 - 1 = _
    omega
  rw [ln]
  have s1 := same_new hp1 (HO.lst ((V.str z :: V.int born :: vs).take (rest.length + 1)))
  have e1 : upd H p1 (HO.lst ((V.str z :: V.int born :: vs).take (rest.length + 1))) p1 = some (.lst ((V.str z :: V.int born :: vs).take (rest.length + 1))) := upd_same
  revert s1 e1
  generalize upd H p1 (HO.lst ((V.str z :: V.int born :: vs).take (rest.length + 1))) = H1
  intro s1 e1
  refine ⟨_, rfl, (by show 1 ≤ sizeLine; decide), fun pz hpz => ?_⟩
  have sz := same_new hpz (HO.lst [V.int 0])
  refine ⟨L, pz, _, _, rfl, rfl, sz _ _ (s1 _ _ eL), upd_same, Nat.le_of_lt (small (by show (vs.length + 2) + 1 ≤ _; omega)), fun p2 hp2 => ?_⟩
  have s2 := sz.trans (same_new hp2 (HO.lst ((V.str z :: V.int born :: vs) ++ [V.int 0])))
  have e2 : upd (upd H1 pz (HO.lst [V.int 0])) p2 (HO.lst ((V.str z :: V.int born :: vs) ++ [V.int 0])) p2 = some (.lst ((V.str z :: V.int born :: vs) ++ [V.int 0])) := upd_same
  revert s2 e2
  generalize upd (upd H1 pz (HO.lst [V.int 0])) p2 (HO.lst ((V.str z :: V.int born :: vs) ++ [V.int 0])) = H2
  intro s2 e2
  refine ⟨by decide, fun p3 hp3 => ?_⟩
  have s3 := same_new hp3 (HO.lst [])
  have e3 : upd H2 p3 (HO.lst []) p3 = some (.lst []) := upd_same
  revert s3 e3
  generalize upd H2 p3 (HO.lst []) = H3
  intro s3 e3
  refine ⟨_, rfl, (by show 1 ≤ sizeLine; decide), fun p4 hp4 => ?_⟩
  have s4 := same_new hp4 (HO.lst [V.ref L])
  have e4 : upd H3 p4 (HO.lst [V.ref L]) p4 = some (.lst [V.ref L]) := upd_same
  revert s4 e4
  generalize upd H3 p4 (HO.lst [V.ref L]) = H4
  intro s4 e4
  have s04 := s1.trans (s2.trans (s3.trans s4))
  refine ⟨_, rfl, _, rfl, L, _, rfl, SqL.of (s04 _ _ eL), fun p5 hp5 => ?_⟩
  rw [show cutV (V.str z :: V.int born :: vs) none (some 1) = [.str z] from cut_to (V.str z :: V.int born :: vs) 1]
  have s5 := same_new hp5 (HO.lst [V.str z])
  have e5 : upd H4 p5 (HO.lst [V.str z]) p5 = some (.lst [V.str z]) := upd_same
  revert s5 e5
  generalize upd H4 p5 (HO.lst [V.str z]) = H5
  intro s5 e5
  refine ⟨(by show 5 ≤ sizeLine; decide), fun p6 hp6 => ?_⟩
  have s6 := same_new hp6 (HO.lst [V.ref p1, V.ref p2, V.ref p3, V.ref p4, V.ref p5])
  have e6 : upd H5 p6 (HO.lst [V.ref p1, V.ref p2, V.ref p3, V.ref p4, V.ref p5]) p6 = some (.lst [V.ref p1, V.ref p2, V.ref p3, V.ref p4, V.ref p5]) := upd_same
  revert s6 e6
  generalize upd H5 p6 (HO.lst [V.ref p1, V.ref p2, V.ref p3, V.ref p4, V.ref p5]) = H6
  intro s6 e6
  have s06 := s04.trans (s5.trans s6)
  have all6 : Ats H6 (.str z :: .int born :: rest) (V.str z :: V.int born :: vs) := Ats.cons (At.str _) (Ats.cons (At.int _) (Ats.mono s06 tp.k0))
  obtain ⟨p, t, e, ht, b⟩ : ∃ p t, atI [V.ref p1, V.ref p2, V.ref p3, V.ref p4, V.ref p5] (n / 5 % 5) = some (.ref p) ∧ At H6 t (.ref p) ∧ Bad t := by
    obtain e | e | e | e | e : n / 5 % 5 = 0 ∨ n / 5 % 5 = 1 ∨ n / 5 % 5 = 2 ∨ n / 5 % 5 = 3 ∨ n / 5 % 5 = 4 := by omega
    · exact ⟨p1, _, by rw [e]; rfl, At.mkL ((s2.trans (s3.trans (s4.trans (s5.trans s6)))) _ _ e1) (Ats.take (rest.length + 1) all6), tp.less⟩
    · exact ⟨p2, _, by rw [e]; rfl, At.mkL ((s3.trans (s4.trans (s5.trans s6))) _ _ e2) (Ats.app (Ats.cons (At.int 0) (Ats.nil _)) all6), tp.more⟩
    · exact ⟨p3, _, by rw [e]; rfl, At.mkL ((s4.trans (s5.trans s6)) _ _ e3) (Ats.nil _), tp.none'⟩
    · exact ⟨p4, _, by rw [e]; rfl, At.mkL ((s5.trans s6) _ _ e4) (Ats.cons (At.mkL (s06 _ _ eL) all6) (Ats.nil _)), tp.within⟩
    · exact ⟨p5, _, by rw [e]; rfl, At.mkL (s6 _ _ e5) (Ats.cons (At.str _) (Ats.nil _)), tp.one⟩
  exact ⟨_, rfl, _, _, rfl, rfl, (by show (0 : Int) < 5; decide), p6, _, _, .ref p, rfl, rfl, SqL.of e6, e, _, rfl, fin (s0.trans s06) ht b⟩
end
end K22
set_option maxHeartbeats 4000000
namespace K22
open PySem L2
section
variable {P : Program} {w : World} {K : PySem.W.Frag} {mg : Str → Option Value} {base : Heap} {f fOff fSpc fSpr fSpe fFro : Addr} {fd dOff dSpc dSpr dSpe dFro : FuncData}
theorem scSpo : FnScope ["_law_stuff_here", "_law_kind", "_law_number", "_law_way", "_law_more"] ["_law_stuff_here", "_law_kind", "_law_number"] (defScope sSpo) := ⟨rfl, rfl, rfl, by decide +kernel, rfl, by decide +kernel, by decide +kernel⟩
theorem ok_Spo (F : Fun K "_law_spoiled" "_law_spoiled" sSpo f fd) (hOff : Has K mg "_law_off" sOff ["_law_number", "_law_low", "_law_high"] fOff dOff) (GOff : FnOk P w K mg base CX0 1 fOff dOff ["_law_number", "_law_low", "_law_high"] spOff)
    (hSpc : Has K mg "_law_spoiled_cells" sSpc ["_law_stuff_here", "_law_number"] fSpc dSpc) (GSpc : FnOk P w K mg base CX0 2 fSpc dSpc ["_law_stuff_here", "_law_number"] spSpc)
    (hSpr : Has K mg "_law_spoiled_row" sSpr ["_law_stuff_here", "_law_number"] fSpr dSpr) (GSpr : FnOk P w K mg base CX0 2 fSpr dSpr ["_law_stuff_here", "_law_number"] spSpr)
    (hSpe : Has K mg "_law_spoiled_entries" sSpe ["_law_stuff_here", "_law_number"] fSpe dSpe) (GSpe : FnOk P w K mg base CX0 2 fSpe dSpe ["_law_stuff_here", "_law_number"] spSpe)
    (hFro : Has K mg "_law_frozen" sFro ["_law_stuff_here"] fFro dFro) (GFro : FnOk P w K mg base CX0 5 fFro dFro ["_law_stuff_here"] (spFro 4)) (T : Txt mg) : FnOk P w K mg base CX0 6 f fd ["_law_stuff_here", "_law_kind", "_law_number"] spSpo := by
  refine F.ok scSpo (fun vs H Q E h => ?_) (fun cdv A outer s H vs Q E hr h => ?_)
  · obtain ⟨L, kd, n, H0, rfl, _⟩ := h
    rfl
  obtain ⟨L, kd, n, H0, rfl, hk, n0, n1, s0, hL0, sh, q⟩ := h
  refine ⟨_, (pss_cons (ps_set (i := 3) scSpo.nd rfl (Or.inl rfl) (pe_op op_mod (pv 2) pe_int))
    (pss_cons (ps_set (i := 4) scSpo.nd rfl (Or.inl rfl) (pe_op op_fdiv (pv 2) pe_int))
    (pss_cons (ps_if (pt_cmpR op_eq (pv 3) pe_int (nomark _))
    (pss_one (ps_asg (pe_call GOff (hr.mono (by decide)) rfl hOff.nm hOff.fn.kp hOff.bd .nil pass0 (pa_cons (pv 4) (pa_cons pe_int (pa_cons pe_int pa_nil)))) (pg_sub (pv 0) pe_int set_list)))
    (pss_one (ps_if (pt_cmpR op_eq (pv 3) pe_int (nomark _))
    (pss_one (ps_asg (pe_ix ix_list (pe_lst (pa_cons pe_str (pa_cons pe_str (pa_cons pe_str (pa_cons pe_non (pa_cons (pe_ix ix_list (pe_lst (pa_cons pe_str (pa_cons pe_str (pa_cons pe_str pa_nil)))) (pv 1) (fun _ _ => rfl)) pa_nil)))))) (pe_op op_mod (pv 4) pe_int) (fun _ _ => rfl)) (pg_sub (pv 0) pe_int set_list)))
    (pss_one (ps_if (pt_cmpR op_eq (pv 3) pe_int (nomark _))
    (pss_one (ps_set (i := 0) scSpo.nd rfl (Or.inl rfl) (pe_ix ix_list (pe_lst (pa_cons (pe_slice sl_list (pv 0) po_none (po_some (pe_un un_neg pe_int))) (pa_cons (pe_op op_cat (pv 0) (pe_lst (pa_cons pe_int pa_nil))) (pa_cons (pe_lst pa_nil) (pa_cons (pe_lst (pa_cons (pv 0) pa_nil)) (pa_cons (pe_slice sl_list (pv 0) po_none (po_some pe_int)) pa_nil)))))) (pe_op op_mod (pv 4) pe_int) (fun _ _ => rfl))))
    (pss_one (ps_if (pt_cmpR op_eq (pv 1) pe_int (nomark _))
    (pss_one (ps_expr (pe_call GSpc (hr.mono (by decide)) rfl hSpc.nm hSpc.fn.kp hSpc.bd .nil pass0 (pa_cons (pv 0) (pa_cons (pv 4) pa_nil)))))
    (pss_one (ps_if (pt_cmpR op_eq (pv 1) pe_int (nomark _))
    (pss_one (ps_expr (pe_call GSpr (hr.mono (by decide)) rfl hSpr.nm hSpr.fn.kp hSpr.bd .nil pass0 (pa_cons (pv 0) (pa_cons (pv 4) pa_nil)))))
    (pss_one (ps_expr (pe_call GSpe (hr.mono (by decide)) rfl hSpe.nm hSpe.fn.kp hSpe.bd .nil pass0 (pa_cons (pv 0) (pa_cons (pv 4) pa_nil))))))))))))))
    (pss_one (ps_ret (pe_call GFro (hr.mono (by decide)) rfl hFro.nm hFro.fn.kp hFro.bd .nil pass0 (pa_cons (pv 0) pa_nil))))))), ?_⟩
  obtain ⟨z, born, vs, rest, tp⟩ := sh.top hk
  obtain ⟨lv, lr1, lr2, lz⟩ := tp.len
  have eL := tp.e
  -- what is frozen then
  have fin : ∀ {p t H'}, Same H0 H' → At H' t (.ref p) → Bad t → spFro 4 [.ref p] H' Q E0 := fun {p t H'} s' ht b => ⟨_, t, rfl, ht, b.1.sm, b.1.nl, b.1.dep, fun y H2 s2 hy => q y _ H2 (s'.trans s2) hy (sm_frz b.1.sm) b.1.fl b.2⟩
  refine ⟨_, rfl, _, _, rfl, rfl, (by show (0 : Int) < 5; decide), ?_⟩
  dsimp only
  refine ⟨_, rfl, _, _, rfl, rfl, ⟨by decide, by decide⟩, ?_⟩
  dsimp only
  refine ⟨_, rfl, rfl, _, rfl, ite2 (fun c1 => ?_) (fun c1 => ?_)⟩
  · refine ⟨_, rfl, n / 5, 1, 4294967295, rfl, by omega, by omega, by decide, by decide, by decide, fun v t H1 s1 hv wf sf df lf nf => ?_⟩
    have tp1 := tp.mono s1
    have eL1 := tp1.e
    refine ⟨_, rfl, L, _, 1, 1, rfl, rfl, eL1, by show ixN (vs.length + 2) 1 = some 1; exact ixN_nat (by decide) (by omega), ?_⟩
    have kt : ∀ q u, H1 q = some (.tup u) → upd H1 L (.lst (.str z :: v :: vs)) q = some (.tup u) := fun q u e => by
      rw [upd_ne (fun y => by rw [y, eL1] at e; cases e)]
      exact e
    exact ⟨_, rfl, fin (same_over (s0.trans s1) hL0 _) (At.mkL (vs := .str z :: v :: vs) upd_same (Ats.cons (At.str _) (Ats.cons (At.keepT kt nf hv) (tp1.k _)))) (tp.bad (Leaf.str lz) rfl ⟨sf, nf, lf, df⟩ fun k => by rw [wf] at k; cases k.1)⟩
  refine ⟨_, rfl, rfl, _, rfl, ite2 (fun c2 => ?_) (fun c2 => ?_)⟩
  · exact way1 (K := K) hk s0 hL0 tp fin
  refine ⟨_, rfl, rfl, _, rfl, ite2 (fun c3 => ?_) (fun c3 => ?_)⟩
  · exact way2 (K := K) s0 tp fin
  have tail : ∀ {t H'}, Same H0 H' → At H' t (.ref L) → Bad t → spFro 4 [.ref L] H' Q E0 := fun s' ht b => fin s' ht b
  match kd, hk, sh, tp with
  | 0, _, sh, tp => 
    refine ⟨_, rfl, rfl, _, rfl, iteT ?_⟩
    exact ⟨_, rfl, _, rfl, L, n / 5, H0, rfl, by omega, by omega, s0, hL0, sh, fun H' t s' ht b => ⟨_, rfl, tail s' ht b⟩⟩
  | 1, _, sh, tp =>
    refine ⟨_, rfl, rfl, _, rfl, iteF ?_⟩
    refine ⟨_, rfl, rfl, _, rfl, iteT ?_⟩
    exact ⟨_, rfl, _, rfl, L, n / 5, H0, rfl, by omega, by omega, s0, hL0, sh, fun H' t s' ht b => ⟨_, rfl, tail s' ht b⟩⟩
  | 2, _, sh, tp =>
    refine ⟨_, rfl, rfl, _, rfl, iteF ?_⟩
    refine ⟨_, rfl, rfl, _, rfl, iteF ?_⟩
    exact ⟨_, rfl, _, rfl, L, n / 5, H0, rfl, by omega, by omega, s0, hL0, sh, fun H' t s' ht b => ⟨_, rfl, tail s' ht b⟩⟩
end
end K22
/-! ### list(reversed(a list)) -/
namespace L2
open PySem PySem.Spec PyProof.Rows PySem.W
theorem lri_nolen : typeLookup (.type "list_reverseiterator") "__len__" = pure none := by rw [typeLookup_type, builtinLookup_eq_fast]; kernel_rfl
theorem lri_hint : typeLookup (.type "list_reverseiterator") "__length_hint__" = pure (some (.builtin "list_reverseiterator.__length_hint__")) := by rw [typeLookup_type, builtinLookup_eq_fast]; kernel_rfl
section
variable {prog : Program} {w : World} {A : Around} {E : Value → Shared → Prop} {s : Shared} {I l : Addr} {items : Array Value}
theorem hint_rev {Q : Bool → Shared → Prop} (hT : s.TypeIs (.ref I) "list_reverseiterator") (h : Q false s) : wpAny (model prog w) A (Builtin.List.listLengthHint (.ref I)) Q E s := by
  unfold Builtin.List.listLengthHint
  refine wpAny_bind (wpAny_specialOf hT lri_nolen ?_)
  show wpAny _ A (specialOf (Value.ref I) (Str.ofString "__length_hint__") >>= _) _ _ _
  refine wpAny_bind (wpAny_specialOf hT lri_hint ?_)
  generalize hid : ("list_reverseiterator.__length_hint__" : String) = id0
  wp_delta
  rw [show splitId id0 = some ("list_reverseiterator", "__length_hint__") from by subst hid; decide +kernel]
  subst hid
  refine wpAny_bind (wpAny_isInstance (T := "list_reverseiterator") (b := true) hT (by rw [isSubtype_type]; kernel_rfl) ?_)
  exact wpAny_pure h
abbrev RevP (items : Array Value) : Nat → Value → Prop := fun i v => items[items.size - 1 - i]? = some v
theorem extend_rev {R : Result → Shared → Prop} (hh : A.handled = none) (hne : l ≠ I) (hi : s.heap.IsRevIter I l ((items.size : Int) - 1)) (hl : s.heap.IsList l items) (S : Addr) (hSI : S ≠ I) (hSl : S ≠ l) (res : Value) (c₀ : Nat) (hS : s.heap.get? S = some { cls := .type "list", data := .seq #[] c₀ })
    (hR : ∀ h' tk acc' c', (∀ b o, b ≠ S → b ≠ I → s.heap.get? b = some o → h'.get? b = some o) → h'.get? S = some { cls := .type "list", dict := none, data := .seq acc' c', slots := #[] } → ItemsOf (RevP items) acc' items.size → R (.ok (.ret res)) { s with heap := h', toks := tk }) (hn : items.size ≤ sizeLine) :
    wpAny (model prog w) A.in1 (Builtin.List.listExtendWith (.ref S) (.ref I) res)
      (fun fin s' => match fin with | .done f => R (.ok f) s' | .again c' => c'.quiet = true ∧ codeAny (model prog w) A c' R s') (fun e s' => R (.error e) s') s := by
  have hSf : S ∉ [I, l] := by simp only [List.mem_cons, List.not_mem_nil, or_false, not_or]; exact ⟨hSI, hSl⟩
  have W := Walks.listRev (prog := prog) (w := w) (A := A.in1) hh I l hne items
  have st : 0 ≤ items.size ∧ s.heap.IsRevIter I l ((items.size : Int) - 1 - ((0 : Nat) : Int)) ∧ s.heap.IsList l items := ⟨Nat.zero_le _, by rw [show (items.size : Int) - 1 - ((0 : Nat) : Int) = (items.size : Int) - 1 from by omega]; exact hi, hl⟩
  unfold Builtin.List.listExtendWith
  refine wpAny_bind (wpAny_typeOf (T := "list_reverseiterator") hi.typeIs ?_)
  have h1 : Builtin.List.listSameRef (.ref S) (.ref I) = false := by simp [Builtin.List.listSameRef, hSI]
  have h2 : (Value.type "list_reverseiterator" == Value.type "list") = false := by decide
  have h3 : (Value.type "list_reverseiterator" == Value.type "tuple") = false := by decide
  simp only [h1, h2, h3, Bool.or_false, Bool.false_eq_true, if_false]
  refine wpAny_bind (wpAny_pyIter_revIter hi ?_)
  refine wpAny_bind (wpAny_holding (hint_rev hi.typeIs ?_))
  rw [if_neg (by decide)]
  refine wpAny_pure ⟨plainId_quiet PySem.F.plain_extend_loop _, codeAny_extend_loopS W.toS hn S hSf res items.size 0 _ #[] c₀ rfl (Nat.zero_le _) st hS (ItemsOf.nil _) fun s' acc' c' hm hS' hacc => ?_⟩
  rw [Moved.eq_with hm]
  refine hR s'.heap s'.toks acc' c' (fun b o hb hbI e => hm.heap b o (fun hmem => ?_) e) hS' hacc
  rcases List.mem_cons.mp hmem with e' | hmem
  · exact hb e'
  · exact hbI (List.mem_singleton.mp hmem)
theorem init_rev {R : Result → Shared → Prop} (hh : A.handled = none) (hne : l ≠ I) (hi : s.heap.IsRevIter I l ((items.size : Int) - 1)) (hl : s.heap.IsList l items) (S : Addr) (hSI : S ≠ I) (hSl : S ≠ l) (hS : s.heap.get? S = some { cls := .type "list", data := .seq #[] })
    (hR : ∀ h' tk acc' c', (∀ b o, b ≠ S → b ≠ I → s.heap.get? b = some o → h'.get? b = some o) → h'.get? S = some { cls := .type "list", dict := none, data := .seq acc' c', slots := #[] } → ItemsOf (RevP items) acc' items.size → R (.ok (.ret .none)) { s with heap := h', toks := tk }) (hn : items.size ≤ sizeLine) :
    wpAny (model prog w) A.in1 (Builtin.«list.__init__» ⟨[.ref S, .ref I], []⟩)
      (fun fin s' => match fin with | .done f => R (.ok f) s' | .again c' => c'.quiet = true ∧ codeAny (model prog w) A c' R s') (fun e s' => R (.error e) s') s := by
  show wpAny _ _ (do let old ← Builtin.List.listItems (.ref S); Builtin.List.listUpdate (.ref S) (fun _ => #[]); letGo old.toList.reverse; Builtin.List.listExtendWith (.ref S) (.ref I) .none) _ _ s
  refine wpAny_bind ?_
  unfold Builtin.List.listItems
  refine wpAny_bind (wpAny_seqItems hS rfl (wpAny_pure ?_))
  show wpAny _ _ (updateSeq S (fun _ => #[]) >>= fun _ => letGo (#[] : Array Value).toList.reverse >>= fun _ => Builtin.List.listExtendWith (.ref S) (.ref I) .none) _ _ s
  refine wpAny_bind (wpAny_updateSeq hS rfl ?_)
  have hS₂ := Heap.get?_update_self (Obj.mapSeq (fun _ => (#[] : Array Value))) hS rfl
  have oth : ∀ b o, b ≠ S → s.heap.get? b = some o → (s.heap.update S (Obj.mapSeq (fun _ => (#[] : Array Value)))).get? b = some o :=
    fun b o hb e => (Heap.get?_update_other _ _ (Ne.symm hb)).trans e
  refine wpAny_bind (wpAny_letGo ?_)
  refine extend_rev hh hne (hi.at fun o e => oth I o hSI.symm e) (hl.at fun o e => oth l o hSl.symm e) S hSI hSl .none _ hS₂ (fun h' tk acc' c' hk hS' hacc => ?_) hn
  exact hR h' tk acc' c' (fun b o hb hbI e => hk b o hb hbI (oth b o hb e)) hS' hacc
theorem call_list_rev {Q : Value → Shared → Prop} (hh : A.handled = none) (hne : l ≠ I) (hi : s.heap.IsRevIter I l ((items.size : Int) - 1)) (hl : s.heap.IsList l items) (hn : items.size ≤ sizeLine)
    (hQ : ∀ h' tk acc' c', (∀ b o, b ≠ I → s.heap.get? b = some o → h'.get? b = some o) → h'.get? s.heap.objs.size = some { cls := .type "list", dict := none, data := .seq acc' c', slots := #[] } → ItemsOf (RevP items) acc' items.size → Q (.ref s.heap.objs.size) { s with heap := h', toks := tk }) :
    wpAny (model prog w) A (call (.type "list") [.ref I]) Q E s := by
  refine callType_codes (Q₁ := fun obj s₁ => obj = .ref s.heap.objs.size ∧ s₁ = { s with heap := s.heap.push { cls := .type "list", data := .seq #[] } }) PySem.F.called_list (PySem.F.typeCall_list_1 _) PySem.F.entry_list_init
    (code_list_new _ ⟨rfl, rfl⟩) fun obj s₁ h₁ => ?_
  obtain ⟨rfl, rfl⟩ := h₁
  have hS : (s.heap.push { cls := .type "list", data := .seq #[] }).get? s.heap.objs.size = some { cls := .type "list", data := .seq #[] } := Heap.get?_push_size _ rfl
  have ltI : I < s.heap.objs.size := let ⟨_, ho, _⟩ := hi; Heap.lt_size ho
  have ltl : l < s.heap.objs.size := let ⟨_, ho, _⟩ := hl; Heap.lt_size ho
  refine ⟨⟨_, hS, rfl⟩, PySem.F.args_list_init_2 _ _, init_rev (A := A.in1) hh hne (hi.at fun o e => Heap.get?_push_of_some _ e) (hl.at fun o e => Heap.get?_push_of_some _ e) _ (Nat.ne_of_gt ltI) (Nat.ne_of_gt ltl) hS (fun h' tk acc' c' hk hS' hacc => ?_) hn⟩
  exact ⟨rfl, hQ h' tk acc' c' (fun b o hb e => hk b o (Nat.ne_of_lt (Heap.lt_size e)) hb (Heap.get?_push_of_some _ e)) hS' hacc⟩
end
section
variable {X : Cx} {e : Expr} {te : TE}
def tLRev (K : PySem.W.Frag) (te : TE) : TE := fun σ H Q => te σ H fun x H1 => ∃ (a : Addr) (vs : List V), x = .ref a ∧ SqL K H1 a vs ∧ ∀ l, H1 l = none → Q (.ref l) (upd H1 l (.lst vs.reverse))
theorem pe_lrev {p1 p2 q1 q2 : Pos} (hc : X.calm = true) (g1 : Gl X "list") (m1 : X.mg "list" = none) (g2 : Gl X "reversed") (m2 : X.mg "reversed" = none) (he : PE X e te) (h1 : starEach [e] X.env = [(false, eval e X.env)] := by rfl)
    (h2 : starEach [.Call (.Name "reversed" p2) [e] [] q2] X.env = [(false, eval (.Call (.Name "reversed" p2) [e] [] q2) X.env)] := by rfl) : PE X (.Call (.Name "list" p1) [.Call (.Name "reversed" p2) [e] [] q2] [] q1) (tLRev X.K te) := by
  intro pins s σ H Q I h
  refine wpAny_Call_Name_kw (ld_blt I g1 m1 boot_list ?_)
  refine PyProof.Rows.callWith_type1 ?_ h2 rfl
  rw [h2]
  show wpAny (model X.prog X.w) _ (spliced ((false, eval (.Call (.Name "reversed" p2) [e] [] q2) X.env) :: backTo q1 (starEach [] X.env))) _ _ s
  refine Calls.spliced_cons ?_
  refine wpAny_Call_Name_kw (ld_blt I g2 m2 boot_reversed ?_)
  refine PyProof.Rows.callWith_type1 ?_ h1 rfl
  rw [h1]
  show wpAny (model X.prog X.w) _ (spliced ((false, eval e X.env) :: backTo q2 (starEach [] X.env))) _ _ s
  refine Calls.spliced_cons (thn (he pins s σ H _ I h) fun u s1 ⟨x, H1, I1, r1, q⟩ => ?_)
  obtain ⟨a, vs, rfl, hq, q⟩ := q
  cases r1
  refine Calls.spliced_nil ?_
  obtain ⟨its, rv, pl, hz⟩ := I1.list hq
  have hl : its.length = vs.length := rv.length.symm
  have hh := I1.ok.hd hc
  have lt : a < s1.heap.objs.size := let ⟨_, ho, _⟩ := pl.isList; Heap.lt_size ho
  refine call_reversed_list pl.isList ?_
  refine Calls.spliced_nil ?_
  refine call_list_rev (items := its.toArray) (I := s1.heap.objs.size) (l := a) hh (Nat.ne_of_lt lt) ⟨_, Heap.get?_push_size _ rfl, rfl, rfl⟩ (pl.isList.at fun o e => Heap.get?_push_of_some _ e) (by simp only [List.size_toArray]; omega) fun h2 tk acc c kp hS it => ?_
  have sz : (s1.heap.push (revObj a ((its.toArray.size : Int) - 1))).objs.size = s1.heap.objs.size + 1 := Heap.size_push ..
  have ea : acc.toList = its.reverse := by
    have l1 : acc.size = its.length := by rw [it.1]; simp
    apply List.ext_getElem?
    intro j
    by_cases hj : j < acc.size
    · have e1 : acc[j]? = some acc[j] := Array.getElem?_eq_getElem hj
      have := it.2 j _ e1
      rw [Array.getElem?_toList, e1, List.getElem?_reverse (by omega)]
      simpa using this.symm
    · rw [List.getElem?_eq_none (by simpa using hj), List.getElem?_eq_none (by rw [List.length_reverse]; omega)]
  refine ⟨.ref (s1.heap.push (revObj a ((its.toArray.size : Int) - 1))).objs.size, _, I1.laid (a := (s1.heap.push (revObj a ((its.toArray.size : Int) - 1))).objs.size) (o := .lst vs.reverse) (t' := tk) (fun b o z => kp b o (Nat.ne_of_lt (Heap.lt_size z)) (Heap.get?_push_of_some _ z)) (by rw [sz]; omega) ?_, rfl, q _ (I1.hok.fresh (by rw [sz]; omega))⟩
  exact ⟨by rw [List.length_reverse]; exact hz, acc.toList, c, by rw [ea]; exact rv.reverse, hS⟩
end
end L2
set_option maxHeartbeats 4000000
namespace K22
open PySem L2
theorem Ats.rev {H : Hp} : ∀ {l : List Tr} {vs : List V}, Ats H l vs → Ats H l.reverse vs.reverse
  | [], vs, h => by
    unfold Ats at h
    subst h
    exact Ats.nil H
  | t :: ts, vs, h => by
    unfold Ats at h
    obtain ⟨v, ws, rfl, h1, h2⟩ := h
    rw [List.reverse_cons, List.reverse_cons]
    exact Ats.app (Ats.cons h1 (Ats.nil H)) (Ats.rev h2)
theorem nine_log : ∀ i : Fin 9, (0 + ((i : Nat) : Int)).natAbs.log2 < 1920 := by decide +kernel
theorem nine_len : ∀ i : Fin 9, (Str.ofString "a").length + (Str.ofString (toString (0 + ((i : Nat) : Int)))).length ≤ 100 ∧ (Str.ofString "a" ++ Str.ofString (toString (0 + ((i : Nat) : Int)))).length ≤ 100 := by decide +kernel
section
variable {P : Program} {w : World} {K : PySem.W.Frag} {mg : Str → Option Value} {base : Heap} {f fOff : Addr} {fd dOff : FuncData}
theorem scSpe : FnScope ["_law_stuff_here", "_law_number", "_law_way", "_law_more", "_law_at"] ["_law_stuff_here", "_law_number"] (defScope sSpe) := ⟨rfl, rfl, rfl, by decide +kernel, rfl, by decide +kernel, by decide +kernel⟩
theorem ok_Spe (F : Fun K "_law_spoiled_entries" "_law_spoiled_entries" sSpe f fd) (hOff : Has K mg "_law_off" sOff ["_law_number", "_law_low", "_law_high"] fOff dOff) (GOff : FnOk P w K mg base CX0 1 fOff dOff ["_law_number", "_law_low", "_law_high"] spOff) (T : Txt mg) : FnOk P w K mg base CX0 2 f fd ["_law_stuff_here", "_law_number"] spSpe := by
  refine F.ok scSpe (fun vs H Q E h => ?_) (fun cdv A outer s H vs Q E hr h => ?_)
  · obtain ⟨L, n, H0, rfl, _⟩ := h
    rfl
  obtain ⟨L, n, H0, rfl, n0, n1, s0, hL0, ⟨born, m, el, as, es, eL, ee, lg, nd, hr0, ha0, ob, m0, m1, l8, oke, ris⟩, q⟩ := h
  refine ⟨_, (pss_cons (ps_set (i := 2) scSpe.nd rfl (Or.inl rfl) (pe_op op_mod (pv 1) pe_int))
    (pss_cons (ps_set (i := 3) scSpe.nd rfl (Or.inl rfl) (pe_op op_fdiv (pv 1) pe_int))
    (pss_cons (ps_if (PW.pt (pw_or (pt_cmpR op_eq (pv 2) pe_int (nomark _)) (pw_or1 (pt_cmpR (op_eqE (hu_of hr |> Nat.lt_of_succ_lt)) (pe_ix ix_list (pv 0) pe_int (fun _ _ => rfl)) (pe_lst pa_nil) (nomark _)))))
    (pss_cons (ps_asg (pe_call GOff (hr.mono (by decide)) rfl hOff.nm hOff.fn.kp hOff.bd .nil pass0 (pa_cons (pv 3) (pa_cons pe_int (pa_cons pe_int pa_nil)))) (pg_sub (pv 0) pe_int set_list))
    (pss_one ps_retN))
    pss_nil)
    (pss_cons (ps_set (i := 4) scSpe.nd rfl (Or.inl rfl) (pe_op op_mod (pe_op op_fdiv (pv 1) pe_int) (pe_callB call_len_seq rfl T.len PySem.boot_len (pa_cons (pe_ix ix_list (pv 0) pe_int (fun _ _ => rfl)) pa_nil))))
    (pss_one (ps_if (pt_cmpR op_eq (pv 2) pe_int (nomark _))
    (pss_one (ps_asg (pe_ix ix_list (pe_lst (pa_cons pe_str (pa_cons pe_str (pa_cons pe_str (pa_cons pe_str (pa_cons pe_non (pa_cons pe_int pa_nil))))))) (pe_op op_mod (pv 3) pe_int) (fun _ _ => rfl)) (pg_sub (pe_ix ix_list (pe_ix ix_list (pv 0) pe_int (fun _ _ => rfl)) (pv 4) (fun _ _ => rfl)) pe_int set_list)))
    (pss_one (ps_if (pt_cmpR op_eq (pv 2) pe_int (nomark _))
    (pss_one (ps_asg (pe_ix ix_list (pe_lst (pa_cons pe_str (pa_cons pe_str (pa_cons pe_non (pa_cons pe_str (pa_cons pe_int pa_nil)))))) (pe_op op_mod (pv 3) pe_int) (fun _ _ => rfl)) (pg_sub (pe_ix ix_list (pe_ix ix_list (pv 0) pe_int (fun _ _ => rfl)) (pv 4) (fun _ _ => rfl)) pe_int set_list)))
    (pss_one (ps_if (pt_cmpR op_eq (pv 2) pe_int (nomark _))
    (pss_one (ps_asg (pe_call GOff (hr.mono (by decide)) rfl hOff.nm hOff.fn.kp hOff.bd .nil pass0 (pa_cons (pv 3) (pa_cons pe_int (pa_cons pe_int pa_nil)))) (pg_sub (pe_ix ix_list (pe_ix ix_list (pv 0) pe_int (fun _ _ => rfl)) (pv 4) (fun _ _ => rfl)) pe_int set_list)))
    (pss_one (ps_if (pt_cmpR op_eq (pv 2) pe_int (nomark _))
    (pss_one (ps_asg (pe_slice sl_list (pe_ix ix_list (pe_ix ix_list (pv 0) pe_int (fun _ _ => rfl)) (pv 4) (fun _ _ => rfl)) po_none (po_some pe_int)) (pg_sub (pe_ix ix_list (pv 0) pe_int (fun _ _ => rfl)) (pv 4) set_list)))
    (pss_one (ps_if (pt_cmpR op_eq (pv 2) pe_int (nomark _))
    (pss_one (ps_asg (pe_op op_cat (pe_slice sl_list (pe_ix ix_list (pv 0) pe_int (fun _ _ => rfl)) po_none (po_some (pe_op op_add (pv 4) pe_int))) (pe_slice sl_list (pe_ix ix_list (pv 0) pe_int (fun _ _ => rfl)) (po_some (pv 4)) po_none)) (pg_sub (pv 0) pe_int set_list)))
    (pss_one (ps_if (PW.pt (pw_and (pt_cmpR op_gt (pe_callB call_len_seq rfl T.len PySem.boot_len (pa_cons (pe_ix ix_list (pv 0) pe_int (fun _ _ => rfl)) pa_nil)) pe_int (nomark _)) (pw_and1 (pt_cmpR op_eq (pe_op op_mod (pv 3) pe_int) pe_int (nomark _)))))
    (pss_one (ps_asg (pe_lrev rfl rfl T.lst rfl T.rev (pe_ix ix_list (pv 0) pe_int (fun _ _ => rfl))) (pg_sub (pv 0) pe_int set_list)))
    (pss_one (ps_asg (pe_comp [] [] (pi_range1 rfl T.rng (pa_cons pe_int pa_nil)) (fun _ _ _ _ _ _ => pts_nil)
          (fun _ _ _ _ _ _ => (pe_lst (pa_cons (pe_op op_add_str pe_str (pe_callTy call_str_int rfl T.str PyProof.Rows.boot_str (pa_cons (pv 0) pa_nil))) (pa_cons pe_str (pa_cons pe_int pa_nil)))))
          rfl (by decide +kernel) (by decide +kernel) rfl (by decide +kernel) (fun _ _ z => nomatch z) rfl (by decide +kernel) rfl) (pg_sub (pv 0) pe_int set_list))))))))))))))))))), ?_⟩
  refine ⟨_, rfl, _, _, rfl, rfl, (by show (0 : Int) < 7; decide), ?_⟩
  dsimp only
  refine ⟨_, rfl, _, _, rfl, rfl, ⟨by decide, by decide⟩, ?_⟩
  dsimp only
  have las : as.length = es.length := by rw [lg.1, List.length_map]
  have nel : el ≠ L := fun z => by
    rw [z, eL] at ee
    injection ee with ee
    injection ee with ee
    match as, ee with
    | x :: _, ee => cases ee
  have naL : ∀ a ∈ as, a ≠ L ∧ a ≠ el := fun a ha => by
    obtain ⟨j, hj⟩ := List.mem_iff_getElem?.mp ha
    have lj : j < (es.map ev).length := by
      have := (List.getElem?_eq_some_iff.mp hj).1
      rw [lg.1] at this
      exact this
    have e := lg.2 j a _ hj (List.getElem?_eq_getElem lj)
    rw [List.getElem_map] at e
    refine ⟨fun z => ?_, fun z => ?_⟩
    · rw [z, eL] at e
      injection e with e
      injection e with e
      exact absurd (congrArg List.length e) (by show (4 : Nat) ≠ 3; decide)
    · rw [z, ee] at e
      injection e with e
      injection e with e
      match as, e with
      | x :: _, e => cases e
  -- what a state with the top changed at 2 gives
  have off2 : ∀ {v t H1}, Same H H1 → At H1 t v → wthT t 0 999 = false → Leaf t → Q .non (upd H1 L (.lst [.str "folder", .int born, v, .ref el])) := fun {v t H1} s1 hv wf lf => by
    have kL : ∀ b o, b ≠ L → H1 b = some o → upd H1 L (.lst [.str "folder", .int born, v, .ref el]) b = some o := fun b o nb e => by
      rw [upd_ne nb]
      exact e
    refine q _ (treeN (.int born) t ((es.map q3).map Tr.lst)) (same_over (s0.trans s1) hL0 _) (At.mkL upd_same (Ats.cons (At.str _) (Ats.cons (At.int _) (Ats.cons (At.keepT (fun b u e => kL _ _ (fun z => by rw [z, s1 _ _ eL] at e; cases e) e) lf.2.1 hv) (Ats.cons (At.mkL (kL _ _ nel (s1 _ _ ee)) (ats_ents ((lg.mono s1).keep fun a ha o e => kL _ _ (naL a ha).1 e))) (Ats.nil _)))))) (badN (Leaf.int _) lf (by rw [List.length_map, List.length_map]; omega) (fun u hu => ?_) (.inl wf))
    obtain ⟨l, hl, rfl⟩ := List.mem_map.mp hu
    obtain ⟨e, he, rfl⟩ := List.mem_map.mp hl
    exact EntOk.q3 (oke e he)
  refine ⟨_, rfl, rfl, _, rfl, ite2 (fun c1 => iteT ?_) (fun c1 => ?_)⟩
  · exact ⟨_, rfl, n / 64, 0, 999, rfl, by omega, by omega, by decide, by decide, by decide, fun v t H2 s2 hv wf sf df lf nf => ⟨_, rfl, L, _, 2, 2, rfl, rfl, s2 _ _ eL, rfl, off2 s2 hv wf ⟨sf, nf, lf, df⟩⟩⟩
  refine ⟨_, rfl, L, _, 3, _, rfl, rfl, SqL.of eL, rfl, by decide, fun pf hpf => ⟨el, pf, _, rfl, rfl, SqL.of ((same_new hpf _) _ _ ee), SqL.of upd_same, _, rfl, ?_⟩⟩
  have s2 := same_new hpf (HO.lst [])
  revert s2
  generalize upd H pf (HO.lst []) = H2
  intro s2
  by_cases hne : as = []
  · subst hne
    refine iteT ?_
    exact ⟨_, rfl, n / 64, 0, 999, rfl, by omega, by omega, by decide, by decide, by decide, fun v t H2 s3 hv wf sf df lf nf => ⟨_, rfl, L, _, 2, 2, rfl, rfl, (s2.trans s3) _ _ eL, rfl, off2 (s2.trans s3) hv wf ⟨sf, nf, lf, df⟩⟩⟩
  have deq : decide (as.map V.ref = []) = false := decide_eq_false (fun z => hne (by cases as with | nil => rfl | cons => cases z))
  rw [deq]
  refine iteF ?_
  have lp : 0 < as.length := List.length_pos_iff.mpr hne
  have lmr : (as.map V.ref).length = as.length := List.length_map _
  have eL2 := s2 _ _ eL
  have ee2 := s2 _ _ ee
  refine ⟨_, rfl, _, _, rfl, rfl, ⟨by decide, by decide⟩, _, rfl, L, _, 3, _, rfl, rfl, SqL.of eL2, rfl, el, _, rfl, .inl (SqL.of ee2), ?_⟩
  rw [lmr]
  refine ⟨_, _, rfl, rfl, (by show (0 : Int) < (as.length : Int); omega), ?_⟩
  have b0 := Int.emod_nonneg (n / 8) (show (as.length : Int) ≠ 0 by omega)
  have b1 := Int.emod_lt_of_pos (n / 8) (show 0 < (as.length : Int) by omega)
  dsimp only
  generalize n / 8 % (as.length : Int) = at' at b0 b1
  obtain ⟨i, rfl⟩ := Int.eq_ofNat_of_zero_le b0
  have li : i < as.length := by omega
  have lir : i < es.length := by omega
  obtain ⟨a, ha⟩ : ∃ a, as[i]? = some a := ⟨_, List.getElem?_eq_getElem li⟩
  obtain ⟨r, hri⟩ : ∃ r, es[i]? = some r := ⟨_, List.getElem?_eq_getElem lir⟩
  have ea : H a = some (.lst (ev r)) := lg.2 i a _ ha (by rw [List.getElem?_map, hri]; rfl)
  have ea2 := s2 _ _ ea
  have am := List.mem_of_getElem? ha
  have okr := oke r (List.mem_of_getElem? hri)
  have atR : atI (as.map V.ref) (i : Int) = some (.ref a) := atI_nat (by rw [List.getElem?_map, ha]; rfl)
  have inner : ∀ {j v t H3}, Same H H3 → At H3 t v → Leaf t → entFl (.tup ((q3 r).set j t)) = true → entP (.tup ((q3 r).set j t)) = false → Q .non (upd H3 a (.lst ((ev r).set j v))) := fun {j v t H3} s3 hv lf hf hp => by
    have kt : ∀ q u, H3 q = some (.tup u) → upd H3 a (.lst ((ev r).set j v)) q = some (.tup u) := fun q u e => by
      rw [upd_ne (fun z => by rw [z, s3 _ _ ea] at e; cases e)]
      exact e
    refine q _ (treeN (.int born) (.int m) (((es.map q3).map Tr.lst).set i (.lst ((q3 r).set j t)))) (same_over (s0.trans s3) (ha0 a am) _) (At.mkL (vs := [.str "folder", .int born, .int m, .ref el]) (by rw [upd_ne (Ne.symm (naL a am).1)]; exact s3 _ _ eL) (Ats.cons (At.str _) (Ats.cons (At.int _) (Ats.cons (At.int _) (Ats.cons (At.mkL (by rw [upd_ne (Ne.symm (naL a am).2)]; exact s3 _ _ ee) (ats_innerE (lg.mono s3) nd ha hri (At.keepT kt lf.2.1 hv))) (Ats.nil _)))))) (badEnt (Leaf.int _) l8 oke lir (by rw [List.length_set]; show (3 : Nat) ≤ 100; decide) (fun x hx => ?_) hf hp)
    rcases List.mem_or_eq_of_mem_set hx with hx | rfl
    · exact q3_leaf okr x hx
    · exact lf
  -- the list of the entries exchanged
  have outer : ∀ {ts vs p H3}, Same H H3 → H3 p = some (.lst vs) → p ≠ L → Ats (upd H3 L (.lst [.str "folder", .int born, .int m, .ref p])) ts vs → Bad (treeN (.int born) (.int m) ts) → Q .non (upd H3 L (.lst [.str "folder", .int born, .int m, .ref p])) := fun {ts vs p H3} s3 e np k b => q _ _ (same_over (s0.trans s3) hL0 _) (At.mkL upd_same (Ats.cons (At.str _) (Ats.cons (At.int _) (Ats.cons (At.int _) (Ats.cons (At.mkL (by rw [upd_ne np]; exact e) k) (Ats.nil _)))))) b
  refine ⟨_, rfl, rfl, _, rfl, ite2 (fun c2 => ?_) (fun c2 => ?_)⟩
  · refine ⟨(by show 6 ≤ sizeLine; decide), fun pl hpl => ?_⟩
    have s3 := s2.trans (same_new hpl (HO.lst [V.str "", V.str "A", V.str "a b", V.str "ninesigns", V.non, V.int 7]))
    have hp3 : upd H2 pl (HO.lst [V.str "", V.str "A", V.str "a b", V.str "ninesigns", V.non, V.int 7]) pl = some (.lst [V.str "", V.str "A", V.str "a b", V.str "ninesigns", V.non, V.int 7]) := upd_same
    revert s3 hp3
    generalize upd H2 pl (HO.lst [V.str "", V.str "A", V.str "a b", V.str "ninesigns", V.non, V.int 7]) = H3
    intro s3 hp3
    obtain ⟨v, t, e, hv, lf, k⟩ : ∃ v t, atI [V.str "", V.str "A", V.str "a b", V.str "ninesigns", V.non, V.int 7] (n / 64 % 6) = some v ∧ At H3 t v ∧ Leaf t ∧ wordT t = false := by
      obtain e | e | e | e | e | e : n / 64 % 6 = 0 ∨ n / 64 % 6 = 1 ∨ n / 64 % 6 = 2 ∨ n / 64 % 6 = 3 ∨ n / 64 % 6 = 4 ∨ n / 64 % 6 = 5 := by omega
      · exact ⟨_, .str "", by rw [e]; rfl, At.str _, s100 "", by decide +kernel⟩
      · exact ⟨_, .str "A", by rw [e]; rfl, At.str _, s100 "A", by decide +kernel⟩
      · exact ⟨_, .str "a b", by rw [e]; rfl, At.str _, s100 "a b", by decide +kernel⟩
      · exact ⟨_, .str "ninesigns", by rw [e]; rfl, At.str _, s100 "ninesigns", by decide +kernel⟩
      · exact ⟨_, .non, by rw [e]; rfl, At.non, Leaf.non, rfl⟩
      · exact ⟨_, .int 7, by rw [e]; rfl, At.int _, Leaf.int _, rfl⟩
    exact ⟨_, rfl, _, _, rfl, rfl, (by show (0 : Int) < 6; decide), pl, _, _, v, rfl, rfl, SqL.of hp3, e, _, rfl, L, _, 3, _, rfl, rfl, SqL.of (s3 _ _ eL), rfl, _, rfl, el, _, _, .ref a, rfl, rfl, SqL.of (s3 _ _ ee), atR, a, _, 0, 0, rfl, rfl, s3 _ _ ea, rfl, inner (j := 0) s3 hv lf rfl (by
      show (wordT t && _ && _) = false
      rw [k, Bool.false_and, Bool.false_and])⟩
  refine ⟨_, rfl, rfl, _, rfl, ite2 (fun c3 => ?_) (fun c3 => ?_)⟩
  · refine ⟨(by show 5 ≤ sizeLine; decide), fun pl hpl => ?_⟩
    have s3 := s2.trans (same_new hpl (HO.lst [V.str "cells", V.str "", V.non, V.str "File", V.int 1]))
    have hp3 : upd H2 pl (HO.lst [V.str "cells", V.str "", V.non, V.str "File", V.int 1]) pl = some (.lst [V.str "cells", V.str "", V.non, V.str "File", V.int 1]) := upd_same
    revert s3 hp3
    generalize upd H2 pl (HO.lst [V.str "cells", V.str "", V.non, V.str "File", V.int 1]) = H3
    intro s3 hp3
    obtain ⟨v, t, e, hv, lf, fl, k⟩ : ∃ v t, atI [V.str "cells", V.str "", V.non, V.str "File", V.int 1] (n / 64 % 5) = some v ∧ At H3 t v ∧ Leaf t ∧ flatT t = true ∧ (strIs t "folder" || strIs t "file") = false := by
      obtain e | e | e | e | e : n / 64 % 5 = 0 ∨ n / 64 % 5 = 1 ∨ n / 64 % 5 = 2 ∨ n / 64 % 5 = 3 ∨ n / 64 % 5 = 4 := by omega
      · exact ⟨_, .str "cells", by rw [e]; rfl, At.str _, s100 "cells", rfl, by decide +kernel⟩
      · exact ⟨_, .str "", by rw [e]; rfl, At.str _, s100 "", rfl, by decide +kernel⟩
      · exact ⟨_, .non, by rw [e]; rfl, At.non, Leaf.non, rfl, rfl⟩
      · exact ⟨_, .str "File", by rw [e]; rfl, At.str _, s100 "File", rfl, by decide +kernel⟩
      · exact ⟨_, .int 1, by rw [e]; rfl, At.int _, Leaf.int _, rfl, rfl⟩
    exact ⟨_, rfl, _, _, rfl, rfl, (by show (0 : Int) < 5; decide), pl, _, _, v, rfl, rfl, SqL.of hp3, e, _, rfl, L, _, 3, _, rfl, rfl, SqL.of (s3 _ _ eL), rfl, _, rfl, el, _, _, .ref a, rfl, rfl, SqL.of (s3 _ _ ee), atR, a, _, 1, 1, rfl, rfl, s3 _ _ ea, rfl, inner (j := 1) s3 hv lf fl (by
      show (_ && (strIs t "folder" || strIs t "file") && _) = false
      rw [k, Bool.and_false, Bool.false_and])⟩
  refine ⟨_, rfl, rfl, _, rfl, ite2 (fun c4 => ?_) (fun c4 => ?_)⟩
  · refine ⟨_, rfl, n / 64, 2, 599, rfl, by omega, by omega, by decide, by decide, by decide, fun v t H3 s3 hv wf sf df lf nf => ?_⟩
    have s23 := s2.trans s3
    refine ⟨_, rfl, L, _, 3, _, rfl, rfl, SqL.of (s23 _ _ eL), rfl, _, rfl, el, _, _, .ref a, rfl, rfl, SqL.of (s23 _ _ ee), atR, a, _, 2, 2, rfl, rfl, s23 _ _ ea, rfl, inner (j := 2) s23 hv ⟨sf, nf, lf, df⟩ rfl ?_⟩
    show (_ && wthT t 2 599) = false
    rw [wf, Bool.and_false]
  refine ⟨_, rfl, rfl, _, rfl, ite2 (fun c5 => ?_) (fun c5 => ?_)⟩
  · refine ⟨_, rfl, L, _, 3, _, rfl, rfl, SqL.of eL2, rfl, _, rfl, el, _, _, .ref a, rfl, rfl, SqL.of ee2, atR, 2, rfl, a, _, rfl, SqL.of ea2, fun pn hpn => ?_⟩
    rw [show cutV (ev r) none (some 2) = [.str r.1, .str r.2.1] from cut_to (ev r) 2]
    have s4 := s2.trans (same_new hpn (HO.lst [.str r.1, .str r.2.1]))
    have en : upd H2 pn (HO.lst [.str r.1, .str r.2.1]) pn = some (.lst [.str r.1, .str r.2.1]) := upd_same
    have npr : pn ≠ el := fun z => by rw [z, ee2] at hpn; cases hpn
    revert s4 en
    generalize upd H2 pn (HO.lst [.str r.1, .str r.2.1]) = H4
    intro s4 en
    refine ⟨_, rfl, L, _, 3, _, rfl, rfl, SqL.of (s4 _ _ eL), rfl, _, rfl, el, _, _, i, rfl, rfl, s4 _ _ ee, by rw [lmr]; exact ixN_nat (i := (i : Int)) (by omega) (by omega), ?_⟩
    have lg4 : LgAt (upd H4 el (.lst ((as.map V.ref).set i (.ref pn)))) as (es.map ev) := (lg.mono s4).keep fun b hb o e => by
      rw [upd_ne (naL b hb).2]
      exact e
    have en4 : upd H4 el (.lst ((as.map V.ref).set i (.ref pn))) pn = some (.lst [.str r.1, .str r.2.1]) := by
      rw [upd_ne npr]
      exact en
    refine q _ (treeN (.int born) (.int m) (((es.map q3).map Tr.lst).set i (.lst [.str r.1, .str r.2.1]))) (same_over (s0.trans s4) hr0 _) (At.mkL (vs := [.str "folder", .int born, .int m, .ref el]) (by rw [upd_ne (Ne.symm nel)]; exact s4 _ _ eL) (Ats.cons (At.str _) (Ats.cons (At.int _) (Ats.cons (At.int _) (Ats.cons (At.mkL upd_same (ats_set (ats_ents lg4) (fun _ _ _ _ _ h => h) (At.mkL en4 (Ats.cons (At.str _) (Ats.cons (At.str _) (Ats.nil _)))))) (Ats.nil _)))))) (badEnt (Leaf.int _) l8 oke lir (by show (2 : Nat) ≤ 100; decide) (fun x hx => ?_) rfl rfl)
    refine q3_leaf okr x ?_
    simp only [List.mem_cons, List.not_mem_nil, or_false] at hx
    rcases hx with rfl | rfl
    · exact List.mem_cons_self ..
    · exact List.mem_cons_of_mem _ (List.mem_cons_self ..)
  refine ⟨_, rfl, rfl, _, rfl, ite2 (fun c6 => ?_) (fun c6 => ?_)⟩
  · refine ⟨_, rfl, L, _, 3, _, rfl, rfl, SqL.of eL2, rfl, _, rfl, _, _, rfl, rfl, _, rfl, el, _, rfl, SqL.of ee2, fun p1 hp1 => ?_⟩
    rw [show (i : Int) + 1 = ((i + 1 : Nat) : Int) from by omega, cut_to]
    have t1 := same_new hp1 (HO.lst ((as.map V.ref).take (i + 1)))
    refine ⟨_, rfl, L, _, 3, _, rfl, rfl, SqL.of (t1 _ _ eL2), rfl, _, rfl, _, rfl, el, _, rfl, SqL.of (t1 _ _ ee2), fun p2 hp2 => ?_⟩
    rw [cut_from]
    have t2 := same_new hp2 (HO.lst ((as.map V.ref).drop i))
    refine ⟨p1, p2, _, _, rfl, rfl, t2 _ _ upd_same, upd_same, Nat.le_of_lt (small (by rw [List.length_take, List.length_drop, lmr]; omega)), fun p3 hp3 => ?_⟩
    have t3 := s2.trans (t1.trans (t2.trans (same_new hp3 (HO.lst ((as.map V.ref).take (i + 1) ++ (as.map V.ref).drop i)))))
    have np3 : p3 ≠ L := fun z => by rw [z, t2 _ _ (t1 _ _ eL2)] at hp3; cases hp3
    refine ⟨_, rfl, L, _, 3, 3, rfl, rfl, t3 _ _ eL, rfl, ?_⟩
    refine outer (ts := ((es.take (i + 1) ++ es.drop i).map q3).map Tr.lst) t3 upd_same np3 ?_ (badEnts (Leaf.int _) (by rw [List.length_append, List.length_take, List.length_drop]; omega) (fun e he => ?_) (.inr ?_))
    · have k := ats_ents ((lg.mono t3).keep (H' := upd _ L (.lst [.str "folder", .int born, .int m, .ref p3])) fun b hb o e => by
        rw [upd_ne (naL b hb).1]
        exact e)
      rw [List.map_append, List.map_append, List.map_take, List.map_drop, List.map_take, List.map_drop]
      exact Ats.app (k.drop i) (k.take (i + 1))
    · rcases List.mem_append.mp he with he | he
      · exact oke e (List.mem_of_mem_take he)
      · exact oke e (List.mem_of_mem_drop he)
    · rw [List.map_append, List.map_take, List.map_drop]
      exact twice_ris (a := r.1) (by rw [List.getElem?_map, hri]; rfl)
  refine ⟨_, rfl, L, _, 3, _, rfl, rfl, SqL.of eL2, rfl, el, _, rfl, .inl (SqL.of ee2), ?_⟩
  rw [lmr]
  refine ⟨_, _, rfl, rfl, _, rfl, ite2 (fun c7 => ⟨_, rfl, _, _, rfl, rfl, (by show (0 : Int) < 2; decide), rfl, _, rfl, ite2 (fun c8 => ?rev) (fun c8 => ?n2)⟩) (fun c7 => ?n1)⟩
  case rev =>
    have c7' : 1 < as.length := by
      have := of_decide_eq_true c7
      omega
    refine ⟨_, rfl, L, _, 3, _, rfl, rfl, SqL.of eL2, rfl, el, _, rfl, SqL.of ee2, fun pr hpr => ?_⟩
    have s3 := s2.trans (same_new hpr (HO.lst (as.map V.ref).reverse))
    have npr : pr ≠ L := fun z => by rw [z, eL2] at hpr; cases hpr
    refine ⟨_, rfl, L, _, 3, 3, rfl, rfl, s3 _ _ eL, rfl, ?_⟩
    refine outer (ts := (es.reverse.map q3).map Tr.lst) s3 upd_same npr ?_ (badEnts (Leaf.int _) (by rw [List.length_reverse]; omega) (fun e he => oke e (List.mem_reverse.mp he)) (.inr ?_))
    · have k := ats_ents ((lg.mono s3).keep (H' := upd _ L (.lst [.str "folder", .int born, .int m, .ref pr])) fun b hb o e => by
        rw [upd_ne (naL b hb).1]
        exact e)
      rw [List.map_reverse, List.map_reverse]
      exact Ats.rev k
    · rw [List.map_reverse]
      exact rev_ris (by rw [List.length_map]; omega) ris
  case n1 | n2 =>
    refine ⟨9, rfl, by decide, by decide, fun p hp => ?_⟩
    have npL : p ≠ L := fun z => by rw [z, eL2] at hp; cases hp
    refine comp_rng (fun i us H5 => ∃ (as5 : List Addr) (es5 : List En), Same H2 H5 ∧ H5 p = some (.lst us) ∧ us = as5.map V.ref ∧ LgAt H5 as5 (es5.map ev) ∧ p ∉ as5 ∧ L ∉ as5 ∧ es5.length = i ∧ ∀ e ∈ es5, e.1.length ≤ 100 ∧ e.2.1 = Str.ofString "file") ⟨[], [], same_new hp _, upd_same, rfl, ⟨rfl, fun i a vs h => by cases h⟩, by simp, by simp, rfl, by simp⟩ ?_ ?_
    · rintro i us H5 hi ⟨as5, es5, s5, e5, rfl, lg5, np5, nL5, le5, oe5⟩
      have hi' : i < 9 := hi
      have las5 : as5.length = es5.length := by rw [lg5.1, List.length_map]
      have sl : (Str.ofString "a").length + (Str.ofString (toString (0 + (i : Int)))).length ≤ 100 ∧ (Str.ofString "a" ++ Str.ofString (toString (0 + (i : Int)))).length ≤ 100 := nine_len ⟨i, hi'⟩
      refine ttT ⟨_, rfl, _, rfl, nine_log ⟨i, hi'⟩, _, _, rfl, rfl, Nat.le_of_lt (small (by have := sl.1; omega)), (by show 3 ≤ sizeLine; decide), fun pn hpn => ?_⟩
      have s6 := same_new hpn (HO.lst [V.str (Str.ofString "a" ++ Str.ofString (toString (0 + (i : Int)))), V.str "file", V.int 5])
      have npn : pn ≠ p := fun z => by rw [z, e5] at hpn; cases hpn
      have npnL : pn ≠ L := fun z => by rw [z, s5 _ _ eL2] at hpn; cases hpn
      refine ⟨s6 _ _ e5, small (by rw [List.length_map]; omega), as5 ++ [pn], es5 ++ [(Str.ofString "a" ++ Str.ofString (toString (0 + (i : Int))), Str.ofString "file", 5)], same_over (s5.trans s6) hp _, upd_same, by rw [List.map_append]; rfl, ?_, ?_, ?_, by simp [le5], fun e he => ?_⟩
      · rw [List.map_append]
        refine LgAt.snoc ((lg5.mono s6).keep fun b hb o e => ?_) ?_
        · rw [upd_ne (show b ≠ p from fun z => np5 (z ▸ hb))]
          exact e
        · rw [upd_ne npn]
          exact upd_same
      · intro z
        rcases List.mem_append.mp z with z | z
        · exact np5 z
        · exact npn (List.mem_singleton.mp z).symm
      · intro z
        rcases List.mem_append.mp z with z | z
        · exact nL5 z
        · exact npnL (List.mem_singleton.mp z).symm
      · rcases List.mem_append.mp he with he | he
        · exact oe5 e he
        · rw [List.mem_singleton.mp he]
          exact ⟨sl.2, rfl⟩
    · rintro us H5 ⟨as5, es5, s5, e5, rfl, lg5, np5, nL5, le5, oe5⟩
      refine ⟨_, rfl, L, _, 3, 3, rfl, rfl, s5 _ _ eL2, rfl, outer (ts := (es5.map q3).map Tr.lst) (s2.trans s5) e5 npL (ats_ents (lg5.keep fun b hb o e => ?_)) (badN (Leaf.int _) (Leaf.int _) (by rw [List.length_map, List.length_map]; have : es5.length = 9 := le5; omega) (fun t ht => ?_) (.inr (.inl (by rw [List.length_map, List.length_map]; have : es5.length = 9 := le5; omega))))⟩
      · rw [upd_ne (show b ≠ L from fun z => nL5 (z ▸ hb))]
        exact e
      · obtain ⟨l, hl, rfl⟩ := List.mem_map.mp ht
        obtain ⟨e, he, rfl⟩ := List.mem_map.mp hl
        have o := oe5 e he
        exact ⟨_, rfl, by show (3 : Nat) ≤ 100; decide, forall3 (Leaf.str o.1) (Leaf.str (by rw [o.2]; decide +kernel)) (Leaf.int _), rfl⟩
end
end K22
set_option maxHeartbeats 8000000
namespace K22
open PySem L2

theorem all_mk {l : PySem.W.OpenLaw} {w : World} {K : PySem.W.Frag} {h : Heap} {mg : Str → Option Value} {fa fWho fWth fSta fTof fRis fWor fEnd fEip fGoe fItp fIst fIsr fCll fIcs fIfs fEnt fIos fKno fCel fMix fNea fOff fWds fRow fStu fFro fSpc fSpr fSpe fSpo fOth fLis fLaw : Addr} (X : K.In h) (G : h.Ns mainGlobals mg) (hfa : mg "law" = some (.ref fa))
    {odWho anWho odWth anWth odSta anSta odTof anTof odRis anRis odWor anWor odEnd anEnd odEip anEip odGoe anGoe odItp anItp odIst anIst odIsr anIsr odCll anCll odIcs anIcs odIfs anIfs odEnt anEnt odIos anIos odKno anKno odCel anCel odMix anMix odNea anNea odOff anOff odWds anWds odRow anRow odStu anStu odFro anFro odSpc anSpc odSpr anSpr odSpe anSpe odSpo anSpo odOth anOth odLis anLis odLaw anLaw  : Option Addr} {slWho slWth slSta slTof slRis slWor slEnd slEip slGoe slItp slIst slIsr slCll slIcs slIfs slEnt slIos slKno slCel slMix slNea slOff slWds slRow slStu slFro slSpc slSpr slSpe slSpo slOth slLis slLaw  : Array (Option Value)} {ocWho kVWho dcWho pmWho cdWho ctWho ocWth kVWth dcWth pmWth cdWth ctWth ocSta kVSta dcSta pmSta cdSta ctSta ocTof kVTof dcTof pmTof cdTof ctTof ocRis kVRis dcRis pmRis cdRis ctRis ocWor kVWor dcWor pmWor cdWor ctWor ocEnd kVEnd dcEnd pmEnd cdEnd ctEnd ocEip kVEip dcEip pmEip cdEip ctEip ocGoe kVGoe dcGoe pmGoe cdGoe ctGoe ocItp kVItp dcItp pmItp cdItp ctItp ocIst kVIst dcIst pmIst cdIst ctIst ocIsr kVIsr dcIsr pmIsr cdIsr ctIsr ocCll kVCll dcCll pmCll cdCll ctCll ocIcs kVIcs dcIcs pmIcs cdIcs ctIcs ocIfs kVIfs dcIfs pmIfs cdIfs ctIfs ocEnt kVEnt dcEnt pmEnt cdEnt ctEnt ocIos kVIos dcIos pmIos cdIos ctIos ocKno kVKno dcKno pmKno cdKno ctKno ocCel kVCel dcCel pmCel cdCel ctCel ocMix kVMix dcMix pmMix cdMix ctMix ocNea kVNea dcNea pmNea cdNea ctNea ocOff kVOff dcOff pmOff cdOff ctOff ocWds kVWds dcWds pmWds cdWds ctWds ocRow kVRow dcRow pmRow cdRow ctRow ocStu kVStu dcStu pmStu cdStu ctStu ocFro kVFro dcFro pmFro cdFro ctFro ocSpc kVSpc dcSpc pmSpc cdSpc ctSpc ocSpr kVSpr dcSpr pmSpr cdSpr ctSpr ocSpe kVSpe dcSpe pmSpe cdSpe ctSpe ocSpo kVSpo dcSpo pmSpo cdSpo ctSpo ocOth kVOth dcOth pmOth cdOth ctOth ocLis kVLis dcLis pmLis cdLis ctLis ocLaw kVLaw dcLaw pmLaw cdLaw ctLaw  : Value} {gt0 gt1 gt2 gt3 gt4 gt5 gt6 gt7 gt8 gt9 gt10 gt11 gt12 gt13 : PySem.Tok}
   
    (aWho : PySem.W.nsIn K mainGlobals "is_whole" = some (some (.ref fWho)))
    (lWho : K.lookup fWho = some ⟨ocWho, odWho, .func (PySem.W.fnOf "is_whole" "is_whole" (defArgs sWho) (defBody sWho) (defScope sWho) .none kVWho dcWho pmWho anWho cdWho ctWho), slWho⟩)
    (cWho : PySem.W.codeIn K cdWho "is_whole" = true)
    (kWho : PySem.W.keepIn K (.ref fWho) = true)
    (aWth : PySem.W.nsIn K mainGlobals "is_within" = some (some (.ref fWth)))
    (lWth : K.lookup fWth = some ⟨ocWth, odWth, .func (PySem.W.fnOf "is_within" "is_within" (defArgs sWth) (defBody sWth) (defScope sWth) .none kVWth dcWth pmWth anWth cdWth ctWth), slWth⟩)
    (cWth : PySem.W.codeIn K cdWth "is_within" = true)
    (kWth : PySem.W.keepIn K (.ref fWth) = true)
    (aSta : PySem.W.nsIn K mainGlobals "is_stamp" = some (some (.ref fSta)))
    (lSta : K.lookup fSta = some ⟨ocSta, odSta, .func (PySem.W.fnOf "is_stamp" "is_stamp" (defArgs sSta) (defBody sSta) (defScope sSta) .none kVSta dcSta pmSta anSta cdSta ctSta), slSta⟩)
    (cSta : PySem.W.codeIn K cdSta "is_stamp" = true)
    (kSta : PySem.W.keepIn K (.ref fSta) = true)
    (aTof : PySem.W.nsIn K mainGlobals "is_tuple_of" = some (some (.ref fTof)))
    (lTof : K.lookup fTof = some ⟨ocTof, odTof, .func (PySem.W.fnOf "is_tuple_of" "is_tuple_of" (defArgs sTof) (defBody sTof) (defScope sTof) .none kVTof dcTof pmTof anTof cdTof ctTof), slTof⟩)
    (cTof : PySem.W.codeIn K cdTof "is_tuple_of" = true)
    (kTof : PySem.W.keepIn K (.ref fTof) = true)
    (aRis : PySem.W.nsIn K mainGlobals "is_rising" = some (some (.ref fRis)))
    (lRis : K.lookup fRis = some ⟨ocRis, odRis, .func (PySem.W.fnOf "is_rising" "is_rising" (defArgs sRis) (defBody sRis) (defScope sRis) .none kVRis dcRis pmRis anRis cdRis ctRis), slRis⟩)
    (cRis : PySem.W.codeIn K cdRis "is_rising" = true)
    (kRis : PySem.W.keepIn K (.ref fRis) = true)
    (aWor : PySem.W.nsIn K mainGlobals "is_word" = some (some (.ref fWor)))
    (lWor : K.lookup fWor = some ⟨ocWor, odWor, .func (PySem.W.fnOf "is_word" "is_word" (defArgs sWor) (defBody sWor) (defScope sWor) .none kVWor dcWor pmWor anWor cdWor ctWor), slWor⟩)
    (cWor : PySem.W.codeIn K cdWor "is_word" = true)
    (kWor : PySem.W.keepIn K (.ref fWor) = true)
    (aEnd : PySem.W.nsIn K mainGlobals "end_of" = some (some (.ref fEnd)))
    (lEnd : K.lookup fEnd = some ⟨ocEnd, odEnd, .func (PySem.W.fnOf "end_of" "end_of" (defArgs sEnd) (defBody sEnd) (defScope sEnd) .none kVEnd dcEnd pmEnd anEnd cdEnd ctEnd), slEnd⟩)
    (cEnd : PySem.W.codeIn K cdEnd "end_of" = true)
    (kEnd : PySem.W.keepIn K (.ref fEnd) = true)
    (aEip : PySem.W.nsIn K mainGlobals "end_in_piece" = some (some (.ref fEip)))
    (lEip : K.lookup fEip = some ⟨ocEip, odEip, .func (PySem.W.fnOf "end_in_piece" "end_in_piece" (defArgs sEip) (defBody sEip) (defScope sEip) .none kVEip dcEip pmEip anEip cdEip ctEip), slEip⟩)
    (cEip : PySem.W.codeIn K cdEip "end_in_piece" = true)
    (kEip : PySem.W.keepIn K (.ref fEip) = true)
    (aGoe : PySem.W.nsIn K mainGlobals "goes_on" = some (some (.ref fGoe)))
    (lGoe : K.lookup fGoe = some ⟨ocGoe, odGoe, .func (PySem.W.fnOf "goes_on" "goes_on" (defArgs sGoe) (defBody sGoe) (defScope sGoe) .none kVGoe dcGoe pmGoe anGoe cdGoe ctGoe), slGoe⟩)
    (cGoe : PySem.W.codeIn K cdGoe "goes_on" = true)
    (kGoe : PySem.W.keepIn K (.ref fGoe) = true)
    (aItp : PySem.W.nsIn K mainGlobals "is_tree_place" = some (some (.ref fItp)))
    (lItp : K.lookup fItp = some ⟨ocItp, odItp, .func (PySem.W.fnOf "is_tree_place" "is_tree_place" (defArgs sItp) (defBody sItp) (defScope sItp) .none kVItp dcItp pmItp anItp cdItp ctItp), slItp⟩)
    (cItp : PySem.W.codeIn K cdItp "is_tree_place" = true)
    (kItp : PySem.W.keepIn K (.ref fItp) = true)
    (aIst : PySem.W.nsIn K mainGlobals "is_stretch" = some (some (.ref fIst)))
    (lIst : K.lookup fIst = some ⟨ocIst, odIst, .func (PySem.W.fnOf "is_stretch" "is_stretch" (defArgs sIst) (defBody sIst) (defScope sIst) .none kVIst dcIst pmIst anIst cdIst ctIst), slIst⟩)
    (cIst : PySem.W.codeIn K cdIst "is_stretch" = true)
    (kIst : PySem.W.keepIn K (.ref fIst) = true)
    (aIsr : PySem.W.nsIn K mainGlobals "is_row" = some (some (.ref fIsr)))
    (lIsr : K.lookup fIsr = some ⟨ocIsr, odIsr, .func (PySem.W.fnOf "is_row" "is_row" (defArgs sIsr) (defBody sIsr) (defScope sIsr) .none kVIsr dcIsr pmIsr anIsr cdIsr ctIsr), slIsr⟩)
    (cIsr : PySem.W.codeIn K cdIsr "is_row" = true)
    (kIsr : PySem.W.keepIn K (.ref fIsr) = true)
    (aCll : PySem.W.nsIn K mainGlobals "is_cell" = some (some (.ref fCll)))
    (lCll : K.lookup fCll = some ⟨ocCll, odCll, .func (PySem.W.fnOf "is_cell" "is_cell" (defArgs sCll) (defBody sCll) (defScope sCll) .none kVCll dcCll pmCll anCll cdCll ctCll), slCll⟩)
    (cCll : PySem.W.codeIn K cdCll "is_cell" = true)
    (kCll : PySem.W.keepIn K (.ref fCll) = true)
    (aIcs : PySem.W.nsIn K mainGlobals "is_cells_stuff" = some (some (.ref fIcs)))
    (lIcs : K.lookup fIcs = some ⟨ocIcs, odIcs, .func (PySem.W.fnOf "is_cells_stuff" "is_cells_stuff" (defArgs sIcs) (defBody sIcs) (defScope sIcs) .none kVIcs dcIcs pmIcs anIcs cdIcs ctIcs), slIcs⟩)
    (cIcs : PySem.W.codeIn K cdIcs "is_cells_stuff" = true)
    (kIcs : PySem.W.keepIn K (.ref fIcs) = true)
    (aIfs : PySem.W.nsIn K mainGlobals "is_file_stuff" = some (some (.ref fIfs)))
    (lIfs : K.lookup fIfs = some ⟨ocIfs, odIfs, .func (PySem.W.fnOf "is_file_stuff" "is_file_stuff" (defArgs sIfs) (defBody sIfs) (defScope sIfs) .none kVIfs dcIfs pmIfs anIfs cdIfs ctIfs), slIfs⟩)
    (cIfs : PySem.W.codeIn K cdIfs "is_file_stuff" = true)
    (kIfs : PySem.W.keepIn K (.ref fIfs) = true)
    (aEnt : PySem.W.nsIn K mainGlobals "is_entry" = some (some (.ref fEnt)))
    (lEnt : K.lookup fEnt = some ⟨ocEnt, odEnt, .func (PySem.W.fnOf "is_entry" "is_entry" (defArgs sEnt) (defBody sEnt) (defScope sEnt) .none kVEnt dcEnt pmEnt anEnt cdEnt ctEnt), slEnt⟩)
    (cEnt : PySem.W.codeIn K cdEnt "is_entry" = true)
    (kEnt : PySem.W.keepIn K (.ref fEnt) = true)
    (aIos : PySem.W.nsIn K mainGlobals "is_folder_stuff" = some (some (.ref fIos)))
    (lIos : K.lookup fIos = some ⟨ocIos, odIos, .func (PySem.W.fnOf "is_folder_stuff" "is_folder_stuff" (defArgs sIos) (defBody sIos) (defScope sIos) .none kVIos dcIos pmIos anIos cdIos ctIos), slIos⟩)
    (cIos : PySem.W.codeIn K cdIos "is_folder_stuff" = true)
    (kIos : PySem.W.keepIn K (.ref fIos) = true)
    (aKno : PySem.W.nsIn K mainGlobals "is_knot" = some (some (.ref fKno)))
    (lKno : K.lookup fKno = some ⟨ocKno, odKno, .func (PySem.W.fnOf "is_knot" "is_knot" (defArgs sKno) (defBody sKno) (defScope sKno) .none kVKno dcKno pmKno anKno cdKno ctKno), slKno⟩)
    (cKno : PySem.W.codeIn K cdKno "is_knot" = true)
    (kKno : PySem.W.keepIn K (.ref fKno) = true)
    (aCel : PySem.W.nsIn K mainGlobals "_law_cell_at" = some (some (.ref fCel)))
    (lCel : K.lookup fCel = some ⟨ocCel, odCel, .func (PySem.W.fnOf "_law_cell_at" "_law_cell_at" (defArgs sCel) (defBody sCel) (defScope sCel) .none kVCel dcCel pmCel anCel cdCel ctCel), slCel⟩)
    (cCel : PySem.W.codeIn K cdCel "_law_cell_at" = true)
    (kCel : PySem.W.keepIn K (.ref fCel) = true)
    (aMix : PySem.W.nsIn K mainGlobals "_law_mixed" = some (some (.ref fMix)))
    (lMix : K.lookup fMix = some ⟨ocMix, odMix, .func (PySem.W.fnOf "_law_mixed" "_law_mixed" (defArgs sMix) (defBody sMix) (defScope sMix) .none kVMix dcMix pmMix anMix cdMix ctMix), slMix⟩)
    (cMix : PySem.W.codeIn K cdMix "_law_mixed" = true)
    (kMix : PySem.W.keepIn K (.ref fMix) = true)
    (aNea : PySem.W.nsIn K mainGlobals "_law_near" = some (some (.ref fNea)))
    (lNea : K.lookup fNea = some ⟨ocNea, odNea, .func (PySem.W.fnOf "_law_near" "_law_near" (defArgs sNea) (defBody sNea) (defScope sNea) .none kVNea dcNea pmNea anNea cdNea ctNea), slNea⟩)
    (cNea : PySem.W.codeIn K cdNea "_law_near" = true)
    (kNea : PySem.W.keepIn K (.ref fNea) = true)
    (aOff : PySem.W.nsIn K mainGlobals "_law_off" = some (some (.ref fOff)))
    (lOff : K.lookup fOff = some ⟨ocOff, odOff, .func (PySem.W.fnOf "_law_off" "_law_off" (defArgs sOff) (defBody sOff) (defScope sOff) .none kVOff dcOff pmOff anOff cdOff ctOff), slOff⟩)
    (cOff : PySem.W.codeIn K cdOff "_law_off" = true)
    (kOff : PySem.W.keepIn K (.ref fOff) = true)
    (aWds : PySem.W.nsIn K mainGlobals "_law_words" = some (some (.ref fWds)))
    (lWds : K.lookup fWds = some ⟨ocWds, odWds, .func (PySem.W.fnOf "_law_words" "_law_words" (defArgs sWds) (defBody sWds) (defScope sWds) .none kVWds dcWds pmWds anWds cdWds ctWds), slWds⟩)
    (cWds : PySem.W.codeIn K cdWds "_law_words" = true)
    (kWds : PySem.W.keepIn K (.ref fWds) = true)
    (aRow : PySem.W.nsIn K mainGlobals "_law_row" = some (some (.ref fRow)))
    (lRow : K.lookup fRow = some ⟨ocRow, odRow, .func (PySem.W.fnOf "_law_row" "_law_row" (defArgs sRow) (defBody sRow) (defScope sRow) .none kVRow dcRow pmRow anRow cdRow ctRow), slRow⟩)
    (cRow : PySem.W.codeIn K cdRow "_law_row" = true)
    (kRow : PySem.W.keepIn K (.ref fRow) = true)
    (aStu : PySem.W.nsIn K mainGlobals "_law_stuff" = some (some (.ref fStu)))
    (lStu : K.lookup fStu = some ⟨ocStu, odStu, .func (PySem.W.fnOf "_law_stuff" "_law_stuff" (defArgs sStu) (defBody sStu) (defScope sStu) .none kVStu dcStu pmStu anStu cdStu ctStu), slStu⟩)
    (cStu : PySem.W.codeIn K cdStu "_law_stuff" = true)
    (kStu : PySem.W.keepIn K (.ref fStu) = true)
    (aFro : PySem.W.nsIn K mainGlobals "_law_frozen" = some (some (.ref fFro)))
    (lFro : K.lookup fFro = some ⟨ocFro, odFro, .func (PySem.W.fnOf "_law_frozen" "_law_frozen" (defArgs sFro) (defBody sFro) (defScope sFro) .none kVFro dcFro pmFro anFro cdFro ctFro), slFro⟩)
    (cFro : PySem.W.codeIn K cdFro "_law_frozen" = true)
    (kFro : PySem.W.keepIn K (.ref fFro) = true)
    (aSpc : PySem.W.nsIn K mainGlobals "_law_spoiled_cells" = some (some (.ref fSpc)))
    (lSpc : K.lookup fSpc = some ⟨ocSpc, odSpc, .func (PySem.W.fnOf "_law_spoiled_cells" "_law_spoiled_cells" (defArgs sSpc) (defBody sSpc) (defScope sSpc) .none kVSpc dcSpc pmSpc anSpc cdSpc ctSpc), slSpc⟩)
    (cSpc : PySem.W.codeIn K cdSpc "_law_spoiled_cells" = true)
    (kSpc : PySem.W.keepIn K (.ref fSpc) = true)
    (aSpr : PySem.W.nsIn K mainGlobals "_law_spoiled_row" = some (some (.ref fSpr)))
    (lSpr : K.lookup fSpr = some ⟨ocSpr, odSpr, .func (PySem.W.fnOf "_law_spoiled_row" "_law_spoiled_row" (defArgs sSpr) (defBody sSpr) (defScope sSpr) .none kVSpr dcSpr pmSpr anSpr cdSpr ctSpr), slSpr⟩)
    (cSpr : PySem.W.codeIn K cdSpr "_law_spoiled_row" = true)
    (kSpr : PySem.W.keepIn K (.ref fSpr) = true)
    (aSpe : PySem.W.nsIn K mainGlobals "_law_spoiled_entries" = some (some (.ref fSpe)))
    (lSpe : K.lookup fSpe = some ⟨ocSpe, odSpe, .func (PySem.W.fnOf "_law_spoiled_entries" "_law_spoiled_entries" (defArgs sSpe) (defBody sSpe) (defScope sSpe) .none kVSpe dcSpe pmSpe anSpe cdSpe ctSpe), slSpe⟩)
    (cSpe : PySem.W.codeIn K cdSpe "_law_spoiled_entries" = true)
    (kSpe : PySem.W.keepIn K (.ref fSpe) = true)
    (aSpo : PySem.W.nsIn K mainGlobals "_law_spoiled" = some (some (.ref fSpo)))
    (lSpo : K.lookup fSpo = some ⟨ocSpo, odSpo, .func (PySem.W.fnOf "_law_spoiled" "_law_spoiled" (defArgs sSpo) (defBody sSpo) (defScope sSpo) .none kVSpo dcSpo pmSpo anSpo cdSpo ctSpo), slSpo⟩)
    (cSpo : PySem.W.codeIn K cdSpo "_law_spoiled" = true)
    (kSpo : PySem.W.keepIn K (.ref fSpo) = true)
    (aOth : PySem.W.nsIn K mainGlobals "_law_other_kind" = some (some (.ref fOth)))
    (lOth : K.lookup fOth = some ⟨ocOth, odOth, .func (PySem.W.fnOf "_law_other_kind" "_law_other_kind" (defArgs sOth) (defBody sOth) (defScope sOth) .none kVOth dcOth pmOth anOth cdOth ctOth), slOth⟩)
    (cOth : PySem.W.codeIn K cdOth "_law_other_kind" = true)
    (kOth : PySem.W.keepIn K (.ref fOth) = true)
    (aLis : PySem.W.nsIn K mainGlobals "_law_is" = some (some (.ref fLis)))
    (lLis : K.lookup fLis = some ⟨ocLis, odLis, .func (PySem.W.fnOf "_law_is" "_law_is" (defArgs sLis) (defBody sLis) (defScope sLis) .none kVLis dcLis pmLis anLis cdLis ctLis), slLis⟩)
    (cLis : PySem.W.codeIn K cdLis "_law_is" = true)
    (kLis : PySem.W.keepIn K (.ref fLis) = true)
    (aLaw : PySem.W.nsIn K mainGlobals "law" = some (some (.ref fLaw)))
    (lLaw : K.lookup fLaw = some ⟨ocLaw, odLaw, .func (PySem.W.fnOf "law" "law" (defArgs sLaw) (defBody sLaw) (defScope sLaw) .none kVLaw dcLaw pmLaw anLaw cdLaw ctLaw), slLaw⟩)
    (cLaw : PySem.W.codeIn K cdLaw "law" = true)
    (kLaw : PySem.W.keepIn K (.ref fLaw) = true)
    (z0 : PySem.W.nsIn K mainGlobals "isinstance" = some none)
    (z1 : PySem.W.nsIn K mainGlobals "int" = some none)
    (z2 : PySem.W.nsIn K mainGlobals "bool" = some none)
    (z3 : PySem.W.nsIn K mainGlobals "str" = some none)
    (z4 : PySem.W.nsIn K mainGlobals "len" = some none)
    (z5 : PySem.W.nsIn K mainGlobals "range" = some none)
    (z6 : PySem.W.nsIn K mainGlobals "list" = some none)
    (z7 : PySem.W.nsIn K mainGlobals "tuple" = some none)
    (z8 : PySem.W.nsIn K mainGlobals "min" = some none)
    (z9 : PySem.W.nsIn K mainGlobals "max" = some none)
    (z10 : PySem.W.nsIn K mainGlobals "all" = some none)
    (z11 : PySem.W.nsIn K mainGlobals "zip" = some none)
    (z12 : PySem.W.nsIn K mainGlobals "enumerate" = some none)
    (z13 : PySem.W.nsIn K mainGlobals "sum" = some none)
    (z14 : PySem.W.nsIn K mainGlobals "reversed" = some none)
    (gl0 : PySem.W.nsIn K mainGlobals "SIGNS" = some (some (.str sigS gt0)))
    (gl1 : PySem.W.nsIn K mainGlobals "MOST_SIGNS" = some (some (.int 8 gt1)))
    (gl2 : PySem.W.nsIn K mainGlobals "GREATEST" = some (some (.int 4294967295 gt2)))
    (gl3 : PySem.W.nsIn K mainGlobals "MOST_CELLS" = some (some (.int 40 gt3)))
    (gl4 : PySem.W.nsIn K mainGlobals "PIECE_CELLS" = some (some (.int 8 gt4)))
    (gl5 : PySem.W.nsIn K mainGlobals "FIRST_PLACE" = some (some (.int 2 gt5)))
    (gl6 : PySem.W.nsIn K mainGlobals "LAST_PLACE" = some (some (.int 599 gt6)))
    (gl7 : PySem.W.nsIn K mainGlobals "AT" = some (some (.int 0 gt7)))
    (gl8 : PySem.W.nsIn K mainGlobals "LONG" = some (some (.int 1 gt8)))
    (gl9 : PySem.W.nsIn K mainGlobals "PLACE" = some (some (.int 2 gt9)))
    (gl10 : PySem.W.nsIn K mainGlobals "SKIP" = some (some (.int 3 gt10)))
    (gl11 : PySem.W.nsIn K mainGlobals "MOST_CELL" = some (some (.int 999999 gt11)))
    (gl12 : PySem.W.nsIn K mainGlobals "MOST_LIMIT" = some (some (.int 999 gt12)))
    (gl13 : PySem.W.nsIn K mainGlobals "MOST_ENTRIES" = some (some (.int 8 gt13))) :
    ∃ fd : FuncData, (∀ (s : Shared) (v : Value), BindsTo s fd ⟨[v], []⟩ [("_law_script", v)]) ∧ ∀ base : Heap, K.In base → base.Ns mainGlobals mg → FnOk l.prog w K mg base CX0 9 fa fd ["_law_script"] (spLaw K) := by
  have e := hfa.symm.trans (PySem.W.mg_of X G aLaw)
  cases e
  have T : Txt mg := ⟨PySem.W.mg_none_of X G z0, PySem.W.mg_none_of X G z1, PySem.W.mg_none_of X G z2, PySem.W.mg_none_of X G z3, PySem.W.mg_none_of X G z4, PySem.W.mg_none_of X G z5, PySem.W.mg_none_of X G z6, PySem.W.mg_none_of X G z7, PySem.W.mg_none_of X G z8, PySem.W.mg_none_of X G z9, PySem.W.mg_none_of X G z10, PySem.W.mg_none_of X G z11, PySem.W.mg_none_of X G z12, PySem.W.mg_none_of X G z13, PySem.W.mg_none_of X G z14, ⟨_, PySem.W.mg_of X G gl0⟩, ⟨_, PySem.W.mg_of X G gl1⟩, ⟨_, PySem.W.mg_of X G gl2⟩, ⟨_, PySem.W.mg_of X G gl3⟩, ⟨_, PySem.W.mg_of X G gl4⟩, ⟨_, PySem.W.mg_of X G gl5⟩, ⟨_, PySem.W.mg_of X G gl6⟩, ⟨_, PySem.W.mg_of X G gl7⟩, ⟨_, PySem.W.mg_of X G gl8⟩, ⟨_, PySem.W.mg_of X G gl9⟩, ⟨_, PySem.W.mg_of X G gl10⟩, ⟨_, PySem.W.mg_of X G gl11⟩, ⟨_, PySem.W.mg_of X G gl12⟩, ⟨_, PySem.W.mg_of X G gl13⟩⟩
  have FWho := fun_mk (st := sWho) lWho cWho kWho
  have hWho : Has K mg "is_whole" sWho ["thing"] fWho _ := ⟨FWho, FWho.binds (ps := ["thing"]) fun _ _ _ _ _ _ us hl => match us, hl with | [_], _ => rfl, PySem.W.mg_of X G aWho⟩
  have FWth := fun_mk (st := sWth) lWth cWth kWth
  have hWth : Has K mg "is_within" sWth ["thing", "low", "high"] fWth _ := ⟨FWth, FWth.binds (ps := ["thing", "low", "high"]) fun _ _ _ _ _ _ us hl => match us, hl with | [_, _, _], _ => rfl, PySem.W.mg_of X G aWth⟩
  have FSta := fun_mk (st := sSta) lSta cSta kSta
  have hSta : Has K mg "is_stamp" sSta ["thing"] fSta _ := ⟨FSta, FSta.binds (ps := ["thing"]) fun _ _ _ _ _ _ us hl => match us, hl with | [_], _ => rfl, PySem.W.mg_of X G aSta⟩
  have FTof := fun_mk (st := sTof) lTof cTof kTof
  have hTof : Has K mg "is_tuple_of" sTof ["thing", "many"] fTof _ := ⟨FTof, FTof.binds (ps := ["thing", "many"]) fun _ _ _ _ _ _ us hl => match us, hl with | [_, _], _ => rfl, PySem.W.mg_of X G aTof⟩
  have FRis := fun_mk (st := sRis) lRis cRis kRis
  have hRis : Has K mg "is_rising" sRis ["things"] fRis _ := ⟨FRis, FRis.binds (ps := ["things"]) fun _ _ _ _ _ _ us hl => match us, hl with | [_], _ => rfl, PySem.W.mg_of X G aRis⟩
  have FWor := fun_mk (st := sWor) lWor cWor kWor
  have hWor : Has K mg "is_word" sWor ["thing"] fWor _ := ⟨FWor, FWor.binds (ps := ["thing"]) fun _ _ _ _ _ _ us hl => match us, hl with | [_], _ => rfl, PySem.W.mg_of X G aWor⟩
  have FEnd := fun_mk (st := sEnd) lEnd cEnd kEnd
  have hEnd : Has K mg "end_of" sEnd ["stretch"] fEnd _ := ⟨FEnd, FEnd.binds (ps := ["stretch"]) fun _ _ _ _ _ _ us hl => match us, hl with | [_], _ => rfl, PySem.W.mg_of X G aEnd⟩
  have FEip := fun_mk (st := sEip) lEip cEip kEip
  have hEip : Has K mg "end_in_piece" sEip ["stretch"] fEip _ := ⟨FEip, FEip.binds (ps := ["stretch"]) fun _ _ _ _ _ _ us hl => match us, hl with | [_], _ => rfl, PySem.W.mg_of X G aEip⟩
  have FGoe := fun_mk (st := sGoe) lGoe cGoe kGoe
  have hGoe : Has K mg "goes_on" sGoe ["ahead", "stretch"] fGoe _ := ⟨FGoe, FGoe.binds (ps := ["ahead", "stretch"]) fun _ _ _ _ _ _ us hl => match us, hl with | [_, _], _ => rfl, PySem.W.mg_of X G aGoe⟩
  have FItp := fun_mk (st := sItp) lItp cItp kItp
  have hItp : Has K mg "is_tree_place" sItp ["thing"] fItp _ := ⟨FItp, FItp.binds (ps := ["thing"]) fun _ _ _ _ _ _ us hl => match us, hl with | [_], _ => rfl, PySem.W.mg_of X G aItp⟩
  have FIst := fun_mk (st := sIst) lIst cIst kIst
  have hIst : Has K mg "is_stretch" sIst ["thing"] fIst _ := ⟨FIst, FIst.binds (ps := ["thing"]) fun _ _ _ _ _ _ us hl => match us, hl with | [_], _ => rfl, PySem.W.mg_of X G aIst⟩
  have FIsr := fun_mk (st := sIsr) lIsr cIsr kIsr
  have hIsr : Has K mg "is_row" sIsr ["thing", "size"] fIsr _ := ⟨FIsr, FIsr.binds (ps := ["thing", "size"]) fun _ _ _ _ _ _ us hl => match us, hl with | [_, _], _ => rfl, PySem.W.mg_of X G aIsr⟩
  have FCll := fun_mk (st := sCll) lCll cCll kCll
  have hCll : Has K mg "is_cell" sCll ["thing"] fCll _ := ⟨FCll, FCll.binds (ps := ["thing"]) fun _ _ _ _ _ _ us hl => match us, hl with | [_], _ => rfl, PySem.W.mg_of X G aCll⟩
  have FIcs := fun_mk (st := sIcs) lIcs cIcs kIcs
  have hIcs : Has K mg "is_cells_stuff" sIcs ["thing"] fIcs _ := ⟨FIcs, FIcs.binds (ps := ["thing"]) fun _ _ _ _ _ _ us hl => match us, hl with | [_], _ => rfl, PySem.W.mg_of X G aIcs⟩
  have FIfs := fun_mk (st := sIfs) lIfs cIfs kIfs
  have hIfs : Has K mg "is_file_stuff" sIfs ["thing"] fIfs _ := ⟨FIfs, FIfs.binds (ps := ["thing"]) fun _ _ _ _ _ _ us hl => match us, hl with | [_], _ => rfl, PySem.W.mg_of X G aIfs⟩
  have FEnt := fun_mk (st := sEnt) lEnt cEnt kEnt
  have hEnt : Has K mg "is_entry" sEnt ["thing"] fEnt _ := ⟨FEnt, FEnt.binds (ps := ["thing"]) fun _ _ _ _ _ _ us hl => match us, hl with | [_], _ => rfl, PySem.W.mg_of X G aEnt⟩
  have FIos := fun_mk (st := sIos) lIos cIos kIos
  have hIos : Has K mg "is_folder_stuff" sIos ["thing"] fIos _ := ⟨FIos, FIos.binds (ps := ["thing"]) fun _ _ _ _ _ _ us hl => match us, hl with | [_], _ => rfl, PySem.W.mg_of X G aIos⟩
  have FKno := fun_mk (st := sKno) lKno cKno kKno
  have hKno : Has K mg "is_knot" sKno ["thing"] fKno _ := ⟨FKno, FKno.binds (ps := ["thing"]) fun _ _ _ _ _ _ us hl => match us, hl with | [_], _ => rfl, PySem.W.mg_of X G aKno⟩
  have FCel := fun_mk (st := sCel) lCel cCel kCel
  have hCel : Has K mg "_law_cell_at" sCel ["_law_script", "_law_k"] fCel _ := ⟨FCel, FCel.binds (ps := ["_law_script", "_law_k"]) fun _ _ _ _ _ _ us hl => match us, hl with | [_, _], _ => rfl, PySem.W.mg_of X G aCel⟩
  have FMix := fun_mk (st := sMix) lMix cMix kMix
  have hMix : Has K mg "_law_mixed" sMix ["_law_cell", "_law_k"] fMix _ := ⟨FMix, FMix.binds (ps := ["_law_cell", "_law_k"]) fun _ _ _ _ _ _ us hl => match us, hl with | [_, _], _ => rfl, PySem.W.mg_of X G aMix⟩
  have FNea := fun_mk (st := sNea) lNea cNea kNea
  have hNea : Has K mg "_law_near" sNea ["_law_number", "_law_low", "_law_high"] fNea _ := ⟨FNea, FNea.binds (ps := ["_law_number", "_law_low", "_law_high"]) fun _ _ _ _ _ _ us hl => match us, hl with | [_, _, _], _ => rfl, PySem.W.mg_of X G aNea⟩
  have FOff := fun_mk (st := sOff) lOff cOff kOff
  have hOff : Has K mg "_law_off" sOff ["_law_number", "_law_low", "_law_high"] fOff _ := ⟨FOff, FOff.binds (ps := ["_law_number", "_law_low", "_law_high"]) fun _ _ _ _ _ _ us hl => match us, hl with | [_, _, _], _ => rfl, PySem.W.mg_of X G aOff⟩
  have FWds := fun_mk (st := sWds) lWds cWds kWds
  have hWds : Has K mg "_law_words" sWds ["_law_number"] fWds _ := ⟨FWds, FWds.binds (ps := ["_law_number"]) fun _ _ _ _ _ _ us hl => match us, hl with | [_], _ => rfl, PySem.W.mg_of X G aWds⟩
  have FRow := fun_mk (st := sRow) lRow cRow kRow
  have hRow : Has K mg "_law_row" sRow ["_law_number"] fRow _ := ⟨FRow, FRow.binds (ps := ["_law_number"]) fun _ _ _ _ _ _ us hl => match us, hl with | [_], _ => rfl, PySem.W.mg_of X G aRow⟩
  have FStu := fun_mk (st := sStu) lStu cStu kStu
  have hStu : Has K mg "_law_stuff" sStu ["_law_number", "_law_kind"] fStu _ := ⟨FStu, FStu.binds (ps := ["_law_number", "_law_kind"]) fun _ _ _ _ _ _ us hl => match us, hl with | [_, _], _ => rfl, PySem.W.mg_of X G aStu⟩
  have FFro := fun_mk (st := sFro) lFro cFro kFro
  have hFro : Has K mg "_law_frozen" sFro ["_law_stuff_here"] fFro _ := ⟨FFro, FFro.binds (ps := ["_law_stuff_here"]) fun _ _ _ _ _ _ us hl => match us, hl with | [_], _ => rfl, PySem.W.mg_of X G aFro⟩
  have FSpc := fun_mk (st := sSpc) lSpc cSpc kSpc
  have hSpc : Has K mg "_law_spoiled_cells" sSpc ["_law_stuff_here", "_law_number"] fSpc _ := ⟨FSpc, FSpc.binds (ps := ["_law_stuff_here", "_law_number"]) fun _ _ _ _ _ _ us hl => match us, hl with | [_, _], _ => rfl, PySem.W.mg_of X G aSpc⟩
  have FSpr := fun_mk (st := sSpr) lSpr cSpr kSpr
  have hSpr : Has K mg "_law_spoiled_row" sSpr ["_law_stuff_here", "_law_number"] fSpr _ := ⟨FSpr, FSpr.binds (ps := ["_law_stuff_here", "_law_number"]) fun _ _ _ _ _ _ us hl => match us, hl with | [_, _], _ => rfl, PySem.W.mg_of X G aSpr⟩
  have FSpe := fun_mk (st := sSpe) lSpe cSpe kSpe
  have hSpe : Has K mg "_law_spoiled_entries" sSpe ["_law_stuff_here", "_law_number"] fSpe _ := ⟨FSpe, FSpe.binds (ps := ["_law_stuff_here", "_law_number"]) fun _ _ _ _ _ _ us hl => match us, hl with | [_, _], _ => rfl, PySem.W.mg_of X G aSpe⟩
  have FSpo := fun_mk (st := sSpo) lSpo cSpo kSpo
  have hSpo : Has K mg "_law_spoiled" sSpo ["_law_stuff_here", "_law_kind", "_law_number"] fSpo _ := ⟨FSpo, FSpo.binds (ps := ["_law_stuff_here", "_law_kind", "_law_number"]) fun _ _ _ _ _ _ us hl => match us, hl with | [_, _, _], _ => rfl, PySem.W.mg_of X G aSpo⟩
  have FOth := fun_mk (st := sOth) lOth cOth kOth
  have hOth : Has K mg "_law_other_kind" sOth ["_law_stuff_here", "_law_number"] fOth _ := ⟨FOth, FOth.binds (ps := ["_law_stuff_here", "_law_number"]) fun _ _ _ _ _ _ us hl => match us, hl with | [_, _], _ => rfl, PySem.W.mg_of X G aOth⟩
  have FLis := fun_mk (st := sLis) lLis cLis kLis
  have hLis : Has K mg "_law_is" sLis ["_law_thing", "_law_due"] fLis _ := ⟨FLis, FLis.binds (ps := ["_law_thing", "_law_due"]) fun _ _ _ _ _ _ us hl => match us, hl with | [_, _], _ => rfl, PySem.W.mg_of X G aLis⟩
  have FLaw := fun_mk (st := sLaw) lLaw cLaw kLaw
  refine ⟨PySem.W.fnOf "law" "law" (defArgs sLaw) (defBody sLaw) (defScope sLaw) .none kVLaw dcLaw pmLaw anLaw cdLaw ctLaw, fun s v => .of_eq rfl, fun base _ _ => ?_⟩
  have GWho : FnOk l.prog w K mg base CX0 1 fWho _ ["thing"] spWho0 := ok_Who FWho T
  have GWth : FnOk l.prog w K mg base CX0 2 fWth _ ["thing", "low", "high"] spWth0 := ok_Wth FWth hWho GWho
  have GTof : FnOk l.prog w K mg base CX0 1 fTof _ ["thing", "many"] spTof := ok_Tof FTof T
  have GEnd : FnOk l.prog w K mg base CX0 1 fEnd _ ["stretch"] spEnd := ok_End FEnd T
  have GEip : FnOk l.prog w K mg base CX0 1 fEip _ ["stretch"] spEip := ok_Eip FEip T
  have GGoe : FnOk l.prog w K mg base CX0 2 fGoe _ ["ahead", "stretch"] spGoe := ok_Goe FGoe hEnd GEnd hEip GEip T
  have GItp : FnOk l.prog w K mg base CX0 3 fItp _ ["thing"] spItp := ok_Itp FItp hWth GWth T
  have GIst : FnOk l.prog w K mg base CX0 4 fIst _ ["thing"] spIst := ok_Ist FIst hTof GTof hWho GWho hEnd GEnd hEip GEip hItp GItp T
  have GIsr : FnOk l.prog w K mg base CX0 5 fIsr _ ["thing", "size"] spIsr := ok_Isr FIsr hIst GIst hEnd GEnd hGoe GGoe T
  have GSta : FnOk l.prog w K mg base CX0 3 fSta _ ["thing"] spSta := ok_Sta FSta hWth GWth T
  have GCll : FnOk l.prog w K mg base CX0 3 fCll _ ["thing"] spCll := ok_Cll FCll hWth GWth T
  have GRis : FnOk l.prog w K mg base CX0 1 fRis _ ["things"] spRis := ok_Ris FRis T
  have GWor : FnOk l.prog w K mg base CX0 1 fWor _ ["thing"] spWor := ok_Wor FWor T
  have GIcs : FnOk l.prog w K mg base CX0 4 fIcs _ ["thing"] spIcs := ok_Ics FIcs hCll GCll T
  have GIfs : FnOk l.prog w K mg base CX0 6 fIfs _ ["thing"] spIfs := ok_Ifs FIfs hWth GWth hIsr GIsr T
  have GEnt : FnOk l.prog w K mg base CX0 4 fEnt _ ["thing"] spEnt := ok_Ent FEnt hTof GTof hWor GWor hItp GItp T
  have GIos : FnOk l.prog w K mg base CX0 5 fIos _ ["thing"] spIos := ok_Ios FIos hWth GWth hEnt GEnt hRis GRis T
  have GKno : FnOk l.prog w K mg base CX0 7 fKno _ ["thing"] spKno := ok_Kno FKno hSta GSta hIcs GIcs hIfs GIfs hIos GIos T
  have GCel : FnOk l.prog w K mg base CX0 1 fCel _ ["_law_script", "_law_k"] (spCel K) := ok_Cel FCel T
  have GMix : FnOk l.prog w K mg base CX0 1 fMix _ ["_law_cell", "_law_k"] spMix := ok_Mix FMix T
  have GNea : FnOk l.prog w K mg base CX0 1 fNea _ ["_law_number", "_law_low", "_law_high"] spNea := ok_Nea FNea T
  have GOff : FnOk l.prog w K mg base CX0 1 fOff _ ["_law_number", "_law_low", "_law_high"] spOff := ok_Off FOff T
  have GWds : FnOk l.prog w K mg base CX0 2 fWds _ ["_law_number"] spWds := ok_Wds FWds hMix GMix T
  have GRow : FnOk l.prog w K mg base CX0 2 fRow _ ["_law_number"] spRow := ok_Row FRow hMix GMix hNea GNea T
  have GStu : FnOk l.prog w K mg base CX0 3 fStu _ ["_law_number", "_law_kind"] spStu := ok_Stu FStu hMix GMix hNea GNea hRow GRow hWds GWds T
  have GFro : FnOk l.prog w K mg base CX0 5 fFro _ ["_law_stuff_here"] (spFro 4) := ok_Fro FFro hFro T 5
  have GSpc : FnOk l.prog w K mg base CX0 2 fSpc _ ["_law_stuff_here", "_law_number"] spSpc := ok_Spc FSpc hOff GOff T
  have GSpr : FnOk l.prog w K mg base CX0 2 fSpr _ ["_law_stuff_here", "_law_number"] spSpr := ok_Spr FSpr hOff GOff T
  have GSpe : FnOk l.prog w K mg base CX0 2 fSpe _ ["_law_stuff_here", "_law_number"] spSpe := ok_Spe FSpe hOff GOff T
  have GSpo : FnOk l.prog w K mg base CX0 6 fSpo _ ["_law_stuff_here", "_law_kind", "_law_number"] spSpo := ok_Spo FSpo hOff GOff hSpc GSpc hSpr GSpr hSpe GSpe hFro GFro T
  have GOth : FnOk l.prog w K mg base CX0 1 fOth _ ["_law_stuff_here", "_law_number"] spOth := ok_Oth FOth T
  have GLis : FnOk l.prog w K mg base CX0 8 fLis _ ["_law_thing", "_law_due"] spLis := ok_Lis FLis hKno GKno T
  exact ok_law FLaw hCel GCel hMix GMix hStu GStu hFro GFro hLis GLis hSpo GSpo hOth GOth T
theorem walk {l : PySem.W.OpenLaw} {q : Program} {loose : List Str} {XP : (Str → Option Value) → Heap → Prop} {YP : World → Heap → Prop} {d : DefRec} {K : Params → PySem.W.Frag} (hn : l.most = some 63) (hdf : d.params.defaults = [])
    (hY : ∀ (w : World) (h : Heap), YP w h → (K w.params).In h)
    (F : ∀ (w : World) (mg : Str → Option Value) (fa : Addr) (h : Heap), (K w.params).In h → h.Ns mainGlobals mg → mg d.name = some (.ref fa) →
      ∃ fd : FuncData, (∀ (s : Shared) (u : Value), BindsTo s fd ⟨[u], []⟩ [("_law_script", u)]) ∧ ∀ base : Heap, (K w.params).In base → base.Ns mainGlobals mg → FnOk l.prog w (K w.params) mg base CX0 9 fa fd ["_law_script"] (spLaw (K w.params))) :
    PySem.W.WalkO q loose XP YP l.row.toRowW d [] (fun f vs => PySem.call f vs) :=
  L2.walk_of (n := 63) (k := 9) (x := "_law_script") (CX := fun _ => CX0) (sp := fun w => spLaw (K w.params)) hn (by decide) hdf ⟨fun _ => rfl, by decide, by decide⟩ hY F (fun _ _ a ns hl _ hS => ⟨a, ns, rfl, hS, hl, fun _ => rfl⟩) fun _ _ _ _ _ z => z
end K22
open PySem PySem.W PyProof.Rows
set_option maxRecDepth 100000 in
set_option maxHeartbeats 0 in
theorem PySem.Challenge.cw_clonewood_k22_what_is_a_knot_holds : PySem.Challenge.rw_clonewood_k22_what_is_a_knot.Holds := by
  w_on; o_law; k_head; (case hw => w_witness2)
  k_fill
  refine K22.walk (l := PySem.Challenge.rw_clonewood_k22_what_is_a_knot) rfl rfl (fun w h Y => PySem.W.kIn_of Y) ?F
  case F =>
    intro w mg fa h KX G hmg
    refine' K22.all_mk KX G hmg ?aWho ?lWho ?cWho ?kWho ?aWth ?lWth ?cWth ?kWth ?aSta ?lSta ?cSta ?kSta ?aTof ?lTof ?cTof ?kTof ?aRis ?lRis ?cRis ?kRis ?aWor ?lWor ?cWor ?kWor ?aEnd ?lEnd ?cEnd ?kEnd ?aEip ?lEip ?cEip ?kEip ?aGoe ?lGoe ?cGoe ?kGoe ?aItp ?lItp ?cItp ?kItp ?aIst ?lIst ?cIst ?kIst ?aIsr ?lIsr ?cIsr ?kIsr ?aCll ?lCll ?cCll ?kCll ?aIcs ?lIcs ?cIcs ?kIcs ?aIfs ?lIfs ?cIfs ?kIfs ?aEnt ?lEnt ?cEnt ?kEnt ?aIos ?lIos ?cIos ?kIos ?aKno ?lKno ?cKno ?kKno ?aCel ?lCel ?cCel ?kCel ?aMix ?lMix ?cMix ?kMix ?aNea ?lNea ?cNea ?kNea ?aOff ?lOff ?cOff ?kOff ?aWds ?lWds ?cWds ?kWds ?aRow ?lRow ?cRow ?kRow ?aStu ?lStu ?cStu ?kStu ?aFro ?lFro ?cFro ?kFro ?aSpc ?lSpc ?cSpc ?kSpc ?aSpr ?lSpr ?cSpr ?kSpr ?aSpe ?lSpe ?cSpe ?kSpe ?aSpo ?lSpo ?cSpo ?kSpo ?aOth ?lOth ?cOth ?kOth ?aLis ?lLis ?cLis ?kLis ?aLaw ?lLaw ?cLaw ?kLaw ?z0 ?z1 ?z2 ?z3 ?z4 ?z5 ?z6 ?z7 ?z8 ?z9 ?z10 ?z11 ?z12 ?z13 ?z14 ?gl0 ?gl1 ?gl2 ?gl3 ?gl4 ?gl5 ?gl6 ?gl7 ?gl8 ?gl9 ?gl10 ?gl11 ?gl12 ?gl13
    (case aWho => k_is)
    (case lWho => k_is)
    (case cWho => k_is)
    (case kWho => k_is)
    (case aWth => k_is)
    (case lWth => k_is)
    (case cWth => k_is)
    (case kWth => k_is)
    (case aSta => k_is)
    (case lSta => k_is)
    (case cSta => k_is)
    (case kSta => k_is)
    (case aTof => k_is)
    (case lTof => k_is)
    (case cTof => k_is)
    (case kTof => k_is)
    (case aRis => k_is)
    (case lRis => k_is)
    (case cRis => k_is)
    (case kRis => k_is)
    (case aWor => k_is)
    (case lWor => k_is)
    (case cWor => k_is)
    (case kWor => k_is)
    (case aEnd => k_is)
    (case lEnd => k_is)
    (case cEnd => k_is)
    (case kEnd => k_is)
    (case aEip => k_is)
    (case lEip => k_is)
    (case cEip => k_is)
    (case kEip => k_is)
    (case aGoe => k_is)
    (case lGoe => k_is)
    (case cGoe => k_is)
    (case kGoe => k_is)
    (case aItp => k_is)
    (case lItp => k_is)
    (case cItp => k_is)
    (case kItp => k_is)
    (case aIst => k_is)
    (case lIst => k_is)
    (case cIst => k_is)
    (case kIst => k_is)
    (case aIsr => k_is)
    (case lIsr => k_is)
    (case cIsr => k_is)
    (case kIsr => k_is)
    (case aCll => k_is)
    (case lCll => k_is)
    (case cCll => k_is)
    (case kCll => k_is)
    (case aIcs => k_is)
    (case lIcs => k_is)
    (case cIcs => k_is)
    (case kIcs => k_is)
    (case aIfs => k_is)
    (case lIfs => k_is)
    (case cIfs => k_is)
    (case kIfs => k_is)
    (case aEnt => k_is)
    (case lEnt => k_is)
    (case cEnt => k_is)
    (case kEnt => k_is)
    (case aIos => k_is)
    (case lIos => k_is)
    (case cIos => k_is)
    (case kIos => k_is)
    (case aKno => k_is)
    (case lKno => k_is)
    (case cKno => k_is)
    (case kKno => k_is)
    (case aCel => k_is)
    (case lCel => k_is)
    (case cCel => k_is)
    (case kCel => k_is)
    (case aMix => k_is)
    (case lMix => k_is)
    (case cMix => k_is)
    (case kMix => k_is)
    (case aNea => k_is)
    (case lNea => k_is)
    (case cNea => k_is)
    (case kNea => k_is)
    (case aOff => k_is)
    (case lOff => k_is)
    (case cOff => k_is)
    (case kOff => k_is)
    (case aWds => k_is)
    (case lWds => k_is)
    (case cWds => k_is)
    (case kWds => k_is)
    (case aRow => k_is)
    (case lRow => k_is)
    (case cRow => k_is)
    (case kRow => k_is)
    (case aStu => k_is)
    (case lStu => k_is)
    (case cStu => k_is)
    (case kStu => k_is)
    (case aFro => k_is)
    (case lFro => k_is)
    (case cFro => k_is)
    (case kFro => k_is)
    (case aSpc => k_is)
    (case lSpc => k_is)
    (case cSpc => k_is)
    (case kSpc => k_is)
    (case aSpr => k_is)
    (case lSpr => k_is)
    (case cSpr => k_is)
    (case kSpr => k_is)
    (case aSpe => k_is)
    (case lSpe => k_is)
    (case cSpe => k_is)
    (case kSpe => k_is)
    (case aSpo => k_is)
    (case lSpo => k_is)
    (case cSpo => k_is)
    (case kSpo => k_is)
    (case aOth => k_is)
    (case lOth => k_is)
    (case cOth => k_is)
    (case kOth => k_is)
    (case aLis => k_is)
    (case lLis => k_is)
    (case cLis => k_is)
    (case kLis => k_is)
    (case aLaw => k_is)
    (case lLaw => k_is)
    (case cLaw => k_is)
    (case kLaw => k_is)
    (case z0 => k_is)
    (case z1 => k_is)
    (case z2 => k_is)
    (case z3 => k_is)
    (case z4 => k_is)
    (case z5 => k_is)
    (case z6 => k_is)
    (case z7 => k_is)
    (case z8 => k_is)
    (case z9 => k_is)
    (case z10 => k_is)
    (case z11 => k_is)
    (case z12 => k_is)
    (case z13 => k_is)
    (case z14 => k_is)
    (case gl0 => k_is)
    (case gl1 => k_is)
    (case gl2 => k_is)
    (case gl3 => k_is)
    (case gl4 => k_is)
    (case gl5 => k_is)
    (case gl6 => k_is)
    (case gl7 => k_is)
    (case gl8 => k_is)
    (case gl9 => k_is)
    (case gl10 => k_is)
    (case gl11 => k_is)
    (case gl12 => k_is)
    (case gl13 => k_is)
#print axioms PySem.Challenge.cw_clonewood_k22_what_is_a_knot_holds
