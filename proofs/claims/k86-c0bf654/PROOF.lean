import PyProof.Rows.All
import Wide.All
import OpenK.AllK
import Wide.FinOn
import Lean
import PyProof.EqAt
import PyProof.EqKinds
import PyProof.NeKinds
import PyProof.TupleCall
import PySem.Challenge.RW_clonewood_k86_lines_and_stuff
import PyProof.Rows.Range3
import PyProof.SetKind
import PyProof.Rows.SetFrom
import KE.KDictList
import KE.KIntText
set_option Elab.async false
set_option linter.all false
set_option maxRecDepth 100000
/-! THE HAND LAYER, for ints, bools, texts, own classes, LISTS and tuples (index, slices, in, append, pop ..), calls, loops. Paste it whole ahead of your own text; what your proof does not reach may be deleted. -/
namespace L2
open PySem PySem.Spec PyProof.Rows

/-- a key: an int or a str -/
abbrev Key := Sum Int Str
def keyIs : Key → Value → Bool
  | .inl k, v => Value.isInt k v
  | .inr x, v => Value.isStrOf x v
def keyH (w : World) : Key → Int
  | .inl k => hashInt k
  | .inr x => hashStr w x
theorem keyIs_shape : ∀ {k : Key} {v : Value}, keyIs k v = true → (∃ i t, k = Sum.inl i ∧ v = Value.int i t) ∨ (∃ x t, k = Sum.inr x ∧ v = Value.str x t)
  | .inl i, v, h => by
    obtain ⟨t, e⟩ := Value.isInt_shape (k := i) (v := v) h
    exact .inl ⟨i, t, rfl, e⟩
  | .inr x, v, h => by
    obtain ⟨t, e⟩ := Value.isStrOf_shape (x := x) (v := v) h
    exact .inr ⟨x, t, rfl, e⟩
theorem key_ll (a b : Int) : decide ((Sum.inl a : Key) = Sum.inl b) = (a == b) := by
  by_cases e : a = b
  · subst e; simp
  · have h : ¬ (Sum.inl a : Key) = Sum.inl b := fun q => e (Sum.inl.inj q)
    rw [decide_eq_false h]
    exact (beq_eq_false_iff_ne.mpr e).symm
theorem key_rr (a b : Str) : decide ((Sum.inr a : Key) = Sum.inr b) = decide (a = b) := by
  by_cases e : a = b
  · subst e; simp
  · have h : ¬ (Sum.inr a : Key) = Sum.inr b := fun q => e (Sum.inr.inj q)
    rw [decide_eq_false h, decide_eq_false e]
theorem key_lr (a : Int) (b : Str) : decide ((Sum.inl a : Key) = Sum.inr b) = false := decide_eq_false (fun q => nomatch q)
theorem key_rl (a : Str) (b : Int) : decide ((Sum.inr a : Key) = Sum.inl b) = false := decide_eq_false (fun q => nomatch q)

def mixKind (prog : Program) (w : World) : PySem.KeyKind prog w Key where
  is := keyIs
  hash := keyH w
  inj := fun v a b ha hb => by
    rcases keyIs_shape ha with ⟨i, t, rfl, rfl⟩ | ⟨x, t, rfl, rfl⟩
    · rcases keyIs_shape hb with ⟨j, u, rfl, e⟩ | ⟨y, u, rfl, e⟩
      · injection e with e1 _; rw [e1]
      · exact nomatch e
    · rcases keyIs_shape hb with ⟨j, u, rfl, e⟩ | ⟨y, u, rfl, e⟩
      · exact nomatch e
      · injection e with e1 _; rw [e1]
  byValue := fun k v h => by
    rcases keyIs_shape h with ⟨i, t, rfl, rfl⟩ | ⟨x, t, rfl, rfl⟩ <;> rfl
  pyHash := fun hv h => by
    rcases keyIs_shape hv with ⟨i, t, rfl, rfl⟩ | ⟨x, t, rfl, rfl⟩
    · exact wpAny_pyHash_int h
    · exact wpAny_pyHash_str h
  eqBool := fun hu hv h => by
    rcases keyIs_shape hu with ⟨i, t, rfl, rfl⟩ | ⟨x, t, rfl, rfl⟩
    · rcases keyIs_shape hv with ⟨j, u, rfl, rfl⟩ | ⟨y, u, rfl, rfl⟩
      · rw [key_ll] at h; exact wpAny_eqBool_int h
      · rw [key_lr] at h; exact SeqAt.EqAt.int_str i t y u _ _ _ _ h
    · rcases keyIs_shape hv with ⟨j, u, rfl, rfl⟩ | ⟨y, u, rfl, rfl⟩
      · rw [key_rl] at h; exact SeqAt.EqAt.str_int x t j u _ _ _ _ h
      · rw [key_rr] at h; exact wpAny_eqBool_str h
  «strs» := fun k x t v h => by
    rcases keyIs_shape h with ⟨i, u, rfl, e⟩ | ⟨y, u, rfl, e⟩
    · exact nomatch e
    · injection e with e1 _
      subst e1
      cases v <;> rfl

end L2

namespace L2
open PySem PySem.Spec PyProof.Rows

/-- a value, without the heap -/
inductive V where
  | non | bl (b : Bool) | int (i : Int) | str (x : Str) | byt (b : Array UInt8) | flt (b : UInt64) | ref (a : Addr) | ty (n : String)
  deriving DecidableEq

def RelV : V → Value → Prop
  | .non, u => u = Value.none
  | .bl b, u => u = Value.bool b
  | .int i, u => ∃ t, u = Value.int i t
  | .str x, u => ∃ t, u = Value.str x t
  | .byt b, u => ∃ t, u = Value.bytes b t
  | .flt b, u => ∃ t, u = Value.float b t
  | .ref a, u => u = Value.ref a
  | .ty n, u => u = Value.type n

abbrev Vals : List V → List Value → Prop := Paired RelV
theorem Vals.length {xs : List V} {us : List Value} (r : Vals xs us) : xs.length = us.length := Paired.length r
theorem Vals.get : ∀ {xs : List V} {us : List Value} {i : Nat} {x : V}, Vals xs us → xs[i]? = some x → ∃ u, us[i]? = some u ∧ RelV x u
  | _, _, _, _, .nil, e => by simp at e
  | _, _, 0, _, .cons r _, e => by simp at e; subst e; exact ⟨_, rfl, r⟩
  | _, _, i + 1, x, .cons _ t, e => by
    obtain ⟨u, h1, h2⟩ := Vals.get (i := i) (x := x) t (by simpa using e)
    exact ⟨u, by simpa using h1, h2⟩
theorem Vals.append : ∀ {xs ys : List V} {us ws : List Value}, Vals xs us → Vals ys ws → Vals (xs ++ ys) (us ++ ws)
  | _, _, _, _, .nil, s => s
  | _, _, _, _, .cons r t, s => .cons r (Vals.append t s)
theorem Vals.take : ∀ {xs : List V} {us : List Value} (n : Nat), Vals xs us → Vals (xs.take n) (us.take n)
  | _, _, 0, _ => .nil
  | _, _, _ + 1, .nil => .nil
  | _, _, n + 1, .cons r t => .cons r (Vals.take n t)
theorem Vals.drop : ∀ {xs : List V} {us : List Value} (n : Nat), Vals xs us → Vals (xs.drop n) (us.drop n)
  | _, _, 0, r => r
  | _, _, _ + 1, .nil => .nil
  | _, _, n + 1, .cons _ t => Vals.drop n t
def RelO : Option V → Option Value → Prop
  | some v, some u => RelV v u
  | none, none => True
  | _, _ => False
def KV {κ : Type} : List (κ × V) → List (κ × Value) → Prop := Paired fun (p : κ × V) (q : κ × Value) => p.1 = q.1 ∧ RelV p.2 q.2

/-- a key of a dict (00_mix): an int or a text -/
def kV : Key → V
  | .inl i => .int i
  | .inr x => .str x

/-- what stands at a tracked address -/
inductive HO where
  /-- a list -/
  | lst (xs : List V)
  /-- a tuple (never changes) -/
  | tup (xs : List V)
  /-- a dict whose keys are ints and texts; one whose keys are tuples of ints and texts (the empty one is both) -/
  | dK (kvs : List (Key × V)) | dT (kvs : List (List Key × V))
  /-- a set of ints: its members, its size -/
  | set (S : Int → Bool) (n : Nat)
  /-- an instance of the class at C, its dict at dx, its attributes -/
  | ins (C dx : Addr) (fs : List (Str × V))
  /-- the dict of the instance at x -/
  | own (x : Addr)
  /-- the dict of an exception -/
  | xd (fs : List (Str × V))
  /-- a bound method, f of x -/
  | met (f x : Addr)
  /-- a range object lo, lo + 1, .. below hi -/
  | rng (lo hi : Int)
  /-- a thing that is known to the object (the script; a dict while a loop walks it): read, never written while it is so -/
  | frz (o : Obj) (u : HO)
  /-- a code object's table -/
  | tbl (ps : Array Value)
  /-- any other thing, by what is true of its one object (a def of one's own: SetO a S n := HO.ext fun h => ..) -/
  | ext (φ : Heap → Prop)

abbrev Hp := Addr → Option HO
def upd (H : Hp) (a : Addr) (o : HO) : Hp := fun b => if b = a then some o else H b
theorem upd_same {H : Hp} {a : Addr} {o : HO} : upd H a o a = some o := by unfold upd; rw [if_pos rfl]
theorem upd_ne {H : Hp} {a b : Addr} {o : HO} (h : b ≠ a) : upd H a o b = H b := by unfold upd; rw [if_neg h]
theorem upd_upd {H : Hp} {a : Addr} {o u : HO} : upd (upd H a o) a u = upd H a u := by
  funext b; unfold upd; split <;> rfl
/-- two objects of different content stand apart -/
theorem ne_of {H : Hp} {a b : Addr} {o u : HO} (h : H a = some o) (h' : H b = some u) (d : o ≠ u) : a ≠ b := by
  intro e; subst e; rw [h] at h'; exact d (Option.some.inj h')
theorem ne_of_none {H : Hp} {a b : Addr} {o : HO} (h : H a = some o) (h' : H b = none) : a ≠ b := by
  intro e; subst e; rw [h] at h'; cases h'

section
variable (P : Program) (w : World)
def ObjOk (H : Hp) (h : Heap) (a : Addr) : HO → Prop
  | .lst xs => xs.length ≤ sizeLine ∧ ∃ (its : List Value) (n : Nat), Vals xs its ∧ h.get? a = some { cls := .type "list", data := .seq its.toArray n }
  | .tup xs => xs.length ≤ sizeLine ∧ ∃ its : List Value, Vals xs its ∧ IsTup h a its.toArray
  | .dK kvs => kvs.length ≤ sizeLine ∧ (a == sysModules) = false ∧ ∃ vs, KV kvs vs ∧ h.DictOf (mixKind P w) a vs
  | .dT kvs => kvs.length ≤ sizeLine ∧ (a == sysModules) = false ∧ ∃ xs : List (List Key × Addr × Value),
      Paired (fun (p : List Key × V) (q : List Key × Addr × Value) => p.1 = q.1 ∧ H q.2.1 = some (.tup (p.1.map kV)) ∧ RelV p.2 q.2.2) kvs xs ∧
      ∃ o es ep, h.get? a = some o ∧ o.ExactDict ∧ o.data = .dict es ep ∧ es.toList = xs.map (entryOfKey (tupleKind (mixKind P w))) ∧ (xs.map (·.1)).Nodup
  | .set S n => h.SetOf (intKind P w) a S n
  | .ins C dx fs => H dx = some (.own a) ∧ fs.length ≤ 1000 ∧ dx ≠ a ∧ h.get? a = some (PySem.W.instObj C dx) ∧
      ∃ mA, h.Ns1 dx mA ∧ (∀ f, RelO (fs.lookup f) (mA f)) ∧ PySem.Within mA (fs.map (·.1))
  | .own _ => ∃ o, h.get? a = some o
  | .xd fs => ∃ mA, h.Ns1 a mA ∧ ∀ f, RelO (fs.lookup f) (mA f)
  | .rng lo hi => ∃ t u v, h.get? a = some { cls := .type "range", data := .fields #[.int lo t, .int hi u, .int 1 v] }
  | .frz o u => h.get? a = some o ∧ ObjOk H h a u
  | .tbl ps => h.get? a = some { cls := .none, data := .fields ps }
  | .met f x => h.get? a = some (PySem.W.methodObj (.ref f) (.ref x))
  | .ext φ => φ h ∧ (∃ o, h.get? a = some o) ∧ ∀ h1 h2 : Heap, φ h1 → (∀ o, h1.get? a = some o → h2.get? a = some o) → φ h2
/-- the abstract heap is held -/
def HOk (H : Hp) (h : Heap) : Prop := ∀ a o, H a = some o → ObjOk P w H h a o
end

section
variable {P : Program} {w : World} {H H' : Hp} {h h' : Heap} {a : Addr} {o : HO}
theorem ObjOk.lt (x : ObjOk P w H h a o) : a < h.objs.size := by
  cases o with
  | lst xs => obtain ⟨_, _, _, _, e⟩ := x; exact Heap.lt_size e
  | tup xs => obtain ⟨_, _, _, p⟩ := x; exact p.lt
  | dK kvs => obtain ⟨_, _, _, _, o, _, _, e, _⟩ := x; exact Heap.lt_size e
  | dT kvs => obtain ⟨_, _, _, _, o, _, _, e, _⟩ := x; exact Heap.lt_size e
  | set S n => obtain ⟨o, _, _, _, e, _⟩ := x; exact Heap.lt_size e
  | ins C dx fs => obtain ⟨_, _, _, e, _⟩ := x; exact Heap.lt_size e
  | own y => obtain ⟨_, e⟩ := x; exact Heap.lt_size e
  | xd fs => obtain ⟨_, ⟨_, _, _, e, _⟩, _⟩ := x; exact Heap.lt_size e
  | rng lo hi => obtain ⟨_, _, _, e⟩ := x; exact Heap.lt_size e
  | frz ob u => obtain ⟨e, _⟩ := x; exact Heap.lt_size e
  | tbl ps => exact Heap.lt_size (show h.get? a = some _ from x)
  | met f y => exact Heap.lt_size (show h.get? a = some _ from x)
  | ext φ => obtain ⟨_, ⟨_, e⟩, _⟩ := x; exact Heap.lt_size e
theorem Paired.mapP {α β : Type} {F G : α → β → Prop} : ∀ {l₁ : List α} {l₂ : List β}, Paired F l₁ l₂ → (∀ a b, F a b → G a b) → Paired G l₁ l₂
  | _, _, .nil, _ => .nil
  | _, _, .cons r t, f => .cons (f _ _ r) (Paired.mapP t f)
/-- what an object's description leans on: its own object, its own dict, the tuples -/
theorem ObjOk.stay (x : ObjOk P w H h a o) (k : ∀ b u, (b = a ∨ H b = some (.own a)) → h.get? b = some u → h'.get? b = some u)
    (ho : ∀ b, H b = some (.own a) → H' b = some (.own a)) (ht : ∀ b xs, H b = some (.tup xs) → H' b = some (.tup xs)) : ObjOk P w H' h' a o := by
  induction o with
  | lst xs => obtain ⟨z, its, n, r, e⟩ := x; exact ⟨z, its, n, r, k _ _ (.inl rfl) e⟩
  | tup xs => obtain ⟨z, its, r, ob, e, c⟩ := x; exact ⟨z, its, r, ob, k _ _ (.inl rfl) e, c⟩
  | dK kvs => obtain ⟨z, y, vs, r, ob, es, ep, e, c⟩ := x; exact ⟨z, y, vs, r, ob, es, ep, k _ _ (.inl rfl) e, c⟩
  | dT kvs =>
    obtain ⟨z, y, xs, r, ob, es, ep, e, c⟩ := x
    exact ⟨z, y, xs, Paired.mapP r fun p q z => ⟨z.1, ht _ _ z.2.1, z.2.2⟩, ob, es, ep, k _ _ (.inl rfl) e, c⟩
  | set S n => obtain ⟨ob, es, ep, t, e, c⟩ := x; exact ⟨ob, es, ep, t, k _ _ (.inl rfl) e, c⟩
  | ins C dx fs =>
    obtain ⟨d, z, ne, e, mA, ⟨od, es, ep, e2, c⟩, r⟩ := x
    exact ⟨ho _ d, z, ne, k _ _ (.inl rfl) e, mA, ⟨od, es, ep, k _ _ (.inr d) e2, c⟩, r⟩
  | own y => obtain ⟨ob, e⟩ := x; exact ⟨ob, k _ _ (.inl rfl) e⟩
  | xd fs => obtain ⟨mA, ⟨od, es, ep, e, c⟩, r⟩ := x; exact ⟨mA, ⟨od, es, ep, k _ _ (.inl rfl) e, c⟩, r⟩
  | rng lo hi => obtain ⟨t, u, v, e⟩ := x; exact ⟨t, u, v, k _ _ (.inl rfl) e⟩
  | frz ob u ih => obtain ⟨e, q⟩ := x; exact ⟨k _ _ (.inl rfl) e, ih q⟩
  | tbl ps =>
    have e : h.get? a = some { cls := .none, data := .fields ps } := x
    show h'.get? a = some { cls := .none, data := .fields ps }
    exact k a _ (.inl rfl) e
  | met f y =>
    have e : h.get? a = some (PySem.W.methodObj (.ref f) (.ref y)) := x
    show h'.get? a = some (PySem.W.methodObj (.ref f) (.ref y))
    exact k a _ (.inl rfl) e
  | ext φ => obtain ⟨p, ⟨o, e⟩, st⟩ := x; exact ⟨st _ _ p fun o q => k _ _ (.inl rfl) q, ⟨o, k _ _ (.inl rfl) e⟩, st⟩
theorem HOk.lt (x : HOk P w H h) (e : H a = some o) : a < h.objs.size := (x a o e).lt
theorem HOk.fresh (x : HOk P w H h) (e : h.objs.size ≤ a) : H a = none := by
  cases q : H a with
  | none => rfl
  | some u => exact absurd (Nat.lt_of_lt_of_le (x.lt q) e) (Nat.lt_irrefl _)
/-- every object of the heap is kept -/
theorem HOk.kept (x : HOk P w H h) (k : ∀ b u, h.get? b = some u → h'.get? b = some u) : HOk P w H h' := fun a o e =>
  (x a o e).stay (fun b u _ q => k b u q) (fun _ q => q) fun _ _ q => q
/-- a new object is laid and tracked -/
theorem HOk.laid (x : HOk P w H h) (k : ∀ b u, h.get? b = some u → h'.get? b = some u) (hp : h.objs.size ≤ a) (new : ObjOk P w (upd H a o) h' a o) : HOk P w (upd H a o) h' := fun b u e => by
  have hn := x.fresh hp
  by_cases hb : b = a
  · subst hb; rw [upd_same] at e; cases e; exact new
  · rw [upd_ne hb] at e
    exact (x b u e).stay (fun c v _ q => k c v q) (fun c q => by rw [upd_ne (ne_of_none q hn)]; exact q) fun c xs q => by rw [upd_ne (ne_of_none q hn)]; exact q
end

/-- what may be read as u: it is u, or a known u -/
def Rd (H : Hp) (a : Addr) (u : HO) : Prop := H a = some u ∨ ∃ o, H a = some (.frz o u)
theorem Rd.ok {P : Program} {w : World} {H : Hp} {h : Heap} {a : Addr} {u : HO} (r : Rd H a u) (x : HOk P w H h) : ObjOk P w H h a u := by
  rcases r with r | ⟨o, r⟩
  · exact x a u r
  · obtain ⟨_, q⟩ := x a _ r
    exact q
/-- what may be written -/
def Mut : Option HO → Prop
  | some (.lst _) => True
  | some (.dK _) => True
  | some (.dT _) => True
  | some (.set _ _) => True
  | some (.ins _ _ _) => True
  | some (.ext _) => True
  | _ => False
section
variable {P : Program} {w : World} {H : Hp} {h h' : Heap} {x e : Addr} {o' : HO}
/-- the object at e is changed: x itself, or the dict of the instance x -/
theorem HOk.write (ok : HOk P w H h) (mu : Mut (H x)) (he : e = x ∨ H e = some (.own x)) (k : ∀ b u, b ≠ e → h.get? b = some u → h'.get? b = some u) (heo : ∃ u, h'.get? e = some u)
    (new : ObjOk P w (upd H x o') h' x o') : HOk P w (upd H x o') h' := fun b u q => by
  have nown : ∀ c y, H c = some (.own y) → c ≠ x := fun c y r z => by subst z; rw [r] at mu; exact mu
  have ntup : ∀ c xs, H c = some (.tup xs) → c ≠ x := fun c xs r z => by subst z; rw [r] at mu; exact mu
  by_cases hb : b = x
  · subst hb; rw [upd_same] at q; cases q; exact new
  · rw [upd_ne hb] at q
    by_cases hbe : b = e
    · have q' : H b = some (.own x) := by
        rcases he with z | z
        · exact absurd (hbe.trans z) hb
        · rw [hbe]; exact z
      rw [q] at q'; cases q'
      obtain ⟨v, hv⟩ := heo
      exact ⟨v, by rw [hbe]; exact hv⟩
    · refine (ok b u q).stay (fun c v hc r => k c v ?_ r) (fun c r => by rw [upd_ne (nown c b r)]; exact r) fun c xs r => by rw [upd_ne (ntup c xs r)]; exact r
      rcases hc with rfl | hc
      · exact hbe
      · rintro rfl
        rcases he with z | z
        · exact nown c b hc z
        · rw [hc] at z; cases z; exact hb rfl
end

/-! ### kept unless tracked; of the frames at fs (the callers') the slots may change (an exception that passes writes there); of the records at ex (iterators) nothing is said -/
structure Un (fs ex : List Addr) (H H' : Hp) (h h' : Heap) : Prop where
  keep : ∀ b o, h.get? b = some o → H b = none → b ∉ fs → b ∉ ex → h'.get? b = some o
  slot : ∀ b o, h.get? b = some o → H b = none → b ∈ fs → b ∉ ex → ∃ sl, h'.get? b = some { o with slots := sl }
  free : ∀ b o, h.get? b = some o → H b = none → b ∉ ex → H' b = none
  there : ∀ b o, h.get? b = some o → b ∉ ex → ∃ o', h'.get? b = some o'
  tups : ∀ b xs, H b = some (.tup xs) → H' b = some (.tup xs)
  frzs : ∀ b o u, H b = some (.frz o u) → H' b = some (.frz o u)
  tbls : ∀ b ps, H b = some (.tbl ps) → ∃ more, H' b = some (.tbl (ps ++ more))
section
variable {fs fs' ex ex' : List Addr} {H H1 H2 : Hp} {h h1 h2 h' : Heap} {a x e : Addr} {o : HO}
theorem Un.any (u : Un fs ex H H1 h h1) {b : Addr} {ob : Obj} (q : h.get? b = some ob) (n : H b = none) (hx : b ∉ ex) : ∃ sl, h1.get? b = some { ob with slots := sl } := by
  by_cases hb : b ∈ fs
  · exact u.slot b ob q n hb hx
  · exact ⟨ob.slots, u.keep b ob q n hb hx⟩
theorem Un.kept (k : ∀ b u, h.get? b = some u → h'.get? b = some u) : Un fs ex H H h h' :=
  ⟨fun b ob q _ _ _ => k b ob q, fun b ob q _ _ _ => ⟨ob.slots, k b ob q⟩, fun _ _ _ n _ => n, fun b ob q _ => ⟨ob, k b ob q⟩, fun _ _ q => q, fun _ _ _ q => q, fun _ ps q => ⟨#[], by rw [q]; simp⟩⟩
theorem Un.refl : Un fs ex H H h h := Un.kept fun _ _ q => q
theorem Un.laid (k : ∀ b u, h.get? b = some u → h'.get? b = some u) (hp : h.objs.size ≤ a) (hn : H a = none) : Un fs ex H (upd H a o) h h' where
  keep := fun b u q _ _ _ => k b u q
  slot := fun b u q _ _ _ => ⟨u.slots, k b u q⟩
  free := fun b u q n _ => by rw [upd_ne (Nat.ne_of_lt (Nat.lt_of_lt_of_le (Heap.lt_size q) hp))]; exact n
  there := fun b u q _ => ⟨u, k b u q⟩
  tups := fun b xs q => by rw [upd_ne (ne_of_none q hn)]; exact q
  frzs := fun b u xs q => by rw [upd_ne (ne_of_none q hn)]; exact q
  tbls := fun b ps q => ⟨#[], by rw [upd_ne (ne_of_none q hn), q]; simp⟩
theorem Un.write (mu : Mut (H x)) (he : e = x ∨ H e = some (.own x)) (k : ∀ b u, b ≠ e → h.get? b = some u → h'.get? b = some u) (heo : ∃ u, h'.get? e = some u) : Un fs ex H (upd H x o) h h' := by
  have hx : ∀ b, H b = none → b ≠ x := fun b n z => by subst z; rw [n] at mu; exact mu
  have hb : ∀ b, H b = none → b ≠ e := fun b n z => by
    subst z
    rcases he with r | r
    · exact hx b n r
    · rw [n] at r; cases r
  have hm : ∀ b u, H b = some u → ¬ Mut (some u) → b ≠ x := fun b u q nm z => by subst z; rw [q] at mu; exact nm mu
  refine ⟨fun b u q n _ _ => k b u (hb b n) q, fun b u q n _ _ => ⟨u.slots, k b u (hb b n) q⟩, fun b u q n _ => by rw [upd_ne (hx b n)]; exact n, fun b u q _ => ?_,
    fun b xs q => by rw [upd_ne (hm b _ q fun z => z)]; exact q, fun b u xs q => by rw [upd_ne (hm b _ q fun z => z)]; exact q, fun b ps q => ⟨#[], by rw [upd_ne (hm b _ q fun z => z), q]; simp⟩⟩
  by_cases hbe : b = e
  · subst hbe; exact heo
  · exact ⟨u, k b u hbe q⟩
end

/-! ### the heap without what is tracked -/
def trk (h : Heap) (H : Hp) : List Addr := (List.range h.objs.size).filter fun a => (H a).isSome
def hidT (h : Heap) (H : Hp) : Heap := PySem.W.hideAll h (trk h H)
theorem hidT_size (h : Heap) (H : Hp) : (hidT h H).objs.size = h.objs.size := PySem.W.hideAll_size _ _
theorem hidT_get {h : Heap} {H : Hp} {b : Addr} {o : Obj} (e : h.get? b = some o) (n : H b = none) : (hidT h H).get? b = some o :=
  PySem.W.hideAll_get _ e fun hm => by
    have q : (H b).isSome = true := (List.mem_filter.mp hm).2
    rw [n] at q; simp at q
theorem of_hidT {h : Heap} {H : Hp} {b : Addr} {o : Obj} (e : (hidT h H).get? b = some o) : h.get? b = some o ∧ H b = none := by
  have e' : h.get? b = some o := PySem.W.of_hideAll (trk h H) e
  refine ⟨e', ?_⟩
  cases q : H b with
  | none => rfl
  | some x =>
    have hm : b ∈ trk h H := List.mem_filter.mpr ⟨List.mem_range.mpr (Heap.lt_size e'), by simp [q]⟩
    have z : (hidT h H).get? b = none := PySem.W.hideAll_none (trk h H) hm
    rw [z] at e; cases e

/-! ### OpenK's ledger, filled with every new object but one -/
end L2

namespace L2
open PySem PySem.Spec PyProof.Rows

/-- the module's facts, over the base: the heap at the law's entry without what is tracked there -/
structure Mod (K : PySem.W.Frag) (mg : Str → Option Value) (base : Heap) : Prop where
  kin : K.In base
  glob : base.Ns mainGlobals mg
  blt : ∃ mb, base.Ns builtinsNs mb ∧ ∀ x : Str, x ≠ "__name__" → mb x = bootBuiltins x
  nolimit : base.NoLimit

/-- the context: a def's body (or a comprehension's block) running. base: fixed through the whole law; s₀, H₀: the entry; outer: the frames whose slots others may change (a def's callers); stack: all frames that run;
   ex: iterators that were made ahead of the entry and are walked here (a comprehension's); fn: the names whose cells were made at the entry (a def: all; a comprehension's block: its own); calm: not within an except suite; pn: pins that every state bears; xe: what is wanted of an exception that leaves the code -/
structure Cx where
  prog : Program
  w : World
  K : PySem.W.Frag
  mg : Str → Option Value
  base : Heap
  A : Around
  N : List Str
  s₀ : Shared
  H₀ : Hp
  env : Env
  outer : List Env
  stack : List Env
  ex : List Addr
  fn : Str → Bool
  calm : Bool
  pn : List (Addr × Obj)
  xe : Value → Shared → Prop
/-- the callers' frames -/
def frs (l : List Env) : List Addr := l.filterMap (·.frame)
abbrev Cx.fs (X : Cx) : List Addr := frs X.outer

def Vis (sc : Scope) (x : Str) : Prop := sc.names.lookup x = some .local ∨ sc.names.lookup x = some .cell ∨ sc.names.lookup x = some .free
def Loc (sc : Scope) (x : Str) : Prop := sc.names.lookup x = some .local ∨ sc.names.lookup x = some .cell
def Look (env : Env) (h : Heap) (m : Str → Option Value) (x : Str) (u : Value) : Prop :=
  (env.kindOf x = some .local ∧ m x = some u) ∨ ((env.kindOf x = some .cell ∨ env.kindOf x = some .free) ∧ ∃ c, env.cells.lookup x = some c ∧ h.IsCell c (some u))

structure Cx.Ok (X : Cx) : Prop where
  mod : Mod X.K X.mg X.base
  kind : X.env.scope.kind = .function
  glob : X.env.globals = mainGlobals
  blt : X.env.builtins = builtinsNs
  above : X.s₀.heap.objs.size ≤ X.env.locals
  inj : ∀ x y c, X.env.cells.lookup x = some c → X.env.cells.lookup y = some c → x = y
  has : ∀ x, (X.env.kindOf x = some .cell ∨ X.env.kindOf x = some .free) → ∃ c, X.env.cells.lookup x = some c
  cab : ∀ x c, X.fn x = true → X.env.cells.lookup x = some c → X.s₀.heap.objs.size ≤ c
  hd : X.calm = true → X.A.handled = none
  frames : X.A.frames = some X.stack
  stk : X.stack = X.outer ∨ (X.stack = X.env :: X.outer ∧ X.env.frame = some X.env.locals)
  exf : ∀ b ∈ X.ex, b ≠ X.env.locals ∧ ∀ x c, X.env.cells.lookup x = some c → c ≠ b
  bs : ∀ b o, X.base.get? b = some o → X.s₀.heap.get? b = some o ∧ X.H₀ b = none
  bsz : X.base.objs.size ≤ X.s₀.heap.objs.size
  noex : ∀ b o, X.base.get? b = some o → b ∉ X.ex
  exfs : ∀ b ∈ X.ex, b ∉ X.fs
  funs : X.s₀.heap.FunFrames X.base X.outer
  frf : ∀ b ∈ X.fs, X.H₀ b = none

structure Inv (X : Cx) (pins : List (Addr × Obj)) (σ : List (Option V)) (H : Hp) (s : Shared) : Prop where
  ok : X.Ok
  os : s.os = X.s₀.os
  bare : AllBare s.gens
  base : Un X.fs X.ex X.H₀ H X.s₀.heap s.heap
  loc : ∃ m, s.heap.Ns X.env.locals m ∧ ∀ (i : Nat) (x : Str) (v : V), X.N[i]? = some x → σ[i]? = some (some v) → Vis X.env.scope x → ∃ u, RelV v u ∧ Look X.env s.heap m x u
  cell : ∀ x c, X.env.cells.lookup x = some c → ∃ v, s.heap.IsCell c v
  free : H X.env.locals = none
  freeC : ∀ x c, X.env.cells.lookup x = some c → H c = none
  pin : ∀ p ∈ X.pn ++ pins, s.heap.get? p.1 = some p.2 ∧ H p.1 = none ∧ p.1 ≠ X.env.locals ∧ p.1 ∉ X.fs ∧ ∀ v, p.2.data ≠ .cell v
  hok : HOk X.prog X.w H s.heap
  len : σ.length = X.N.length

section
variable {X : Cx} {pins : List (Addr × Obj)} {σ : List (Option V)} {H H' : Hp} {s : Shared} {h' : Heap}

theorem Cx.Ok.nofr (ok : X.Ok) {b : Addr} {o : Obj} (e : X.base.get? b = some o) : b ∉ X.fs := fun hb => by
  have := (ok.funs.mem hb).1
  rw [e] at this; cases this
theorem Inv.bs (I : Inv X pins σ H s) : ∀ b o, X.base.get? b = some o → s.heap.get? b = some o ∧ H b = none := fun b o e =>
  ⟨I.base.keep b o (I.ok.bs b o e).1 (I.ok.bs b o e).2 (I.ok.nofr e) (I.ok.noex b o e), I.base.free b o (I.ok.bs b o e).1 (I.ok.bs b o e).2 (I.ok.noex b o e)⟩
theorem Inv.bk (I : Inv X pins σ H s) : ∀ b o, X.base.get? b = some o → s.heap.get? b = some o := fun b o e => (I.bs b o e).1
theorem Inv.mod (I : Inv X pins σ H s) : Mod X.K X.mg X.base := I.ok.mod
theorem Inv.kIn (I : Inv X pins σ H s) : X.K.In s.heap := I.ok.mod.kin.keeps I.bk
theorem Inv.lt (I : Inv X pins σ H s) : X.env.locals < s.heap.objs.size := let ⟨_, hn, _⟩ := I.loc; hn.lt
theorem Inv.sz (I : Inv X pins σ H s) : X.s₀.heap.objs.size ≤ s.heap.objs.size := Nat.le_trans I.ok.above (Nat.le_of_lt I.lt)
theorem Inv.nofs (I : Inv X pins σ H s) {a : Addr} (h : s.heap.objs.size ≤ a) : a ∉ X.fs := fun hb => by
  obtain ⟨_, o, ho, _⟩ := I.ok.funs.mem hb
  exact absurd (Nat.lt_of_lt_of_le (Heap.lt_size ho) (Nat.le_trans I.sz h)) (Nat.lt_irrefl _)
theorem Inv.cne (I : Inv X pins σ H s) : ∀ x c, X.env.cells.lookup x = some c → c ≠ X.env.locals := fun x c e z => by
  obtain ⟨v, o, ho, hd⟩ := I.cell x c e
  obtain ⟨m, ⟨o', es, ep, ho', hd', _⟩, _⟩ := I.loc
  rw [z, ho'] at ho; cases ho; rw [hd'] at hd; cases hd
theorem Inv.funs (I : Inv X pins σ H s) : s.heap.FunFrames X.base X.outer := by
  have all : ∀ (l : List Env), (∀ b ∈ frs l, b ∈ X.fs) → X.s₀.heap.FunFrames X.base l → s.heap.FunFrames X.base l := by
    intro l
    induction l with
    | nil => intro _ _; trivial
    | cons env r ih =>
      intro hs hl
      obtain ⟨hk, ⟨L, o, hf, hn, ho, hd⟩, hr⟩ := hl
      have hL : L ∈ X.fs := hs L (by unfold frs; rw [List.filterMap_cons, hf]; exact List.mem_cons_self)
      obtain ⟨sl, e⟩ := I.base.slot L o ho (I.ok.frf L hL) hL fun z => I.ok.exfs L z hL
      exact ⟨hk, ⟨L, _, hf, hn, e, hd⟩, ih (fun b hb => hs b (by unfold frs; rw [List.filterMap_cons, hf]; exact List.mem_cons_of_mem _ hb)) hr⟩
  exact all X.outer (fun _ hb => hb) I.ok.funs

/-- the frames that run, for a call -/
theorem Inv.stack (I : Inv X pins σ H s) : s.heap.FunFrames X.base X.stack := by
  rcases I.ok.stk with e | ⟨e, hf⟩
  · rw [e]; exact I.funs
  · rw [e]
    obtain ⟨m, hn, _⟩ := I.loc
    refine .cons (by rw [I.ok.kind]; decide) hf hn ?_ I.funs
    exact Heap.get?_none_of_le (Nat.le_trans I.ok.bsz I.ok.above)
theorem Inv.stkSub (I : Inv X pins σ H s) : ∀ b ∈ frs X.stack, b ∈ X.env.locals :: X.fs := fun b hb => by
  rcases I.ok.stk with e | ⟨e, hf⟩
  · rw [e] at hb; exact List.mem_cons_of_mem _ hb
  · rw [e] at hb
    unfold frs at hb
    rw [List.filterMap_cons, hf] at hb
    exact hb
theorem Inv.stkFree (I : Inv X pins σ H s) : ∀ b ∈ frs X.stack, H b = none := fun b hb => by
  rcases List.mem_cons.mp (I.stkSub b hb) with e | hb
  · rw [e]; exact I.free
  · obtain ⟨_, o, ho, _⟩ := I.ok.funs.mem hb
    exact I.base.free b o ho (I.ok.frf b hb) fun z => I.ok.exfs b z hb

/-- THE STEP: the untracked objects but the frame and the records at ch are kept (the callers' frames up to slots), the frame's map is kept, the new abstract heap is held -/
theorem Inv.step {g' : Array GenState} {t' : Nat} {d' : Drawn} {ch : List Addr} (I : Inv X pins σ H s)
    (hch : ∀ b ∈ ch, (b ∈ X.ex ∨ X.s₀.heap.objs.size ≤ b) ∧ b ≠ X.env.locals ∧ (∀ x c, X.env.cells.lookup x = some c → c ≠ b) ∧ ∀ p ∈ X.pn ++ pins, p.1 ≠ b)
    (keep : ∀ b o, b ≠ X.env.locals → b ∉ X.fs → b ∉ ch → s.heap.get? b = some o → H b = none → h'.get? b = some o)
    (slot : ∀ b o, b ≠ X.env.locals → b ∈ X.fs → b ∉ ch → s.heap.get? b = some o → H b = none → ∃ sl, h'.get? b = some { o with slots := sl }) (free : ∀ b o, b ∉ ch → s.heap.get? b = some o → H b = none → H' b = none)
    (there : ∀ b o, b ∉ ch → s.heap.get? b = some o → ∃ o', h'.get? b = some o')
    (tups : ∀ b xs, H b = some (.tup xs) → H' b = some (.tup xs)) (frzs : ∀ b o u, H b = some (.frz o u) → H' b = some (.frz o u)) (tbls : ∀ b ps, H b = some (.tbl ps) → ∃ more, H' b = some (.tbl (ps ++ more)))
    (ns : ∀ m, s.heap.Ns X.env.locals m → h'.Ns X.env.locals m) (hok : HOk X.prog X.w H' h') (hg : AllBare g') :
    Inv X pins σ H' { s with heap := h', gens := g', drawn := d', toks := t' } := by
  have neL : ∀ b o, X.s₀.heap.get? b = some o → b ≠ X.env.locals := fun b o e => Nat.ne_of_lt (Nat.lt_of_lt_of_le (Heap.lt_size e) I.ok.above)
  have neC : ∀ b o, X.s₀.heap.get? b = some o → b ∉ X.ex → b ∉ ch := fun b o e hx hb => by
    rcases (hch b hb).1 with z | z
    · exact hx z
    · exact absurd (Nat.lt_of_lt_of_le (Heap.lt_size e) z) (Nat.lt_irrefl _)
  have cellK : ∀ x c, X.env.cells.lookup x = some c → ∀ v, s.heap.IsCell c v → h'.IsCell c v := fun x c e v ⟨o, ho, hd⟩ => by
    have nch : c ∉ ch := fun z => (hch c z).2.2.1 x c e rfl
    by_cases hc : c ∈ X.fs
    · obtain ⟨sl, q⟩ := slot c o (I.cne x c e) hc nch ho (I.freeC x c e)
      exact ⟨_, q, hd⟩
    · exact ⟨o, keep c o (I.cne x c e) hc nch ho (I.freeC x c e), hd⟩
  refine ⟨I.ok, I.os, hg, ⟨fun b o e n hb hx => ?_, fun b o e n hb hx => ?_, fun b o e n hx => ?_, fun b o e hx => ?_, fun b xs e => tups b xs (I.base.tups b xs e), fun b o xs e => frzs b o xs (I.base.frzs b o xs e), fun b ps e => ?_⟩, ?_, fun x c e => ?_, ?_, fun x c e => ?_, fun p hp => ?_, hok, I.len⟩
  · exact keep b o (neL b o e) hb (neC b o e hx) (I.base.keep b o e n hb hx) (I.base.free b o e n hx)
  · obtain ⟨sl, e1⟩ := I.base.slot b o e n hb hx
    obtain ⟨sl', e2⟩ := slot b _ (neL b o e) hb (neC b o e hx) e1 (I.base.free b o e n hx)
    exact ⟨sl', e2⟩
  · obtain ⟨o', e1⟩ := I.base.there b o e hx
    exact free b o' (neC b o e hx) e1 (I.base.free b o e n hx)
  · obtain ⟨o', e1⟩ := I.base.there b o e hx
    exact there b o' (neC b o e hx) e1
  · obtain ⟨m1, e1⟩ := I.base.tbls b ps e
    obtain ⟨m2, e2⟩ := tbls b _ e1
    exact ⟨m1 ++ m2, by rw [e2, Array.append_assoc]⟩
  · obtain ⟨m, hn, hl⟩ := I.loc
    refine ⟨m, ns m hn, fun i x v e1 e2 e3 => ?_⟩
    obtain ⟨u, r, l⟩ := hl i x v e1 e2 e3
    refine ⟨u, r, ?_⟩
    rcases l with l | ⟨k, c, e, z⟩
    · exact .inl l
    · exact .inr ⟨k, c, e, cellK x c e _ z⟩
  · obtain ⟨v, z⟩ := I.cell x c e
    exact ⟨v, cellK x c e v z⟩
  · obtain ⟨m, ⟨o, _, _, ho, _⟩, _⟩ := I.loc
    exact free _ o (fun z => (hch _ z).2.1 rfl) ho I.free
  · obtain ⟨v, o, ho, hd⟩ := I.cell x c e
    exact free c o (fun z => (hch c z).2.2.1 x c e rfl) ho (I.freeC x c e)
  · obtain ⟨e, n, ne, nf, d⟩ := I.pin p hp
    have nch : p.1 ∉ ch := fun z => (hch p.1 z).2.2.2 p hp rfl
    exact ⟨keep p.1 p.2 ne nf nch e n, free p.1 p.2 nch e n, ne, nf, d⟩
/-- .. where the frame's own object is kept too -/
theorem Inv.un {t' : Nat} (I : Inv X pins σ H s) (u : Un X.fs [] H H' s.heap h') (hok : HOk X.prog X.w H' h') : Inv X pins σ H' { s with heap := h', toks := t' } := by
  obtain ⟨m, ⟨o, es, ep, ho, r⟩, _⟩ := id I.loc
  obtain ⟨sl, hL⟩ := u.any ho I.free (by simp)
  exact I.step (g' := s.gens) (d' := s.drawn) (ch := []) (fun _ z => nomatch z) (fun b o _ hb _ e n => u.keep b o e n hb (by simp)) (fun b o _ hb _ e n => u.slot b o e n hb (by simp)) (fun b o _ e n => u.free b o e n (by simp)) (fun b o _ e => u.there b o e (by simp)) u.tups u.frzs u.tbls (fun m' hm => by
    obtain ⟨o', es', ep', ho', r'⟩ := hm
    rw [ho] at ho'; cases ho'
    exact ⟨_, es', ep', hL, r'⟩) hok I.bare
/-- behind a call (or a comprehension's block): the slots of this frame may have changed too, the records at ch may have turned -/
theorem Inv.call {g' : Array GenState} {t' : Nat} {d' : Drawn} {ch : List Addr} (I : Inv X pins σ H s) (u : Un (frs X.stack) ch H H' s.heap h') (hok : HOk X.prog X.w H' h') (hg : AllBare g')
    (hch : ∀ b ∈ ch, (b ∈ X.ex ∨ X.s₀.heap.objs.size ≤ b) ∧ b ≠ X.env.locals ∧ (∀ x c, X.env.cells.lookup x = some c → c ≠ b) ∧ ∀ p ∈ X.pn ++ pins, p.1 ≠ b) :
    Inv X pins σ H' { s with heap := h', gens := g', drawn := d', toks := t' } := by
  obtain ⟨m, ⟨o, es, ep, ho, r⟩, _⟩ := id I.loc
  obtain ⟨sl, hL⟩ := u.any ho I.free fun z => (hch _ z).2.1 rfl
  exact I.step (ch := ch) hch (fun b o hL hb hc e n => u.keep b o e n (fun z => (List.mem_cons.mp (I.stkSub b z)).elim hL hb) hc) (fun b o _ _ hc e n => u.any e n hc) (fun b o hc e n => u.free b o e n hc) (fun b o hc e => u.there b o e hc) u.tups u.frzs u.tbls (fun m' hm => by
    obtain ⟨o', es', ep', ho', r'⟩ := hm
    rw [ho] at ho'; cases ho'
    exact ⟨_, es', ep', hL, r'⟩) hok hg
/-- an untracked record of ours (an iterator) has turned -/
theorem Inv.turned {t' : Nat} {it : Addr} (I : Inv X pins σ H s) (k : ∀ b o, b ≠ it → s.heap.get? b = some o → h'.get? b = some o) (hn : H it = none) (hL : it ≠ X.env.locals)
    (h1 : it ∈ X.ex ∨ X.s₀.heap.objs.size ≤ it) (h2 : ∀ x c, X.env.cells.lookup x = some c → c ≠ it) (h3 : ∀ p ∈ X.pn ++ pins, p.1 ≠ it) : Inv X pins σ H { s with heap := h', toks := t' } := by
  have nit : ∀ b u, H b = some u → b ≠ it := fun b u e z => by rw [z, hn] at e; cases e
  refine I.step (g' := s.gens) (d' := s.drawn) (ch := [it]) (fun b hb => ?_) (fun b o _ _ hc e _ => k b o (fun z => hc (by simp [z])) e) (fun b o _ _ hc e _ => ⟨o.slots, k b o (fun z => hc (by simp [z])) e⟩) (fun _ _ _ _ n => n)
    (fun b o hc e => ⟨o, k b o (fun z => hc (by simp [z])) e⟩) (fun _ _ e => e) (fun _ _ _ e => e) (fun b ps e => ⟨#[], by rw [e]; simp⟩) (fun m hm => ?_) (fun b u e => ?_) I.bare
  · have e : b = it := by simpa using hb
    subst e
    exact ⟨h1, hL, h2, h3⟩
  · obtain ⟨o, es, ep, ho, r⟩ := hm
    exact ⟨o, es, ep, k _ o (Ne.symm hL) ho, r⟩
  · refine (I.hok b u e).stay (fun c v hc q => k c v ?_ q) (fun _ q => q) fun _ _ q => q
    rcases hc with z | z
    · rw [z]; exact nit b u e
    · exact nit c _ z
theorem Inv.tok (I : Inv X pins σ H s) (t : Nat) : Inv X pins σ H { s with toks := t } := I.un (h' := s.heap) (t' := t) Un.refl I.hok
/-- all objects kept -/
theorem Inv.kept {t' : Nat} (I : Inv X pins σ H s) (k : ∀ b u, s.heap.get? b = some u → h'.get? b = some u) : Inv X pins σ H { s with heap := h', toks := t' } := I.un (Un.kept k) (I.hok.kept k)
/-- a new object laid and tracked -/
theorem Inv.laid {a : Addr} {o : HO} {t' : Nat} (I : Inv X pins σ H s) (k : ∀ b u, s.heap.get? b = some u → h'.get? b = some u) (hp : s.heap.objs.size ≤ a) (new : ObjOk X.prog X.w (upd H a o) h' a o) :
    Inv X pins σ (upd H a o) { s with heap := h', toks := t' } := I.un (Un.laid k hp (I.hok.fresh hp)) (I.hok.laid k hp new)
/-- an object written -/
theorem Inv.write {x e : Addr} {o : HO} {t' : Nat} (I : Inv X pins σ H s) (mu : Mut (H x)) (he : e = x ∨ H e = some (.own x)) (k : ∀ b u, b ≠ e → s.heap.get? b = some u → h'.get? b = some u) (heo : ∃ u, h'.get? e = some u)
    (new : ObjOk X.prog X.w (upd H x o) h' x o) : Inv X pins σ (upd H x o) { s with heap := h', toks := t' } := I.un (Un.write mu he k heo) (I.hok.write mu he k heo new)
theorem Inv.pins_of {pins' : List (Addr × Obj)} (I : Inv X pins σ H s) (h : ∀ p ∈ pins', s.heap.get? p.1 = some p.2 ∧ H p.1 = none ∧ p.1 ≠ X.env.locals ∧ p.1 ∉ X.fs ∧ ∀ v, p.2.data ≠ .cell v) : Inv X pins' σ H s :=
  ⟨I.ok, I.os, I.bare, I.base, I.loc, I.cell, I.free, I.freeC, fun p hp => (List.mem_append.mp hp).elim (fun z => I.pin p (List.mem_append_left _ z)) (h p), I.hok, I.len⟩

theorem nodup_ix {N : List Str} (hN : N.Nodup) {i j : Nat} {x : Str} (a : N[i]? = some x) (b : N[j]? = some x) : i = j := by
  obtain ⟨h1, e1⟩ := List.getElem?_eq_some_iff.mp a
  obtain ⟨h2, e2⟩ := List.getElem?_eq_some_iff.mp b
  exact (List.getElem_inj hN).mp (e1.trans e2.symm)

/-- a name is stored; what changed -/
theorem store_ok2 {M : Model} {A : Around} {E : Value → Shared → Prop} {i : Nat} {x : Str} {v : V} {u : Value} {Q : Unit → Shared → Prop} (I : Inv X pins σ H s) (hN : X.N.Nodup) (hi : X.N[i]? = some x) (hx : Loc X.env.scope x) (r : RelV v u)
    (h : ∀ s', Inv X pins (σ.set i (some v)) H s' → (∃ a, Heap.SameBut a s.heap s'.heap ∧ (a = X.env.locals ∨ X.env.cells.lookup x = some a)) → Q () s') (hf : X.fn x = true ∨ X.env.scope.names.lookup x = some .local := by first | exact .inl rfl | exact .inr rfl | assumption) : wpAny M A (storeName X.env x u) Q E s := by
  obtain ⟨m, hn, hl⟩ := id I.loc
  have hcls : (X.env.scope.kind == .class || (X.env.scope.kind == .module && X.env.locals != X.env.globals)) = false := by rw [I.ok.kind]; rfl
  have hiσ : i < σ.length := by rw [I.len]; exact (List.getElem?_eq_some_iff.mp hi).1
  have cne := I.cne
  have tracked : ∀ {a : Addr} {h' : Heap}, (∃ o, s.heap.get? a = some o ∧ H a = none) → Heap.SameBut a s.heap h' → HOk X.prog X.w H h' := fun {a h'} ha hs b ob e => by
    obtain ⟨_, _, hfree⟩ := ha
    refine (I.hok b ob e).stay (fun c w' hc q => (hs.2 c ?_).trans q) (fun _ q => q) fun _ _ q => q
    rintro rfl
    rcases hc with rfl | hc
    · rw [hfree] at e; cases e
    · rw [hfree] at hc; cases hc
  rcases hx with hk | hk
  · refine wpAny_storeName_local hk hn (fun h' hn' hs => ?_) hcls
    obtain ⟨oL, _, _, hoL, _⟩ := id hn
    refine h _ ⟨I.ok, I.os, I.bare, ⟨fun b o e n hb hx => ?_, fun b o e n hb hx => ?_, I.base.free, fun b o e hx => ?_, I.base.tups, I.base.frzs, I.base.tbls⟩, ⟨_, hn', fun j y v' e1 e2 e3 => ?_⟩, fun y c e => ?_, I.free, I.freeC, fun p hp => ?_, tracked ⟨oL, hoL, I.free⟩ hs, by simpa using I.len⟩ ⟨_, hs, .inl rfl⟩
    · exact (hs.2 b (Nat.ne_of_lt (Nat.lt_of_lt_of_le (Heap.lt_size e) I.ok.above))).trans (I.base.keep b o e n hb hx)
    · obtain ⟨sl, e1⟩ := I.base.slot b o e n hb hx
      exact ⟨sl, (hs.2 b (Nat.ne_of_lt (Nat.lt_of_lt_of_le (Heap.lt_size e) I.ok.above))).trans e1⟩
    · obtain ⟨o', e1⟩ := I.base.there b o e hx
      exact ⟨o', (hs.2 b (Nat.ne_of_lt (Nat.lt_of_lt_of_le (Heap.lt_size e) I.ok.above))).trans e1⟩
    · by_cases hj : j = i
      · subst hj
        rw [hi] at e1; cases e1
        rw [List.getElem?_set_self hiσ] at e2
        cases e2
        exact ⟨u, r, .inl ⟨hk, by simp⟩⟩
      · rw [List.getElem?_set_ne (Ne.symm hj)] at e2
        obtain ⟨u', r', q⟩ := hl j y v' e1 e2 e3
        refine ⟨u', r', ?_⟩
        rcases q with ⟨k, e⟩ | ⟨k, c, e, z⟩
        · refine .inl ⟨k, ?_⟩
          have : y ≠ x := fun e => hj (nodup_ix hN e1 (e ▸ hi))
          simp [this, e]
        · exact .inr ⟨k, c, e, z.sameBut hs (cne y c e)⟩
    · obtain ⟨w', z⟩ := I.cell y c e
      exact ⟨w', z.sameBut hs (cne y c e)⟩
    · obtain ⟨e, n, ne, nf, d⟩ := I.pin p hp
      exact ⟨(hs.2 p.1 ne).trans e, n, ne, nf, d⟩
  · have hfn : X.fn x = true := by
      rcases hf with z | z
      · exact z
      · rw [z] at hk; cases hk
    obtain ⟨c, hc⟩ := I.ok.has x (.inl hk)
    obtain ⟨w', z⟩ := I.cell x c hc
    refine wpAny_storeName_cell I.ok.kind hk hc z (fun h' hc' hs => ?_)
    obtain ⟨oc, hoc, hocd⟩ := id z
    refine h { s with heap := h' } ⟨I.ok, I.os, I.bare, ⟨fun b o e n hb hx => ?_, fun b o e n hb hx => ?_, I.base.free, fun b o e hx => ?_, I.base.tups, I.base.frzs, I.base.tbls⟩, ⟨m, hn.sameBut hs (Ne.symm (cne x c hc)), fun j y v' e1 e2 e3 => ?_⟩, fun y c' e => ?_, I.free, I.freeC, fun p hp => ?_, tracked ⟨oc, hoc, I.freeC x c hc⟩ hs, by simpa using I.len⟩ ⟨c, hs, .inr hc⟩
    · exact (hs.2 b (Nat.ne_of_lt (Nat.lt_of_lt_of_le (Heap.lt_size e) (I.ok.cab x c hfn hc)))).trans (I.base.keep b o e n hb hx)
    · obtain ⟨sl, e1⟩ := I.base.slot b o e n hb hx
      exact ⟨sl, (hs.2 b (Nat.ne_of_lt (Nat.lt_of_lt_of_le (Heap.lt_size e) (I.ok.cab x c hfn hc)))).trans e1⟩
    · obtain ⟨o', e1⟩ := I.base.there b o e hx
      exact ⟨o', (hs.2 b (Nat.ne_of_lt (Nat.lt_of_lt_of_le (Heap.lt_size e) (I.ok.cab x c hfn hc)))).trans e1⟩
    · by_cases hj : j = i
      · subst hj
        rw [hi] at e1; cases e1
        rw [List.getElem?_set_self hiσ] at e2
        cases e2
        exact ⟨u, r, .inr ⟨.inl hk, c, hc, hc'⟩⟩
      · rw [List.getElem?_set_ne (Ne.symm hj)] at e2
        obtain ⟨u', r', q⟩ := hl j y v' e1 e2 e3
        refine ⟨u', r', ?_⟩
        rcases q with q | ⟨k, c', e, z'⟩
        · exact .inl q
        · refine .inr ⟨k, c', e, z'.sameBut hs ?_⟩
          rintro rfl
          exact hj (nodup_ix hN e1 (I.ok.inj _ _ _ e hc ▸ hi))
    · by_cases hcc : c' = c
      · subst hcc; exact ⟨_, hc'⟩
      · obtain ⟨w2, z2⟩ := I.cell y c' e
        exact ⟨w2, z2.sameBut hs hcc⟩
    · obtain ⟨e, n, ne, nf, d⟩ := I.pin p hp
      refine ⟨(hs.2 p.1 ?_).trans e, n, ne, nf, d⟩
      intro q
      rw [q, hoc] at e
      have q' : oc = p.2 := Option.some.inj e
      exact d w' (by rw [← q']; exact hocd)
theorem store_ok {M : Model} {A : Around} {E : Value → Shared → Prop} {i : Nat} {x : Str} {v : V} {u : Value} {Q : Unit → Shared → Prop} (I : Inv X pins σ H s) (hN : X.N.Nodup) (hi : X.N[i]? = some x) (hx : Loc X.env.scope x) (r : RelV v u)
    (h : ∀ s', Inv X pins (σ.set i (some v)) H s' → Q () s') (hf : X.fn x = true ∨ X.env.scope.names.lookup x = some .local := by first | exact .inl rfl | exact .inr rfl | assumption) : wpAny M A (storeName X.env x u) Q E s :=
  store_ok2 I hN hi hx r (fun s' I' _ => h s' I') hf
/-- behind a call or a block, the state as it is -/
theorem Inv.call' {s' : Shared} {ch : List Addr} (I : Inv X pins σ H s) (ho : s'.os = s.os) (u : Un (frs X.stack) ch H H' s.heap s'.heap) (hok : HOk X.prog X.w H' s'.heap) (hg : AllBare s'.gens)
    (hch : ∀ b ∈ ch, (b ∈ X.ex ∨ X.s₀.heap.objs.size ≤ b) ∧ b ≠ X.env.locals ∧ (∀ x c, X.env.cells.lookup x = some c → c ≠ b) ∧ ∀ p ∈ X.pn ++ pins, p.1 ≠ b) : Inv X pins σ H' s' := by
  obtain ⟨h', g', d', t', o'⟩ := s'
  have e : o' = s.os := ho
  subst e
  exact I.call (g' := g') (t' := t') (d' := d') u hok hg hch
end

/-! ### the judgements -/
/-- an exception: its class, its own dict's address (where it has one), the abstract heap behind it -/
abbrev XK := Value → Option Addr → Hp → Prop
abbrev St := List (Option V)
abbrev VK := V → Hp → Prop
/-- an expression's reading; a test's; an argument list's -/
abbrev TE := St → Hp → VK → Prop
abbrev TT := St → Hp → (Bool → Hp → Prop) → Prop
abbrev TA := St → Hp → (List V → Hp → Prop) → Prop
/-- what is wanted behind a statement -/
structure Ends where
  nx : St → Hp → Prop
  rt : VK
  bk : St → Hp → Prop := fun _ _ => False
  ct : St → Hp → Prop := fun _ _ => False
abbrev TS := Ends → St → Hp → Prop

def EP (X : Cx) (pins : List (Addr × Obj)) (σ : St) (Q : VK) (u : Value) (s' : Shared) : Prop := ∃ v H', Inv X pins σ H' s' ∧ RelV v u ∧ Q v H'
def TP (X : Cx) (pins : List (Addr × Obj)) (σ : St) (Q : Bool → Hp → Prop) (b : Bool) (s' : Shared) : Prop := ∃ H', Inv X pins σ H' s' ∧ Q b H'
def AP (X : Cx) (pins : List (Addr × Obj)) (σ : St) (Q : List V → Hp → Prop) (us : List Value) (s' : Shared) : Prop := ∃ vs H', Inv X pins σ H' s' ∧ Vals vs us ∧ Q vs H'
def SP (X : Cx) (pins : List (Addr × Obj)) (D : Ends) (f : Flow) (s' : Shared) : Prop :=
  match f with
  | .next => ∃ σ' H', Inv X pins σ' H' s' ∧ D.nx σ' H'
  | .brk => ∃ σ' H', Inv X pins σ' H' s' ∧ D.bk σ' H'
  | .cont => ∃ σ' H', Inv X pins σ' H' s' ∧ D.ct σ' H'
  | .ret u => ∃ v σ' H', Inv X pins σ' H' s' ∧ RelV v u ∧ D.rt v H'

def PE (X : Cx) (e : Expr) (t : TE) : Prop :=
  ∀ (pins : List (Addr × Obj)) (s : Shared) (σ : St) (H : Hp) (Q : VK), Inv X pins σ H s → t σ H Q → wpAny (model X.prog X.w) X.A (eval e X.env) (EP X pins σ Q) X.xe s
def PT (X : Cx) (e : Expr) (t : TT) : Prop :=
  ∀ (pins : List (Addr × Obj)) (s : Shared) (σ : St) (H : Hp) (Q : Bool → Hp → Prop), Inv X pins σ H s → t σ H Q → wpAny (model X.prog X.w) X.A (isTrue e X.env (eval e X.env)) (TP X pins σ Q) X.xe s
/-- a test whatever its 'whole' is (and, or) -/
def PW (X : Cx) (e : Expr) (t : TT) : Prop :=
  ∀ (whole : Sem Value) (pins : List (Addr × Obj)) (s : Shared) (σ : St) (H : Hp) (Q : Bool → Hp → Prop), Inv X pins σ H s → t σ H Q → wpAny (model X.prog X.w) X.A (isTrue e X.env whole) (TP X pins σ Q) X.xe s
theorem PW.pt {X : Cx} {e : Expr} {t : TT} (h : PW X e t) : PT X e t := h _
/-- an argument list (no star), from the left -/
def PA (X : Cx) (es : List Expr) (t : TA) : Prop :=
  ∀ (pos : Pos) (pins : List (Addr × Obj)) (s : Shared) (σ : St) (H : Hp) (Q : List V → Hp → Prop), Inv X pins σ H s → t σ H Q → wpAny (model X.prog X.w) X.A (spliced (backTo pos (starEach es X.env))) (AP X pins σ Q) X.xe s
def PS (X : Cx) (st : Stmt) (t : TS) : Prop :=
  ∀ (pins : List (Addr × Obj)) (s : Shared) (σ : St) (H : Hp) (D : Ends), Inv X pins σ H s → t D σ H → wpAny (model X.prog X.w) X.A (exec st X.env) (SP X pins D) X.xe s
def PSs (X : Cx) (st : List Stmt) (t : TS) : Prop :=
  ∀ (pins : List (Addr × Obj)) (s : Shared) (σ : St) (H : Hp) (D : Ends), Inv X pins σ H s → t D σ H → wpAny (model X.prog X.w) X.A (execs st X.env) (SP X pins D) X.xe s
/-- weaken the end -/
theorem thn {α : Type} {t : Sem α} {Q Q' : α → Shared → Prop} {M : Model} {A : Around} {E : Value → Shared → Prop} {s : Shared} (h : wpAny M A t Q E s) (hQ : ∀ a s, Q a s → Q' a s) : wpAny M A t Q' E s := wpAny_mono h hQ fun _ _ x => x
end L2

namespace L2
open PySem PySem.Spec PyProof.Rows
section
variable {X : Cx}

/-- two expressions in a row -/
theorem bin {a b : Expr} {ta tb : TE} (ha : PE X a ta) (hb : PE X b tb) {pins : List (Addr × Obj)} {s : Shared} {σ : St} {H : Hp} {R : V → V → Hp → Prop} (I : Inv X pins σ H s) (h : ta σ H fun x H1 => tb σ H1 fun y H2 => R x y H2)
    {α : Type} {Q : α → Shared → Prop} {f : Value → Value → Sem α}
    (hf : ∀ v u s2 x y H2, Inv X pins σ H2 s2 → RelV x v → RelV y u → R x y H2 → wpAny (model X.prog X.w) X.A (f v u) Q X.xe s2) :
    wpAny (model X.prog X.w) X.A (eval a X.env) (fun v s₁ => wpAny (model X.prog X.w) X.A (eval b X.env) (fun u s₂ => wpAny (model X.prog X.w) X.A (f v u) Q X.xe s₂) X.xe s₁) X.xe s := by
  refine thn (ha pins s σ H _ I h) fun v s1 ⟨x, H1, I1, r1, q1⟩ => ?_
  refine thn (hb pins s1 σ H1 _ I1 q1) fun u s2 ⟨y, H2, I2, r2, q2⟩ => ?_
  exact hf v u s2 x y H2 I2 r1 r2 q2

/-! ### names and constants -/
def tVar (i : Nat) : TE := fun σ H Q => ∃ v, σ[i]? = some (some v) ∧ Q v H
def tC (v : V) : TE := fun _ H Q => Q v H
theorem pe_var {i : Nat} {x : Str} {pos : Pos} (hN : X.N[i]? = some x) (hv : Vis X.env.scope x) (hd : (x == ("__debug__" : Str)) = false := by decide) (hcd : (x == ("__classdict__" : Str)) = false := by decide) : PE X (.Name x pos) (tVar i) := by
  intro pins s σ H Q I h
  obtain ⟨v, e, h⟩ := h
  obtain ⟨m, hn, hl⟩ := I.loc
  obtain ⟨u, r, l⟩ := hl i x v hN e hv
  have fin : EP X pins σ Q u s := ⟨v, H, I, r, h⟩
  rcases l with ⟨hk, hm⟩ | ⟨hk, c, hc, hcell⟩
  · exact wpAny_Name (wpAny_loadName_local I.ok.kind hk hn hm fin) hd
  · rcases hk with hk | hk
    · exact wpAny_Name (wpAny_loadName_cell I.ok.kind hk hc hcell fin) hd
    · exact wpAny_Name (wpAny_loadName_free I.ok.kind hk hc hcell fin hcd) hd
theorem pe_int {i j pos} : PE X (.Constant (.int i) j pos) (tC (.int i)) := fun _ _ _ H _ I h => wpAny_Constant_int ⟨.int i, H, I.tok _, ⟨_, rfl⟩, h⟩
theorem pe_bl {b j pos} : PE X (.Constant (.bool b) j pos) (tC (.bl b)) := fun _ _ _ H _ I h => Constant_bool ⟨.bl b, H, I, rfl, h⟩
theorem pe_non {j pos} : PE X (.Constant .none j pos) (tC .non) := fun _ _ _ H _ I h => Constant_none ⟨.non, H, I, rfl, h⟩
theorem pe_str {x j pos} : PE X (.Constant (.str x) j pos) (tC (.str x)) := fun _ _ _ H _ I h => Calls.Constant_str ⟨.str x, H, I.tok _, ⟨_, rfl⟩, h⟩

/-- a global name of the def -/
def Gl (X : Cx) (x : Str) : Prop := X.env.kindOf x = some .globalImplicit
theorem ld_glob {E : Value → Shared → Prop} {pins : List (Addr × Obj)} {s : Shared} {σ : St} {H : Hp} {x : Str} {u : Value} {pos : Pos} {Q : Value → Shared → Prop} (I : Inv X pins σ H s) (hg : Gl X x) (hm : X.mg x = some u) (h : Q u s)
    (hd : (x == ("__debug__" : Str)) = false := by decide) : wpAny (model X.prog X.w) X.A (eval (.Name x pos) X.env) Q E s :=
  Calls.Name_function_global I.ok.kind hg (Calls.loadGlobal_global (by rw [I.ok.glob]; exact I.mod.glob.keeps I.bk) hm h) hd
theorem ld_blt {E : Value → Shared → Prop} {pins : List (Addr × Obj)} {s : Shared} {σ : St} {H : Hp} {x : Str} {u : Value} {pos : Pos} {Q : Value → Shared → Prop} (I : Inv X pins σ H s) (hg : Gl X x) (hm : X.mg x = none) (hv : bootBuiltins x = some u) (h : Q u s)
    (hn : x ≠ "__name__" := by decide) (hd : (x == ("__debug__" : Str)) = false := by decide) : wpAny (model X.prog X.w) X.A (eval (.Name x pos) X.env) Q E s := by
  obtain ⟨mb, h1, h2⟩ := I.mod.blt
  exact Calls.Name_function_global I.ok.kind hg (Calls.loadGlobal_builtin (by rw [I.ok.glob]; exact I.mod.glob.keeps I.bk) hm (by rw [I.ok.blt]; exact h1.keeps I.bk) ((h2 x hn).trans hv) h) hd
/-- a module's constant, a class, a function, as a value -/
theorem pe_glob {x : Str} {v : V} {u : Value} {pos : Pos} (hg : Gl X x) (hm : X.mg x = some u) (r : RelV v u) (hd : (x == ("__debug__" : Str)) = false := by decide) : PE X (.Name x pos) (tC v) :=
  fun _ _ _ H _ I h => ld_glob I hg hm ⟨v, H, I, r, h⟩ hd
theorem pe_bltn {x : Str} {v : V} {u : Value} {pos : Pos} (hg : Gl X x) (hm : X.mg x = none) (hv : bootBuiltins x = some u) (r : RelV v u) (hn : x ≠ "__name__" := by decide) (hd : (x == ("__debug__" : Str)) = false := by decide) : PE X (.Name x pos) (tC v) :=
  fun _ _ _ H _ I h => ld_blt I hg hm hv ⟨v, H, I, r, h⟩ hn hd

/-! ### arithmetic -/
variable {a b : Expr} {ta tb : TE} {pos : Pos}
/-! ### comparisons -/
def PC (X : Cx) (op : CmpOp) (a b : Expr) (t : TE) : Prop :=
  ∀ (pins : List (Addr × Obj)) (s : Shared) (σ : St) (H : Hp) (Q : VK), Inv X pins σ H s → t σ H Q →
    wpAny (model X.prog X.w) X.A (eval a X.env) (fun v s₁ => wpAny (model X.prog X.w) X.A (eval b X.env) (fun u s₂ => wpAny (model X.prog X.w) X.A (compareOp op v u) (EP X pins σ Q) X.xe s₂) X.xe s₁) X.xe s
/-- a comparison as a value, as a test -/
def tB (t : TE) : TT := fun σ H Q => t σ H fun x H1 => ∃ c, x = .bl c ∧ Q c H1
theorem pt_cmp {op : CmpOp} {t : TE} (h : PC X op a b t) (h1 : behindInMarks op b = false := by first | exact nobehind _ (by decide) (by decide) | rfl) : PT X (.Compare a [op] [b] pos) (tB t) := by
  intro pins s σ H Q I hw
  refine wpAny_isTrue_Compare1 (thn (h pins s σ H _ I hw) fun v s1 h1 => thn h1 fun u s2 h2 => thn h2 fun c s3 ⟨x, H1, I1, r1, q1⟩ => ?_) h1
  obtain ⟨d, rfl, q⟩ := q1
  cases r1
  exact wpAny_truthy_bool ⟨H1, I1, q⟩
/-- an expression whose value is a bool, as a test -/
theorem pt_val {e : Expr} {t : TE} (h : PE X e t) (he : ∀ whole, isTrue e X.env whole = (do let v ← whole; standAt e.pos; holding [v] (truthy v)) := by intro _; rfl) : PT X e (tB t) := by
  intro pins s σ H Q I hw
  refine isTrue_plain (thn (h pins s σ H _ I hw) fun v s1 ⟨x, H1, I1, r1, q1⟩ => ?_) (he _)
  obtain ⟨d, rfl, q⟩ := q1
  cases r1
  exact wpAny_truthy_bool ⟨H1, I1, q⟩

/-! ### and, or, not -/
variable {tA tB' : TT} {rest : List Expr}
def tAnd (t u : TT) : TT := fun σ H Q => t σ H fun c H1 => if c = true then u σ H1 Q else Q false H1
def tOr (t u : TT) : TT := fun σ H Q => t σ H fun c H1 => if c = true then Q true H1 else u σ H1 Q
def tNot (t : TT) : TT := fun σ H Q => t σ H fun c H1 => Q (!c) H1
theorem pw_and1 (ha : PT X a tA) : PW X (.BoolOp .And [a] pos) tA := by
  intro wh pins s σ H Q I h
  refine isTrue_and (thn (ha pins s σ H Q I h) fun c s1 e => ?_)
  cases c with
  | true => exact isTrue_and_nil e
  | false => exact e
theorem pw_or1 (ha : PT X a tA) : PW X (.BoolOp .Or [a] pos) tA := by
  intro wh pins s σ H Q I h
  refine isTrue_or (thn (ha pins s σ H Q I h) fun c s1 e => ?_)
  cases c with
  | false => exact isTrue_or_nil e
  | true => exact e
theorem pw_and (ha : PT X a tA) (hb : PW X (.BoolOp .And (b :: rest) pos) tB') : PW X (.BoolOp .And (a :: b :: rest) pos) (tAnd tA tB') := by
  intro wh pins s σ H Q I h
  refine isTrue_and (thn (ha pins s σ H _ I h) fun c s1 ⟨H1, I1, q1⟩ => ?_)
  cases c with
  | true => exact hb wh pins s1 σ H1 Q I1 q1
  | false => exact ⟨H1, I1, q1⟩
theorem pw_or (ha : PT X a tA) (hb : PW X (.BoolOp .Or (b :: rest) pos) tB') : PW X (.BoolOp .Or (a :: b :: rest) pos) (tOr tA tB') := by
  intro wh pins s σ H Q I h
  refine isTrue_or (thn (ha pins s σ H _ I h) fun c s1 ⟨H1, I1, q1⟩ => ?_)
  cases c with
  | true => exact ⟨H1, I1, q1⟩
  | false => exact hb wh pins s1 σ H1 Q I1 q1
theorem pt_not (ha : PT X a tA) : PT X (.UnaryOp .Not a pos) (tNot tA) := by
  intro pins s σ H Q I h
  exact isTrue_not (ha pins s σ H (fun c H1 => Q (!c) H1) I h)
/-- .. as values (bools) -/
def tAndV (ta tb : TE) : TE := fun σ H Q => ta σ H fun x H1 => ∃ c, x = .bl c ∧ if c = true then tb σ H1 Q else Q (.bl false) H1
theorem pe_one {op} {t : TE} (h : PE X a t) : PE X (.BoolOp op [a] pos) t := fun pins s σ H Q I hw => BoolOp_one (h pins s σ H Q I hw)
theorem pe_and (ha : PE X a ta) (hb : PE X (.BoolOp .And (b :: rest) pos) tb) : PE X (.BoolOp .And (a :: b :: rest) pos) (tAndV ta tb) := by
  intro pins s σ H Q I h
  refine BoolOp_and (thn (ha pins s σ H _ I h) fun v s1 ⟨x, H1, I1, r1, q1⟩ => ?_)
  obtain ⟨c, rfl, q1⟩ := q1
  cases r1
  refine wpAny_truthy_bool ?_
  cases c with
  | true => exact hb pins s1 σ H1 Q I1 q1
  | false => exact ⟨.bl false, H1, I1, rfl, q1⟩
/-- a if t else b -/
def tIf (t : TT) (ta tb : TE) : TE := fun σ H Q => t σ H fun c H1 => if c = true then ta σ H1 Q else tb σ H1 Q
theorem pe_ifExp {c : Expr} (hc : PT X c tA) (ha : PE X a ta) (hb : PE X b tb) : PE X (.IfExp c a b pos) (tIf tA ta tb) := by
  intro pins s σ H Q I h
  refine wpAny_IfExp (thn (hc pins s σ H _ I h) fun d s1 ⟨H1, I1, q1⟩ => ?_)
  cases d with
  | true => exact ha pins s1 σ H1 Q I1 q1
  | false => exact hb pins s1 σ H1 Q I1 q1
end
end L2

namespace L2
open PySem PySem.Spec PyProof.Rows

/-! ### a list, a tuple that is read: tracked, frozen, or an object of the module -/
def SqL (K : PySem.W.Frag) (H : Hp) (a : Addr) (xs : List V) : Prop :=
  Rd H a (.lst xs) ∨
    ∃ (o : Obj) (its : Array Value) (n : Nat), K.lookup a = some o ∧ o.cls = .type "list" ∧ o.dict = none ∧ o.data = .seq its n ∧ its.size ≤ sizeLine ∧ Vals xs its.toList
def SqT (K : PySem.W.Frag) (H : Hp) (a : Addr) (xs : List V) : Prop :=
  Rd H a (.tup xs) ∨
    ∃ (o : Obj) (its : Array Value) (n : Nat), K.lookup a = some o ∧ o.cls = .type "tuple" ∧ o.data = .seq its n ∧ its.size ≤ sizeLine ∧ Vals xs its.toList
def absV : Value → Option V
  | .none => some .non
  | .bool b => some (.bl b)
  | .int i _ => some (.int i)
  | .str x _ => some (.str x)
  | .bytes b _ => some (.byt b)
  | .float b _ => some (.flt b)
  | .ref a => some (.ref a)
  | .type n => some (.ty n)
  | _ => none
theorem RelV.abs {x : V} {u : Value} (r : RelV x u) : absV u = some x := by
  cases x with
  | non => cases r; rfl
  | bl _ => cases r; rfl
  | int _ => obtain ⟨t, rfl⟩ := r; rfl
  | str _ => obtain ⟨t, rfl⟩ := r; rfl
  | byt _ => obtain ⟨t, rfl⟩ := r; rfl
  | flt _ => obtain ⟨t, rfl⟩ := r; rfl
  | ref _ => cases r; rfl
  | ty _ => cases r; rfl
theorem RelV.inj {x y : V} {u : Value} (r : RelV x u) (q : RelV y u) : x = y := Option.some.inj (r.abs.symm.trans q.abs)
theorem Vals.inj : ∀ {xs ys : List V} {us : List Value}, Vals xs us → Vals ys us → xs = ys
  | _, _, _, .nil, .nil => rfl
  | _, _, _, .cons r t, .cons r' t' => by rw [r.inj r', Vals.inj t t']
section
variable {X : Cx} {pins : List (Addr × Obj)} {σ : St} {H : Hp} {s : Shared} {a : Addr} {xs ys : List V}
theorem SqL.of {K : PySem.W.Frag} (h : H a = some (.lst xs)) : SqL K H a xs := .inl (.inl h)
theorem SqT.of {K : PySem.W.Frag} (h : H a = some (.tup xs)) : SqT K H a xs := .inl (.inl h)
theorem Inv.list (I : Inv X pins σ H s) (h : SqL X.K H a xs) : ∃ its : List Value, Vals xs its ∧ PlainL s.heap a its.toArray ∧ xs.length ≤ sizeLine := by
  rcases h with h | ⟨o, its, n, hk, hc, hd, hs, hz, r⟩
  · obtain ⟨z, its, n, r, e⟩ := h.ok I.hok
    exact ⟨its, r, ⟨_, n, e, rfl, rfl, rfl⟩, z⟩
  · refine ⟨its.toList, r, ⟨o, n, I.kIn a o hk, hc, hd, by simpa using hs⟩, ?_⟩
    have e := r.length
    simp only [Array.length_toList] at e
    omega
theorem Inv.tuple (I : Inv X pins σ H s) (h : SqT X.K H a xs) : ∃ its : List Value, Vals xs its ∧ IsTup s.heap a its.toArray ∧ xs.length ≤ sizeLine := by
  rcases h with h | ⟨o, its, n, hk, hc, hs, hz, r⟩
  · obtain ⟨z, its, r, p⟩ := h.ok I.hok
    exact ⟨its, r, p, z⟩
  · refine ⟨its.toList, r, ⟨o, I.kIn a o hk, hc, n, by simpa using hs⟩, ?_⟩
    have e := r.length
    simp only [Array.length_toList] at e
    omega
theorem Inv.list_inj (I : Inv X pins σ H s) (h : SqL X.K H a xs) (h' : SqL X.K H a ys) : xs = ys := by
  obtain ⟨its, r, ⟨o, n, e, _, _, d⟩, _⟩ := I.list h
  obtain ⟨its', r', ⟨o', n', e', _, _, d'⟩, _⟩ := I.list h'
  rw [e] at e'; cases e'
  rw [d] at d'
  injection d' with d1 _
  have : its = its' := by simpa using congrArg Array.toList d1
  subst this
  exact r.inj r'
theorem Inv.tuple_inj (I : Inv X pins σ H s) (h : SqT X.K H a xs) (h' : SqT X.K H a ys) : xs = ys := by
  obtain ⟨its, r, ⟨o, e, _, n, d⟩, _⟩ := I.tuple h
  obtain ⟨its', r', ⟨o', e', _, n', d'⟩, _⟩ := I.tuple h'
  rw [e] at e'; cases e'
  rw [d] at d'
  injection d' with d1 _
  have : its = its' := by simpa using congrArg Array.toList d1
  subst this
  exact r.inj r'
end

/-! ### another wish about exceptions -/
abbrev Cx.wish (X : Cx) (E : Value → Shared → Prop) : Cx := { X with xe := E }
/-- no exception leaves -/
abbrev Cx.nox (X : Cx) : Cx := X.wish fun _ _ => False
theorem Cx.Ok.wish {X : Cx} (ok : X.Ok) (E : Value → Shared → Prop) : (X.wish E).Ok :=
  ⟨ok.mod, ok.kind, ok.glob, ok.blt, ok.above, ok.inj, ok.has, ok.cab, ok.hd, ok.frames, ok.stk, ok.exf, ok.bs, ok.bsz, ok.noex, ok.exfs, ok.funs, ok.frf⟩
theorem Cx.Ok.unwish {X : Cx} {E : Value → Shared → Prop} (ok : (X.wish E).Ok) : X.Ok :=
  ⟨ok.mod, ok.kind, ok.glob, ok.blt, ok.above, ok.inj, ok.has, ok.cab, ok.hd, ok.frames, ok.stk, ok.exf, ok.bs, ok.bsz, ok.noex, ok.exfs, ok.funs, ok.frf⟩
section
variable {X : Cx} {pins : List (Addr × Obj)} {σ : St} {H : Hp} {s : Shared} {E : Value → Shared → Prop}
theorem Inv.wish (I : Inv X pins σ H s) (E : Value → Shared → Prop) : Inv (X.wish E) pins σ H s := ⟨I.ok.wish E, I.os, I.bare, I.base, I.loc, I.cell, I.free, I.freeC, I.pin, I.hok, I.len⟩
theorem Inv.unwish (I : Inv (X.wish E) pins σ H s) : Inv X pins σ H s := ⟨I.ok.unwish, I.os, I.bare, I.base, I.loc, I.cell, I.free, I.freeC, I.pin, I.hok, I.len⟩
theorem SP.unwish {D : Ends} {f : Flow} {s' : Shared} (h : SP (X.wish E) pins D f s') : SP X pins D f s' := by
  cases f with
  | next => obtain ⟨σ', H', I, q⟩ := h; exact ⟨σ', H', I.unwish, q⟩
  | brk => obtain ⟨σ', H', I, q⟩ := h; exact ⟨σ', H', I.unwish, q⟩
  | cont => obtain ⟨σ', H', I, q⟩ := h; exact ⟨σ', H', I.unwish, q⟩
  | ret u => obtain ⟨v, σ', H', I, r, q⟩ := h; exact ⟨v, σ', H', I.unwish, r, q⟩
theorem PSs.nox {st : List Stmt} {t : TS} (h : PSs X.nox st t) : PSs X st t := fun pins s σ H D I hw =>
  wpAny_mono (h pins s σ H D (I.wish _) hw) (fun _ _ q => q.unwish) fun _ _ z => False.elim z
end

/-! ### blocks and small statements -/
section
variable {X : Cx} {st : Stmt} {rest : List Stmt} {t u : TS} {e : Expr} {te : TE} {pos : Pos}
def tNext : TS := fun D σ H => D.nx σ H
def tSeq (t u : TS) : TS := fun D σ H => t { D with nx := u D } σ H
theorem pss_nil : PSs X [] tNext := fun _ _ σ H _ I h => wpAny_execs_nil ⟨σ, H, I, h⟩
theorem pss_cons (h1 : PS X st t) (h2 : PSs X rest u) : PSs X (st :: rest) (tSeq t u) := by
  intro pins s σ H D I h
  refine wpAny_execs_cons (thn (h1 pins s σ H { D with nx := u D } I h) fun f s1 q => ?_)
  cases f with
  | next =>
    obtain ⟨σ', H', I', q⟩ := q
    exact h2 pins s1 σ' H' D I' q
  | ret v => exact q
  | brk => exact q
  | cont => exact q
theorem pss_one (h1 : PS X st t) : PSs X [st] t := by
  intro pins s σ H D I h
  refine wpAny_execs_cons (thn (h1 pins s σ H D I h) fun f s1 q => ?_)
  cases f with
  | next => exact wpAny_execs_nil q
  | ret v => exact q
  | brk => exact q
  | cont => exact q
/-- in a def's body nothing is shown -/
theorem Inv.quiet {pins : List (Addr × Obj)} {σ : St} {H : Hp} {s : Shared} (I : Inv X pins σ H s) : interactive X.env = false := by simp [interactive, I.ok.kind]
/-- an expression whose value is dropped -/
def tDrop (te : TE) : TS := fun D σ H => te σ H fun _ H1 => D.nx σ H1
theorem ps_expr (he : PE X e te) (hs : swapsWith e none pos.line X.env = pure false := by rfl) : PS X (.Expr e pos) (tDrop te) := by
  intro pins s σ H D I h
  exact wpAny_Expr_any (thn (he pins s σ H _ I h) fun v s1 ⟨x, H1, I1, r1, q1⟩ => ⟨σ, H1, I1, q1⟩) I.quiet hs
def tRet (te : TE) : TS := fun D σ H => te σ H D.rt
theorem ps_ret (he : PE X e te) : PS X (.Return (some e) pos) (tRet te) := by
  intro pins s σ H D I h
  exact wpAny_Return_some (thn (he pins s σ H _ I h) fun v s1 ⟨x, H1, I1, r1, q1⟩ => ⟨x, σ, H1, I1, r1, q1⟩)
def tIfS (c : TT) (t u : TS) : TS := fun D σ H => c σ H fun b H1 => if b = true then t D σ H1 else u D σ H1
theorem ps_if {c : Expr} {a b : List Stmt} {tc : TT} (hc : PT X c tc) (ha : PSs X a t) (hb : PSs X b u) : PS X (.If c a b pos) (tIfS tc t u) := by
  intro pins s σ H D I h
  refine wpAny_If (thn (hc pins s σ H _ I h) fun d s1 ⟨H1, I1, q1⟩ => ?_)
  cases d with
  | true => exact ha pins s1 σ H1 D I1 q1
  | false => exact hb pins s1 σ H1 D I1 q1
end

/-! ### targets -/
abbrev TG := V → St → Hp → (St → Hp → Prop) → Prop
abbrev TGs := List V → St → Hp → (St → Hp → Prop) → Prop
def PG (X : Cx) (target : Expr) (t : TG) : Prop :=
  ∀ (pins : List (Addr × Obj)) (s : Shared) (σ : St) (H : Hp) (v : V) (u : Value) (Q : St → Hp → Prop), Inv X pins σ H s → RelV v u → t v σ H Q →
    wpAny (model X.prog X.w) X.A (assign target X.env u) (fun _ s' => ∃ σ' H', Inv X pins σ' H' s' ∧ Q σ' H') X.xe s
/-- several targets, one after another -/
def PGs (X : Cx) (ts : List Expr) (t : TGs) : Prop :=
  ∀ (pins : List (Addr × Obj)) (s : Shared) (σ : St) (H : Hp) (vs : List V) (us : List Value) (Q : St → Hp → Prop), Inv X pins σ H s → Vals vs us → t vs σ H Q →
    wpAny (model X.prog X.w) X.A (assignInOrder ((assignEach ts X.env).map (·.2)) us) (fun _ s' => ∃ σ' H', Inv X pins σ' H' s' ∧ Q σ' H') X.xe s
section
variable {X : Cx} {pos : Pos}
def gName (i : Nat) : TG := fun v σ H Q => Q (σ.set i (some v)) H
theorem pg_name {i : Nat} {x : Str} (hN : X.N.Nodup) (hi : X.N[i]? = some x) (hx : Loc X.env.scope x) (hf : X.fn x = true ∨ X.env.scope.names.lookup x = some .local := by first | exact .inl rfl | exact .inr rfl | assumption) : PG X (.Name x pos) (gName i) := by
  intro pins s σ H v u Q I r h
  exact wpAny_assign_Name (store_ok I hN hi hx r (fun s' I' => ⟨_, H, I', h⟩) hf)
def gNil : TGs := fun vs σ H Q => vs = [] ∧ Q σ H
def gCons (t : TG) (u : TGs) : TGs := fun vs σ H Q => ∃ v r, vs = v :: r ∧ t v σ H fun σ' H' => u r σ' H' Q
theorem pgs_nil : PGs X [] gNil := by
  intro pins s σ H vs us Q I r h
  obtain ⟨e, h⟩ := h
  subst e
  cases r
  exact assignInOrder_nil ⟨σ, H, I, h⟩
theorem pgs_cons {e : Expr} {es : List Expr} {t : TG} {u : TGs} (h1 : PG X e t) (h2 : PGs X es u)
    (hs : (assignEach (e :: es) X.env).map (·.2) = assign e X.env :: (assignEach es X.env).map (·.2) := by rfl) : PGs X (e :: es) (gCons t u) := by
  intro pins s σ H vs us Q I r h
  obtain ⟨v, vr, e1, h⟩ := h
  subst e1
  cases r with
  | cons r rr =>
    rw [hs]
    refine assignInOrder_cons (thn (h1 pins s σ H _ _ _ I r h) fun _ s1 ⟨σ1, H1, I1, q1⟩ => ?_)
    exact h2 pins s1 σ1 H1 _ _ Q I1 rr q1
/-- (a, b, ..) = a tuple of that length -/
def gTup (K : PySem.W.Frag) (n : Nat) (t : TGs) : TG := fun v σ H Q => ∃ a xs, v = .ref a ∧ SqT K H a xs ∧ xs.length = n ∧ t xs σ H Q
theorem pg_tup {es : List Expr} {k : Nat} {t : TGs} {n : Nat} (hc : X.calm = true) (h : PGs X es t)
    (hn : (assignEach es X.env).length = n := by rfl) (hst : (assignEach es X.env).findIdx? (·.1) = none := by rfl) : PG X (.Tuple es k pos) (gTup X.K n t) := by
  intro pins s σ H v u Q I r hw
  obtain ⟨a, xs, e1, hq, hl, hw⟩ := hw
  subst e1
  cases r
  obtain ⟨its, rv, ht, hz⟩ := I.tuple hq
  refine assign_Tuple_tuple (I.ok.hd hc) ht (by simp [hn, ← hl, rv.length]) hst fun h' hx => ?_
  have I1 : Inv X pins σ H { s with heap := h' } := I.kept (t' := s.toks) fun b o e => hx b o (Nat.ne_of_lt (Heap.lt_size e)) e
  exact h pins _ σ H xs _ Q I1 (by simpa using rv) hw
/-- target = value -/
def tAsg (te : TE) (g : TG) : TS := fun D σ H => te σ H fun x H1 => g x σ H1 D.nx
/-- name = value -/
theorem ps_set {i : Nat} {x : Str} {e : Expr} {te : TE} {pos' : Pos} (hN : X.N.Nodup) (hi : X.N[i]? = some x) (hx : Loc X.env.scope x) (he : PE X e te) (hs : swapsWith e (some (.Name x pos')) pos.line X.env = pure false := by rfl) (hf : X.fn x = true ∨ X.env.scope.names.lookup x = some .local := by first | exact .inl rfl | exact .inr rfl | assumption) :
    PS X (.Assign [.Name x pos'] e pos) (tAsg te (gName i)) := by
  intro pins s σ H D I h
  refine wpAny_Assign_Name (thn (he pins s σ H _ I h) fun v s1 ⟨y, H1, I1, r1, q1⟩ => ?_) hs
  exact store_ok I1 hN hi hx r1 (fun s2 I2 => ⟨_, H1, I2, q1⟩) hf
end

/-! ### while -/
section
variable {X : Cx} {pos : Pos}
/-- the invariant W with its measure -/
def tWhile (c : TT) (tb : TS) : TS := fun D σ H => ∃ W : Nat → St → Hp → Prop, (∃ m, W m σ H) ∧ ∀ m σ H, W m σ H →
  c σ H fun b H1 => if b = true then ∃ N : St → Hp → Prop, (∀ σ' H', N σ' H' → ∃ m', m' < m ∧ W m' σ' H') ∧ tb { D with nx := N, ct := N, bk := D.nx } σ H1 else D.nx σ H1
theorem ps_while {c : Expr} {body : List Stmt} {tc : TT} {tb : TS} (hp : PassesOwn (model X.prog X.w) X.A X.env X.xe) (hc : PT X c tc) (hb : PSs X body tb) : PS X (.While c body [] pos) (tWhile tc tb) := by
  intro pins s σ H D I h
  obtain ⟨W, ⟨m0, w0⟩, turn⟩ := h
  refine wpAny_While (codeAny_whileLoop (fun n s' => ∃ σ' H', Inv X pins σ' H' s' ∧ W n σ' H') ?_ m0 ⟨σ, H, I, w0⟩)
  rintro n s1 ⟨σ1, H1, I1, w1⟩
  refine wpAny_passesOwn hp (thn (hc pins s1 σ1 H1 _ I1 (turn n σ1 H1 w1)) fun b s2 ⟨H2, I2, q2⟩ => ?_)
  cases b with
  | true =>
    obtain ⟨N, hN, q2⟩ := q2
    rw [if_pos rfl]
    refine wpAny_passesOwn hp (thn (hb pins s2 σ1 H2 _ I2 q2) fun f s3 q3 => ?_)
    cases f with
    | next =>
      obtain ⟨σ3, H3, I3, n3⟩ := q3
      obtain ⟨m', hm, w3⟩ := hN σ3 H3 n3
      exact ⟨m', hm, σ3, H3, I3, w3⟩
    | cont =>
      obtain ⟨σ3, H3, I3, n3⟩ := q3
      obtain ⟨m', hm, w3⟩ := hN σ3 H3 n3
      exact ⟨m', hm, σ3, H3, I3, w3⟩
    | brk => exact q3
    | ret v => exact q3
  | false =>
    rw [if_neg Bool.false_ne_true]
    exact wpAny_execs_nil ⟨σ1, H2, I2, q2⟩
end

/-! ### what a loop or a comprehension walks -/
/-- at turn i: it yields x (the heap may grow), or it stops -/
structure It where
  go : Nat → Hp → Prop
  yld : Nat → Hp → V → Hp → Prop
  stop : Nat → Hp → Prop
/-- the iterator's own objects may turn: they are not the frame's, not pinned, younger than the entry (or a comprehension's own) -/
def FpOk (X : Cx) (pins : List (Addr × Obj)) (H : Hp) (b : Addr) : Prop :=
  H b = none ∧ b ≠ X.env.locals ∧ b ∉ X.fs ∧ (b ∈ X.ex ∨ X.s₀.heap.objs.size ≤ b) ∧ (∀ x c, X.env.cells.lookup x = some c → c ≠ b) ∧ ∀ p ∈ X.pn ++ pins, p.1 ≠ b
theorem Inv.fpOk {X : Cx} {pins : List (Addr × Obj)} {σ : St} {H H' : Hp} {s : Shared} {b : Addr} (I : Inv X pins σ H s) (hb : s.heap.objs.size ≤ b) (hn : H' b = none) : FpOk X pins H' b := by
  refine ⟨hn, Nat.ne_of_gt (Nat.lt_of_lt_of_le I.lt hb), I.nofs hb, .inr (Nat.le_trans I.sz hb), fun x c e z => ?_, fun p hp z => ?_⟩
  · obtain ⟨v, q⟩ := I.cell x c e
    exact absurd (Nat.lt_of_lt_of_le q.lt (by rw [z]; exact hb)) (Nat.lt_irrefl _)
  · exact absurd (Nat.lt_of_lt_of_le (Heap.lt_size (I.pin p hp).1) (by rw [z]; exact hb)) (Nat.lt_irrefl _)
/-- what is handled stands with no context -/
def HandQ (X : Cx) (s : Shared) : Prop := ∃ (ea : Addr) (o : Obj) (vs : Array Value), X.A.handled = some (.ref ea) ∧ s.heap.get? ea = some o ∧ o.data = .fields vs ∧ vs[2]? = some .none
/-- where an iterator may end: nothing is handled; hb: or what is handled has no context -/
def EndQ (hb : Bool) (X : Cx) (s : Shared) : Prop := X.A.handled = none ∨ (hb = true ∧ HandQ X s)
theorem EndQ.none {X : Cx} {s : Shared} (h : EndQ false X s) : X.A.handled = Option.none := by
  rcases h with h | ⟨z, _⟩
  · exact h
  · cases z
structure Turn (P : Program) (w : World) (K : PySem.W.Frag) (tg : Expr) (J : It) (fp : List Addr) (it : Addr) (tn : Nat → Heap → Prop) (hb : Bool := false) : Prop where
  mem : it ∈ fp
  obj : ∀ i h, tn i h → ∀ b ∈ fp, ∃ o, h.get? b = some o ∧ ∀ v, o.data ≠ .cell v
  keep : ∀ i h h', tn i h → (∀ b ∈ fp, ∀ o, h.get? b = some o → h'.get? b = some o) → tn i h'
  item : ∀ (X : Cx), X.prog = P → X.w = w → X.K = K → ∀ (s : Shared), EndQ hb X s → ∀ (i : Nat) (pins : List (Addr × Obj)) (σ : St) (H : Hp) (E : Value → Shared → Prop), Inv X pins σ H s → (∀ b ∈ fp, FpOk X pins H b) → tn i s.heap → J.go i H →
    wpAny (model P w) X.A (pyNext (.ref it)) (fun r s1 => ∃ u, r = some u ∧
      wpAny (model P w) X.A (letOwnedTupleGo tg (.ref it) u) (fun _ s2 => ∃ x H', Inv X pins σ H' s2 ∧ RelV x u ∧ J.yld i H x H' ∧ tn (i + 1) s2.heap ∧ ∀ b ∈ fp, H' b = none) E s1) E s
  done : ∀ (X : Cx), X.prog = P → X.w = w → X.K = K → ∀ (s : Shared), EndQ hb X s → ∀ (i : Nat) (pins : List (Addr × Obj)) (σ : St) (H : Hp) (E : Value → Shared → Prop), Inv X pins σ H s → (∀ b ∈ fp, FpOk X pins H b) → tn i s.heap → J.stop i H →
    wpAny (model P w) X.A (pyNext (.ref it)) (fun r s1 => r = none ∧ Inv X pins σ H s1) E s
  self : ∀ (A : Around) (i : Nat) (s : Shared) (Q : Value → Shared → Prop) (E : Value → Shared → Prop), tn i s.heap → Q (.ref it) s → wpAny (model P w) A (pyIter (.ref it)) Q E s
abbrev TI := St → Hp → (It → Hp → Prop) → Prop
/-- an iterator has come -/
def PIE (X : Cx) (pins : List (Addr × Obj)) (σ : St) (tg : Expr) (R : It → Hp → Prop) (hb : Bool) (itv : Value) (s2 : Shared) : Prop :=
  ∃ (it : Addr) (fp : List Addr) (tn : Nat → Heap → Prop) (J : It) (H' : Hp), itv = .ref it ∧ Inv X pins σ H' s2 ∧ Turn X.prog X.w X.K tg J fp it tn hb ∧ tn 0 s2.heap ∧ (∀ b ∈ fp, FpOk X pins H' b) ∧ R J H'
def PI (X : Cx) (tg iter : Expr) (wi : TI) (hb : Bool := false) : Prop :=
  ∀ (pins : List (Addr × Obj)) (s : Shared) (σ : St) (H : Hp) (R : It → Hp → Prop), Inv X pins σ H s → wi σ H R →
    wpAny (model X.prog X.w) X.A (eval iter X.env) (fun v s1 => wpAny (model X.prog X.w) X.A (pyIter v) (PIE X pins σ tg R hb) X.xe s1) X.xe s

/-- the step ahead of the store is nothing for an iterator that keeps no tuple -/
theorem go_of {M : Model} {A : Around} {E : Value → Shared → Prop} {s : Shared} {tg : Expr} {it : Addr} {u : Value} {o : Obj} {n : String} {vs : Array Value} {Q : Unit → Shared → Prop} (ho : s.heap.get? it = some o) (hc : o.cls = .type n) (hd : o.data = .fields vs)
    (hn : ["enumerate", "zip", "dict_itemiterator", "dict_reverseitemiterator", "odict_iterator", "itertools.zip_longest", "itertools.pairwise"].contains n = false) (hQ : Q () s) : wpAny M A (letOwnedTupleGo tg (.ref it) u) Q E s := by
  unfold letOwnedTupleGo
  cases tg <;> first
    | exact wpAny_pure hQ
    | (cases u <;> first
        | exact wpAny_pure hQ
        | (refine wpAny_bind (wpAny_load ho ?_)
           rw [hc, hd]
           show wpAny M A (if (["enumerate", "zip", "dict_itemiterator", "dict_reverseitemiterator", "odict_iterator", "itertools.zip_longest", "itertools.pairwise"].contains n && vs[0]? == some (rawInt _)) = true then _ else _) Q E s
           rw [if_neg (by intro h; rw [hn, Bool.false_and] at h; cases h)]
           exact wpAny_pure hQ))

/-- the list at a, as it stands at each turn (a loop may append to it) -/
def Itl (K : PySem.W.Frag) (a : Addr) : It :=
  ⟨fun i H => ∃ xs x, SqL K H a xs ∧ xs[i]? = some x, fun i H x H' => H' = H ∧ ∀ xs, SqL K H a xs → xs[i]? = some x, fun i H => ∃ xs, SqL K H a xs ∧ xs.length ≤ i⟩
def Itt (K : PySem.W.Frag) (a : Addr) : It :=
  ⟨fun i H => ∃ xs x, SqT K H a xs ∧ xs[i]? = some x, fun i H x H' => H' = H ∧ ∀ xs, SqT K H a xs → xs[i]? = some x, fun i H => ∃ xs, SqT K H a xs ∧ xs.length ≤ i⟩
/-- lo, lo + 1, .. (n of them) -/
def Itr (lo : Int) (n : Nat) : It := ⟨fun i _ => i < n, fun i H x H' => H' = H ∧ x = .int (lo + i), fun i _ => n ≤ i⟩
theorem turn_list {P : Program} {w : World} {K : PySem.W.Frag} {tg : Expr} (a it : Addr) : Turn P w K tg (Itl K a) [it] it (fun i h => h.IsListIter it a i) where
  mem := by simp
  obj := fun i h st b hb => by
    have e : b = it := by simpa using hb
    subst e
    obtain ⟨o, e, c, d⟩ := st
    exact ⟨o, e, fun v z => by rw [d] at z; cases z⟩
  keep := fun i h h' st k => st.at fun o e => k it (by simp) o e
  item := by
    intro X hP hw hK s hc i pins σ H E I hf st hg
    subst hP hw hK
    obtain ⟨xs, x, hq, hx⟩ := hg
    obtain ⟨its, rv, p, hz⟩ := I.list hq
    obtain ⟨u, hu, ru⟩ := rv.get hx
    obtain ⟨f0, f1, f2, f3, f4, f5⟩ := hf it (by simp)
    refine wpAny_pyNext_list_item st p.isList (x := u) (by simpa using hu) fun h' st' sb => ?_
    have I1 : Inv X pins σ H { s with heap := h' } := I.turned (t' := s.toks) (fun b o hb e => (sb.2 b hb).trans e) f0 f1 f3 f4 f5
    obtain ⟨o, e, c, d⟩ := id st'
    exact ⟨u, rfl, go_of (s := { s with heap := h' }) e c d (by decide) ⟨x, H, I1, ru, ⟨rfl, fun ys hy => by rw [I.list_inj hy hq]; exact hx⟩, st', fun b hb => (hf b hb).1⟩⟩
  done := by
    intro X hP hw hK s hc i pins σ H E I hf st hg
    subst hP hw hK
    obtain ⟨xs, hq, hx⟩ := hg
    obtain ⟨its, rv, p, hz⟩ := I.list hq
    obtain ⟨f0, f1, f2, f3, f4, f5⟩ := hf it (by simp)
    have hl := rv.length
    exact wpAny_pyNext_list_end hc.none st p.isList (by simp; omega) fun h' eb => ⟨rfl, I.turned (t' := s.toks) (fun b o hb e => eb b o hb e) f0 f1 f3 f4 f5⟩
  self := fun _ _ _ _ _ st h => wpAny_pyIter_listiter st h
theorem turn_tuple {P : Program} {w : World} {K : PySem.W.Frag} {tg : Expr} (a it : Addr) : Turn P w K tg (Itt K a) [it] it (fun i h => h.IsTupleIter it a i) where
  mem := by simp
  obj := fun i h st b hb => by
    have e : b = it := by simpa using hb
    subst e
    obtain ⟨o, e, c, d⟩ := st
    exact ⟨o, e, fun v z => by rw [d] at z; cases z⟩
  keep := fun i h h' st k => st.at fun o e => k it (by simp) o e
  item := by
    intro X hP hw hK s hc i pins σ H E I hf st hg
    subst hP hw hK
    obtain ⟨xs, x, hq, hx⟩ := hg
    obtain ⟨its, rv, p, hz⟩ := I.tuple hq
    obtain ⟨u, hu, ru⟩ := rv.get hx
    obtain ⟨f0, f1, f2, f3, f4, f5⟩ := hf it (by simp)
    refine wpAny_pyNext_tuple_item st (show s.heap.IsTuple a its.toArray from p) (x := u) (by simpa using hu) fun h' st' sb => ?_
    have I1 : Inv X pins σ H { s with heap := h' } := I.turned (t' := s.toks) (fun b o hb e => (sb.2 b hb).trans e) f0 f1 f3 f4 f5
    obtain ⟨o, e, c, d⟩ := id st'
    exact ⟨u, rfl, go_of (s := { s with heap := h' }) e c d (by decide) ⟨x, H, I1, ru, ⟨rfl, fun ys hy => by rw [I.tuple_inj hy hq]; exact hx⟩, st', fun b hb => (hf b hb).1⟩⟩
  done := by
    intro X hP hw hK s hc i pins σ H E I hf st hg
    subst hP hw hK
    obtain ⟨xs, hq, hx⟩ := hg
    obtain ⟨its, rv, p, hz⟩ := I.tuple hq
    obtain ⟨f0, f1, f2, f3, f4, f5⟩ := hf it (by simp)
    have hl := rv.length
    exact wpAny_pyNext_tuple_end hc.none st (show s.heap.IsTuple a its.toArray from p) (by simp; omega) fun h' eb => ⟨rfl, I.turned (t' := s.toks) (fun b o hb e => eb b o hb e) f0 f1 f3 f4 f5⟩
  self := fun _ _ _ _ _ st h => wpAny_pyIter_tupleiter st h
section
variable {prog : Program} {w : World} {A : Around} {E : Value → Shared → Prop} {s : Shared} {e ea it : Addr} {o oe : Obj} {us vs : Array Value}
theorem ent_unchain : entryFor table "proto.unchain" = some Builtin.«proto.unchain» := entryFor_of_tree (by kernel_rfl)
/-- a new exception is raised while another one is handled, which has no context -/
theorem raise_hand {α : Type} {Q : α → Shared → Prop} (hh : A.handled = some (.ref ea)) (hea : s.heap.get? ea = some oe) (hd : oe.data = .fields vs) (h2 : vs[2]? = some .none) (he : s.heap.get? e = some o) (hde : o.data = .fields us) (hsz : 2 < us.size) (hne : ea ≠ e)
    (hE : E (.ref e) { s with heap := s.heap.update e (Obj.mapFields (·.setIfInBounds 2 (.ref ea))) }) : wpAny (model prog w) A (raiseNew (.ref e) : Sem α) Q E s := by
  have n : (Value.ref ea != Value.ref e) = true := by simp [hne]
  unfold raiseNew
  refine wpAny_bind (wpAny_handled ?_)
  rw [hh]
  show wpAny _ _ (if (Value.ref ea != Value.ref e) = true then _ else _) _ _ _
  rw [if_pos n]
  refine wpAny_bind (wpAny_holding (wpAny_runValue (codeAny_builtin ent_unchain ?_)))
  show wpAny _ _ (field (.ref ea) 2 >>= _) _ _ _
  refine wpAny_bind (wpAny_field hea hd h2 ?_)
  show wpAny _ _ (if (Value.none == Value.none) = true then _ else _) _ _ _
  rw [if_pos (show (Value.none == Value.none) = true from rfl)]
  refine wpAny_pure ?_
  exact wpAny_bind (wpAny_setField he hde hsz (wpAny_throw hE))
/-- a range's end, while an exception is handled -/
theorem range_end_hand {x left step : Int} {Q : Option Value → Shared → Prop} (hh : A.handled = some (.ref ea)) (hea : s.heap.get? ea = some oe) (hd : oe.data = .fields vs) (h2 : vs[2]? = some .none) (hit : IsRangeIter s.heap it x left step) (hleft : left ≤ 0)
    (hQ : ∀ h', Heap.ExtBut it s.heap h' → Q none { s with heap := h' }) : wpAny (model prog w) A (pyNext (.ref it)) Q E s := by
  have hT : s.TypeIs (.ref it) "range_iterator" := ⟨_, hit, rfl⟩
  have lt := Heap.lt_size hea
  unfold pyNext; refine wpAny_bind (wpAny_attempt (wpAny_callSpecial?_slot (name := Str.ofString "__next__") hT F.slot_range_iterator_next (wpAny_call_entry F.slot_range_iterator_next hT F.entry_range_iterator_next ?_ (F.args_range_iterator_next_1 _))))
  show wpAny _ _ (field (.ref it) 0 >>= _) _ _ s; refine wpAny_bind (wpAny_field hit rfl (x := rawInt x) rfl ?_); show wpAny _ _ (field (.ref it) 1 >>= _) _ _ s; refine wpAny_bind (wpAny_field hit rfl (x := rawInt left) rfl ?_)
  show wpAny _ _ (field (.ref it) 2 >>= _) _ _ s; refine wpAny_bind (wpAny_field hit rfl (x := rawInt step) rfl ?_); show wpAny _ _ (if left ≤ 0 then _ else _) _ _ s; rw [if_pos hleft]
  refine wpAny_bind (wpAny_rule (wpAny_bind ?_)); show wpAny _ _ (newExc (.type "StopIteration") [] >>= _) _ _ _; refine wpAny_bind ?_; simp only [newExc, newTuple]
  refine wpAny_bind (wpAny_newObj_type ?_ (by size_fits)); refine wpAny_bind (m := firstArgMember _ _) (wpAny_of_eq (a := Value.none) (by first | rfl | (simp only [firstArgMember]; rfl)) ?_); refine wpAny_newObj_type ?_ (by size_fits)
  refine raise_hand (oe := oe) (vs := vs) (by first | exact hh | exact (show A.in1.handled = _ from hh)) (Heap.get?_push_of_some _ (Heap.get?_push_of_some _ hea)) hd h2 (Heap.get?_push_size _ rfl) rfl (by simp; omega) (Nat.ne_of_lt (by rw [Heap.size_push]; exact Nat.lt_succ_of_lt lt)) ?_
  refine wpAny_bind (wpAny_isInstance (T := "StopIteration") (b := true) ⟨_, Heap.get?_update_self _ (Heap.get?_push_size _ rfl) rfl, rfl⟩ isSubtype_stop ?_)
  refine wpAny_pure (hQ _ fun b ob hb q => ?_)
  rw [Heap.get?_update_other _ _ (Nat.ne_of_gt (by rw [Heap.size_push]; exact Nat.lt_succ_of_lt (Heap.lt_size q)))]
  exact Heap.get?_push_of_some _ (Heap.get?_push_of_some _ q)
end
theorem turn_range {P : Program} {w : World} {K : PySem.W.Frag} {tg : Expr} (it : Addr) (lo : Int) (n : Nat) {hb : Bool} : Turn P w K tg (Itr lo n) [it] it (fun i h => IsRangeIter h it (lo + (i : Nat) * 1) ((n : Int) - (i : Nat)) 1) hb where
  mem := by simp
  obj := fun i h st b hb => by
    have e : b = it := by simpa using hb
    subst e
    exact ⟨_, st, fun v z => by
      have z' : Data.fields _ = Data.cell v := z
      cases z'⟩
  keep := fun i h h' st k => k it (by simp) _ st
  item := by
    intro X hP hw hK s hc i pins σ H E I hf st hg
    subst hP hw hK
    obtain ⟨f0, f1, f2, f3, f4, f5⟩ := hf it (by simp)
    have hi : i < n := hg
    refine wpAny_pyNext_range_item st (by omega) fun h' st' sb => ?_
    have I1 : Inv X pins σ H { s with heap := h', toks := s.toks + 1 } := I.turned (fun b o hb e => (sb.2 b hb).trans e) f0 f1 f3 f4 f5
    have e1 : lo + ((i : Nat) : Int) * 1 + 1 = lo + ((i + 1 : Nat) : Int) * 1 := by omega
    have e2 : (n : Int) - ((i : Nat) : Int) - 1 = (n : Int) - ((i + 1 : Nat) : Int) := by omega
    rw [e1, e2] at st'
    refine ⟨_, rfl, go_of (s := { s with heap := h', toks := s.toks + 1 }) (n := "range_iterator") st' rfl rfl (by decide) ⟨.int (lo + i), H, I1, ⟨s.toks, ?_⟩, ⟨rfl, rfl⟩, st', fun b hb => (hf b hb).1⟩⟩
    rw [Int.mul_one]
  done := by
    intro X hP hw hK s hc i pins σ H E I hf st hg
    subst hP hw hK
    obtain ⟨f0, f1, f2, f3, f4, f5⟩ := hf it (by simp)
    have hi : (n : Int) - ((i : Nat) : Int) ≤ 0 := by have : n ≤ i := hg; omega
    rcases hc with hc | ⟨_, ea, o, vs, h1, h2, h3, h4⟩
    · exact wpAny_pyNext_range_end hc st hi fun h' eb => ⟨rfl, I.turned (t' := s.toks) (fun b o hb e => eb b o hb e) f0 f1 f3 f4 f5⟩
    · exact range_end_hand h1 h2 h3 h4 st hi fun h' eb => ⟨rfl, I.turned (t' := s.toks) (fun b o hb e => eb b o hb e) f0 f1 f3 f4 f5⟩
  self := fun _ _ _ _ _ st h => wpAny_pyIter_rangeiter st h
end L2

namespace L2
open PySem PySem.Spec PyProof.Rows
section
variable {X : Cx} {tg : Expr}
def iTup (K : PySem.W.Frag) (tl : TE) : TI := fun σ H R => tl σ H fun x H1 => ∃ a, x = .ref a ∧ (∃ xs, SqT K H1 a xs) ∧ R (Itt K a) H1
theorem pi_tup {l : Expr} {tl : TE} (hl : PE X l tl) : PI X tg l (iTup X.K tl) := by
  intro pins s σ H R I h
  refine thn (hl pins s σ H _ I h) fun v s1 ⟨x, H1, I1, r1, q1⟩ => ?_
  obtain ⟨a, e, ⟨xs, hq⟩, q⟩ := q1
  subst e
  cases r1
  obtain ⟨its, rv, p, hz⟩ := I1.tuple hq
  refine wpAny_pyIter_tuple (show s1.heap.IsTuple a its.toArray from p) ?_
  refine ⟨s1.heap.objs.size, [s1.heap.objs.size], _, _, H1, rfl, I1.kept (t' := s1.toks) fun b o e => Heap.get?_push_of_some _ e, turn_tuple a _, ⟨_, Heap.get?_push_size _ rfl, rfl, rfl⟩, fun b hb => ?_, q⟩
  have e : b = s1.heap.objs.size := by simpa using hb
  subst e
  exact I1.fpOk (Nat.le_refl _) (I1.hok.fresh (Nat.le_refl _))
/-- a range object just made, walked -/
theorem range_it {hb : Bool} {pins : List (Addr × Obj)} {σ : St} {H : Hp} {s : Shared} {R : It → Hp → Prop} {E : Value → Shared → Prop} {lo hi : Int} {t u v : Tok} {tk : Nat} (I : Inv X pins σ H s) (h1 : -(2 ^ 62) ≤ lo) (h2 : lo < 2 ^ 62) (h3 : -(2 ^ 62) ≤ hi) (h4 : hi < 2 ^ 62)
    (q : R (Itr lo (hi - lo).toNat) H) : wpAny (model X.prog X.w) X.A (pyIter (.ref s.heap.objs.size)) (PIE X pins σ tg R hb) E { s with heap := s.heap.push { cls := .type "range", data := .fields #[.int lo t, .int hi u, .int 1 v] }, toks := tk } := by
  refine wpAny_pyIter_range (IsRange.new ..) (small_one h1 h2 h3 h4) ?_
  have I1 : Inv X pins σ H { s with heap := s.heap.push { cls := .type "range", data := .fields #[.int lo t, .int hi u, .int 1 v] }, toks := tk } := I.kept fun b o e => Heap.get?_push_of_some _ e
  refine ⟨(s.heap.push { cls := .type "range", data := .fields #[.int lo t, .int hi u, .int 1 v] }).objs.size, [(s.heap.push { cls := .type "range", data := .fields #[.int lo t, .int hi u, .int 1 v] }).objs.size], _, _, H, rfl,
    I1.kept (t' := tk) fun b o e => Heap.get?_push_of_some _ e, turn_range _ lo (hi - lo).toNat, ?_, fun b hb => ?_, q⟩
  · have e1 : lo + ((0 : Nat) : Int) * 1 = lo := by simp
    have e2 : (((hi - lo).toNat : Nat) : Int) - ((0 : Nat) : Int) = Builtin.Range.rangeSize lo hi 1 := by rw [rangeSize_one]; split <;> omega
    show IsRangeIter _ _ (lo + ((0 : Nat) : Int) * 1) ((((hi - lo).toNat : Nat) : Int) - ((0 : Nat) : Int)) 1
    rw [e1, e2]
    exact Heap.get?_push_size _ rfl
  · have e : b = (s.heap.push { cls := .type "range", data := .fields #[.int lo t, .int hi u, .int 1 v] }).objs.size := by simpa using hb
    subst e
    exact I1.fpOk (Nat.le_refl _) (I1.hok.fresh (Nat.le_refl _))
def iRng1 (ta : TA) : TI := fun σ H R => ta σ H fun vs H1 => ∃ j : Int, vs = [.int j] ∧ -(2 ^ 62) ≤ j ∧ j < 2 ^ 62 ∧ R (Itr 0 j.toNat) H1
theorem pi_range1 {hb : Bool} {a : Expr} {ta : TA} {p pos : Pos} (hg : Gl X "range") (hm : X.mg "range" = none) (ha : PA X [a] ta) (hs : starEach [a] X.env = [(false, eval a X.env)] := by rfl) : PI X tg (.Call (.Name "range" p) [a] [] pos) (iRng1 ta) hb := by
  intro pins s σ H R I h
  refine Call_ (ld_blt I hg hm boot_range (PyProof.Rows.callWith_type1 (thn (ha pos pins s σ H _ I h) fun us s1 ⟨vs, H1, I1, r1, q1⟩ => ?_) hs rfl))
  obtain ⟨j, e, q1, q2, q⟩ := q1
  subst e
  cases r1 with
  | cons r rr =>
    cases rr
    obtain ⟨t, rfl⟩ := r
    exact call_range_1 (range_it I1 (by omega) (by omega) q1 q2 (by simpa using q))
/-! ### for -/
/-- W: the invariant by the turn and a measure; N: what the body is to reach -/
def tFor (wi : TI) (g : TG) (tb : TS) : TS := fun D σ H => wi σ H fun J H1 => ∃ W : Nat → Nat → St → Hp → Prop, (∃ m, W 0 m σ H1) ∧ ∀ i m σ H, W i m σ H →
  (J.stop i H ∧ D.nx σ H) ∨ (J.go i H ∧ ∃ N : St → Hp → Prop, (∀ σ' H', N σ' H' → ∃ m', m' < m ∧ W (i + 1) m' σ' H') ∧ ∀ x H', J.yld i H x H' → g x σ H' fun σ2 H2 => tb { D with nx := N, ct := N, bk := D.nx } σ2 H2)
/-- the records at fp as they stand -/
def pinsAt (fp : List Addr) (h : Heap) : List (Addr × Obj) := fp.filterMap fun b => (h.get? b).map fun o => (b, o)
theorem mem_pinsAt {fp : List Addr} {h : Heap} {b : Addr} {o : Obj} (hb : b ∈ fp) (e : h.get? b = some o) : (b, o) ∈ pinsAt fp h := List.mem_filterMap.mpr ⟨b, hb, by rw [e]; rfl⟩
theorem of_pinsAt {fp : List Addr} {h : Heap} {p : Addr × Obj} (hp : p ∈ pinsAt fp h) : p.1 ∈ fp ∧ h.get? p.1 = some p.2 := by
  obtain ⟨b, hb, e⟩ := List.mem_filterMap.mp hp
  cases q : h.get? b with
  | none => rw [q] at e; cases e
  | some o =>
    rw [q] at e
    have e' : (b, o) = p := Option.some.inj e
    subst e'
    exact ⟨hb, q⟩
theorem Inv.pinned {pins : List (Addr × Obj)} {σ : St} {H : Hp} {s : Shared} {fp : List Addr} (I : Inv X pins σ H s) (hf : ∀ b ∈ fp, FpOk X pins H b) (ho : ∀ b ∈ fp, ∃ o, s.heap.get? b = some o ∧ ∀ v, o.data ≠ .cell v) : Inv X (pins ++ pinsAt fp s.heap) σ H s :=
  I.pins_of fun p hp => (List.mem_append.mp hp).elim (fun z => I.pin p (List.mem_append_right _ z)) fun z => by
    obtain ⟨hb, e⟩ := of_pinsAt z
    obtain ⟨f0, f1, f2, _⟩ := hf p.1 hb
    obtain ⟨o, e', d⟩ := ho p.1 hb
    rw [e] at e'; cases e'
    exact ⟨e, f0, f1, f2, d⟩
theorem Inv.unpinned {pins pl : List (Addr × Obj)} {σ : St} {H : Hp} {s : Shared} (I : Inv X (pins ++ pl) σ H s) : Inv X pins σ H s := I.pins_of fun p hp => I.pin p (List.mem_append_right _ (List.mem_append_left _ hp))
theorem ps_for {iter : Expr} {body : List Stmt} {wi : TI} {g : TG} {tb : TS} {pos : Pos} (hp : PassesOwn (model X.prog X.w) X.A X.env X.xe) (hc : X.calm = true) (hi : PI X tg iter wi) (hg : PG X tg g) (hb : PSs X body tb)
    (hs : ∀ x, foldedSetIterable iter X.env x = pure x := by intro _; rfl) : PS X (.For tg iter body [] pos) (tFor wi g tb) := by
  intro pins s σ H D I h
  refine wpAny_For (thn (hi pins s σ H _ I h) fun v s1 h1 => thn h1 fun itv s2 h2 => ?_) hs
  obtain ⟨it, fp, tn, J, H2, e, I2, T, st2, f2, W, ⟨m0, w0⟩, turn⟩ := h2
  subst e
  -- what stays true of the iterator's objects through the loop
  have stat : ∀ {H' : Hp}, (∀ b ∈ fp, H' b = none) → ∀ b ∈ fp, FpOk X pins H' b := fun hn b hb => ⟨hn b hb, (f2 b hb).2⟩
  refine codeAny_forLoop_any (fun n s' => ∃ i σ' H', Inv X pins σ' H' s' ∧ tn i s'.heap ∧ (∀ b ∈ fp, H' b = none) ∧ W i n σ' H') ?_ m0 ⟨0, σ, H2, I2, st2, fun b hb => (f2 b hb).1, w0⟩
  rintro n s3 ⟨i, σ3, H3, I3, st3, fr3, w3⟩
  rcases turn i n σ3 H3 w3 with ⟨stop, qn⟩ | ⟨go, N, hN, step⟩
  · refine wpAny_passesOwn hp (thn (T.done X rfl rfl rfl s3 (.inl (I3.ok.hd hc)) i pins σ3 H3 X.xe I3 (stat fr3) st3 stop) fun r s4 ⟨hr, I4⟩ => ?_)
    subst hr
    exact wpAny_execs_nil ⟨σ3, H3, I4, qn⟩
  · refine wpAny_passesOwn hp (thn (T.item X rfl rfl rfl s3 (.inl (I3.ok.hd hc)) i pins σ3 H3 X.xe I3 (stat fr3) st3 go) fun r s4 ⟨u, hr, h4⟩ => ?_)
    subst hr
    refine wpAny_passesOwn hp (thn h4 fun _ s5 ⟨x, H5, I5, r5, y5, st5, fr5⟩ => ?_)
    have I5' := I5.pinned (stat fr5) (T.obj _ _ st5)
    refine wpAny_passesOwn hp (thn (hg _ s5 σ3 H5 x u _ I5' r5 (step x H5 y5)) fun _ s6 ⟨σ6, H6, I6, q6⟩ => ?_)
    refine wpAny_passesOwn hp (thn (hb _ s6 σ6 H6 _ I6 q6) fun f s7 q7 => ?_)
    have again : ∀ {σ7 : St} {H7 : Hp}, Inv X (pins ++ pinsAt fp s5.heap) σ7 H7 s7 → N σ7 H7 → ∃ m, m < n ∧ ∃ i σ' H', Inv X pins σ' H' s7 ∧ tn i s7.heap ∧ (∀ b ∈ fp, H' b = none) ∧ W i m σ' H' := fun {σ7 H7} I7 n7 => by
      obtain ⟨m', hm, w7⟩ := hN σ7 H7 n7
      refine ⟨m', hm, i + 1, σ7, H7, I7.unpinned, T.keep _ _ _ st5 fun b hb o e => (I7.pin (b, o) (List.mem_append_right _ (List.mem_append_right _ (mem_pinsAt hb e)))).1, fun b hb => ?_, w7⟩
      obtain ⟨o, e, d⟩ := T.obj _ _ st5 b hb
      exact (I7.pin (b, o) (List.mem_append_right _ (List.mem_append_right _ (mem_pinsAt hb e)))).2.1
    cases f with
    | next => obtain ⟨σ7, H7, I7, n7⟩ := q7; exact again I7 n7
    | cont => obtain ⟨σ7, H7, I7, n7⟩ := q7; exact again I7 n7
    | brk => obtain ⟨σ7, H7, I7, q7⟩ := q7; exact ⟨σ7, H7, I7.unpinned, q7⟩
    | ret v => obtain ⟨x7, σ7, H7, I7, r7, q7⟩ := q7; exact ⟨x7, σ7, H7, I7.unpinned, r7, q7⟩
end

/-! ### the forms one uses -/
theorem for_range {lo : Int} {n : Nat} {g : TG} {tb : TS} {D : Ends} {σ : St} {H : Hp} (Pv : Nat → St → Hp → Prop) (h0 : Pv 0 σ H)
    (hs : ∀ i σ H, i < n → Pv i σ H → g (.int (lo + i)) σ H fun σ2 H2 => tb { D with nx := Pv (i + 1), ct := Pv (i + 1), bk := D.nx } σ2 H2) (hd : ∀ σ H, Pv n σ H → D.nx σ H) :
    ∃ W : Nat → Nat → St → Hp → Prop, (∃ m, W 0 m σ H) ∧ ∀ i m σ H, W i m σ H →
      ((Itr lo n).stop i H ∧ D.nx σ H) ∨ ((Itr lo n).go i H ∧ ∃ N : St → Hp → Prop, (∀ σ' H', N σ' H' → ∃ m', m' < m ∧ W (i + 1) m' σ' H') ∧ ∀ x H', (Itr lo n).yld i H x H' → g x σ H' fun σ2 H2 => tb { D with nx := N, ct := N, bk := D.nx } σ2 H2) := by
  refine ⟨fun i m σ H => m = n - i ∧ i ≤ n ∧ Pv i σ H, ⟨n, by simp, Nat.zero_le _, h0⟩, ?_⟩
  rintro i m σ H ⟨rfl, hi, p⟩
  by_cases hlt : i < n
  · refine .inr ⟨hlt, Pv (i + 1), fun σ' H' p' => ⟨n - (i + 1), by omega, rfl, hlt, p'⟩, fun x H' y => ?_⟩
    obtain ⟨e, y⟩ := y
    subst e y
    exact hs i σ _ hlt p
  · have e : i = n := by omega
    subst e
    exact .inl ⟨Nat.le_refl _, hd σ H p⟩
end L2

namespace L2
open PySem PySem.Spec PyProof.Rows

abbrev R2 := V → V → Hp → VK → Prop
/-- a two-place operation on values: f is binaryOp op, inplaceOp op or compareOp op -/
def OpR (X : Cx) (f : Value → Value → Sem Value) (r : R2) : Prop :=
  ∀ (pins : List (Addr × Obj)) (s : Shared) (σ : St) (H : Hp) (x y : V) (v u : Value) (Q : VK), Inv X pins σ H s → RelV x v → RelV y u → r x y H Q →
    wpAny (model X.prog X.w) X.A (f v u) (EP X pins σ Q) X.xe s
/-- a one-place operation -/
def UnR (X : Cx) (f : Value → Sem Value) (r : V → Hp → VK → Prop) : Prop :=
  ∀ (pins : List (Addr × Obj)) (s : Shared) (σ : St) (H : Hp) (x : V) (v : Value) (Q : VK), Inv X pins σ H s → RelV x v → r x H Q →
    wpAny (model X.prog X.w) X.A (f v) (EP X pins σ Q) X.xe s
/-- a call of a value that is known (a builtin, a type) with values -/
def CallR (X : Cx) (f : Value) (r : List V → Hp → VK → Prop) : Prop :=
  ∀ (pins : List (Addr × Obj)) (s : Shared) (σ : St) (H : Hp) (xs : List V) (us : List Value) (Q : VK), Inv X pins σ H s → Vals xs us → r xs H Q →
    wpAny (model X.prog X.w) X.A (call f us) (EP X pins σ Q) X.xe s
def tOp (r : R2) (ta tb : TE) : TE := fun σ H Q => ta σ H fun x H1 => tb σ H1 fun y H2 => r x y H2 Q
def tUn (r : V → Hp → VK → Prop) (ta : TE) : TE := fun σ H Q => ta σ H fun x H1 => r x H1 Q
/-- ints in, under C, and a value out -/
def rI (C : Int → Int → Prop) (g : Int → Int → V) : R2 := fun x y H Q => ∃ i j, x = .int i ∧ y = .int j ∧ C i j ∧ Q (g i j) H
def rI0 (g : Int → Int → V) : R2 := fun x y H Q => ∃ i j, x = .int i ∧ y = .int j ∧ Q (g i j) H
def rU (g : Int → V) : V → Hp → VK → Prop := fun x H Q => ∃ i, x = .int i ∧ Q (g i) H

section
variable {X : Cx} {a b c : Expr} {ta tb tc : TE} {pos : Pos}

theorem binT (ha : PE X a ta) (hb : PE X b tb) {pins : List (Addr × Obj)} {s : Shared} {σ : St} {H : Hp} {R : V → V → Hp → Prop} (I : Inv X pins σ H s)
    (h : ta σ H fun x H1 => tb σ H1 fun y H2 => R x y H2) {Q : Value → Shared → Prop} {f : Value → Value → Sem Value}
    (hf : ∀ v u s2 x y H2, Inv X pins σ H2 s2 → RelV x v → RelV y u → R x y H2 → wpAny (model X.prog X.w) X.A (f v u) Q X.xe s2) :
    wpAny (model X.prog X.w) X.A (eval a X.env) (fun v s₁ => wpAny (model X.prog X.w) X.A (eval b X.env) (fun u s₂ => wpAny (model X.prog X.w) X.A (f v u) Q X.xe s₂) X.xe s₁) X.xe s := by
  refine thn (ha pins s σ H _ I h) fun v s1 ⟨x, H1, I1, r1, q1⟩ => ?_
  refine thn (hb pins s1 σ H1 _ I1 q1) fun u s2 ⟨y, H2, I2, r2, q2⟩ => ?_
  exact hf v u s2 x y H2 I2 r1 r2 q2

theorem pe_op {op : Operator} {r : R2} (ho : OpR X (binaryOp op) r) (ha : PE X a ta) (hb : PE X b tb) : PE X (.BinOp a op b pos) (tOp r ta tb) := by
  intro pins s σ H Q I h
  exact wpAny_BinOp (binT ha hb I h fun v u s2 x y H2 I2 rx ry q => ho pins s2 σ H2 x y v u Q I2 rx ry q)
theorem pe_un {op : UnaryOp} {r : V → Hp → VK → Prop} (ho : UnR X (unaryOp op) r) (ha : PE X a ta) : PE X (.UnaryOp op a pos) (tUn r ta) := by
  intro pins s σ H Q I h
  exact UnaryOp_ (thn (ha pins s σ H _ I h) fun v s1 ⟨x, H1, I1, r1, q1⟩ => ho pins s1 σ H1 x v Q I1 r1 q1)
/-! ### ints -/
theorem opI {f : Value → Value → Sem Value} {C : Int → Int → Prop} {g : Int → Int → Int}
    (rule : ∀ (i j : Int) (t u : Tok) (s : Shared) (Q : Value → Shared → Prop) (E : Value → Shared → Prop), C i j → Q (.int (g i j) s.toks) { s with toks := s.toks + 1 } → wpAny (model X.prog X.w) X.A (f (.int i t) (.int j u)) Q E s) :
    OpR X f (rI C fun i j => .int (g i j)) := by
  intro pins s σ H x y v u Q I rx ry h
  obtain ⟨i, j, rfl, rfl, hc, q⟩ := h
  obtain ⟨t, rfl⟩ := rx
  obtain ⟨t', rfl⟩ := ry
  exact rule i j t t' s _ _ hc ⟨.int (g i j), H, I.tok _, ⟨_, rfl⟩, q⟩
theorem opI0 {f : Value → Value → Sem Value} {g : Int → Int → Int}
    (rule : ∀ (i j : Int) (t u : Tok) (s : Shared) (Q : Value → Shared → Prop) (E : Value → Shared → Prop), Q (.int (g i j) s.toks) { s with toks := s.toks + 1 } → wpAny (model X.prog X.w) X.A (f (.int i t) (.int j u)) Q E s) :
    OpR X f (rI0 fun i j => .int (g i j)) := by
  intro pins s σ H x y v u Q I rx ry h
  obtain ⟨i, j, rfl, rfl, q⟩ := h
  obtain ⟨t, rfl⟩ := rx
  obtain ⟨t', rfl⟩ := ry
  exact rule i j t t' s _ _ ⟨.int (g i j), H, I.tok _, ⟨_, rfl⟩, q⟩
theorem opB0 {f : Value → Value → Sem Value} {g : Int → Int → Bool}
    (rule : ∀ (i j : Int) (t u : Tok) (s : Shared) (Q : Value → Shared → Prop) (E : Value → Shared → Prop), Q (.bool (g i j)) s → wpAny (model X.prog X.w) X.A (f (.int i t) (.int j u)) Q E s) :
    OpR X f (rI0 fun i j => .bl (g i j)) := by
  intro pins s σ H x y v u Q I rx ry h
  obtain ⟨i, j, rfl, rfl, q⟩ := h
  obtain ⟨t, rfl⟩ := rx
  obtain ⟨t', rfl⟩ := ry
  exact rule i j t t' s _ _ ⟨.bl (g i j), H, I, rfl, q⟩

def CDiv (i j : Int) : Prop := 0 < j ∧ j < 1073741824
def CMul (i j : Int) : Prop := (-(2 ^ 64) < i ∧ i < 2 ^ 64) ∨ (-(2 ^ 64) < j ∧ j < 2 ^ 64)
theorem CMul.ok {i j : Int} (h : CMul i j) : IntMulOk i j := by
  rcases h with ⟨h1, h2⟩ | ⟨h1, h2⟩
  · exact .of_left (intBits_le_64 h1 h2)
  · exact .of_right (intBits_le_64 h1 h2)
theorem op_add : OpR X (binaryOp .Add) (rI0 fun i j => .int (i + j)) := opI0 fun _ _ _ _ _ _ _ q => add_int q
theorem op_sub : OpR X (binaryOp .Sub) (rI0 fun i j => .int (i - j)) := opI0 fun _ _ _ _ _ _ _ q => sub_int q
theorem op_mul : OpR X (binaryOp .Mult) (rI CMul fun i j => .int (i * j)) := opI fun _ _ _ _ _ _ _ hc q => mul_int q hc.ok
/-- // by a positive divisor -/
theorem op_fdiv : OpR X (binaryOp .FloorDiv) (rI CDiv fun i j => .int (i / j)) := opI fun i j _ _ _ _ _ hc q => by
  have h1 : (0 : Int) < j := hc.1
  have h2 : j < 1073741824 := hc.2
  exact floordiv_int (by omega) (by rw [Int.fdiv_eq_ediv_of_nonneg i (by omega)]; exact q) (.inl (PyProof.noPylong_small (by omega)))
/-- % by a positive divisor of any size -/
theorem op_mod : OpR X (binaryOp .Mod) (rI (fun _ j => 0 < j) fun i j => .int (i % j)) := opI fun i j _ _ _ _ _ hc q => by
  have h1 : (0 : Int) < j := hc
  exact mod_int' (by omega) (by rw [Int.fmod_eq_emod_of_nonneg i (by omega)]; exact q)
theorem unI {f : Value → Sem Value} {g : Int → Int}
    (rule : ∀ (i : Int) (t : Tok) (s : Shared) (Q : Value → Shared → Prop) (E : Value → Shared → Prop), Q (.int (g i) s.toks) { s with toks := s.toks + 1 } → wpAny (model X.prog X.w) X.A (f (.int i t)) Q E s) :
    UnR X f (rU fun i => .int (g i)) := by
  intro pins s σ H x v Q I rx h
  obtain ⟨i, rfl, q⟩ := h
  obtain ⟨t, rfl⟩ := rx
  exact rule i t s _ _ ⟨.int (g i), H, I.tok _, ⟨_, rfl⟩, q⟩
theorem un_neg : UnR X (unaryOp .USub) (rU fun i => .int (-i)) := unI fun _ _ _ _ _ q => neg_int q
/-! ### bools among ints: n += (a < b) -/
end

/-! ### comparisons -/
/-- the scalars that == tells apart as data does -/
def scal : V → V → Bool
  | .non, .non => true | .non, .int _ => true | .int _, .non => true | .non, .bl _ => true | .bl _, .non => true | .non, .str _ => true | .str _, .non => true
  | .int _, .int _ => true | .bl _, .bl _ => true | .str _, .str _ => true | .byt _, .byt _ => true
  | .int _, .str _ => true | .str _, .int _ => true | .bl _, .str _ => true | .str _, .bl _ => true
  | _, _ => false
def rEq : R2 := fun x y H Q => scal x y = true ∧ Q (.bl (decide (x = y))) H
def rNe : R2 := fun x y H Q => scal x y = true ∧ Q (.bl (!decide (x = y))) H

theorem dec_int {i j : Int} : decide (V.int i = V.int j) = (i == j) := by
  rw [Bool.eq_iff_iff]
  simp
theorem dec_bl {i j : Bool} : decide (V.bl i = V.bl j) = (i == j) := by
  rw [Bool.eq_iff_iff]
  simp
theorem dec_str {i j : Str} : decide (V.str i = V.str j) = (i == j) := by
  rw [Bool.eq_iff_iff]
  simp
theorem dec_byt {i j : Array UInt8} : decide (V.byt i = V.byt j) = (i.toList == j.toList) := by
  rw [Bool.eq_iff_iff]
  cases i
  cases j
  simp

section
variable {X : Cx} {a b c : Expr} {ta tb tc : TE} {pos : Pos}
theorem fin_bl {pins : List (Addr × Obj)} {σ : St} {H : Hp} {s : Shared} {Q : VK} {k k' : Bool} (I : Inv X pins σ H s) (q : Q (.bl k) H) (e : k = k') : EP X pins σ Q (.bool k') s := by
  subst e
  exact ⟨.bl k, H, I, rfl, q⟩
theorem op_eq : OpR X (compareOp .Eq) rEq := by
  intro pins s σ H x y v u Q I rx ry h
  obtain ⟨hs, q⟩ := h
  cases x with
  | non =>
    cases rx
    cases y with
    | non => cases ry; exact PySem.EqNone.eq_none_none (fin_bl I q (by simp))
    | bl j => cases ry; exact PySem.EqNone.eq_none_bool (fin_bl I q (by simp))
    | int j => obtain ⟨t', rfl⟩ := ry; exact PySem.EqNone.eq_none_int (fin_bl I q (by simp))
    | str j => obtain ⟨t', rfl⟩ := ry; exact PySem.EqNone.eq_none_str (fin_bl I q (by simp))
    | _ => exact absurd (show false = true from hs) Bool.false_ne_true
  | bl i =>
    cases rx
    cases y with
    | non => cases ry; exact PySem.EqNone.eq_bool_none (fin_bl I q (by simp))
    | bl j => cases ry; exact eq_bool (fin_bl I q dec_bl)
    | str j => obtain ⟨t', rfl⟩ := ry; exact PySem.EqMixed.eq_bool_str (fin_bl I q (by simp))
    | _ => exact absurd (show false = true from hs) Bool.false_ne_true
  | int i =>
    obtain ⟨t, rfl⟩ := rx
    cases y with
    | non => cases ry; exact PySem.EqNone.eq_int_none (fin_bl I q (by simp))
    | int j => obtain ⟨t', rfl⟩ := ry; exact eq_int (fin_bl I q dec_int)
    | str j => obtain ⟨t', rfl⟩ := ry; exact PySem.EqMixed.eq_int_str (fin_bl I q (by simp))
    | _ => exact absurd (show false = true from hs) Bool.false_ne_true
  | str i =>
    obtain ⟨t, rfl⟩ := rx
    cases y with
    | non => cases ry; exact PySem.EqNone.eq_str_none (fin_bl I q (by simp))
    | bl j => cases ry; exact PySem.EqMixed.eq_str_bool (fin_bl I q (by simp))
    | int j => obtain ⟨t', rfl⟩ := ry; exact PySem.EqMixed.eq_str_int (fin_bl I q (by simp))
    | str j => obtain ⟨t', rfl⟩ := ry; exact eq_str (fin_bl I q dec_str)
    | _ => exact absurd (show false = true from hs) Bool.false_ne_true
  | byt i =>
    obtain ⟨t, rfl⟩ := rx
    cases y with
    | byt j => obtain ⟨t', rfl⟩ := ry; exact PySem.W.eq_bytes (fin_bl I q dec_byt)
    | _ => exact absurd (show false = true from hs) Bool.false_ne_true
  | _ => cases y <;> exact absurd (show false = true from hs) Bool.false_ne_true
theorem op_ne : OpR X (compareOp .NotEq) rNe := by
  intro pins s σ H x y v u Q I rx ry h
  obtain ⟨hs, q⟩ := h
  cases x with
  | non =>
    cases rx
    cases y with
    | non => cases ry; exact PySem.EqNone.ne_none_none (fin_bl I q (by simp))
    | bl j => cases ry; exact PySem.EqNone.ne_none_bool (fin_bl I q (by simp))
    | int j => obtain ⟨t', rfl⟩ := ry; exact PySem.EqNone.ne_none_int (fin_bl I q (by simp))
    | str j => obtain ⟨t', rfl⟩ := ry; exact PySem.EqNone.ne_none_str (fin_bl I q (by simp))
    | _ => exact absurd (show false = true from hs) Bool.false_ne_true
  | bl i =>
    cases rx
    cases y with
    | non => cases ry; exact PySem.EqNone.ne_bool_none (fin_bl I q (by simp))
    | bl j => cases ry; exact ne_bool (fin_bl I q (congrArg not dec_bl))
    | str j => obtain ⟨t', rfl⟩ := ry; exact PySem.EqMixed.ne_bool_str (fin_bl I q (by simp))
    | _ => exact absurd (show false = true from hs) Bool.false_ne_true
  | int i =>
    obtain ⟨t, rfl⟩ := rx
    cases y with
    | non => cases ry; exact PySem.EqNone.ne_int_none (fin_bl I q (by simp))
    | int j => obtain ⟨t', rfl⟩ := ry; exact ne_int (fin_bl I q (congrArg not dec_int))
    | str j => obtain ⟨t', rfl⟩ := ry; exact PySem.EqMixed.ne_int_str (fin_bl I q (by simp))
    | _ => exact absurd (show false = true from hs) Bool.false_ne_true
  | str i =>
    obtain ⟨t, rfl⟩ := rx
    cases y with
    | non => cases ry; exact PySem.EqNone.ne_str_none (fin_bl I q (by simp))
    | bl j => cases ry; exact PySem.EqMixed.ne_str_bool (fin_bl I q (by simp))
    | int j => obtain ⟨t', rfl⟩ := ry; exact PySem.EqMixed.ne_str_int (fin_bl I q (by simp))
    | str j => obtain ⟨t', rfl⟩ := ry; exact ne_str (fin_bl I q (congrArg not dec_str))
    | _ => exact absurd (show false = true from hs) Bool.false_ne_true
  | byt i =>
    obtain ⟨t, rfl⟩ := rx
    cases y with
    | byt j => obtain ⟨t', rfl⟩ := ry; exact PySem.W.ne_bytes (fin_bl I q (congrArg not dec_byt))
    | _ => exact absurd (show false = true from hs) Bool.false_ne_true
  | _ => cases y <;> exact absurd (show false = true from hs) Bool.false_ne_true

theorem op_lt : OpR X (compareOp .Lt) (rI0 fun i j => .bl (decide (i < j))) := opB0 fun _ _ _ _ _ _ _ q => lt_int q
theorem op_le : OpR X (compareOp .LtE) (rI0 fun i j => .bl (decide (i ≤ j))) := opB0 fun _ _ _ _ _ _ _ q => le_int q
theorem op_gt : OpR X (compareOp .Gt) (rI0 fun i j => .bl (decide (j < i))) := opB0 fun _ _ _ _ _ _ _ q => gt_int q
/-- the one string within the other -/
theorem op_in_str : OpR X (compareOp .In) (fun x y H Q => ∃ i j, x = .str i ∧ y = .str j ∧ Q (.bl (!(Builtin.Str.occurrences j i 0 j.length 1).isEmpty)) H) := by
  intro pins s σ H x y v u Q I rx ry h
  obtain ⟨i, j, rfl, rfl, q⟩ := h
  obtain ⟨t, rfl⟩ := rx
  obtain ⟨t', rfl⟩ := ry
  exact in_str (fin_bl I q rfl)

/-- is None, is not None: the right side a value none -/
theorem op_isN : OpR X (compareOp .Is) (fun x y H Q => y = .non ∧ Q (.bl (decide (x = .non))) H) := by
  intro pins s σ H x y v u Q I rx ry h
  obtain ⟨rfl, q⟩ := h
  cases ry
  refine is_none_gen (fin_bl I q ?_)
  cases x <;> first
    | (cases rx; rfl)
    | (obtain ⟨t, rfl⟩ := rx; rfl)
theorem nomark (b : Expr) {op : CmpOp} (h : op ≠ .In := by decide) (h2 : op ≠ .NotIn := by decide) : behindInMarks op b = false := by
  have e1 : (op == CmpOp.In) = false := by cases op <;> first | rfl | exact absurd rfl h
  have e2 : (op == CmpOp.NotIn) = false := by cases op <;> first | rfl | exact absurd rfl h2
  cases b <;> simp [behindInMarks, e1, e2]
/-- a comparison as a value; hm: nomark b, or (for in, not in) by with_unfolding_all rfl -/
theorem pe_cmpR {op : CmpOp} {r : R2} (ho : OpR X (compareOp op) r) (ha : PE X a ta) (hb : PE X b tb) (hm : behindInMarks op b = false) : PE X (.Compare a [op] [b] pos) (tOp r ta tb) := by
  intro pins s σ H Q I h
  exact wpAny_Compare1 (binT ha hb I h fun v u s2 x y H2 I2 rx ry q => ho pins s2 σ H2 x y v u Q I2 rx ry q) hm
/-- a reading of a value as a test -/
def tTest (t : TE) : TT := fun σ H Q => t σ H fun x H' => ∃ k, x = .bl k ∧ Q k H'
theorem pt_cmpR {op : CmpOp} {r : R2} (ho : OpR X (compareOp op) r) (ha : PE X a ta) (hb : PE X b tb) (hm : behindInMarks op b = false) : PT X (.Compare a [op] [b] pos) (tTest (tOp r ta tb)) := by
  intro pins s σ H Q I h
  refine wpAny_isTrue_Compare1 (thn (ha pins s σ H _ I h) fun v s1 ⟨x, H1, I1, r1, q1⟩ => thn (hb pins s1 σ H1 _ I1 q1) fun u s2 ⟨y, H2, I2, r2, q2⟩ =>
    thn (ho pins s2 σ H2 x y v u _ I2 r1 r2 q2) fun c s3 ⟨z, H3, I3, r3, k, e, q3⟩ => ?_) hm
  subst e
  cases r3
  exact wpAny_truthy_bool ⟨H3, I3, q3⟩
/-- a op1 b op2 c -/
def tChain (r r' : R2) (ta tb tc : TE) : TE := fun σ H Q => ta σ H fun x H1 => tb σ H1 fun y H2 => r x y H2 fun z H3 => ∃ k, z = .bl k ∧
  (if k = true then tc σ H3 fun w' H4 => r' y w' H4 Q else Q (.bl false) H3)
theorem pt_chain {op op' : CmpOp} {r r' : R2} (ho : OpR X (compareOp op) r) (ho' : OpR X (compareOp op') r') (ha : PE X a ta) (hb : PE X b tb) (hc : PE X c tc)
    (hm : lastMarks [op, op'] [b, c] = false := by with_unfolding_all rfl) : PT X (.Compare a [op, op'] [b, c] pos) (tTest (tChain r r' ta tb tc)) := by
  intro pins s σ H Q I h
  refine isTrue_chain (thn (ha pins s σ H _ I h) fun v s1 ⟨x, H1, I1, r1, q1⟩ => test_link (thn (hb pins s1 σ H1 _ I1 q1) fun u s2 ⟨y, H2, I2, r2, q2⟩ =>
    thn (ho pins s2 σ H2 x y v u _ I2 r1 r2 q2) fun d s3 ⟨z, H3, I3, r3, k, e, q3⟩ => ?_)) hm
  subst e
  cases r3
  refine wpAny_truthy_bool ?_
  cases k with
  | false =>
    obtain ⟨k', e', q'⟩ := q3
    cases e'
    exact ite_ff ⟨H3, I3, q'⟩
  | true =>
    refine ite_tt (test_last (thn (hc pins s3 σ H3 _ I3 q3) fun w' s4 ⟨z', H4, I4, r4, q4⟩ => thn (ho' pins s4 σ H4 y z' u w' _ I4 r2 r4 q4) fun d' s5 ⟨z2, H5, I5, r5, k2, e2, q5⟩ => ?_))
    subst e2
    cases r5
    exact wpAny_truthy_bool ⟨H5, I5, q5⟩

/-! ### truth -/
theorem line63 : (sizeLine : Nat) < 2 ^ 63 := by rw [sizeLine_eq]; decide
/-! ### strs and bytes -/
theorem op_add_str : OpR X (binaryOp .Add) (fun x y H Q => ∃ i j, x = .str i ∧ y = .str j ∧ i.length + j.length ≤ sizeLine ∧ Q (.str (i ++ j)) H) := by
  intro pins s σ H x y v u Q I rx ry h
  obtain ⟨i, j, rfl, rfl, hz, q⟩ := h
  obtain ⟨t, rfl⟩ := rx
  obtain ⟨t', rfl⟩ := ry
  exact add_str (fun t' tk => ⟨.str (i ++ j), H, I.tok _, ⟨_, rfl⟩, q⟩) hz
/-! ### scalar builtins, by CallR -/
theorem vals1 {x : V} {us : List Value} (r : Vals [x] us) : ∃ u, us = [u] ∧ RelV x u := by
  cases r with
  | cons r1 r2 => cases r2; exact ⟨_, rfl, r1⟩
theorem vals2 {x y : V} {us : List Value} (r : Vals [x, y] us) : ∃ u w', us = [u, w'] ∧ RelV x u ∧ RelV y w' := by
  cases r with
  | cons r1 r2 =>
    cases r2 with
    | cons r3 r4 => cases r4; exact ⟨_, _, rfl, r1, r3⟩
theorem call_max2 (hc : X.calm = true) : CallR X (.builtin "max") (fun xs H Q => ∃ i j, xs = [.int i, .int j] ∧ Q (.int (if j > i then j else i)) H) := by
  intro pins s σ H xs us Q I r h
  obtain ⟨i, j, rfl, q⟩ := h
  obtain ⟨u, w', rfl, ⟨t, rfl⟩, ⟨t', rfl⟩⟩ := vals2 r
  refine max_two_ints (I.ok.hd hc) fun h' tk k => ⟨_, H, I.kept k, ?_, q⟩
  by_cases hj : j > i
  · rw [if_pos hj, if_pos hj]; exact ⟨_, rfl⟩
  · rw [if_neg hj, if_neg hj]; exact ⟨_, rfl⟩
theorem call_min2 (hc : X.calm = true) : CallR X (.builtin "min") (fun xs H Q => ∃ i j, xs = [.int i, .int j] ∧ Q (.int (if j < i then j else i)) H) := by
  intro pins s σ H xs us Q I r h
  obtain ⟨i, j, rfl, q⟩ := h
  obtain ⟨u, w', rfl, ⟨t, rfl⟩, ⟨t', rfl⟩⟩ := vals2 r
  refine min_two_ints (I.ok.hd hc) fun h' tk k => ⟨_, H, I.kept k, ?_, q⟩
  by_cases hj : j < i
  · rw [if_pos hj, if_pos hj]; exact ⟨_, rfl⟩
  · rw [if_neg hj, if_neg hj]; exact ⟨_, rfl⟩
theorem call_int1 : CallR X (.type "int") (fun xs H Q => (∃ i, xs = [.int i] ∧ Q (.int i) H) ∨ ∃ k, xs = [.bl k] ∧ Q (.int (if k then 1 else 0)) H) := by
  intro pins s σ H xs us Q I r h
  rcases h with ⟨i, rfl, q⟩ | ⟨k, rfl, q⟩
  · obtain ⟨u, rfl, t, rfl⟩ := vals1 r
    exact call_int_int ⟨.int i, H, I, ⟨_, rfl⟩, q⟩
  · obtain ⟨u, rfl, r1⟩ := vals1 r
    cases r1
    exact call_int_bool ⟨.int (if k then 1 else 0), H, I.tok _, ⟨_, rfl⟩, q⟩
theorem call_str_int : CallR X (.type "str") (fun xs H Q => ∃ i, xs = [.int i] ∧ i.natAbs.log2 < 1920 ∧ Q (.str (toString i)) H) := by
  intro pins s σ H xs us Q I r h
  obtain ⟨i, rfl, hz, q⟩ := h
  obtain ⟨u, rfl, t, rfl⟩ := vals1 r
  exact PySem.P.str_of_int hz ⟨.str _, H, I.tok _, ⟨_, rfl⟩, q⟩
end
end L2

namespace L2
open PySem PySem.Spec PyProof.Rows

/-! ### an instance, its attributes a map -/
structure ObjM (h : Heap) (x dx C : Addr) (mA : Str → Option Value) : Prop where
  obj : h.get? x = some (PySem.W.instObj C dx)
  ns : h.Ns1 dx mA
  ne : dx ≠ x

theorem lookIn_ns {h : Heap} {dx : Addr} {mA : Str → Option Value} (n : h.Ns1 dx mA) : ∃ od, h.get? dx = some od ∧ ∀ name, PySem.W.lookIn name od = some (mA name) := by
  obtain ⟨o, es, ep, ho, hd, hk, _, hm⟩ := n
  refine ⟨o, ho, fun name => ?_⟩
  have e := hm name
  unfold nsFind findBy at e
  rw [← Array.find?_toList] at e
  unfold PySem.W.lookIn
  rw [hd]
  dsimp only
  split
  · rename_i y q
    rw [q] at e
    exact congrArg some e
  · rename_i q
    rw [q] at e
    have a : es.toList.any (·.refKey) = false := by
      rw [List.any_eq_false]
      intro y hy
      obtain ⟨z, t, hkey⟩ := hk y (Array.mem_toList_iff.mp hy)
      simp [DictEntry.refKey, hkey]
    have a' : ¬ es.toList.any (·.refKey) = true := by rw [a]; exact Bool.false_ne_true
    rw [if_neg a']
    exact congrArg some e

theorem ObjM.look {h : Heap} {x dx C : Addr} {mA : Str → Option Value} (I : ObjM h x dx C mA) : ∃ od, PySem.W.InstAt h x (PySem.W.instObj C dx) C (some od) ∧ ∀ name, PySem.W.lookIn name od = some (mA name) :=
  let ⟨od, ho, hl⟩ := lookIn_ns I.ns
  ⟨od, ⟨I.obj, rfl, rfl, ho⟩, hl⟩

section
variable {prog : Program} {w : World} {A : Around} {E : Value → Shared → Prop} {s : Shared} {K : PySem.W.Frag} {x dx C f : Addr} {mA : Str → Option Value} {name : Str} {v : Value}

end

/-! ### the attributes as a list of pairs -/
theorem RelO.some_of {v : V} {o : Option Value} (r : RelO (some v) o) : ∃ u, o = some u ∧ RelV v u := by
  cases o with
  | none => exact (show False from r).elim
  | some u => exact ⟨u, rfl, r⟩
theorem handed_of {v : V} {u : Value} (r : RelV v u) : PySem.W.handedIn u = true := by
  cases v with
  | non => cases (show u = Value.none from r); rfl
  | bl b => cases (show u = Value.bool b from r); rfl
  | int i => obtain ⟨t, e⟩ := (show ∃ t, u = Value.int i t from r); cases e; rfl
  | str x => obtain ⟨t, e⟩ := (show ∃ t, u = Value.str x t from r); cases e; rfl
  | byt b => obtain ⟨t, e⟩ := (show ∃ t, u = Value.bytes b t from r); cases e; rfl
  | flt b => obtain ⟨t, e⟩ := (show ∃ t, u = Value.float b t from r); cases e; rfl
  | ref a => cases (show u = Value.ref a from r); rfl
  | ty n => cases (show u = Value.type n from r); rfl

section
variable {P : Program} {w : World} {H H' : Hp} {h h' : Heap} {a C dx : Addr} {fs fs' : List (Str × V)}
theorem ins_get (hok : HOk P w H h) (e : H a = some (.ins C dx fs)) : ∃ mA, ObjM h a dx C mA ∧ (∀ f, RelO (fs.lookup f) (mA f)) ∧ PySem.Within mA (fs.map (·.1)) ∧ fs.length ≤ 1000 ∧ H dx = some (.own a) := by
  obtain ⟨d, z, ne, ob, mA, n, r, q⟩ := (show ObjOk P w H h a (.ins C dx fs) from hok a _ e)
  exact ⟨mA, ⟨ob, n, ne⟩, r, q, z, d⟩
end

/-! ### what of the text a class must have -/
structure Cls (K : PySem.W.Frag) (C : Addr) : Prop where
  pg : PySem.W.plainGet K C Str.empty = true
  hd : PySem.W.hasDictIn K C = true
  po : PySem.W.plainOver K C = true
  sa : PySem.W.findIn K (.ref C) "__setattr__" = some (some (.builtin "object.__setattr__"))
theorem Cls.get {K : PySem.W.Frag} {C : Addr} (c : Cls K C) (f : Str) : PySem.W.plainGet K C f = true := c.pg
/-- no class of it has the name -/
def NoAttr (K : PySem.W.Frag) (C : Addr) (f : Str) : Prop := PySem.W.findIn K (.ref C) f = some none
theorem NoAttr.taker {K : PySem.W.Frag} {C : Addr} {f : Str} (n : NoAttr K C f) : PySem.W.takerIn K C f = some none := by
  unfold PySem.W.takerIn
  rw [show PySem.W.findIn K (.ref C) f = some none from n]
  rfl
section
variable {X : Cx} {pins : List (Addr × Obj)} {σ : St} {H : Hp} {s : Shared} {a C dx : Addr} {fs : List (Str × V)} {f : Str} {v : V} {A : Around} {E : Value → Shared → Prop}

/-- e.f where nothing but the object is asked: through attributeBase (super) and the last hold -/
theorem attr_of {prog : Program} {w : World} {env : Env} {e : Expr} {f : Str} {pos : Pos} {s : Shared} {Q : Value → Shared → Prop} (hb : attributeBase e f env (eval e env) = eval e env)
    (h : wpAny (model prog w) A (eval e env) (fun o s₁ => wpAny (model prog w) A (getAttr o f true) Q E s₁) E s) : wpAny (model prog w) A (eval (.Attribute e f pos) env) Q E s :=
  Attribute_any_ h (by rw [arm_eval_Attribute, hb])
end

/-! ### readings and rules -/
section
variable {X : Cx} {o e value : Expr} {f : Str} {pos pos' tpos : Pos} {ta tv : TE}
end

/-! ### isinstance -/
section
variable {X : Cx} {pins : List (Addr × Obj)} {σ : St} {H : Hp} {s : Shared} {A : Around} {E : Value → Shared → Prop} {Q : Value → Shared → Prop} {c : Value} {b : Bool}
/-- the type of a value, as the fragment's deciders take it; for an instance its class -/
inductive TyOf (K : PySem.W.Frag) (H : Hp) : V → Value → Prop where
  | non : TyOf K H .non (.type "NoneType")
  | bl (x : Bool) : TyOf K H (.bl x) (.type "bool")
  | int (i : Int) : TyOf K H (.int i) (.type "int")
  | str (x : Str) : TyOf K H (.str x) (.type "str")
  | flt (x : UInt64) : TyOf K H (.flt x) (.type "float")
  | lst {a : Addr} {xs : List V} (e : H a = some (.lst xs)) : TyOf K H (.ref a) (.type "list")
  | frz {a : Addr} {o : Obj} {xs : List V} (e : H a = some (.frz o (.lst xs))) : TyOf K H (.ref a) (.type "list")
  | tup {a : Addr} {xs : List V} (e : H a = some (.tup xs)) : TyOf K H (.ref a) (.type "tuple")
  | dK {a : Addr} {kvs : List (Key × V)} (e : H a = some (.dK kvs)) : TyOf K H (.ref a) (.type "dict")
  | dT {a : Addr} {kvs : List (List Key × V)} (e : H a = some (.dT kvs)) : TyOf K H (.ref a) (.type "dict")
  | ins {a C dx : Addr} {fs : List (Str × V)} (e : H a = some (.ins C dx fs)) (cl : Cls K C) (ha : PySem.W.findIn K (.ref C) "__class__" = some (some (.builtin "object.__class__")))
      (hn : PySem.W.specialIn K (.builtin "object.__class__") "__get__" = some (some (.builtin "getset_descriptor.__get__"))) (htk : PySem.W.takesIn K (.builtin "object.__class__") = some true)
      (hm : PySem.W.mroIn K C (.type "object") = some true) : TyOf K H (.ref a) (.ref C)
/-- isinstance(x, c) for one class c, a built-in or an own one: kitOne's answer -/
theorem isinst_ok {x : V} {u t : Value} (I : Inv X pins σ H s) (rx : RelV x u) (ty : TyOf X.K H x t) (e : PySem.W.kitOne X.K t c = some b) (h : ∀ tk, Q (.bool b) { s with toks := tk }) :
    wpAny (model X.prog X.w) A (call (.builtin "isinstance") [u, c]) Q E s := by
  cases ty with
  | non => cases (show u = Value.none from rx); exact PySem.W.kia_one PySem.W.kitx_none I.kIn True.intro e (fun z => nomatch z) h
  | bl y => cases (show u = Value.bool y from rx); exact PySem.W.kia_one PySem.W.kitx_bool I.kIn True.intro e (fun z => nomatch z) h
  | int i => obtain ⟨t, q⟩ := (show ∃ t, u = Value.int i t from rx); cases q; exact PySem.W.kia_one PySem.W.kitx_int I.kIn True.intro e (fun z => nomatch z) h
  | str y => obtain ⟨t, q⟩ := (show ∃ t, u = Value.str y t from rx); cases q; exact PySem.W.kia_one PySem.W.kitx_str I.kIn True.intro e (fun z => nomatch z) h
  | flt y => obtain ⟨t, q⟩ := (show ∃ t, u = Value.float y t from rx); cases q; exact PySem.W.kia_one PySem.W.kitx_float I.kIn True.intro e (fun z => nomatch z) h
  | @lst a xs ea =>
    cases (show u = Value.ref a from rx)
    obtain ⟨_, _, n, _, h1⟩ := (show ObjOk X.prog X.w H s.heap a (.lst xs) from I.hok a _ ea)
    exact PySem.W.kia_one PySem.W.kitx_list I.kIn ⟨_, h1, rfl⟩ e (fun z => nomatch z) h
  | @frz a ob xs ea =>
    cases (show u = Value.ref a from rx)
    obtain ⟨_, _, _, n, _, h1⟩ := (show ObjOk X.prog X.w H s.heap a (.frz ob (.lst xs)) from I.hok a _ ea)
    exact PySem.W.kia_one PySem.W.kitx_list I.kIn ⟨_, h1, rfl⟩ e (fun z => nomatch z) h
  | @tup a xs ea =>
    cases (show u = Value.ref a from rx)
    obtain ⟨_, _, _, p⟩ := (show ObjOk X.prog X.w H s.heap a (.tup xs) from I.hok a _ ea)
    obtain ⟨o, h1, h2, _⟩ := p
    exact PySem.W.kia_one PySem.W.kitx_tuple I.kIn ⟨o, h1, h2⟩ e (fun z => nomatch z) h
  | @dK a kvs ea =>
    cases (show u = Value.ref a from rx)
    obtain ⟨_, _, vs, _, p⟩ := (show ObjOk X.prog X.w H s.heap a (.dK kvs) from I.hok a _ ea)
    obtain ⟨o, es, ep, h1, h2, _⟩ := p
    exact PySem.W.kia_one PySem.W.kitx_dict I.kIn ⟨o, h1, h2.1⟩ e (fun z => nomatch z) h
  | @dT a kvs ea =>
    cases (show u = Value.ref a from rx)
    obtain ⟨_, _, xs, _, o, es, ep, h1, h2, _⟩ := (show ObjOk X.prog X.w H s.heap a (.dT kvs) from I.hok a _ ea)
    exact PySem.W.kia_one PySem.W.kitx_dict I.kIn ⟨o, h1, h2.1⟩ e (fun z => nomatch z) h
  | @ins a C dx fs ea cl ha hn htk hm =>
    cases (show u = Value.ref a from rx)
    obtain ⟨mA, O, _⟩ := ins_get I.hok ea
    obtain ⟨od, J, _⟩ := O.look
    exact PySem.W.kia_one (PySem.W.kitx_own (cl.get _) cl.hd ha hn htk hm) I.kIn J e (fun z => nomatch z) h
end
end L2

namespace L2
open PySem PySem.Spec PyProof.Rows

/-! ### room -/
structure Room (k : Nat) (A : Around) (c : Bool := true) : Prop where
  hc : c = true → A.handled = none
  dp : A.depth + 3 * k + 5 < recursionLimit
  un : A.units + 16 * k + 200 < cLine
theorem Room.hd {k : Nat} {A : Around} (r : Room k A) : A.handled = none := r.hc rfl
theorem Room.mono {j k : Nat} {A : Around} {c : Bool} (r : Room k A c) (h : j ≤ k) : Room j A c := ⟨r.hc, by have := r.dp; omega, by have := r.un; omega⟩
theorem Room.deeper {k : Nat} {A : Around} {c : Bool} (r : Room (k + 1) A c) (env : Env) : Room k (A.deeper env) c :=
  ⟨r.hc, by have := r.dp; show A.depth + 1 + 3 * k + 5 < _; omega, by have := r.un; show A.units + 3 + 16 * k + 200 < _; omega⟩
theorem make_depth {A : Around} {C : Addr} {us : List Value} {kw : List (Str × Value)} : (A.under (.builtin "type.__call__" ⟨.ref C :: us, kw⟩)).depth = A.depth + 1 := by
  first | rfl | simp [Around.under, Code.weight, Code.isCreation, Code.isGuard, Code.isCaller, Code.frames, Code.isFrame, guardIds]
theorem make_units {A : Around} {C : Addr} {us : List Value} {kw : List (Str × Value)} : (A.under (.builtin "type.__call__" ⟨.ref C :: us, kw⟩)).units = A.units + 1 := by
  first | rfl | simp [Around.under, Code.cUnits, Code.frames, Code.isFrame]
theorem Room.make {k : Nat} {A : Around} {c : Bool} (r : Room (k + 1) A c) (C : Addr) (us : List Value) (kw : List (Str × Value)) : Room k (A.under (.builtin "type.__call__" ⟨.ref C :: us, kw⟩)) c :=
  ⟨r.hc, by have := r.dp; rw [make_depth]; omega, by have := r.un; rw [make_units]; omega⟩
theorem Room.depth {k : Nat} {A : Around} {c : Bool} (r : Room k A c) : A.depth < recursionLimit := by have := r.dp; omega
/-! ### argument lists and displays -/
def tNil : TA := fun _ H Q => Q [] H
def tCons (ta : TE) (tr : TA) : TA := fun σ H Q => ta σ H fun x H1 => tr σ H1 fun xs H2 => Q (x :: xs) H2
section
variable {X : Cx} {e : Expr} {es : List Expr} {te : TE} {t : TA} {pos : Pos}
theorem pa_nil : PA X [] tNil := fun _ _ _ _ H Q I h => Calls.spliced_nil ⟨[], H, I, .nil, h⟩
theorem pa_cons (ha : PE X e te) (hr : PA X es t) (hs : starEach (e :: es) X.env = (false, eval e X.env) :: starEach es X.env := by rfl) : PA X (e :: es) (tCons te t) := by
  intro pos pins s σ H Q I h
  rw [hs]
  show wpAny _ _ (spliced ((false, eval e X.env) :: backTo pos (starEach es X.env))) _ _ s
  refine Calls.spliced_cons (thn (ha pins s σ H _ I h) fun u s1 ⟨x, H1, I1, r1, q1⟩ => ?_)
  exact thn (hr pos pins s1 σ H1 _ I1 q1) fun us s2 ⟨xs, H2, I2, r2, q2⟩ => ⟨x :: xs, H2, I2, .cons r1 r2, q2⟩

/-- a tuple, a list of written items -/
def tTup (t : TA) : TE := fun σ H Q => t σ H fun xs H1 => xs.length ≤ sizeLine ∧ ∀ p, H1 p = none → Q (.ref p) (upd H1 p (.tup xs))
def tLst (t : TA) : TE := fun σ H Q => t σ H fun xs H1 => xs.length ≤ sizeLine ∧ ∀ p, H1 p = none → Q (.ref p) (upd H1 p (.lst xs))
theorem pe_tup {x1} (h : PA X es t) : PE X (.Tuple es x1 pos) (tTup t) := by
  intro pins s σ H Q I hq
  refine wpAny_Tuple_spliced (thn (h pos pins s σ H _ I hq) fun us s1 ⟨xs, H1, I1, r, z, q⟩ => ⟨by rw [← r.length]; exact z, ?_⟩)
  have hf : H1 s1.heap.objs.size = none := I1.hok.fresh (Nat.le_refl _)
  refine ⟨.ref s1.heap.objs.size, upd H1 s1.heap.objs.size (.tup xs), I1.laid (t' := s1.toks) (fun b u e => Heap.get?_push_of_some _ e) (Nat.le_refl _) ?_, rfl, q _ hf⟩
  exact ⟨z, us, r, ⟨_, Heap.get?_push_size _ rfl, rfl, _, rfl⟩⟩
theorem pe_lst (h : PA X es t) : PE X (.List es pos) (tLst t) := by
  intro pins s σ H Q I hq
  refine wpAny_List_spliced (thn (h pos pins s σ H _ I hq) fun us s1 ⟨xs, H1, I1, r, z, q⟩ => ⟨by rw [← r.length]; exact z, ?_⟩)
  have hf : H1 s1.heap.objs.size = none := I1.hok.fresh (Nat.le_refl _)
  refine ⟨.ref s1.heap.objs.size, upd H1 s1.heap.objs.size (.lst xs), I1.laid (t' := s1.toks) (fun b u e => Heap.get?_push_of_some _ e) (Nat.le_refl _) ?_, rfl, q _ hf⟩
  exact ⟨z, us, 0, r, Heap.get?_push_size _ rfl⟩
end

/-! ### what a def promises -/
/-- a def's promise: the bound arguments in the parameters' order, the heap, the wanted end, the wanted exception -/
abbrev Sp := List V → Hp → VK → XK → Prop
/-- how an exception lies behind a call (file 08 gives it): the callers' frames, abstract heap and state ahead of the call, the wish, the exception, the state -/
abbrev CXT := List Env → Hp → Shared → XK → Value → Shared → Prop

/-- the state at a call -/
structure Env0 (P : Program) (w : World) (K : PySem.W.Frag) (mg : Str → Option Value) (base : Heap) (A : Around) (outer : List Env) (s : Shared) (H : Hp) : Prop where
  frames : A.frames = some outer
  mod : Mod K mg base
  bs : ∀ b o, base.get? b = some o → s.heap.get? b = some o ∧ H b = none
  bsz : base.objs.size ≤ s.heap.objs.size
  funs : s.heap.FunFrames base outer
  frf : ∀ b ∈ frs outer, H b = none
  hok : HOk P w H s.heap
  bare : AllBare s.gens
/-- a call's end -/
def CE (outer : List Env) (P : Program) (w : World) (H : Hp) (s : Shared) (Q : VK) (u : Value) (s' : Shared) : Prop :=
  ∃ v H', s'.os = s.os ∧ AllBare s'.gens ∧ Un (frs outer) [] H H' s.heap s'.heap ∧ HOk P w H' s'.heap ∧ RelV v u ∧ Q v H'
def CR (CX : CXT) (outer : List Env) (P : Program) (w : World) (H : Hp) (s : Shared) (Q : VK) (E : XK) (r : Result) (s' : Shared) : Prop :=
  match r with
  | .ok (.ret u) => CE outer P w H s Q u s'
  | .ok _ => False
  | .error e => CX outer H s E e s'
structure FnOk (P : Program) (w : World) (K : PySem.W.Frag) (mg : Str → Option Value) (base : Heap) (CX : CXT) (k : Nat) (f : Addr) (fd : FuncData) (ps : List Str) (sp : Sp) (c : Bool := true) : Prop where
  len : ∀ vs H Q E, sp vs H Q E → vs.length = ps.length
  run : ∀ (A : Around) (outer : List Env) (s : Shared) (H : Hp) (args : Args) (us : List Value) (vs : List V) (Q : VK) (E : XK), Room k A c → Env0 P w K mg base A outer s H → BindsTo s fd args (ps.zip us) → Vals vs us → sp vs H Q E →
    codeAny (model P w) A (.call (.ref f) args) (CR CX outer P w H s Q E) s
theorem Env0.make {P : Program} {w : World} {K : PySem.W.Frag} {mg : Str → Option Value} {base : Heap} {A : Around} {outer : List Env} {s : Shared} {H : Hp} (e : Env0 P w K mg base A outer s H) (C : Addr) (us : List Value) (kw : List (Str × Value)) :
    Env0 P w K mg base (A.under (.builtin "type.__call__" ⟨.ref C :: us, kw⟩)) outer s H := ⟨by first | exact e.frames | (simpa [Around.under, Code.envs, Code.isFrame, pushEnvs] using e.frames), e.mod, e.bs, e.bsz, e.funs, e.frf, e.hok, e.bare⟩
section
variable {X : Cx} {pins : List (Addr × Obj)} {σ : St} {H : Hp} {s s' : Shared}
/-- from a body: what a callee wants -/
theorem Inv.env0 (I : Inv X pins σ H s) : Env0 X.prog X.w X.K X.mg X.base X.A X.stack s H :=
  ⟨I.ok.frames, I.ok.mod, I.bs, Nat.le_trans I.ok.bsz I.sz, I.stack, I.stkFree, I.hok, I.bare⟩
/-- behind a call -/
theorem Inv.after {Q : VK} {u : Value} (I : Inv X pins σ H s) (h : CE X.stack X.prog X.w H s Q u s') : EP X pins σ Q u s' := by
  obtain ⟨v, H', os, bare, un, hok, r, q⟩ := h
  obtain ⟨hh, g, d, t, os'⟩ := s'
  obtain rfl : os' = s.os := os
  exact ⟨v, H', I.call (h' := hh) (g' := g) (d' := d) (t' := t) (ch := []) un hok bare (fun b z => absurd z (by simp)), r, q⟩
end

/-! ### calls -/
/-- f(..): the written arguments, then the defaults dvs; E: what is wanted of an exception -/
def tCall (sp : Sp) (dvs : List V) (E : XK) (t : TA) : TE := fun σ H Q => t σ H fun vs H1 => sp (vs ++ dvs) H1 Q E
/-- how the parameters are bound: us the positional arguments, kw the keywords' values by name, ds the defaults that fill up -/
def Binds (K : PySem.W.Frag) (fd : FuncData) (ps : List Str) (ds : List Value) : Prop :=
  ∀ (s : Shared) (us : List Value), K.In s.heap → (us ++ ds).length = ps.length → BindsTo s fd ⟨us, []⟩ (ps.zip (us ++ ds))
/-- every parameter is given -/
theorem Binds.all {K : PySem.W.Frag} {fd : FuncData} {ps : List Str} (h : ∀ us : List Value, us.length = ps.length → bindArgs fd ⟨us, []⟩ = pure (ps.zip us)) : Binds K fd ps [] := fun s us _ hl => by
  rw [List.append_nil] at hl ⊢
  exact .of_eq (h us hl)

/-- an exception of a callee reaches what this body wants of exceptions -/
def Passes (CX : CXT) (X : Cx) (E : XK) : Prop := ∀ (pins : List (Addr × Obj)) (σ : St) (H : Hp) (s : Shared) (e : Value) (s' : Shared), Inv X pins σ H s → CX X.stack H s E e s' → X.xe e s'

section
variable {X : Cx} {CX : CXT} {k : Nat} {f C : Addr} {fd : FuncData} {ps : List Str} {sp : Sp} {dvs : List V} {ds : List Value} {E : XK} {x m : Str} {p pos apos : Pos} {e o : Expr} {es : List Expr} {ta : TE} {t : TA}

/-- the callee runs -/
theorem run_fn {pins : List (Addr × Obj)} {σ : St} {H : Hp} {s : Shared} {Q : VK} {us : List Value} {vs : List V} {cc : Bool} (F : FnOk X.prog X.w X.K X.mg X.base CX k f fd ps sp cc) (hr : Room k X.A cc) (hb : Binds X.K fd ps ds) (hd : Vals dvs ds) (hx : Passes CX X E)
    (I : Inv X pins σ H s) (r : Vals vs us) (h : sp (vs ++ dvs) H Q E) : wpAny (model X.prog X.w) X.A (call (.ref f) us) (EP X pins σ Q) X.xe s := by
  have r2 : Vals (vs ++ dvs) (us ++ ds) := r.append hd
  have hl : (us ++ ds).length = ps.length := by rw [← r2.length]; exact F.len _ _ _ _ h
  refine wpAny_call (codeAny_mono (F.run X.A X.stack s H ⟨us, []⟩ (us ++ ds) (vs ++ dvs) Q E hr I.env0 (hb s us I.kIn hl) r2 h) fun r s' hq => ?_)
  cases r with
  | error e => exact hx pins σ H s e s' I hq
  | ok fl =>
    cases fl with
    | ret u => exact I.after hq
    | next => exact False.elim hq
    | brk => exact False.elim hq
    | cont => exact False.elim hq

theorem pe_call {cc : Bool} (F : FnOk X.prog X.w X.K X.mg X.base CX k f fd ps sp cc) (hr : Room k X.A cc) (hg : Gl X x) (hm : X.mg x = some (.ref f)) (hk : PySem.W.keepIn X.K (.ref f) = true) (hb : Binds X.K fd ps ds) (hd : Vals dvs ds) (hx : Passes CX X E)
    (ha : PA X (e :: es) t) (hdb : (x == ("__debug__" : Str)) = false := by decide) (he : starEach (e :: es) X.env = (false, eval e X.env) :: starEach es X.env := by rfl) (hpl : (backTo pos (starEach es X.env)).any (·.1) = false := by rfl) :
    PE X (.Call (.Name x p) (e :: es) [] pos) (tCall sp dvs E t) := by
  intro pins s σ H Q I h
  refine wpAny_Call_Name_kw (ld_glob I hg hm ?_ hdb)
  refine PySem.W.callWith_K (h₀ := X.base) I.ok.mod.kin hk (thn (ha pos pins s σ H _ I h) fun us s1 ⟨vs, H1, I1, r, q⟩ => ⟨I1.kIn, ?_⟩) he hpl
  exact run_fn F hr hb hd hx I1 r q
end

/-! ### keywords -/
section
variable {X : Cx} {CX : CXT} {k : Nat} {f C : Addr} {fd : FuncData} {ps ks : List Str} {sp : Sp} {E : XK} {x m : Str} {p pos apos kpos : Pos} {e o : Expr} {es : List Expr} {kws : List Keyword} {te ta : TE} {t tk : TA} {nm : Option Str}
variable {g : List Value → List Value → List Value} {gV : List V → List V → List V}
end

/-! ### a def's body keeps its promise -/
/-- names: the parameters first -/
structure FnScope (N P : List Str) (sc : Scope) : Prop where
  kind : sc.kind = .function
  co : sc.isCoroutine = false
  gen : sc.isGenerator = false
  nd : N.Nodup
  pre : N.take P.length = P
  par : ∀ x ∈ P, sc.names.lookup x = some .local ∨ sc.names.lookup x = some .cell
  nofree : ∀ y ∈ sc.names, y.2 ≠ .free

theorem bindL_out {kindOf : Str → Option NameKind} {x : Str} : ∀ {binds : List (Str × Value)} {m : Str → Option Value}, (∀ v, (x, v) ∉ binds) → bindL kindOf binds m x = m x
  | [], _, _ => rfl
  | (n, v) :: r, m, h => by
    unfold bindL
    rw [bindL_out fun w hw => h w (List.mem_cons_of_mem _ hw)]
    split
    · have : x ≠ n := by rintro rfl; exact h v List.mem_cons_self
      simp [this]
    · rfl
theorem bindC_out {kindOf : Str → Option NameKind} {x : Str} : ∀ {binds : List (Str × Value)} {m : Str → Option Value}, (∀ v, (x, v) ∉ binds) → bindC kindOf binds m x = m x
  | [], _, _ => rfl
  | (n, v) :: r, m, h => by
    unfold bindC
    rw [bindC_out fun w hw => h w (List.mem_cons_of_mem _ hw)]
    split
    · rfl
    · have : x ≠ n := by rintro rfl; exact h v List.mem_cons_self
      simp [this]
theorem bindL_get {kindOf : Str → Option NameKind} {x : Str} {v : Value} : ∀ {P : List Str} {vs : List Value} {i : Nat} {m : Str → Option Value}, P.Nodup → P[i]? = some x → vs[i]? = some v → kindOf x = some .local →
    bindL kindOf (P.zip vs) m x = some v
  | [], _, _, _, _, h, _, _ => by simp at h
  | _ :: _, [], _, _, _, _, h, _ => by simp at h
  | p :: P, w :: vs, 0, m, nd, h1, h2, hk => by
    simp at h1 h2; subst h1; subst h2
    show bindL kindOf ((p, w) :: P.zip vs) m p = _
    unfold bindL
    rw [bindL_out fun v hv => (List.nodup_cons.mp nd).1 (List.of_mem_zip hv).1, if_pos hk]
    simp
  | p :: P, w :: vs, i + 1, m, nd, h1, h2, hk => by
    show bindL kindOf ((p, w) :: P.zip vs) m x = _
    unfold bindL
    exact bindL_get (i := i) (List.nodup_cons.mp nd).2 (by simpa using h1) (by simpa using h2) hk
theorem bindC_get {kindOf : Str → Option NameKind} {x : Str} {v : Value} : ∀ {P : List Str} {vs : List Value} {i : Nat} {m : Str → Option Value}, P.Nodup → P[i]? = some x → vs[i]? = some v → kindOf x ≠ some .local →
    bindC kindOf (P.zip vs) m x = some v
  | [], _, _, _, _, h, _, _ => by simp at h
  | _ :: _, [], _, _, _, _, h, _ => by simp at h
  | p :: P, w :: vs, 0, m, nd, h1, h2, hk => by
    simp at h1 h2; subst h1; subst h2
    show bindC kindOf ((p, w) :: P.zip vs) m p = _
    unfold bindC
    rw [bindC_out fun v hv => (List.nodup_cons.mp nd).1 (List.of_mem_zip hv).1, if_neg hk]
    simp
  | p :: P, w :: vs, i + 1, m, nd, h1, h2, hk => by
    show bindC kindOf ((p, w) :: P.zip vs) m x = _
    unfold bindC
    exact bindC_get (i := i) (List.nodup_cons.mp nd).2 (by simpa using h1) (by simpa using h2) hk

/-- the names' values at the entry -/
def start (N : List Str) (vs : List V) : St := vs.map some ++ List.replicate (N.length - vs.length) none

/-- the context of a def's body, at its entry; an exception leaves the frame, then lies as CX says -/
def cxOf (CX : CXT) (P : Program) (w : World) (K : PySem.W.Frag) (mg : Str → Option Value) (base : Heap) (N : List Str) (qual : Str) (scope : Scope) (f : Addr) (cd : Value) (A : Around) (outer : List Env) (s : Shared) (H : Hp) (E : XK) (c : Bool := true) : Cx where
  prog := P
  w := w
  K := K
  mg := mg
  base := base
  A := A.deeper (envOfC qual scope s.heap.objs.size f cd)
  N := N
  s₀ := s
  H₀ := H
  env := envOfC qual scope s.heap.objs.size f cd
  outer := outer
  stack := envOfC qual scope s.heap.objs.size f cd :: outer
  ex := []
  calm := c
  fn := fun _ => true
  pn := []
  xe := fun e s' => wpAny (model P w) (A.deeper (envOfC qual scope s.heap.objs.size f cd)) (leaving (envOfC qual scope s.heap.objs.size f cd) e) (fun _ s'' => CX outer H s E e s'') (fun e' s'' => CX outer H s E e' s'') s'

theorem cell_has {sc : Scope} {n : Nat} {x : Str} (h : sc.names.lookup x = some .cell) : ∃ c, (cellsFrom n sc.names []).lookup x = some c := by
  have q := PySem.W.cellsFrom_some sc.names n [] (.inl h)
  exact Option.isSome_iff_exists.mp q

theorem inv_start {CX : CXT} {P : Program} {w : World} {K : PySem.W.Frag} {mg : Str → Option Value} {base : Heap} {N ps : List Str} {qual : Str} {scope : Scope} {f : Addr} {cd : Value} {A : Around} {outer : List Env} {s s1 : Shared} {H : Hp} {E : XK} {us : List Value} {vs : List V} {c : Bool}
    (S : FnScope N ps scope) (hd : c = true → A.handled = none) (e0 : Env0 P w K mg base A outer s H) (hl : vs.length = ps.length) (r : Vals vs us)
    (x : InCallC s s.heap.objs.size (bindL (envOfC qual scope s.heap.objs.size f cd).kindOf (ps.zip us) fun _ => none) (cellsFrom (s.heap.objs.size + 1) scope.names []) (bindC (envOfC qual scope s.heap.objs.size f cd).kindOf (ps.zip us) fun _ => none) s1) :
    Inv (cxOf CX P w K mg base N qual scope f cd A outer s H E c) [] (start N vs) H s1 := by
  have hpl : ps.length ≤ N.length := by have := congrArg List.length S.pre; rw [List.length_take] at this; omega
  obtain ⟨h1, tk, rfl, hk⟩ := x.done
  have noA : ∀ b : Addr, b ∉ (cxOf CX P w K mg base N qual scope f cd A outer s H E c).ex := fun b z => absurd (show b ∈ ([] : List Addr) from z) (by simp)
  refine ⟨⟨e0.mod, S.kind, rfl, rfl, Nat.le_refl _, fun y z c' h1 h2 => ?_, fun y hy => ?_, fun y c _ h => ?_, hd, Around.frames_deeper e0.frames, .inr ⟨rfl, rfl⟩, fun b z => absurd z (noA b), e0.bs, e0.bsz, fun b _ _ => noA b, fun b z => absurd z (noA b), e0.funs, e0.frf⟩,
    rfl, e0.bare, Un.kept hk, ⟨_, x.toInCall.ns, fun i y v h1 h2 h3 => ?_⟩, fun y c h => ⟨_, x.cell y c h⟩, e0.hok.fresh (Nat.le_refl _), fun y c h => ?_, fun p hp => absurd (show p ∈ ([] : List (Addr × Obj)) from hp) (by simp), e0.hok.kept hk, ?_⟩
  · exact name_of_addr x.apart (PySem.mem_of_lookup h1) (PySem.mem_of_lookup h2)
  · have hy : scope.names.lookup y = some .cell ∨ scope.names.lookup y = some .free := hy
    rcases hy with hy | hy
    · exact cell_has hy
    · exact absurd rfl (S.nofree _ (PySem.mem_of_lookup hy))
  · exact Nat.le_of_lt (x.above y c (PySem.mem_of_lookup h))
  · have hi : i < vs.length := by
      unfold start at h2
      by_cases hi : i < vs.length
      · exact hi
      · rw [List.getElem?_append_right (by simpa using hi)] at h2
        rw [List.getElem?_replicate] at h2
        split at h2 <;> cases h2
    have ha : vs[i]? = some v := by
      unfold start at h2
      rw [List.getElem?_append_left (by simpa using hi), List.getElem?_map] at h2
      cases e : vs[i]? with
      | none => rw [e] at h2; cases h2
      | some a => rw [e] at h2; cases h2; rfl
    obtain ⟨u, hu, rv⟩ := r.get ha
    have hp : ps[i]? = some y := by
      rw [← S.pre, List.getElem?_take_of_lt (by omega)]; exact h1
    have ndP : ps.Nodup := by rw [← S.pre]; exact S.nd.sublist (List.take_sublist _ _)
    refine ⟨u, rv, ?_⟩
    rcases S.par y (List.mem_of_getElem? hp) with k | k
    · exact .inl ⟨k, bindL_get ndP hp hu k⟩
    · obtain ⟨c, e⟩ := cell_has (n := s.heap.objs.size + 1) k
      refine .inr ⟨.inl k, c, e, ?_⟩
      have q := x.cell y c e
      rw [bindC_get ndP hp hu (by show scope.names.lookup y ≠ _; rw [k]; decide)] at q
      exact q
  · exact e0.hok.fresh (Nat.le_of_lt (x.above y c (PySem.mem_of_lookup h)))
  · unfold start
    show _ = N.length
    rw [List.length_append, List.length_map, List.length_replicate]
    omega

/-- THE RULE: a def (or a method) of the text, by its body. The body's reading t is chosen for each entry; it is run at the parameters' values -/
theorem fn_of {CX : CXT} {P : Program} {w : World} {K : PySem.W.Frag} {mg : Str → Option Value} {base : Heap} {k : Nat} {f : Addr} {name qual : Str} {params : Arguments} {body : List Stmt} {scope : Scope} {dV kV doc pm cdv ct oc : Value} {an od : Option Addr}
    {osl : Array (Option Value)} {N ps : List Str} {sp : Sp} {c : Bool} (lk : K.lookup f = some ⟨oc, od, .func (PySem.W.fnOf name qual params body scope dV kV doc pm an cdv ct), osl⟩) (hcd : PySem.W.codeIn K cdv qual = true) (S : FnScope N ps scope)
    (len : ∀ vs H Q E, sp vs H Q E → vs.length = ps.length)
    (hbody : ∀ (A : Around) (outer : List Env) (s : Shared) (H : Hp) (vs : List V) (Q : VK) (E : XK), Room k (A.deeper (envOfC qual scope s.heap.objs.size f cdv)) c → sp vs H Q E →
      ∃ t, PSs (cxOf CX P w K mg base N qual scope f cdv A outer s H E c) body t ∧ t { nx := fun _ H' => Q .non H', rt := Q } (start N vs) H) :
    FnOk P w K mg base CX (k + 1) f (PySem.W.fnOf name qual params body scope dV kV doc pm an cdv ct) ps sp c := by
  refine ⟨len, fun A outer s H args us vs Q E hr e0 hb r hsp => ?_⟩
  have hl := len _ _ _ _ hsp
  have KX : K.In s.heap := e0.mod.kin.keeps fun b o e => (e0.bs b o e).1
  have lim : s.heap.NoLimit := e0.mod.nolimit.keeps fun b o e => (e0.bs b o e).1
  have hkind : ∀ y ∈ ps.zip us, scope.names.lookup y.1 = some .local ∨ (scope.names.lookup y.1 = some .cell ∧ ((cellsFrom (s.heap.objs.size + 1) scope.names []).lookup y.1).isSome = true) := fun ⟨n, v⟩ hy => by
    rcases S.par n (List.of_mem_zip hy).1 with q | q
    · exact .inl q
    · exact .inr ⟨q, PySem.W.cellsFrom_some _ _ _ (.inl q)⟩
  refine codeAny_call_function hr.depth (KX _ _ lk) rfl S.co S.gen rfl (PySem.W.codeRec_of KX hcd) (hb _ _ _ _ ?_)
  refine wpAny_newFunctionEnv_cells S.kind hkind fun env he s1 x => ?_
  subst he
  refine ⟨lim.keeps x.toInCall.keep, codeAny_func ?_⟩
  obtain ⟨t, ht, hq⟩ := hbody A outer s H vs Q E (hr.deeper _) hsp
  have I : Inv (cxOf CX P w K mg base N qual scope f cdv A outer s H E c) [] (start N vs) H s1 := inv_start S hr.hc e0 hl r x
  refine wpAny_mono (ht [] s1 (start N vs) H _ I hq) (fun fl s' hs => ?_) fun e s' hs => hs
  have fin : ∀ {σ' : St} {H' : Hp} {v : V} {u : Value}, Inv (cxOf CX P w K mg base N qual scope f cdv A outer s H E c) [] σ' H' s' → RelV v u → Q v H' → CE outer P w H s Q u s' :=
    fun {σ' H' v u} J rv q => ⟨v, H', J.os, J.bare, J.base, J.hok, rv, q⟩
  cases fl with
  | ret u =>
    obtain ⟨v, σ', H', J, rv, q⟩ := hs
    exact fin J rv q
  | next =>
    obtain ⟨σ', H', J, q⟩ := hs
    exact fin (v := V.non) (u := Value.none) J rfl q
  | brk =>
    obtain ⟨_, _, _, q⟩ := hs
    exact False.elim q
  | cont =>
    obtain ⟨_, _, _, q⟩ := hs
    exact False.elim q
end L2

namespace L2
open PySem PySem.Spec PyProof.Rows
section
variable {X : Cx} {x : Str} {p pos : Pos} {e : Expr} {es : List Expr} {t : TA} {id T : String} {r : List V → Hp → VK → Prop}

def tCB (r : List V → Hp → VK → Prop) (t : TA) : TE := fun σ H Q => t σ H fun vs H1 => r vs H1 Q
/-- f(e, ..), f a built-in function -/
theorem pe_callB (hc : CallR X (.builtin id) r) (hg : Gl X x) (hm : X.mg x = none) (hv : bootBuiltins x = some (.builtin id)) (ha : PA X (e :: es) t) (hn : x ≠ "__name__" := by decide) (hdb : (x == ("__debug__" : Str)) = false := by decide)
    (he : starEach (e :: es) X.env = (false, eval e X.env) :: starEach es X.env := by rfl) (hpl : (backTo pos (starEach es X.env)).any (·.1) = false := by rfl) : PE X (.Call (.Name x p) (e :: es) [] pos) (tCB r t) := by
  intro pins s σ H Q I h
  refine wpAny_Call_Name_kw (ld_blt I hg hm hv ?_ hn hdb)
  exact PyProof.Rows.callWith_builtin1 (thn (ha pos pins s σ H _ I h) fun us s1 ⟨vs, H1, I1, r1, q1⟩ => hc pins s1 σ H1 vs us Q I1 r1 q1) he hpl
/-- T(e, ..), T a built-in type -/
theorem pe_callTy (hc : CallR X (.type T) r) (hg : Gl X x) (hm : X.mg x = none) (hv : bootBuiltins x = some (.type T)) (ha : PA X (e :: es) t) (hn : x ≠ "__name__" := by decide) (hdb : (x == ("__debug__" : Str)) = false := by decide)
    (he : starEach (e :: es) X.env = (false, eval e X.env) :: starEach es X.env := by rfl) (hpl : (backTo pos (starEach es X.env)).any (·.1) = false := by rfl) : PE X (.Call (.Name x p) (e :: es) [] pos) (tCB r t) := by
  intro pins s σ H Q I h
  refine wpAny_Call_Name_kw (ld_blt I hg hm hv ?_ hn hdb)
  exact PyProof.Rows.callWith_type1 (thn (ha pos pins s σ H _ I h) fun us s1 ⟨vs, H1, I1, r1, q1⟩ => hc pins s1 σ H1 vs us Q I1 r1 q1) he hpl
end
end L2

namespace HT
open PySem PyProof.Rows

section
open PySem.SeqAt
open PySem.AutoSeq1 (wpAny_loadPart')
open PySem.MeetsSeq PySem.MeetsSeq2 PySem.MeetsSeq3

end

section
variable {prog : Program} {w : World} {A : Around} {E : Value → Shared → Prop} {s : Shared}

/-! ### t[a:b], not the whole -/
/-- a slice's bound as a place among n (d where it is left out) -/
def sIx (n d : Nat) : Option Int → Nat
  | none => d
  | some v => if v < 0 then (v + (n : Int)).toNat else min v.toNat n
end
end HT

namespace L2
open PySem PySem.Spec PyProof.Rows

/-! ### the parts of a slice -/
abbrev TO := St → Hp → (Option Int → Hp → Prop) → Prop
/-- a slice's part (left out, or an int) -/
def PO (X : Cx) (e : Option Expr) (t : TO) : Prop :=
  ∀ (pins : List (Addr × Obj)) (s : Shared) (σ : St) (H : Hp) (Q : Option Int → Hp → Prop), Inv X pins σ H s → t σ H Q →
    wpAny (model X.prog X.w) X.A (evalPart e X.env) (fun u s' => ∃ o H', Inv X pins σ H' s' ∧ IsPart u o ∧ Q o H') X.xe s
def tNoPart : TO := fun _ H Q => Q none H
def tPart (t : TE) : TO := fun σ H Q => t σ H fun x H1 => ∃ i, x = .int i ∧ Q (some i) H1

section
variable {X : Cx} {e : Expr} {te : TE} {lo hi : Option Expr} {tl th : TO} {pos p2 : Pos}

theorem po_none : PO X none tNoPart := by
  intro pins s σ H Q I h
  rw [evalPart_none]
  exact wpAny_pure ⟨none, H, I, .none, h⟩
theorem po_some (h : PE X e te) : PO X (some e) (tPart te) := by
  intro pins s σ H Q I hw
  rw [evalPart_some]
  refine thn (h pins s σ H _ I hw) fun u s1 ⟨x, H1, I1, r1, q1⟩ => ?_
  obtain ⟨i, rfl, q⟩ := q1
  obtain ⟨t, rfl⟩ := r1
  exact ⟨some i, H1, I1, .int i t, q⟩

/-- what a slice of a value is, by values: the slice object stands at sl -/
def SlR (X : Cx) (r : V → Option Int → Option Int → Hp → VK → Prop) : Prop :=
  ∀ (pins : List (Addr × Obj)) (s : Shared) (σ : St) (H : Hp) (x : V) (v vl vu : Value) (lo hi : Option Int) (sl : Addr) (Q : VK), Inv X pins σ H s → RelV x v → s.heap.IsSliceOf sl vl vu .none → IsPart vl lo → IsPart vu hi → r x lo hi H Q →
    ∃ T id, typeLookup (.type T) "__getitem__" = pure (some (.builtin id)) ∧ s.TypeIs v T ∧ wpAny (model X.prog X.w) X.A (getItem v (.ref sl)) (EP X pins σ Q) X.xe s
def tSl (r : V → Option Int → Option Int → Hp → VK → Prop) (te : TE) (tl th : TO) : TE := fun σ H Q => te σ H fun x H1 => tl σ H1 fun l H2 => th σ H2 fun u H3 => r x l u H3 Q
/-- a[lo:hi], any a -/
theorem pe_slice {r : V → Option Int → Option Int → Hp → VK → Prop} (hr : SlR X r) (he : PE X e te) (hl : PO X lo tl) (hu : PO X hi th) : PE X (.Subscript e (.Slice lo hi none p2) pos) (tSl r te tl th) := by
  intro pins s σ H Q I h
  refine Subscript_ (thn (he pins s σ H _ I h) fun v s1 ⟨x, H1, I1, r1, q1⟩ => ?_)
  refine wpAny_Slice (thn (hl pins s1 σ H1 _ I1 q1) fun vl s2 ⟨l, H2, I2, pl, q2⟩ => thn (hu pins s2 σ H2 _ I2 q2) fun vu s3 ⟨u, H3, I3, pu, q3⟩ => ?_)
  rw [evalPart_none]
  refine wpAny_pure ?_
  have I4 : Inv X pins σ H3 { s3 with heap := s3.heap.push { cls := .type "slice", data := .fields #[vl, vu, .none] } } := I3.kept (t' := s3.toks) fun b ob q => Heap.get?_push_of_some _ q
  obtain ⟨T, id, hT, ht, hg⟩ := hr pins { s3 with heap := s3.heap.push { cls := .type "slice", data := .fields #[vl, vu, .none] } } σ H3 x v vl vu l u s3.heap.objs.size Q I4 r1 (Heap.IsSliceOf.new ..) pl pu q3
  show wpAny (model X.prog X.w) X.A (subscriptTail e (.Slice lo hi none p2) v (.ref s3.heap.objs.size)) (EP X pins σ Q) X.xe { s3 with heap := s3.heap.push { cls := .type "slice", data := .fields #[vl, vu, .none] } }
  exact tail_any (ops := [.ref s3.heap.objs.size, v]) ht hT hg (by with_unfolding_all rfl)

/-- the items of xs[lo:hi] -/
def cutV (xs : List V) (lo hi : Option Int) : List V := (xs.drop (HT.sIx xs.length 0 lo)).take (HT.sIx xs.length xs.length hi - HT.sIx xs.length 0 lo)
theorem cutV_length (xs : List V) (lo hi : Option Int) : (cutV xs lo hi).length ≤ xs.length := by
  unfold cutV
  rw [List.length_take, List.length_drop]
  omega
/-! ### t < u, t + u -/
end
end L2

namespace L2
open PySem PySem.Spec PyProof.Rows

/-! ### places -/
/-- the place that an index of any sign means -/
def ixN (n : Nat) (i : Int) : Option Nat := if 0 ≤ i then (if i < n then some i.toNat else none) else if -(n : Int) ≤ i then some (i + n).toNat else none
def atI {α : Type} (xs : List α) (i : Int) : Option α := (ixN xs.length i).bind fun j => xs[j]?
theorem ixN_seq {n : Nat} {i : Int} {j : Nat} (h : ixN n i = some j) : seqIndex? i n = some j ∧ j < n ∧ -(n : Int) ≤ i ∧ i < n := by
  unfold ixN at h
  by_cases h0 : 0 ≤ i
  · rw [if_pos h0] at h
    by_cases h1 : i < n
    · rw [if_pos h1] at h
      have e : i.toNat = j := Option.some.inj h
      exact ⟨by rw [seqIndex_of h0 h1, e], by omega, by omega, h1⟩
    · rw [if_neg h1] at h; cases h
  · rw [if_neg h0] at h
    by_cases h1 : -(n : Int) ≤ i
    · rw [if_pos h1] at h
      have e : (i + n).toNat = j := Option.some.inj h
      exact ⟨by rw [seqIndex_neg (by omega) h1, e], by omega, h1, by omega⟩
    · rw [if_neg h1] at h; cases h
theorem atI_get {α : Type} {xs : List α} {i : Int} {v : α} (h : atI xs i = some v) : ∃ j, seqIndex? i xs.length = some j ∧ xs[j]? = some v ∧ j < xs.length ∧ -(xs.length : Int) ≤ i ∧ i < xs.length := by
  unfold atI at h
  cases e : ixN xs.length i with
  | none => rw [e] at h; cases h
  | some j =>
    rw [e] at h
    obtain ⟨h1, h2, h3, h4⟩ := ixN_seq e
    exact ⟨j, h1, h, h2, h3, h4⟩
theorem atI_nat {α : Type} {xs : List α} {j : Nat} {v : α} (h : xs[j]? = some v) : atI xs (j : Int) = some v := by
  have hj : j < xs.length := (List.getElem?_eq_some_iff.mp h).1
  have e : ixN xs.length (j : Int) = some j := by
    unfold ixN
    rw [if_pos (by omega), if_pos (by omega)]; simp
  unfold atI; rw [e]; exact h
theorem atI_last {α : Type} (xs : List α) (v : α) : atI (xs ++ [v]) (-1) = some v := by
  have hl : (xs ++ [v]).length = xs.length + 1 := by simp
  have e : ixN (xs ++ [v]).length (-1) = some xs.length := by
    unfold ixN
    rw [hl, if_neg (by decide), if_pos (by omega)]
    congr 1
    omega
  unfold atI
  rw [e]
  show (xs ++ [v])[xs.length]? = some v
  simp

/-! ### what may be subscripted -/
/-- what stands as an index of a plain subscript -/
def PlainIx (b : Expr) : Prop := ∀ o i, subscripted b false o i = operate [o, i] (getItem o i)
/-- a subscript by values -/
def IxR (X : Cx) (r : R2) : Prop :=
  ∀ (value slice : Expr) (pins : List (Addr × Obj)) (s : Shared) (σ : St) (H : Hp) (x y : V) (v u : Value) (Q : VK), Inv X pins σ H s → RelV x v → RelV y u → r x y H Q →
    subscripted slice false v u = operate [v, u] (getItem v u) → wpAny (model X.prog X.w) X.A (subscriptTail value slice v u) (EP X pins σ Q) X.xe s
/-- a call of a builtin's method by values: the receiver, the arguments -/
def MtR (X : Cx) (id : String) (r : V → List V → Hp → VK → Prop) : Prop :=
  ∀ (pins : List (Addr × Obj)) (s : Shared) (σ : St) (H : Hp) (x : V) (xs : List V) (v : Value) (us : List Value) (Q : VK), Inv X pins σ H s → RelV x v → Vals xs us → r x xs H Q →
    wpAny (model X.prog X.w) X.A (call (.builtin id) (v :: us)) (EP X pins σ Q) X.xe s
section
variable {X : Cx} {a b : Expr} {ta tb : TE} {pos : Pos}
/-- a[b] -/
theorem pe_ix {r : R2} (hr : IxR X r) (ha : PE X a ta) (hb : PE X b tb) (hs : PlainIx b) : PE X (.Subscript a b pos) (tOp r ta tb) := by
  intro pins s σ H Q I h
  exact Subscript_ (binT ha hb I h fun v u s2 x y H2 I2 rx ry q => hr a b pins s2 σ H2 x y v u Q I2 rx ry q (hs _ _))

def rIxL (K : PySem.W.Frag) : R2 := fun x y H Q => ∃ p xs i v, x = .ref p ∧ y = .int i ∧ SqL K H p xs ∧ atI xs i = some v ∧ Q v H
def rIxT (K : PySem.W.Frag) : R2 := fun x y H Q => ∃ p xs i v, x = .ref p ∧ y = .int i ∧ SqT K H p xs ∧ atI xs i = some v ∧ Q v H
def rIxS : R2 := fun x y H Q => ∃ z i c, x = .str z ∧ y = .int i ∧ z.length ≤ sizeLine ∧ atI z.cps.toList i = some c ∧ Q (.str ⟨#[c]⟩) H
theorem ix_list : IxR X (rIxL X.K) := by
  intro value slice pins s σ H x y v u Q I rx ry h hs
  obtain ⟨p, xs, i, z, rfl, rfl, hq, he, q⟩ := h
  cases rx
  obtain ⟨t, rfl⟩ := ry
  obtain ⟨its, r, pl, hz⟩ := I.list hq
  obtain ⟨j, h1, h2, h3, h4, h5⟩ := atI_get he
  obtain ⟨w, ew, rw'⟩ := r.get h2
  have hl := r.length
  have hn := line63
  have fin : EP X pins σ Q w s := ⟨z, H, I, rw', q⟩
  by_cases h0 : 0 ≤ i
  · have hj : i.toNat = j := by
      rw [seqIndex_of h0 h5] at h1
      exact Option.some.inj h1
    exact item_listR pl.isList h0 (by omega) (by rw [hj]; simpa using ew) fin hs
  · have hj : (i + (its.toArray.size : Int)).toNat = j := by
      rw [seqIndex_neg (by omega) h4] at h1
      rw [List.size_toArray, ← hl]
      exact Option.some.inj h1
    exact subscriptTail_builtinR (x := w) pl.isList.typeIs slot_list_getitem.lookup
      (wpAny_getItem_list_neg (Q := fun r s' => r = w ∧ EP X pins σ Q r s') pl.isList (by omega) (by rw [List.size_toArray] <;> omega) (by omega) (by rw [hj]; simpa using ew) ⟨rfl, fin⟩) hs
theorem ix_tup : IxR X (rIxT X.K) := by
  intro value slice pins s σ H x y v u Q I rx ry h hs
  obtain ⟨p, xs, i, z, rfl, rfl, hq, he, q⟩ := h
  cases rx
  obtain ⟨t, rfl⟩ := ry
  obtain ⟨its, r, pl, hz⟩ := I.tuple hq
  obtain ⟨j, h1, h2, h3, h4, h5⟩ := atI_get he
  obtain ⟨w, ew, rw'⟩ := r.get h2
  have hl := r.length
  have hn := line63
  have fin : EP X pins σ Q w s := ⟨z, H, I, rw', q⟩
  exact subscriptTail_builtinR (x := w) pl.typeIs slot_tuple_getitem.lookup
    (getItem_tuple (j := j) (Q := fun r s' => r = w ∧ EP X pins σ Q r s') pl (by omega) (by omega) (by rw [List.size_toArray, ← hl]; exact h1) (by simpa using ew) ⟨rfl, fin⟩) hs
theorem ix_str : IxR X rIxS := by
  intro value slice pins s σ H x y v u Q I rx ry h hs
  obtain ⟨z, i, c, rfl, rfl, hz, he, q⟩ := h
  obtain ⟨t, rfl⟩ := rx
  obtain ⟨t', rfl⟩ := ry
  obtain ⟨j, h1, h2, h3, h4, h5⟩ := atI_get he
  have hl : z.cps.toList.length = z.length := by simp [Str.length]
  rw [hl] at h1 h4 h5
  have hn := line63
  exact tail_any (typeIs_str s z t) slot_str_getitem.lookup (getItem_str (c := c) (by
    have e1 : decide (i < -(2 ^ 63 : Int)) = false := decide_eq_false (by omega)
    have e2 : decide (i ≥ 2 ^ 63) = false := decide_eq_false (by omega)
    rw [e1, e2, Bool.or_false]) (by rw [h1]; simpa using h2) ⟨.str ⟨#[c]⟩, H, I.tok _, ⟨_, rfl⟩, q⟩) hs
/-! ### xs[i] = v, any sign -/
/-! ### slices -/
theorem slice_bounds (lo hi : Option Int) (n : Nat) : (sliceBounds lo hi none n).1 = ((HT.sIx n 0 lo : Nat) : Int) ∧ (sliceBounds lo hi none n).2.1 = ((HT.sIx n n hi : Nat) : Int) ∧ (sliceBounds lo hi none n).2.2 = 1 := by
  refine ⟨?_, ?_, rfl⟩
  · cases lo with
    | none => simp [sliceBounds, HT.sIx]
    | some i =>
      simp only [sliceBounds, HT.sIx, Option.getD_none, show (1 : Int) > 0 by decide, if_true]
      by_cases h : i < 0
      · simp only [h, if_true] <;> omega
      · simp only [h, if_false] <;> omega
  · cases hi with
    | none => simp [sliceBounds, HT.sIx]
    | some i =>
      simp only [sliceBounds, HT.sIx, Option.getD_none, show (1 : Int) > 0 by decide, if_true]
      by_cases h : i < 0
      · simp only [h, if_true] <;> omega
      · simp only [h, if_false] <;> omega
theorem slicePick_cut (its : List Value) (lo hi : Option Int) : slicePick its.toArray lo hi none = ((its.drop (HT.sIx its.length 0 lo)).take (HT.sIx its.length its.length hi - HT.sIx its.length 0 lo)).toArray := by
  obtain ⟨h1, h2, h3⟩ := slice_bounds lo hi its.toArray.size
  unfold slicePick
  rw [h1, h2, h3]
  simp only [sliceRange_one, pick_run, List.size_toArray] <;> rfl
/-- xs[lo:hi] of a list: a new list -/
def rSlL (K : PySem.W.Frag) : V → Option Int → Option Int → Hp → VK → Prop := fun x lo hi H Q => ∃ a xs, x = .ref a ∧ SqL K H a xs ∧ ∀ p, H p = none → Q (.ref p) (upd H p (.lst (cutV xs lo hi)))
theorem sl_list : SlR X (rSlL X.K) := by
  intro pins s σ H x v vl vu lo hi sl Q I rx hs pl pu h
  obtain ⟨a, xs, rfl, hx, q⟩ := h
  cases rx
  obtain ⟨its, r, ht, hz⟩ := I.list hx
  have hlen := r.length
  refine ⟨"list", _, slot_list_getitem.lookup, ht.isList.typeIs, ?_⟩
  refine wpAny_getItem_list_slice ht.isList hs pl pu .none (by simp) ?_ (by rw [List.size_toArray] <;> omega)
  rw [slicePick_cut, ← hlen]
  refine ⟨.ref s.heap.objs.size, _, I.laid (t' := s.toks) (o := .lst (cutV xs lo hi)) (fun b ob q => Heap.get?_push_of_some _ q) (Nat.le_refl _) ?_, rfl, q _ (I.hok.fresh (Nat.le_refl _))⟩
  exact ⟨Nat.le_trans (cutV_length xs lo hi) hz, _, 0, (r.drop (HT.sIx xs.length 0 lo)).take (HT.sIx xs.length xs.length hi - HT.sIx xs.length 0 lo), Heap.get?_push_size _ rfl⟩

/-! ### in, not in: flat items -/
theorem op_notIn_str : OpR X (compareOp .NotIn) (fun x y H Q => ∃ i j, x = .str i ∧ y = .str j ∧ Q (.bl (!(!(Builtin.Str.occurrences j i 0 j.length 1).isEmpty))) H) := by
  intro pins s σ H x y v u Q I rx ry h
  obtain ⟨i, j, rfl, rfl, q⟩ := h
  obtain ⟨t, rfl⟩ := rx
  obtain ⟨t', rfl⟩ := ry
  exact notIn_str ⟨.bl _, H, I, rfl, q⟩

/-! ### len, list(x), tuple(x) of any list or tuple that is read -/
theorem call_len_seq : CallR X (.builtin "len") (fun xs H Q => ∃ p ys, xs = [.ref p] ∧ (SqL X.K H p ys ∨ SqT X.K H p ys) ∧ Q (.int ys.length) H) := by
  intro pins s σ H xs us Q I r h
  obtain ⟨p, ys, rfl, hq, q⟩ := h
  obtain ⟨u, rfl, rx⟩ := vals1 r
  cases rx
  have hn := line63
  rcases hq with hq | hq
  · obtain ⟨its, r', pl, hz⟩ := I.list hq
    have hlen := r'.length
    exact Calls.call_len_list pl.isList (by simp only [List.size_toArray] <;> omega) ⟨.int ys.length, H, I.tok _, ⟨s.toks + 1, by rw [List.size_toArray, hlen]⟩, q⟩
  · obtain ⟨its, r', pl, hz⟩ := I.tuple hq
    have hlen := r'.length
    exact len_tuple pl (by simp only [List.size_toArray] <;> omega) ⟨.int ys.length, H, I.tok _, ⟨s.toks + 1, by rw [List.size_toArray, hlen]⟩, q⟩
theorem call_len_str : CallR X (.builtin "len") (fun xs H Q => ∃ z, xs = [.str z] ∧ z.length ≤ sizeLine ∧ Q (.int z.length) H) := by
  intro pins s σ H xs us Q I r h
  obtain ⟨z, rfl, hz, q⟩ := h
  obtain ⟨u, rfl, t, rfl⟩ := vals1 r
  have hn := line63
  exact len_str (by omega) ⟨.int z.length, H, I.tok _, ⟨_, rfl⟩, q⟩
theorem call_tuple_of : CallR X (.type "tuple") (fun xs H Q => ∃ p ys, xs = [.ref p] ∧ ((SqL X.K H p ys ∧ ∀ l, H l = none → Q (.ref l) (upd H l (.tup ys))) ∨ (SqT X.K H p ys ∧ Q (.ref p) H))) := by
  intro pins s σ H xs us Q I r h
  obtain ⟨p, ys, rfl, h⟩ := h
  obtain ⟨u, rfl, rx⟩ := vals1 r
  cases rx
  rcases h with ⟨hq, q⟩ | ⟨hq, q⟩
  · obtain ⟨its, r', pl, hz⟩ := I.list hq
    have hlen := r'.length
    refine call_tuple_list pl.isList (fun h' kp => ?_) (by simp only [List.size_toArray] <;> omega)
    have I1 : Inv X pins σ H { s with heap := h' } := I.kept (t' := s.toks) kp
    have I2 : Inv X pins σ (upd H h'.objs.size (.tup ys)) { s with heap := h'.push { cls := .type "tuple", data := .seq its.toArray } } :=
      I1.laid (t' := s.toks) (fun b o e => Heap.get?_push_of_some _ e) (Nat.le_refl _) (show ObjOk X.prog X.w _ _ _ (.tup ys) from ⟨hz, its, r', IsTup.new _ _⟩)
    exact ⟨.ref h'.objs.size, _, I2, rfl, q _ (I1.hok.fresh (Nat.le_refl _))⟩
  · obtain ⟨its, r', pl, hz⟩ := I.tuple hq
    exact call_tuple_same pl ⟨.ref p, H, I, rfl, q⟩

/-! ### the call of a builtin's method: o.m(..) -/
/-- the value is of that builtin type -/
def tyV (K : PySem.W.Frag) (T : String) (x : V) (H : Hp) : Prop := match x with
  | .str _ => T = "str"
  | .int _ => T = "int"
  | .ref p => (T = "list" ∧ ∃ xs, SqL K H p xs) ∨ (T = "tuple" ∧ ∃ o, K.lookup p = some o ∧ o.cls = .type "tuple" ∧ o.dict = none) ∨
      (T = "dict" ∧ ((∃ kvs, H p = some (.dK kvs)) ∨ ∃ kvs, H p = some (.dT kvs))) ∨ (T = "set" ∧ ∃ S n, H p = some (.set S n))
  | _ => False
theorem tyV_is {pins : List (Addr × Obj)} {σ : St} {H : Hp} {s : Shared} {T : String} {x : V} {v : Value} (I : Inv X pins σ H s) (r : RelV x v) (ty : tyV X.K T x H) :
    s.TypeIs v T ∧ ∀ a, v = .ref a → ∃ ob, s.heap.get? a = some ob ∧ ob.dict = none := by
  cases x with
  | str z =>
    obtain ⟨t, rfl⟩ := r
    cases (show T = "str" from ty)
    exact ⟨typeIs_str s z t, fun _ e => nomatch e⟩
  | int i =>
    obtain ⟨t, rfl⟩ := r
    cases (show T = "int" from ty)
    exact ⟨typeIs_int s i t, fun _ e => nomatch e⟩
  | ref p =>
    cases r
    rcases ty with ⟨rfl, xs, hq⟩ | ⟨rfl, o, hk, hc, hd⟩ | ⟨rfl, hk⟩ | ⟨rfl, S, n, hk⟩
    · obtain ⟨its, _, pl, _⟩ := I.list hq
      refine ⟨pl.isList.typeIs, fun a e => ?_⟩
      cases e
      obtain ⟨o, n, e, c, hd, _⟩ := pl
      exact ⟨o, e, hd⟩
    · refine ⟨⟨o, I.kIn p o hk, hc⟩, fun a e => ?_⟩
      cases e
      exact ⟨o, I.kIn _ o hk, hd⟩
    · have z : ∃ o, s.heap.get? p = some o ∧ o.ExactDict := by
        rcases hk with ⟨kvs, hk⟩ | ⟨kvs, hk⟩
        · obtain ⟨_, _, _, _, o, _, _, e, ex, _⟩ := I.hok p _ hk
          exact ⟨o, e, ex⟩
        · obtain ⟨_, _, _, _, o, _, _, e, ex, _⟩ := I.hok p _ hk
          exact ⟨o, e, ex⟩
      obtain ⟨o, e, ex⟩ := z
      refine ⟨⟨o, e, ex.1⟩, fun a e2 => ?_⟩
      cases e2
      exact ⟨o, e, ex.2.1⟩
    · obtain ⟨o, _, _, _, e, ex, _⟩ := I.hok p _ hk
      refine ⟨⟨o, e, ex.1⟩, fun a e2 => ?_⟩
      cases e2
      exact ⟨o, e, ex.2.1⟩
  | _ => exact False.elim ty
def tBM0 (K : PySem.W.Frag) (T : String) (r : V → List V → Hp → VK → Prop) (to : TE) : TE := fun σ H Q => to σ H fun x H1 => tyV K T x H1 ∧ r x [] H1 Q
def tBM (K : PySem.W.Frag) (T : String) (r : V → List V → Hp → VK → Prop) (to : TE) (t : TA) : TE := fun σ H Q => to σ H fun x H1 => tyV K T x H1 ∧ t σ H1 fun xs H2 => r x xs H2 Q
variable {o e : Expr} {es : List Expr} {to : TE} {t : TA} {name : Str} {apos cpos : Pos} {T id : String} {r : V → List V → Hp → VK → Prop}
theorem pe_bm0 (pa : PlainAttrs T) (slot : Slot T name id) (hty : typeOf (.builtin id) = pure (.type "method_descriptor")) (hm : MtR X id r) (ho : PE X o to)
    (hbase : attributeBase o name X.env (eval o X.env) = eval o X.env := by rfl) (hline : (apos.endLine == cpos.line) = true := by rfl) : PE X (.Call (.Attribute o name apos) [] [] cpos) (tBM0 X.K T r to) := by
  intro pins s σ H Q I h
  refine wpAny_Call_method0_late hbase hline (thn (ho pins s σ H _ I h) fun v s1 ⟨x, H1, I1, r1, ty, q1⟩ => ?_)
  obtain ⟨h1, h2⟩ := tyV_is I1 r1 ty
  exact ⟨T, id, pa, slot, hty, h1, h2, Calls.callWith_builtin rfl (PySem.evalArgs_none (hm pins s1 σ H1 x [] v [] Q I1 r1 .nil q1))⟩
theorem pe_bm (pa : PlainAttrs T) (slot : Slot T name id) (hty : typeOf (.builtin id) = pure (.type "method_descriptor")) (hm : MtR X id r) (ho : PE X o to) (ha : PA X (e :: es) t)
    (hbase : attributeBase o name X.env (eval o X.env) = eval o X.env := by rfl)
    (hfew : ((backTo cpos (starEach (e :: es) X.env)).all (fun x => !x.1) && (backToKw cpos (keywordEach [] X.env)).all (fun x => x.1.isSome)
      && decide ((e :: es).length + ([] : List Keyword).length + (if ([] : List Keyword).isEmpty then 0 else 1) < 30)) = true := by rfl)
    (hline : (apos.endLine == cpos.line) = true := by rfl) (hs : starEach (e :: es) X.env = (false, eval e X.env) :: starEach es X.env := by rfl) (hplain : (backTo cpos (starEach es X.env)).any (·.1) = false := by rfl) :
    PE X (.Call (.Attribute o name apos) (e :: es) [] cpos) (tBM X.K T r to t) := by
  intro pins s σ H Q I h
  refine wpAny_Call_method_late hbase hfew hline rfl (thn (ho pins s σ H _ I h) fun v s1 ⟨x, H1, I1, r1, ty, q1⟩ => ?_)
  obtain ⟨h1, h2⟩ := tyV_is I1 r1 ty
  refine ⟨T, id, pa, slot, hty, h1, h2, ?_⟩
  have hA := ha cpos pins s1 σ H1 _ I1 q1
  rw [hs] at hA ⊢
  refine Calls.callWith_builtin (by show (false || (backTo cpos (starEach es X.env)).any (·.1)) = false; rw [hplain] <;> rfl) (Calls.evalArgs_plain ?_)
  exact thn hA fun us s2 ⟨vs, H2, I2, r2, q2⟩ => hm pins s2 σ H2 x vs v us Q I2 r1 r2 q2
/- xs.append(e), list.index on a module's tuple .. are MtR facts of 06m -/
end
end L2

namespace L2
open PySem PySem.Spec PyProof.Rows

def MtM (X : Cx) (id : String) (r : V → List V → Hp → VK → Prop) : Prop :=
  ∀ (pins : List (Addr × Obj)) (s : Shared) (σ : St) (H : Hp) (x : V) (xs : List V) (v : Value) (us : List Value) (Q : VK), Inv X pins σ H s → RelV x v → Vals xs us → r x xs H Q →
    wpAny (model X.prog X.w) X.A (call (.builtin id) (v :: us)) (EP X pins σ Q) X.xe s

/-! ### lists of values -/
theorem Vals.one : ∀ {x : V} {us : List Value}, Vals [x] us → ∃ u, us = [u] ∧ RelV x u
  | _, _, .cons r .nil => ⟨_, rfl, r⟩
theorem Vals.two : ∀ {x y : V} {us : List Value}, Vals [x, y] us → ∃ u v, us = [u, v] ∧ RelV x u ∧ RelV y v
  | _, _, _, .cons r (.cons q .nil) => ⟨_, _, rfl, r, q⟩
theorem Vals.zero : ∀ {us : List Value}, Vals [] us → us = []
  | _, .nil => rfl
theorem Vals.dropLast {xs : List V} {us : List Value} (h : Vals xs us) : Vals xs.dropLast us.dropLast := by
  induction h with
  | nil => exact .nil
  | cons r t ih =>
    cases t with
    | nil => exact .nil
    | cons q t' => exact .cons r ih
theorem erase_last {α : Type} (l : List α) : l.eraseIdx (l.length - 1) = l.dropLast := by
  induction l with
  | nil => rfl
  | cons a r ih =>
    cases r with
    | nil => rfl
    | cons b r =>
      have e : (a :: b :: r).length - 1 = ((b :: r).length - 1) + 1 := by
        have h1 : (a :: b :: r).length = r.length + 2 := rfl
        have h2 : (b :: r).length = r.length + 1 := rfl
        omega
      rw [e, List.eraseIdx_cons_succ, ih]
      all_goals rfl
section
variable {X : Cx} {pins : List (Addr × Obj)} {σ : St} {H : Hp} {s : Shared} {l b : Addr} {xs ys zs : List V}

/-! ### the two steps: a tracked list is rewritten, a new list is laid -/
theorem Inv.lset {its its' : List Value} {n : Nat} {f : Array Value → Array Value} {t' : Nat} (I : Inv X pins σ H s) (hH : H l = some (.lst xs))
    (e : s.heap.get? l = some { cls := .type "list", data := .seq its.toArray n }) (hf : f its.toArray = its'.toArray) (hv : Vals ys its') (hz : ys.length ≤ sizeLine) :
    Inv X pins σ (upd H l (.lst ys)) { s with heap := s.heap.update l (Obj.mapSeq f), toks := t' } := by
  have q := PySem.IsL.update e f
  rw [hf] at q
  refine I.write (x := l) (e := l) (by rw [hH]; exact trivial) (.inl rfl) (fun b' u hb hu => (Heap.get?_update_other s.heap (Obj.mapSeq f) (Ne.symm hb)).trans hu) ⟨_, q⟩ ?_
  exact ⟨hz, its', _, hv, q⟩
theorem Inv.lnew {its : List Value} {t' : Nat} (I : Inv X pins σ H s) (hv : Vals ys its) (hz : ys.length ≤ sizeLine) :
    Inv X pins σ (upd H s.heap.objs.size (.lst ys)) { s with heap := s.heap.push { cls := .type "list", data := .seq its.toArray }, toks := t' } :=
  I.laid (fun _ _ q => Heap.get?_push_of_some _ q) (Nat.le_refl _) ⟨hz, its, 0, hv, Heap.get?_push_size _ rfl⟩
theorem Inv.lstM (I : Inv X pins σ H s) (hH : H l = some (.lst xs)) : xs.length ≤ sizeLine ∧ ∃ (its : List Value) (n : Nat), Vals xs its ∧ xs.length = its.length ∧ s.heap.get? l = some { cls := .type "list", data := .seq its.toArray n } := by
  obtain ⟨z, its, n, r, e⟩ := I.hok l _ hH
  exact ⟨z, its, n, r, r.length, e⟩

end

section
variable {X : Cx}

/-! ### methods -/
def rAppend : V → List V → Hp → VK → Prop := fun x vs H Q => ∃ l xs y, x = .ref l ∧ vs = [y] ∧ H l = some (.lst xs) ∧ xs.length < sizeLine ∧ Q .non (upd H l (.lst (xs ++ [y])))
theorem mt_append : MtM X "list.append" rAppend := by
  intro pins s σ H x vs v us Q I rx rv h
  obtain ⟨l, xs, y, rfl, rfl, hH, hz, q⟩ := h
  cases rx
  obtain ⟨u, rfl, ru⟩ := rv.one
  obtain ⟨z, its, n, r, hl, e⟩ := I.lstM hH
  refine call_meets F.slot_list_append ⟨_, e, rfl⟩ F.entry_list_append (F.args_list_append_2 _ _) (PySem.list_append l its.toArray n u (by rw [List.size_toArray]; omega)) ⟨e, ?_⟩
  refine ⟨.non, _, I.lset (its' := its ++ [u]) hH e (by simp) (r.append (.cons ru .nil)) ?_, rfl, q⟩
  rw [List.length_append, List.length_singleton]
  omega

def rPop : V → List V → Hp → VK → Prop := fun x vs H Q => ∃ l xs y, x = .ref l ∧ vs = [] ∧ H l = some (.lst xs) ∧ xs[xs.length - 1]? = some y ∧ Q y (upd H l (.lst xs.dropLast))
theorem mt_pop : MtM X "list.pop" rPop := by
  intro pins s σ H x vs v us Q I rx rv h
  obtain ⟨l, xs, y, rfl, rfl, hH, hy, q⟩ := h
  cases rx
  have hus := rv.zero
  subst hus
  obtain ⟨z, its, n, r, hl, e⟩ := I.lstM hH
  obtain ⟨u, hu, ru⟩ := r.get hy
  have hy' : its.toArray[its.toArray.size - 1]? = some u := by
    show its.toArray[its.length - 1]? = some u
    rw [← Array.getElem?_toList, ← hl]
    exact hu
  refine call_meets F.slot_list_pop ⟨_, e, rfl⟩ F.entry_list_pop (F.args_list_pop_1 _) (MeetsSeq.list_pop_last l its.toArray n u hy' (by rw [List.size_toArray]; omega)) ⟨e, ?_⟩
  refine ⟨y, _, I.lset (its' := its.dropLast) hH e ?_ r.dropLast ?_, ru, q⟩
  · show its.toArray.eraseIdxIfInBounds (its.toArray.size - 1) = its.dropLast.toArray
    rw [List.size_toArray, List.eraseIdxIfInBounds_toArray, erase_last]
  · rw [List.length_dropLast]
    omega

/-! ### list + list, list += list, list * int -/
/-! ### del xs[i] -/
end

/-! ### xs[a:b] = ys -/
section
variable {prog : Program} {w : World} {A : Around} {E : Value → Shared → Prop} {s : Shared}
end

section
variable {X : Cx}
end
end L2

namespace Att
open PySem PySem.W PySem.Calls PyProof.Rows

/-! ### the script -/
theorem ints_of_wellAll {P : Params} {h : Heap} : ∀ (ns : List Int) (vs : List Value), WellAll P h vs (ns.map WData.int) → IntsAre vs ns := by
  intro ns
  induction ns with
  | nil =>
    intro vs w
    rw [List.map_nil] at w
    cases w
    exact .nil
  | cons n ns ih =>
    intro vs w
    rw [List.map_cons] at w
    cases w with
    | cons a b =>
      cases a
      exact .cons _ _ (ih _ b)

theorem script_of {l : OpenLaw} {n : Nat} (hn : l.most = some n) {P : Params} {h : Heap} {args : List WData} {vals : List Value}
    (hpre : l.row.toRowW.claim.pre args = true) (hwl : WellAll P h vals args) :
    ∃ a vs ns, vals = [Value.ref a] ∧ args = [WData.list (ns.map WData.int)] ∧ h.get? a = some { cls := .type "list", data := .seq vs.toArray } ∧ IntsAre vs ns ∧ ns.length ≤ n := by
  have hsh : WShape.hasAll [] args [.list .int] = true := (pre_splitW hpre).1
  have hc : l.pre.holds [] { args := args } = true := (pre_splitW hpre).2
  obtain ⟨d, r, rfl, h1, h2⟩ := hasAllW_cons hsh
  obtain rfl := hasAllW_nil h2
  obtain ⟨xs, rfl, h3⟩ := hasW_list h1
  obtain ⟨ns, rfl⟩ := items_int h3
  have hlen : ns.length ≤ n := by
    unfold OpenLaw.pre at hc
    have h4 : (WTm.not (.lt (.lit (.int (n : Int))) (.len (.arg 0)))).holds [] { args := [.list (ns.map .int)] } = true := by
      have h4 := (holds_andW hc).1
      rw [hn] at h4
      exact h4
    have h5 := condW_of h4 (w_not (w_lt w_lit (w_len_list (w_arg rfl))))
    rw [List.length_map] at h5
    refine Nat.le_of_not_lt fun q => ?_
    have q' : (n : Int) < ((ns.length : Nat) : Int) := by omega
    first
      | (rw [decide_eq_true q'] at h5; exact absurd h5 (by decide))
      | (simp at h5; omega)
  cases hwl with
  | cons w1 w2 =>
    cases w2
    cases w1 with
    | list ho hall => exact ⟨_, _, ns, rfl, rfl, ho, ints_of_wellAll ns _ hall, hlen⟩

theorem post_true (l : OpenLaw) (args : List WData) : l.row.toRowW.claim.post args (.bool true) args = true :=
  postW_of (r := l.row.toRowW) (X := (true == true))
    (show WShape.has [] (.bool true) .bool = true by first | rfl | decide | simp [WShape.has, WShape.arms, WShape.armsAll])
    (show (WTm.eq .res (.lit (.bool true))).value [] { args := args, res := some (.bool true), after := args } = some (.bool (true == true)) from w_eq_bool (w_res rfl) w_lit) rfl

/-! ### the attachment: holds_open's last premise (the goal 'hc' behind k_head) from a wpAny of the law's body -/
/-- the same from a codeAny of the CALL (for a layer whose function contracts speak of calls) -/
theorem attach_call {l : OpenLaw} {n : Nat} {q : Program} {loose : List Str} {XP : (Str → Option Value) → Heap → Prop} {YP : World → Heap → Prop} {d : DefRec}
    (hn : l.most = some n) (hdf : d.params.defaults = [])
    (call : ∀ (w : World) (s₀ s₁ : Shared) (mg mb : Str → Option Value) (fa : Addr) (o : Obj) (pm cd doc : Value) (a : Addr) (vs : List Value) (ns : List Int),
      Ground q loose [] XP w s₀ mg mb s₁.heap → YP w s₁.heap →
      s₁.heap.get? fa = some o → o.data = .func (docDef d.name d.params d.body d.scope pm cd doc) → s₁.heap.CodeRec cd d.name → mg d.name = some (.ref fa) →
      s₁.heap.get? a = some { cls := .type "list", data := .seq vs.toArray } → IntsAre vs ns → ns.length ≤ n → s₁.gens = #[] →
      codeAny (model l.prog w) callerA (.call (.ref fa) ⟨[.ref a], []⟩) (fun r s' => r = .ok (.ret (.bool true)) ∧ OldK s₁.heap s'.heap ∧ s'.os = s₁.os ∧ AllBare s'.gens) s₁) :
    WalkO q loose XP YP l.row.toRowW d [] (fun f vs => PySem.call f vs) := by
  intro w s₀ s₁ mg mb G Y fa o pm cd doc dV kV ho hd hcd hD hmg hg args vals as hpre hlay hrd hwl hlo
  obtain rfl : dV = .none := Dflts.none hD hdf
  obtain rfl : kV = .none := Dflts.noKw hD
  obtain ⟨a, vs, ns, rfl, rfl, hobj, hints, hlen⟩ := script_of hn hpre hwl
  refine enter_call (codeAny_mono (call w s₀ s₁ mg mb fa o pm cd doc a vs ns G Y ho (fd_plain hd) hcd hmg hobj hints hlen hg) fun r s' hq => ?_)
  obtain ⟨rfl, h2, h3, h4⟩ := hq
  exact ⟨.inl ⟨.bool true, .bool true, [], rfl, fun _ => rfl, .bool true, post_true l _, fun _ => ⟨List.Pairwise.nil, fun _ hm => (nomatch hm)⟩⟩, h2, h3, h4⟩

/-! ### rules over ANY heap (no ledger) from facts about the written part K: the library's own take a ledger (News) for what they write -/
section
variable {prog : Program} {w : World} {A : Around} {E : Value → Shared → Prop} {s : Shared} {K : Frag}

/-! the whole heap as the ledger: makes every rule that writes through a ledger a rule over any heap -/
end
end Att

namespace L2
open PySem PySem.Spec PyProof.Rows

theorem vals_ints : ∀ {vs : List Value} {ns : List Int}, IntsAre vs ns → Vals (ns.map V.int) vs
  | _, _, .nil => .nil
  | _, _, .cons n t h => .cons ⟨t, rfl⟩ (vals_ints h)

/-- nothing is tracked but the script, known to the object (or it is an object of the module) -/
def Only (H : Hp) : Prop := ∀ b, H b = none ∨ ∃ o xs, H b = some (.frz o (.lst xs))

/-- THE HEAD: the law's promise, at the heap behind the top. F, the promise of the law's def, may use that base is part of the heap (so K.In base, base.Ns mainGlobals mg stand in Mod) -/
theorem law_call {P : Program} {w : World} {K : PySem.W.Frag} {mg mb : Str → Option Value} {CX : CXT} {k : Nat} {fa a : Addr} {fd : FuncData} {x : Str} {sp : Sp} {s₁ : Shared} {vs : List Value} {ns : List Int}
    (KX : K.In s₁.heap) (hns : s₁.heap.Ns mainGlobals mg) (hb : s₁.heap.Ns builtinsNs mb) (hbb : ∀ x : Str, x ≠ "__name__" → mb x = bootBuiltins x) (hlim : s₁.heap.NoLimit) (hg : s₁.gens = #[])
    (ha : s₁.heap.get? a = some { cls := .type "list", data := .seq vs.toArray }) (hi : IntsAre vs ns) (hl : ns.length ≤ sizeLine) (hr : Room k callerA)
    (F : ∀ base : Heap, K.In base → base.Ns mainGlobals mg → FnOk P w K mg base CX k fa fd [x] sp) (hbind : ∀ (s : Shared) (u : Value), BindsTo s fd ⟨[u], []⟩ [(x, u)])
    (hsp : ∀ H : Hp, Only H → SqL K H a (ns.map V.int) → sp [.ref a] H (fun v _ => v = .bl true) fun _ _ _ => False)
    (hCX : ∀ H e s', CX [] H s₁ (fun _ _ _ => False) e s' → False) :
    codeAny (model P w) callerA (.call (.ref fa) ⟨[.ref a], []⟩) (fun r s' => r = .ok (.ret (.bool true)) ∧ OldK s₁.heap s'.heap ∧ s'.os = s₁.os ∧ AllBare s'.gens) s₁ := by
  have rv := vals_ints hi
  have lenV := hi.length
  -- from an abstract heap in which nothing but the script may be tracked
  have core : ∀ H : Hp, Only H → SqL K H a (ns.map V.int) → HOk P w H s₁.heap → (∀ b, H b ≠ none → b = a) → (H a ≠ none → K.lookup a = none) →
      codeAny (model P w) callerA (.call (.ref fa) ⟨[.ref a], []⟩) (fun r s' => r = .ok (.ret (.bool true)) ∧ OldK s₁.heap s'.heap ∧ s'.os = s₁.os ∧ AllBare s'.gens) s₁ := by
    intro H hO hS hok hA hK
    have base_of : ∀ {b : Addr} {o : Obj}, s₁.heap.get? b = some o → H b = none → (hidT s₁.heap H).get? b = some o := fun e n => hidT_get e n
    have noA : ∀ {b : Addr} {o : Obj} {es : Array DictEntry} {ep : Nat}, s₁.heap.get? b = some o → o.data = .dict es ep → H b = none := fun {b o es ep} e d => by
      cases q : H b with
      | none => rfl
      | some u =>
        have e' : b = a := hA b (by rw [q]; simp)
        subst e'
        rw [ha] at e; cases e
        have d' : Data.seq vs.toArray _ = Data.dict es ep := d
        cases d'
    have nsK : ∀ {b : Addr} {m : Str → Option Value}, s₁.heap.Ns b m → (hidT s₁.heap H).Ns b m := fun {b m} ⟨o, es, ep, e, d, r⟩ => ⟨o, es, ep, base_of e (noA e d), d, r⟩
    have hKb : K.In (hidT s₁.heap H) := fun b o e => base_of (KX b o e) (by
      cases q : H b with
      | none => rfl
      | some u =>
        have e' : b = a := hA b (by rw [q]; simp)
        subst e'
        rw [hK (by rw [q]; simp)] at e; cases e)
    have hM : Mod K mg (hidT s₁.heap H) := ⟨hKb, nsK hns, ⟨mb, nsK hb, hbb⟩, let ⟨mc, h1, h2⟩ := hlim; ⟨mc, nsK h1, h2⟩⟩
    have e0 : Env0 P w K mg (hidT s₁.heap H) callerA [] s₁ H := ⟨rfl, hM, fun b o e => of_hidT e, Nat.le_of_eq (hidT_size _ _), trivial, fun b hb => absurd (show b ∈ ([] : List Addr) from hb) (by simp), hok, .of_eq hg⟩
    refine codeAny_mono ((F _ hKb (nsK hns)).run callerA [] s₁ H ⟨[.ref a], []⟩ [.ref a] [.ref a] _ _ hr e0 (hbind s₁ (.ref a)) (.cons rfl .nil) (hsp H hO hS)) fun r s' h => ?_
    cases r with
    | error e => exact (hCX H e s' h).elim
    | ok fl =>
      cases fl with
      | next => exact False.elim h
      | brk => exact False.elim h
      | cont => exact False.elim h
      | ret u =>
        obtain ⟨v, H', os, bare, un, hok', r', q⟩ := h
        have q' : v = .bl true := q
        subst q'
        obtain rfl : u = Value.bool true := r'
        refine ⟨rfl, OldK.of_keep fun b o e => ?_, os, bare⟩
        cases q : H b with
        | none => exact un.keep b o e q (by intro z; exact absurd (show b ∈ ([] : List Addr) from z) (by simp)) (by simp)
        | some u =>
          rcases hO b with z | ⟨ob, xs, z⟩
          · rw [q] at z; cases z
          · have z2 := un.frzs b ob _ z
            obtain ⟨e1, _⟩ := hok b _ z
            obtain ⟨e2, _⟩ := hok' b _ z2
            rw [e] at e1; cases e1
            exact e2
  cases hk : K.lookup a with
  | some o =>
    -- the script is one of the module's own objects
    have e := KX a o hk
    rw [ha] at e
    cases e
    refine core (fun _ => none) (fun _ => .inl rfl) (.inr ⟨_, vs.toArray, _, hk, rfl, rfl, rfl, by rw [List.size_toArray, lenV]; exact hl, by simpa using rv⟩) (fun b u z => by have z' : (none : Option HO) = some u := z; cases z') (fun b z => absurd rfl z) fun z => absurd rfl z
  | none =>
    refine core (fun b => if b = a then some (.frz { cls := .type "list", data := .seq vs.toArray } (.lst (ns.map V.int))) else none) (fun b => ?_) (.inl (.inr ⟨{ cls := .type "list", data := .seq vs.toArray }, if_pos rfl⟩)) (fun b u z => ?_) (fun b z => ?_) fun _ => hk
    · by_cases hb : b = a
      · exact .inr ⟨_, _, if_pos hb⟩
      · exact .inl (if_neg hb)
    · by_cases hb : b = a
      · have z' := (if_pos hb).symm.trans z
        cases z'
        subst hb
        exact ⟨ha, by rw [List.length_map]; exact hl, vs, _, rv, ha⟩
      · have z' := (if_neg hb).symm.trans z
        cases z'
    · by_cases hb : b = a
      · exact hb
      · exact absurd (if_neg hb) z
end L2

namespace L2
open PySem PySem.Spec PyProof.Rows

/-- the goal that k_head leaves (case hc), from the law's promise. F gives the function object fd (K's own) once, then the promise over every base -/
theorem walk_of {l : PySem.W.OpenLaw} {n k : Nat} {q : Program} {loose : List Str} {XP : (Str → Option Value) → Heap → Prop} {YP : World → Heap → Prop} {d : DefRec} {K : Params → PySem.W.Frag} {CX : World → CXT} {sp : World → Sp} {x : Str}
    (hn : l.most = some n) (hn2 : n ≤ sizeLine) (hdf : d.params.defaults = []) (hr : Room k callerA)
    (hY : ∀ (w : World) (h : Heap), YP w h → (K w.params).In h)
    (F : ∀ (w : World) (mg : Str → Option Value) (fa : Addr) (h : Heap), (K w.params).In h → h.Ns mainGlobals mg → mg d.name = some (.ref fa) →
      ∃ fd : FuncData, (∀ (s : Shared) (u : Value), BindsTo s fd ⟨[u], []⟩ [(x, u)]) ∧
        ∀ base : Heap, (K w.params).In base → base.Ns mainGlobals mg → FnOk l.prog w (K w.params) mg base (CX w) k fa fd [x] (sp w))
    (hsp : ∀ (w : World) (H : Hp) (a : Addr) (ns : List Int), ns.length ≤ n → Only H → SqL (K w.params) H a (ns.map V.int) → sp w [.ref a] H (fun v _ => v = .bl true) fun _ _ _ => False)
    (hCX : ∀ (w : World) (H : Hp) (s : Shared) (e : Value) (s' : Shared), CX w [] H s (fun _ _ _ => False) e s' → False) :
    PySem.W.WalkO q loose XP YP l.row.toRowW d [] (fun f vs => PySem.call f vs) := by
  refine Att.attach_call hn hdf fun w s₀ s₁ mg mb fa o pm cd doc a vs ns G Y ho hd hcd hmg hobj hints hlen hg => ?_
  have KX := hY w _ Y
  obtain ⟨fd, hb, hF⟩ := F w mg fa _ KX G.T.g hmg
  exact law_call KX G.T.g G.T.b G.T.builtins G.T.nolimit hg hobj hints (Nat.le_trans hlen hn2) hr hF hb (fun H hO hS => hsp w H a ns hlen hO hS) fun H e s' => hCX w H s₁ e s'
end L2

/- THE LAST THEOREM (shape; LID, My.* are yours):
   My.Adr: a structure of the addresses that your layer names (classes, functions); My.Txt K t: a structure (Prop) of the equations over K;
   My.txt_mk : {K} {implicit addresses ..} (e1 : nsIn K mainGlobals "law" = some (some (.ref f))) (e2 : K.lookup f = some ⟨oc, od, .func (fnOf "law" "law" params body scope dV kV doc pm an cdv ct), sl⟩) (e3 : codeIn K cdv "law" = true) .. : ∃ t, My.Txt K t

set_option maxRecDepth 100000 in
set_option maxHeartbeats 0 in
theorem PySem.Challenge.cw_LID_holds : PySem.Challenge.rw_LID.Holds := by
  w_on; o_law; k_head; (case hw => w_witness2)
  k_fill
  refine L2.walk_of (l := PySem.Challenge.rw_LID) (n := 63) (k := 40) (x := "script") (CX := fun w => ..) (sp := fun _ => My.sp_law) rfl (by decide) rfl ⟨rfl, by decide, by decide⟩ (fun w h Y => PySem.W.kIn_of Y) ?F ?S ?C
  case F =>
    intro w mg fa h KX G hmg
    have T : ∃ t, My.Txt (L2.KOf KX) t := by
      dsimp only [L2.KOf]                          -- K must stand as «<heap const> w.params» for k_is
      refine' My.txt_mk ?e1 ?e2 ?e3 ..
      (case e1 => PySem.W.k_is)                    -- in the order: a name -> its address -> its object -> its parts
      (case e2 => PySem.W.k_is)
      ..
    obtain ⟨t, T⟩ := T
    have e0 := hmg.symm.trans (PySem.W.mg_of KX G T.law)
    cases e0                                       -- fa is the law's own address
    exact ⟨_, fun s u => .of_eq rfl, fun base kb nb => My.law_fn T kb nb⟩     -- if «.of_eq rfl» comes too early: refine' ⟨_, ?b, fun base kb nb => My.law_fn T kb nb⟩; exact fun s u => .of_eq rfl
  case S => exact fun w H a ns hl hO hS => ..
  case C => exact ..
(the tactic k_is has no namespace: write k_is) -/

/-! SHORT WORDS over the layer: a def of the text, its body, what a loop and a test want. -/
namespace L2
open PySem PySem.Spec PyProof.Rows

/-! ### the text by places -/
/-- the j-th statement of a class's body -/
def inClass (s : Stmt) (j : Nat) : Stmt := match s with
  | .ClassDef _ _ _ body _ _ _ _ _ _ _ => body.getD j (.Pass ⟨0, 0, 0, 0⟩)
  | _ => .Pass ⟨0, 0, 0, 0⟩
def defArgs (s : Stmt) : Arguments := match s with
  | .FunctionDef _ a _ _ _ _ _ _ _ _ => a
  | _ => { posonlyargs := [], args := [], vararg := none, kwonlyargs := [], kw_defaults := [], kwarg := none, defaults := [] }
def defBody (s : Stmt) : List Stmt := match s with
  | .FunctionDef _ _ b _ _ _ _ _ _ _ => b
  | _ => []
def defScope (s : Stmt) : Scope := match s with
  | .FunctionDef _ _ _ _ _ _ sc _ _ _ => sc
  | _ => { kind := .function, names := [], isGenerator := false, isCoroutine := false }

/-! ### no exception leaves a def -/
abbrev CX0 : CXT := fun _ _ _ _ _ _ => False
abbrev E0 : XK := fun _ _ _ => False
theorem pass0 {X : Cx} : Passes CX0 X E0 := fun _ _ _ _ _ _ _ h => h.elim

/-! ### a def (or method) of the text as it stands behind the top -/
structure Fun (K : PySem.W.Frag) (x qual : Str) (st : Stmt) (f : Addr) (fd : FuncData) : Prop where
  ex : ∃ (oc : Value) (od : Option Addr) (kV doc pm : Value) (an : Option Addr) (cdv ct : Value) (osl : Array (Option Value)),
    fd = PySem.W.fnOf x qual (defArgs st) (defBody st) (defScope st) .none kV doc pm an cdv ct ∧ K.lookup f = some ⟨oc, od, .func fd, osl⟩ ∧ PySem.W.codeIn K cdv qual = true
  kp : PySem.W.keepIn K (.ref f) = true
section
variable {P : Program} {w : World} {K : PySem.W.Frag} {mg : Str → Option Value} {base : Heap}
/-- THE RULE for a def: its body as a term of rules, and the reading of that term -/
theorem Fun.ok {x qual : Str} {st : Stmt} {f : Addr} {fd : FuncData} {N ps : List Str} {k : Nat} {sp : Sp} {c : Bool} (F : Fun K x qual st f fd) (S : FnScope N ps (defScope st)) (len : ∀ vs H Q E, sp vs H Q E → vs.length = ps.length)
    (hbody : ∀ (cdv : Value) (A : Around) (outer : List Env) (s : Shared) (H : Hp) (vs : List V) (Q : VK) (E : XK), Room k (A.deeper (envOfC qual (defScope st) s.heap.objs.size f cdv)) c → sp vs H Q E →
      ∃ t, PSs (cxOf CX0 P w K mg base N qual (defScope st) f cdv A outer s H E c).nox (defBody st) t ∧ t { nx := fun _ H' => Q .non H', rt := Q } (start N vs) H) : FnOk P w K mg base CX0 (k + 1) f fd ps sp c := by
  obtain ⟨oc, od, kV, doc, pm, an, cdv, ct, osl, rfl, lk, hcd⟩ := F.ex
  refine fn_of lk hcd S len fun A outer s H vs Q E hr hsp => ?_
  obtain ⟨t, h, q⟩ := hbody cdv A outer s H vs Q E hr hsp
  exact ⟨t, h.nox, q⟩
/-- how its arguments bind (no defaults): h is «fun _ _ _ _ _ _ us hl => match us, hl with | [_, _], _ => rfl», one _ a parameter -/
theorem Fun.binds {x qual : Str} {st : Stmt} {f : Addr} {fd : FuncData} {ps : List Str} (F : Fun K x qual st f fd)
    (h : ∀ (kV doc pm : Value) (an : Option Addr) (cdv ct : Value) (us : List Value), us.length = ps.length → bindArgs (PySem.W.fnOf x qual (defArgs st) (defBody st) (defScope st) .none kV doc pm an cdv ct) ⟨us, []⟩ = pure (ps.zip us)) : Binds K fd ps [] := by
  obtain ⟨oc, od, kV, doc, pm, an, cdv, ct, osl, rfl, lk, hcd⟩ := F.ex
  exact .all (h kV doc pm an cdv ct)
theorem fun_mk {x qual : Str} {st : Stmt} {f : Addr} {oc : Value} {od an : Option Addr} {osl : Array (Option Value)} {kV doc pm cdv ct : Value} (l : K.lookup f = some ⟨oc, od, .func (PySem.W.fnOf x qual (defArgs st) (defBody st) (defScope st) .none kV doc pm an cdv ct), osl⟩)
    (c : PySem.W.codeIn K cdv qual = true) (k : PySem.W.keepIn K (.ref f) = true) : Fun K x qual st f (PySem.W.fnOf x qual (defArgs st) (defBody st) (defScope st) .none kV doc pm an cdv ct) := ⟨⟨oc, od, kV, doc, pm, an, cdv, ct, osl, rfl, l, c⟩, k⟩
end
/-! ### expressions in short: the name that stands in the i-th slot -/
section
variable {X : Cx}
theorem pv (i : Nat) {x : Str} {pos : Pos} (hN : X.N[i]? = some x := by rfl) (hv : Vis X.env.scope x := by first | exact Or.inl rfl | exact Or.inr (Or.inl rfl) | exact Or.inr (Or.inr rfl)) (hd : (x == ("__debug__" : Str)) = false := by decide)
    (hcd : (x == ("__classdict__" : Str)) = false := by decide) : PE X (.Name x pos) (tVar i) := pe_var hN hv hd hcd
end

/-! ### tests -/
theorem iteF {A B : Prop} (h : B) : if false = true then A else B := by
  rw [if_neg Bool.false_ne_true]
  exact h
theorem iteT {A B : Prop} (h : A) : if true = true then A else B := by
  rw [if_pos rfl]
  exact h
theorem ite2 {c A B : Prop} [Decidable c] (h1 : c → A) (h2 : ¬ c → B) : if c then A else B := by
  by_cases h : c
  · rw [if_pos h]
    exact h1 h
  · rw [if_neg h]
    exact h2 h
/-! ### heaps -/
/-- all that was tracked is as it was -/
def Same (H H' : Hp) : Prop := ∀ b o, H b = some o → H' b = some o
theorem Same.refl (H : Hp) : Same H H := fun _ _ h => h
theorem Same.trans {H H1 H2 : Hp} (a : Same H H1) (b : Same H1 H2) : Same H H2 := fun c o h => b c o (a c o h)
theorem Same.free {H H' : Hp} (e : Same H H') {l : Addr} (h : H' l = Option.none) : H l = Option.none := by
  cases q : H l with
  | none => rfl
  | some o =>
    rw [e l o q] at h
    cases h
theorem Same.seq {K : PySem.W.Frag} {H H' : Hp} {a : Addr} {xs : List V} (e : Same H H') (h : SqL K H a xs) : SqL K H' a xs := by
  rcases h with (h | ⟨o, h⟩) | h
  · exact .inl (.inl (e _ _ h))
  · exact .inl (.inr ⟨o, e _ _ h⟩)
  · exact .inr h

end L2
namespace L2
open PySem PySem.Spec PyProof.Rows

/-! ### no exception -/
abbrev NoX : Value → Shared → Prop := fun _ _ => False
theorem noX {α : Type} {M : Model} {A : Around} {t : Sem α} {Q : α → Shared → Prop} {E : Value → Shared → Prop} {s : Shared} (h : wpAny M A t Q NoX s) : wpAny M A t Q E s := wpAny_mono h (fun _ _ q => q) fun _ _ z => z.elim

/-! ### a comprehension's turns -/
abbrev tstSem (ifs : List Expr) (env : Env) : Sem Bool := forIn ifs true fun c r => if r = true then do let ok ← isTrue c env (eval c env); pure (ForInStep.yield ok) else pure (ForInStep.yield r)
section
variable {prog : Program} {w : World} {A : Around} {R : Result → Shared → Prop} {s : Shared}
theorem comp_loop {elt tg iter : Expr} {ifs : List Expr} {sc : Scope} {pos : Pos} {it acc : Value} {env : Env} (I : Nat → Shared → Prop)
    (turn : ∀ n s, I n s → wpAny (model prog w) A (pyNext it) (fun r s1 => match r with
      | none => R (.ok .next) s1
      | some v => wpAny (model prog w) A (letOwnedTupleGo tg it v) (fun _ s2 => wpAny (model prog w) A (assign tg env v) (fun _ s3 => wpAny (model prog w) A (tstSem ifs env) (fun ok s4 =>
          if ok = true then wpAny (model prog w) A (eval elt env) (fun x s5 => wpAny (model prog w) A (call (.builtin "list.append") [acc, x]) (fun _ s6 => ∃ m, m < n ∧ I m s6) NoX s5) NoX s4
          else ∃ m, m < n ∧ I m s4) NoX s3) NoX s2) NoX s1) NoX s)
    (n : Nat) (h : I n s) : codeAny (model prog w) A (.compLoop (.ListComp elt [⟨tg, iter, ifs, 0⟩] sc pos) 0 it acc env) R s := by
  refine codeAny_loop rfl I (fun n s hI => ?_) n h
  show wpAny _ A ((compTurn (.ListComp elt [⟨tg, iter, ifs, 0⟩] sc pos) 0 it acc env).onRaise (fun x => do noteFrame x env; theTreesLotGoes x)) _ _ s
  refine wpAny_noted ?_
  rw [compTurn_list]
  refine wpAny_bind (wpAny_standAt (wpAny_bind (noX (thn (turn n s hI) fun r s1 h1 => ?_))))
  cases r with
  | none => exact wpAny_pure h1
  | some v =>
    refine wpAny_bind (noX (thn h1 fun _ s2 h2 => wpAny_bind (noX (thn h2 fun _ s3 h3 => wpAny_bind (noX (thn h3 fun ok s4 h4 => ?_))))))
    cases ok with
    | false => exact wpAny_pure ⟨rfl, h4⟩
    | true => exact wpAny_bind (wpAny_bind (noX (thn h4 fun x s5 h5 => wpAny_bind (noX (thn h5 fun _ s6 h6 => wpAny_pure (wpAny_pure ⟨rfl, h6⟩))))))
end

/-! ### the cells of the names that a block takes from around it -/
theorem closure_go {env : Env} : ∀ (l : List (Str × NameKind)) (acc : List (Str × Addr)), (∀ y ∈ l, y.2 = .free → ∃ c, env.cells.lookup y.1 = some c) → (∀ y c, acc.lookup y = some c → env.cells.lookup y = some c) →
    ∃ cl, (forIn l acc fun x r => if (x.2 == NameKind.free) = true then (do let c ← cellOf env x.1; pure (ForInStep.yield ((x.1, c) :: r))) else pure (ForInStep.yield r)) = (pure cl : Sem (List (Str × Addr))) ∧
      (∀ y c, cl.lookup y = some c → env.cells.lookup y = some c) ∧ (∀ y ∈ l, y.2 = .free → ∃ c, cl.lookup y.1 = some c) ∧ (∀ y c, acc.lookup y = some c → ∃ c', cl.lookup y = some c')
  | [], acc, _, h2 => ⟨acc, rfl, h2, (fun _ z => nomatch z), (fun _ c e => ⟨c, e⟩)⟩
  | (n, k) :: r, acc, h1, h2 => by
    rw [List.forIn_cons]
    by_cases hk : k = .free
    · subst hk
      obtain ⟨c, hc⟩ := h1 (n, .free) List.mem_cons_self rfl
      have e : cellOf env n = pure c := by
        have hc' : env.cells.lookup n = some c := hc
        unfold cellOf
        rw [hc']
      obtain ⟨cl, q1, q2, q3, q4⟩ := closure_go r ((n, c) :: acc) (fun y hy => h1 y (List.mem_cons_of_mem _ hy)) (fun y c' e' => by
        rw [List.lookup_cons] at e'
        by_cases hy : (y == n) = true
        · rw [hy] at e'
          have hn : y = n := eq_of_beq hy
          subst hn
          cases e'
          exact hc
        · rw [Bool.not_eq_true] at hy
          rw [hy] at e'
          exact h2 y c' e')
      refine ⟨cl, ?_, q2, fun y hy hf => ?_, fun y c' e' => ?_⟩
      · simp only [beq_self_eq_true, if_true, e, pure_bind]
        exact q1
      · rcases List.mem_cons.mp hy with rfl | hy
        · exact q4 n c (by simp)
        · exact q3 y hy hf
      · by_cases hy : (y == n) = true
        · have hn : y = n := eq_of_beq hy
          subst hn
          exact q4 y c (by simp)
        · rw [Bool.not_eq_true] at hy
          exact q4 y c' (by rw [List.lookup_cons, hy]; exact e')
    · have hb : (k == NameKind.free) = false := by simpa using hk
      obtain ⟨cl, q1, q2, q3, q4⟩ := closure_go r acc (fun y hy => h1 y (List.mem_cons_of_mem _ hy)) h2
      refine ⟨cl, ?_, q2, fun y hy hf => ?_, q4⟩
      · simp only [hb, Bool.false_eq_true, if_false, pure_bind]
        exact q1
      · rcases List.mem_cons.mp hy with rfl | hy
        · exact absurd hf hk
        · exact q3 y hy hf
theorem closure_ok {env : Env} {sc : Scope} (h : ∀ y ∈ sc.names, y.2 = .free → ∃ c, env.cells.lookup y.1 = some c) :
    ∃ cl, closureFor sc env = pure cl ∧ (∀ y c, cl.lookup y = some c → env.cells.lookup y = some c) ∧ ∀ y ∈ sc.names, y.2 = .free → ∃ c, cl.lookup y.1 = some c := by
  obtain ⟨cl, q1, q2, q3, _⟩ := closure_go sc.names [] h (fun _ _ z => nomatch z)
  refine ⟨cl, ?_, q2, q3⟩
  unfold closureFor
  rw [bind_pure]
  exact q1
theorem relabel_look {env : Env} {y : Str} {k : NameKind} {sc : Scope} (h : (relabel sc env).names.lookup y = some k) : ∃ k0, sc.names.lookup y = some k0 ∧ (k = k0 ∨ (k0 = .free ∧ k = .cell)) := by
  have go : ∀ l : List (Str × NameKind), (l.map fun (n, k) => if (k == .free && env.scope.kind == .function && env.kindOf n == some .cell) then (n, NameKind.cell) else (n, k)).lookup y = some k → ∃ k0, l.lookup y = some k0 ∧ (k = k0 ∨ (k0 = .free ∧ k = .cell)) := by
    intro l
    induction l with
    | nil => intro z; cases z
    | cons a r ih =>
      obtain ⟨n, k1⟩ := a
      intro z
      rw [List.map_cons] at z
      by_cases hc : (k1 == NameKind.free && env.scope.kind == .function && env.kindOf n == some .cell) = true
      · have hf : k1 = .free := by
          rw [Bool.and_eq_true, Bool.and_eq_true] at hc
          simpa using hc.1.1
        simp only [hc, if_true] at z
        rw [List.lookup_cons] at z ⊢
        by_cases hy : (y == n) = true
        · rw [hy] at z ⊢
          cases z
          exact ⟨k1, rfl, .inr ⟨hf, rfl⟩⟩
        · rw [Bool.not_eq_true] at hy
          rw [hy] at z ⊢
          exact ih z
      · simp only [hc, Bool.false_eq_true, if_false] at z
        rw [List.lookup_cons] at z ⊢
        by_cases hy : (y == n) = true
        · rw [hy] at z ⊢
          cases z
          exact ⟨_, rfl, .inl rfl⟩
        · rw [Bool.not_eq_true] at hy
          rw [hy] at z ⊢
          exact ih z
  exact go sc.names h
theorem relabel_free {env : Env} {y : Str} {sc : Scope} (h : sc.names.lookup y = some .free) : (relabel sc env).names.lookup y = some .cell ∨ (relabel sc env).names.lookup y = some .free := by
  have go : ∀ l : List (Str × NameKind), l.lookup y = some .free → (l.map fun (n, k) => if (k == .free && env.scope.kind == .function && env.kindOf n == some .cell) then (n, NameKind.cell) else (n, k)).lookup y = some .cell ∨
      (l.map fun (n, k) => if (k == .free && env.scope.kind == .function && env.kindOf n == some .cell) then (n, NameKind.cell) else (n, k)).lookup y = some .free := by
    intro l
    induction l with
    | nil => intro z; cases z
    | cons a r ih =>
      obtain ⟨n, k1⟩ := a
      intro z
      rw [List.lookup_cons] at z
      rw [List.map_cons]
      by_cases hy : (y == n) = true
      · rw [hy] at z
        cases z
        by_cases hc : (NameKind.free == NameKind.free && env.scope.kind == .function && env.kindOf n == some .cell) = true
        · simp only [hc, if_true]
          exact .inl (by rw [List.lookup_cons, hy])
        · simp only [hc, Bool.false_eq_true, if_false]
          exact .inr (by rw [List.lookup_cons, hy])
      · rw [Bool.not_eq_true] at hy
        rw [hy] at z
        by_cases hc : (k1 == NameKind.free && env.scope.kind == .function && env.kindOf n == some .cell) = true
        · simp only [hc, if_true]
          rw [List.lookup_cons, hy]
          exact ih z
        · simp only [hc, Bool.false_eq_true, if_false]
          rw [List.lookup_cons, hy]
          exact ih z
  exact go sc.names h

/-! ### the block's context -/
abbrev cxComp (X : Cx) (N : List Str) (sc : Scope) (cl : List (Str × Addr)) (C : Addr) (s : Shared) (H : Hp) (ex : List Addr) (pn : List (Addr × Obj)) : Cx :=
  { prog := X.prog, w := X.w, K := X.K, mg := X.mg, base := X.base, A := X.A, N := N, s₀ := s, H₀ := H, env := compEnvC sc cl C X.env, outer := X.stack, stack := X.stack, ex := ex, fn := fun _ => false, calm := X.calm, pn := pn, xe := fun _ _ => False }
/-- a block's tests -/
def PTs (X : Cx) (ifs : List Expr) (t : TT) : Prop :=
  ∀ (pins : List (Addr × Obj)) (s : Shared) (σ : St) (H : Hp) (Q : Bool → Hp → Prop), Inv X pins σ H s → t σ H Q → wpAny (model X.prog X.w) X.A (tstSem ifs X.env) (TP X pins σ Q) X.xe s
def tTrue : TT := fun _ H Q => Q true H
theorem ttT {σ : St} {H : Hp} {A B : Hp → Prop} (h : A H) : tTrue σ H (fun b H4 => if b = true then A H4 else B H4) := by
  show if true = true then A H else B H
  rw [if_pos rfl]
  exact h
theorem pts_nil {X : Cx} : PTs X [] tTrue := fun _ _ _ H _ I h => wpAny_tests_nil ⟨H, I, h⟩
theorem pts_one {X : Cx} {c : Expr} {t : TT} (hc : PT X c t) : PTs X [c] t := fun pins s σ H Q I h => wpAny_tests_one (hc pins s σ H Q I h)
/-- what the block sees of the names around it -/
def capV (σ : St) (caps : List Nat) : St := caps.map fun i => (σ[i]?).getD none
def CompW (J : It) (p : Addr) (tt : TT) (te : TE) (cs : St) (Q : VK) (H1 : Hp) : Prop := ∃ W : Nat → Nat → List V → Hp → Prop, (∃ m, W 0 m [] (upd H1 p (.lst []))) ∧ ∀ i m ys H2, W i m ys H2 →
  (J.stop i H2 ∧ Q (.ref p) H2) ∨ (J.go i H2 ∧ ∃ N : List V → Hp → Prop, (∀ ys' H', N ys' H' → ∃ m', m' < m ∧ W (i + 1) m' ys' H') ∧
    ∀ v H3, J.yld i H2 v H3 → tt (some v :: cs) H3 fun b H4 => if b = true then te (some v :: cs) H4 fun y H5 => H5 p = some (.lst ys) ∧ ys.length < sizeLine ∧ N (ys ++ [y]) (upd H5 p (.lst (ys ++ [y]))) else N ys H4)
/-- .. with what must hold of the heap at each turn and at the end -/
def CompWG (Gs : Hp → Prop) (J : It) (p : Addr) (tt : TT) (te : TE) (cs : St) (Q : VK) (H1 : Hp) : Prop := ∃ W : Nat → Nat → List V → Hp → Prop, (∃ m, W 0 m [] (upd H1 p (.lst []))) ∧ ∀ i m ys H2, W i m ys H2 →
  (J.stop i H2 ∧ Gs H2 ∧ Q (.ref p) H2) ∨ (J.go i H2 ∧ Gs H2 ∧ ∃ N : List V → Hp → Prop, (∀ ys' H', N ys' H' → ∃ m', m' < m ∧ W (i + 1) m' ys' H') ∧
    ∀ v H3, J.yld i H2 v H3 → tt (some v :: cs) H3 fun b H4 => if b = true then te (some v :: cs) H4 fun y H5 => H5 p = some (.lst ys) ∧ ys.length < sizeLine ∧ N (ys ++ [y]) (upd H5 p (.lst (ys ++ [y]))) else N ys H4)
def tCompC (CW : It → Addr → St → VK → Hp → Prop) (wi : TI) (caps : List Nat) : TE := fun σ H Q => wi σ H fun J H1 => ∀ p, H1 p = none → CW J p (capV σ caps) Q H1
def tComp (wi : TI) (tt : TT) (te : TE) (caps : List Nat) : TE := fun σ H Q => wi σ H fun J H1 => ∀ p, H1 p = none → CompW J p tt te (capV σ caps) Q H1

theorem comp_go {X : Cx} {use : Option (Value → Sem Unit)} {Post : Value → Shared → Prop} {pins : List (Addr × Obj)} {s : Shared} {σ : St} {H : Hp} {Q : VK} {Gs : Hp → Prop} {hb : Bool} {CW : It → Addr → St → VK → Hp → Prop} {elt iter : Expr} {ifs : List Expr} {x : Str} {px pos : Pos} {sc : Scope} {wi : TI} {tt : TT} {te : TE} (caps : List Nat) (capsN : List Str)
    (hi : PI X (.Name x px) iter wi hb)
    (ht : ∀ cl C s H ex pn, PTs (cxComp X (x :: capsN) sc cl C s H ex pn) ifs tt)
    (he : ∀ cl C s H ex pn, PE (cxComp X (x :: capsN) sc cl C s H ex pn) elt te)
    (hkind : sc.kind = .function) (hcell : ∀ y ∈ sc.names, y.2 ≠ .cell) (hnames : ∀ y ∈ sc.names, y.2 = .local → sc.names.lookup y.1 = some .local) (hx : sc.names.lookup x = some .local)
    (hfr : ∀ y ∈ sc.names, y.2 = .free → y.1 ∈ capsN)
    (hcap : ∀ (j : Nat) (y : Str), capsN[j]? = some y → ∃ i : Nat, caps[j]? = some i ∧ X.N[i]? = some y ∧ sc.names.lookup y = some .free ∧ (X.env.kindOf y = some .cell ∨ X.env.kindOf y = some .free)) (hlen : caps.length = capsN.length)
    (hnd : (x :: capsN).Nodup) (hc : X.calm = true ∨ (hb = true ∧ ∀ s H, HOk X.prog X.w H s.heap → Gs H → HandQ X s)) (kW : ∀ J p cs Q H1, CW J p cs Q H1 → CompWG Gs J p tt te cs Q H1)
    (hs : ∀ x, foldedSetIterable iter X.env x = pure x) (I : Inv X pins σ H s) (h : tCompC CW wi caps σ H Q)
    (fin : ∀ (C p : Addr) (H5 : Hp) (s5 : Shared), (∃ m, s5.heap.Ns C m) → Inv X pins σ H5 s5 → FpOk X pins H5 C → Q (.ref p) H5 → compPost (model X.prog X.w) X.A X.xe use Post (.ref p) C (.ok .next) s5) :
    wpAny (model X.prog X.w) X.A (comprehension (.ListComp elt [⟨.Name x px, iter, ifs, 0⟩] sc pos) sc X.env (firstIterPos [⟨.Name x px, iter, ifs, 0⟩] pos) (newList []) (firstAsync [⟨.Name x px, iter, ifs, 0⟩]) (firstIter [⟨.Name x px, iter, ifs, 0⟩] X.env) use) Post X.xe s := by
  have hEnd : ∀ s H, HOk X.prog X.w H s.heap → Gs H → EndQ hb X s := by
    rcases hc with hc | ⟨e, k⟩
    · exact fun _ _ _ _ => .inl (I.ok.hd hc)
    · exact fun s H o g => .inr ⟨e, k s H o g⟩
  obtain ⟨cl, hclos, hq2, hq3⟩ := closure_ok (env := X.env) (sc := sc) (fun y hy hf => by
    obtain ⟨j, hj⟩ := List.mem_iff_getElem?.mp (hfr y hy hf)
    obtain ⟨_, _, _, _, k⟩ := hcap j y.1 hj
    exact I.ok.has y.1 k)
  refine wpAny_comprehension_free (use := use) rfl hs hclos hkind hnames (thn (hi pins s σ H _ I h) fun v s1 h1 => thn h1 fun itv s2 h2 => ?_)
  obtain ⟨it, fp, tn, J, H2, e, I2, T, st2, f2, q⟩ := h2
  subst e
  refine wpAny_newObj_type (wpAny_newFunctionEnv hcell (by intro y hy; simp at hy) (fun h1 hns hsb => ?_) hkind)
  dsimp only at hns hsb ⊢
  obtain ⟨W, ⟨m0, w0⟩, turn⟩ := kW _ _ _ _ _ (q s2.heap.objs.size (I2.hok.fresh (Nat.le_refl _)))
  have I3 : Inv X pins σ (upd H2 s2.heap.objs.size (.lst [])) { s2 with heap := s2.heap.push { cls := .type "list", dict := none, data := .seq ([] : List Value).toArray }, toks := s2.toks } := I2.lnew (its := []) (ys := []) (t' := s2.toks) .nil (Nat.zero_le _)
  generalize hH3 : s2.heap.push { cls := .type "list", dict := none, data := .seq ([] : List Value).toArray } = g3 at hns hsb I3 ⊢
  have hsz3 : g3.objs.size = s2.heap.objs.size + 1 := by rw [← hH3, Heap.size_push]
  generalize hHp : upd H2 s2.heap.objs.size (.lst []) = Hp3 at w0 I3
  have hlt : ∀ b o, g3.get? b = some o → b ≠ g3.objs.size := fun b o e => Nat.ne_of_lt (Heap.lt_size e)
  have old : ∀ b o, g3.get? b = some o → h1.get? b = some o := fun b o e => hsb.extBut b o (hlt b o e) (Heap.get?_push_of_some _ e)
  have fpo : ∀ b ∈ fp, ∃ o, g3.get? b = some o := fun b hb => by
    obtain ⟨o, e, _⟩ := T.obj 0 s2.heap st2 b hb
    exact ⟨o, by rw [← hH3]; exact Heap.get?_push_of_some _ e⟩
  have fpC : ∀ b ∈ fp, b ≠ g3.objs.size := fun b hb => by obtain ⟨o, e⟩ := fpo b hb; exact hlt b o e
  have fpH : ∀ b ∈ fp, Hp3 b = none := fun b hb => by
    obtain ⟨o, e, _⟩ := T.obj 0 s2.heap st2 b hb
    rw [← hHp, upd_ne (Nat.ne_of_lt (Heap.lt_size e))]
    exact (f2 b hb).1
  have fsSub : ∀ b, b ≠ X.env.locals → b ∉ X.fs → b ∉ frs X.stack := fun b h1 h2 z => by
    rcases List.mem_cons.mp (I2.stkSub b z) with z | z
    · exact h1 z
    · exact h2 z
  -- the block's context
  have okc : (cxComp X (x :: capsN) sc cl g3.objs.size { s2 with heap := g3, toks := s2.toks } Hp3 fp (X.pn ++ pins)).Ok := by
    refine ⟨I3.ok.mod, hkind, I3.ok.glob, I3.ok.blt, Nat.le_refl _, fun y z c e1 e2 => I3.ok.inj y z c (hq2 y c e1) (hq2 z c e2), fun y hy => ?_, fun y c z => absurd z Bool.false_ne_true, I3.ok.hd, I3.ok.frames, .inl rfl, fun b hb => ⟨fpC b hb, fun y c e => (f2 b hb).2.2.2.2.1 y c (hq2 y c e)⟩,
      I3.bs, Nat.le_trans I3.ok.bsz I3.sz, fun b o e hb => ?_, fun b hb => fsSub b (f2 b hb).2.1 (f2 b hb).2.2.1, I3.stack, I3.stkFree⟩
    · have hy' : ∃ k, (relabel sc X.env).names.lookup y = some k ∧ (k = .cell ∨ k = .free) := by
        rcases hy with hy | hy
        · exact ⟨_, hy, .inl rfl⟩
        · exact ⟨_, hy, .inr rfl⟩
      obtain ⟨k, e, hk⟩ := hy'
      obtain ⟨k0, e0, hk0⟩ := relabel_look e
      have em := PySem.mem_of_lookup e0
      rcases hk0 with rfl | ⟨rfl, _⟩
      · rcases hk with rfl | rfl
        · exact absurd rfl (hcell _ em)
        · exact hq3 _ em rfl
      · exact hq3 _ em rfl
    · rcases (f2 b hb).2.2.2.1 with z | z
      · exact I3.ok.noex b o e z
      · have h1 : b < X.base.objs.size := Heap.lt_size e
        have h2 := I3.ok.bsz
        exact absurd (Nat.lt_of_lt_of_le h1 (Nat.le_trans h2 z)) (Nat.lt_irrefl _)
  have Ic : Inv (cxComp X (x :: capsN) sc cl g3.objs.size { s2 with heap := g3, toks := s2.toks } Hp3 fp (X.pn ++ pins)) [] (none :: capV σ caps) Hp3 { s2 with heap := h1, toks := s2.toks + ([] : List (Str × Value)).length } := by
    refine ⟨okc, rfl, I3.bare, Un.kept old, ⟨_, hns, fun i y v e1 e2 e3 => ?_⟩, fun y c e => ?_, I3.hok.fresh (Nat.le_refl _), fun y c e => I3.freeC y c (hq2 y c e), fun p hp => ?_, I3.hok.kept old, ?_⟩
    · cases i with
      | zero => cases e2
      | succ j =>
        have e1' : capsN[j]? = some y := e1
        obtain ⟨i, c1, c2, c3, c4⟩ := hcap j y e1'
        have e2' : (capV σ caps)[j]? = some (some v) := e2
        have hv : σ[i]? = some (some v) := by
          unfold capV at e2'
          rw [List.getElem?_map, c1] at e2'
          have e4 : (σ[i]?).getD none = some v := Option.some.inj e2'
          cases e5 : σ[i]? with
          | none => rw [e5] at e4; cases e4
          | some w => rw [e5] at e4; exact congrArg some e4
        obtain ⟨m, _, hl⟩ := I3.loc
        have vis : Vis X.env.scope y := by
          rcases c4 with z | z
          · exact .inr (.inl z)
          · exact .inr (.inr z)
        obtain ⟨u, r, l⟩ := hl i y v c2 hv vis
        refine ⟨u, r, .inr ⟨relabel_free c3, ?_⟩⟩
        rcases l with ⟨lk, _⟩ | ⟨_, c, ec, o, ho, hd⟩
        · rcases c4 with z | z <;> (rw [lk] at z; cases z)
        · obtain ⟨c', e'⟩ := hq3 _ (PySem.mem_of_lookup c3) rfl
          have e'' := hq2 _ _ e'
          have e3' : (some c' : Option Addr) = some c := e''.symm.trans ec
          cases e3'
          exact ⟨c, e', o, old _ _ ho, hd⟩
    · obtain ⟨v, o, ho, hd⟩ := I3.cell y c (hq2 y c e)
      exact ⟨v, o, old _ _ ho, hd⟩
    · have hp' : p ∈ X.pn ++ pins := by simpa using hp
      obtain ⟨e1, e2, e3, e4, e5⟩ := I3.pin p hp'
      exact ⟨old _ _ e1, e2, hlt _ _ e1, fsSub _ e3 e4, e5⟩
    · show (capV σ caps).length + 1 = capsN.length + 1
      unfold capV
      rw [List.length_map, hlen]
  have stat : ∀ {H' : Hp}, (∀ b ∈ fp, H' b = none) → ∀ b ∈ fp, FpOk (cxComp X (x :: capsN) sc cl g3.objs.size { s2 with heap := g3, toks := s2.toks } Hp3 fp (X.pn ++ pins)) [] H' b := fun hn b hb =>
    ⟨hn b hb, fpC b hb, fsSub b (f2 b hb).2.1 (f2 b hb).2.2.1, .inl hb, fun y c e => (f2 b hb).2.2.2.2.1 y c (hq2 y c e), fun p hp => (f2 b hb).2.2.2.2.2 p (by simpa using hp)⟩
  -- behind the block
  have back : ∀ {pins5 : List (Addr × Obj)} {σ5 : St} {H5 : Hp} {s5 : Shared} {h' : Heap}, Inv (cxComp X (x :: capsN) sc cl g3.objs.size { s2 with heap := g3, toks := s2.toks } Hp3 fp (X.pn ++ pins)) pins5 σ5 H5 s5 → Heap.SameBut g3.objs.size s5.heap h' → Inv X pins σ H5 { s5 with heap := h' } := by
    intro pins5 σ5 H5 s5 h' I5 sb
    have un : Un (frs X.stack) fp Hp3 H5 g3 s5.heap := I5.base
    have fr : H5 g3.objs.size = none := I5.free
    have un' : Un (frs X.stack) fp Hp3 H5 g3 h' := ⟨fun b o e n hb hx => (sb.2 b (hlt b o e)).trans (un.keep b o e n hb hx),
      fun b o e n hb hx => by obtain ⟨sl, z⟩ := un.slot b o e n hb hx; exact ⟨sl, (sb.2 b (hlt b o e)).trans z⟩, un.free,
      fun b o e hx => by obtain ⟨o', z⟩ := un.there b o e hx; exact ⟨o', (sb.2 b (hlt b o e)).trans z⟩, un.tups, un.frzs, un.tbls⟩
    have hok : HOk X.prog X.w H5 h' := fun b u e => (I5.hok b u e).stay (fun c v hc' z => (sb.2 c (by
      rintro rfl
      rcases hc' with hc' | hc'
      · rw [hc', e] at fr; cases fr
      · rw [fr] at hc'; cases hc')).trans z) (fun _ z => z) (fun _ _ z => z)
    obtain ⟨hh, g, d, t, os⟩ := s5
    have eo : os = s2.os := I5.os
    subst eo
    have z := I3.call (h' := h') (g' := g) (d' := d) (t' := t) (ch := fp) un' hok I5.bare fun b hb => ⟨(f2 b hb).2.2.2.1, (f2 b hb).2.1, (f2 b hb).2.2.2.2.1, (f2 b hb).2.2.2.2.2⟩
    exact z
  have st4 : tn 0 h1 := T.keep 0 s2.heap h1 st2 fun b hb o e => old b o (by rw [← hH3]; exact Heap.get?_push_of_some _ e)
  have loop : codeAny (model X.prog X.w) X.A (.compLoop (.ListComp elt [⟨.Name x px, iter, ifs, 0⟩] sc pos) 0 (.ref it) (.ref s2.heap.objs.size) (compEnvC sc cl g3.objs.size X.env))
      (compPost (model X.prog X.w) X.A X.xe use Post (.ref s2.heap.objs.size) g3.objs.size) { s2 with heap := h1, toks := s2.toks + ([] : List (Str × Value)).length } := by
    refine comp_loop (fun n s' => ∃ i ys v0 H', Inv (cxComp X (x :: capsN) sc cl g3.objs.size { s2 with heap := g3, toks := s2.toks } Hp3 fp (X.pn ++ pins)) [] (v0 :: capV σ caps) H' s' ∧ tn i s'.heap ∧ (∀ b ∈ fp, H' b = none) ∧ W i n ys H') ?_ m0 ⟨0, [], none, Hp3, Ic, st4, fpH, w0⟩
    rintro n s' ⟨i, ys, v0, H', I', st', fr', w'⟩
    rcases turn i n ys H' w' with ⟨stop, gs, qn⟩ | ⟨go, gs, N, hN, step⟩
    · refine thn (T.done (cxComp X (x :: capsN) sc cl g3.objs.size { s2 with heap := g3, toks := s2.toks } Hp3 fp (X.pn ++ pins)) rfl rfl rfl s' (hEnd s' H' I'.hok gs) i [] _ H' NoX I' (stat fr') st' stop) fun r s5 ⟨hr, I5⟩ => ?_
      subst hr
      obtain ⟨m, hn, _⟩ := id I5.loc
      exact fin g3.objs.size s2.heap.objs.size H' s5 ⟨m, hn⟩ (back (h' := s5.heap) I5 ⟨rfl, fun _ _ => rfl⟩) (I3.fpOk (Nat.le_refl _) I5.free) qn
    · refine thn (T.item (cxComp X (x :: capsN) sc cl g3.objs.size { s2 with heap := g3, toks := s2.toks } Hp3 fp (X.pn ++ pins)) rfl rfl rfl s' (hEnd s' H' I'.hok gs) i [] _ H' NoX I' (stat fr') st' go) fun r s5 ⟨u, hr, h5⟩ => ?_
      subst hr
      refine thn h5 fun _ s6 ⟨v, H6, I6, r6, y6, st6, fr6⟩ => ?_
      have I6' := I6.pinned (stat fr6) (T.obj _ _ st6)
      have again : ∀ {σ7 : St} {H7 : Hp} {s7 : Shared} {ys' : List V}, σ7 = some v :: capV σ caps → Inv (cxComp X (x :: capsN) sc cl g3.objs.size { s2 with heap := g3, toks := s2.toks } Hp3 fp (X.pn ++ pins)) ([] ++ pinsAt fp s6.heap) σ7 H7 s7 → N ys' H7 →
          ∃ m, m < n ∧ ∃ i ys v0 H', Inv (cxComp X (x :: capsN) sc cl g3.objs.size { s2 with heap := g3, toks := s2.toks } Hp3 fp (X.pn ++ pins)) [] (v0 :: capV σ caps) H' s7 ∧ tn i s7.heap ∧ (∀ b ∈ fp, H' b = none) ∧ W i m ys H' := by
        intro σ7 H7 s7 ys' eσ I7 n7
        subst eσ
        obtain ⟨m', hm, w7⟩ := hN ys' H7 n7
        refine ⟨m', hm, i + 1, ys', some v, H7, I7.unpinned, T.keep _ _ _ st6 fun b hb o e => (I7.pin (b, o) (List.mem_append_right _ (List.mem_append_right _ (mem_pinsAt hb e)))).1, fun b hb => ?_, w7⟩
        obtain ⟨o, e, d⟩ := T.obj _ _ st6 b hb
        exact (I7.pin (b, o) (List.mem_append_right _ (List.mem_append_right _ (mem_pinsAt hb e)))).2.1
      refine thn (pg_name (X := cxComp X (x :: capsN) sc cl g3.objs.size { s2 with heap := g3, toks := s2.toks } Hp3 fp (X.pn ++ pins)) (i := 0) hnd rfl (Or.inl (lookup_relabel_local hx)) (.inr (lookup_relabel_local hx)) _ s6 _ H6 v u
        (fun σ' H' => σ' = some v :: capV σ caps ∧ H' = H6) I6' r6 ⟨rfl, rfl⟩) fun _ s7 ⟨σ7, H7, I7, e7, e7'⟩ => ?_
      subst e7 e7'
      refine thn (ht _ _ _ _ _ _ _ s7 _ H7 _ I7 (step v H7 y6)) fun ok s8 ⟨H8, I8, q8⟩ => ?_
      cases ok with
      | false => exact again rfl I8 q8
      | true =>
        refine thn (he _ _ _ _ _ _ _ s8 _ H8 _ I8 q8) fun y s9 ⟨yv, H9, I9, r9, hp9, hz9, n9⟩ => ?_
        refine thn (mt_append (X := cxComp X (x :: capsN) sc cl g3.objs.size { s2 with heap := g3, toks := s2.toks } Hp3 fp (X.pn ++ pins)) _ s9 _ H9 (.ref s2.heap.objs.size) [yv] (.ref s2.heap.objs.size) [y] (fun _ H' => H' = upd H9 s2.heap.objs.size (.lst (ys ++ [yv]))) I9 rfl (.cons r9 .nil)
          ⟨s2.heap.objs.size, ys, yv, rfl, rfl, hp9, hz9, rfl⟩) fun _ s10 ⟨_, H10, I10, _, e10⟩ => ?_
        subst e10
        exact again rfl I10 n9
  exact codeAny_compStart_list loop (T.self X.A 0 _ _ _ st4 loop)

theorem pe_compG {X : Cx} {Gs : Hp → Prop} {hb : Bool} {CW : It → Addr → St → VK → Hp → Prop} {elt iter : Expr} {ifs : List Expr} {x : Str} {px pos : Pos} {sc : Scope} {wi : TI} {tt : TT} {te : TE} (caps : List Nat) (capsN : List Str)
    (hi : PI X (.Name x px) iter wi hb)
    (ht : ∀ cl C s H ex pn, PTs (cxComp X (x :: capsN) sc cl C s H ex pn) ifs tt)
    (he : ∀ cl C s H ex pn, PE (cxComp X (x :: capsN) sc cl C s H ex pn) elt te)
    (hkind : sc.kind = .function) (hcell : ∀ y ∈ sc.names, y.2 ≠ .cell) (hnames : ∀ y ∈ sc.names, y.2 = .local → sc.names.lookup y.1 = some .local) (hx : sc.names.lookup x = some .local)
    (hfr : ∀ y ∈ sc.names, y.2 = .free → y.1 ∈ capsN)
    (hcap : ∀ (j : Nat) (y : Str), capsN[j]? = some y → ∃ i : Nat, caps[j]? = some i ∧ X.N[i]? = some y ∧ sc.names.lookup y = some .free ∧ (X.env.kindOf y = some .cell ∨ X.env.kindOf y = some .free)) (hlen : caps.length = capsN.length)
    (hnd : (x :: capsN).Nodup) (hc : X.calm = true ∨ (hb = true ∧ ∀ s H, HOk X.prog X.w H s.heap → Gs H → HandQ X s)) (kW : ∀ J p cs Q H1, CW J p cs Q H1 → CompWG Gs J p tt te cs Q H1)
    (hs : ∀ x, foldedSetIterable iter X.env x = pure x := by intro _; rfl) :
    PE X (.ListComp elt [⟨.Name x px, iter, ifs, 0⟩] sc pos) (tCompC CW wi caps) := by
  intro pins s σ H Q I h
  rw [eval_ListComp]
  exact comp_go (use := none) caps capsN hi ht he hkind hcell hnames hx hfr hcap hlen hnd hc kW hs I h fun C p H5 s5 ⟨m, hn⟩ I5 f q => ⟨m, hn, fun h' sb => ⟨.ref p, H5, I5.turned (t' := s5.toks) (fun b o hb e => (sb.2 b hb).trans e) f.1 f.2.1 f.2.2.2.1 f.2.2.2.2.1 f.2.2.2.2.2, rfl, q⟩⟩
/-- y = [.. for ..], y a local name: stored ahead of the block's own names' end -/
theorem ps_setC {X : Cx} {Gs : Hp → Prop} {hb : Bool} {CW : It → Addr → St → VK → Hp → Prop} {elt iter : Expr} {ifs : List Expr} {x y : Str} {px pos pos' pos2 : Pos} {sc : Scope} {wi : TI} {tt : TT} {te : TE} {i : Nat} (hN : X.N.Nodup) (hiN : X.N[i]? = some y) (hy : X.env.scope.names.lookup y = some .local) (caps : List Nat) (capsN : List Str)
    (hi : PI X (.Name x px) iter wi hb)
    (ht : ∀ cl C s H ex pn, PTs (cxComp X (x :: capsN) sc cl C s H ex pn) ifs tt)
    (he : ∀ cl C s H ex pn, PE (cxComp X (x :: capsN) sc cl C s H ex pn) elt te)
    (hkind : sc.kind = .function) (hcell : ∀ y ∈ sc.names, y.2 ≠ .cell) (hnames : ∀ y ∈ sc.names, y.2 = .local → sc.names.lookup y.1 = some .local) (hx : sc.names.lookup x = some .local)
    (hfr : ∀ y ∈ sc.names, y.2 = .free → y.1 ∈ capsN)
    (hcap : ∀ (j : Nat) (y : Str), capsN[j]? = some y → ∃ i : Nat, caps[j]? = some i ∧ X.N[i]? = some y ∧ sc.names.lookup y = some .free ∧ (X.env.kindOf y = some .cell ∨ X.env.kindOf y = some .free)) (hlen : caps.length = capsN.length)
    (hnd : (x :: capsN).Nodup) (hc : X.calm = true ∨ (hb = true ∧ ∀ s H, HOk X.prog X.w H s.heap → Gs H → HandQ X s)) (kW : ∀ J p cs Q H1, CW J p cs Q H1 → CompWG Gs J p tt te cs Q H1)
    (hsw : swapsWith (.ListComp elt [⟨.Name x px, iter, ifs, 0⟩] sc pos) (some (.Name y pos')) pos2.line X.env = pure true := by rfl)
    (hs : ∀ x, foldedSetIterable iter X.env x = pure x := by intro _; rfl) :
    PS X (.Assign [.Name y pos'] (.ListComp elt [⟨.Name x px, iter, ifs, 0⟩] sc pos) pos2) (tAsg (tCompC CW wi caps) (gName i)) := by
  intro pins s σ H D I h
  rw [exec_Assign_Name_used _ _ _ _ hsw, arm_evalThenUse_ListComp]
  refine wpAny_bind (wpAny_standAt (wpAny_bind (wpAny_bind (comp_go (use := some (assign (.Name y pos') X.env)) caps capsN hi ht he hkind hcell hnames hx hfr hcap hlen hnd hc kW hs I h fun C p H5 s5 ⟨m, hn⟩ I5 f q => ?_))))
  refine wpAny_assign_Name (store_ok2 I5 hN hiN (.inl hy) (show RelV (.ref p) (.ref p) from rfl) (fun s6 I6 ⟨a, sb, ha⟩ => ?_) (.inr hy))
  have nC : C ≠ a := by
    rcases ha with ha | ha
    · rw [ha]; exact f.2.1
    · exact fun z => f.2.2.2.2.1 y a ha z.symm
  obtain ⟨o, es, ep, ho, r⟩ := hn
  refine ⟨m, ⟨o, es, ep, (sb.2 C nC).trans ho, r⟩, fun h' sb' => ?_⟩
  have I7 := I6.turned (t' := s6.toks) (h' := h') (fun b o hb e => (sb'.2 b hb).trans e) f.1 f.2.1 f.2.2.2.1 f.2.2.2.2.1 f.2.2.2.2.2
  exact wpAny_pure (wpAny_pure ⟨_, H5, I7, q⟩)
theorem CompW.g {J : It} {p : Addr} {tt : TT} {te : TE} {cs : St} {Q : VK} {H1 : Hp} (h : CompW J p tt te cs Q H1) : CompWG (fun _ => True) J p tt te cs Q H1 := by
  obtain ⟨W, h0, h1⟩ := h
  refine ⟨W, h0, fun i m ys H2 w => ?_⟩
  rcases h1 i m ys H2 w with ⟨a, b⟩ | ⟨a, b⟩
  · exact .inl ⟨a, trivial, b⟩
  · exact .inr ⟨a, trivial, b⟩
theorem pe_comp {X : Cx} {elt iter : Expr} {ifs : List Expr} {x : Str} {px pos : Pos} {sc : Scope} {wi : TI} {tt : TT} {te : TE} (caps : List Nat) (capsN : List Str)
    (hi : PI X (.Name x px) iter wi)
    (ht : ∀ cl C s H ex pn, PTs (cxComp X (x :: capsN) sc cl C s H ex pn) ifs tt)
    (he : ∀ cl C s H ex pn, PE (cxComp X (x :: capsN) sc cl C s H ex pn) elt te)
    (hkind : sc.kind = .function) (hcell : ∀ y ∈ sc.names, y.2 ≠ .cell) (hnames : ∀ y ∈ sc.names, y.2 = .local → sc.names.lookup y.1 = some .local) (hx : sc.names.lookup x = some .local)
    (hfr : ∀ y ∈ sc.names, y.2 = .free → y.1 ∈ capsN)
    (hcap : ∀ (j : Nat) (y : Str), capsN[j]? = some y → ∃ i : Nat, caps[j]? = some i ∧ X.N[i]? = some y ∧ sc.names.lookup y = some .free ∧ (X.env.kindOf y = some .cell ∨ X.env.kindOf y = some .free)) (hlen : caps.length = capsN.length)
    (hnd : (x :: capsN).Nodup) (hc : X.calm = true)
    (hs : ∀ x, foldedSetIterable iter X.env x = pure x := by intro _; rfl) :
    PE X (.ListComp elt [⟨.Name x px, iter, ifs, 0⟩] sc pos) (tComp wi tt te caps) :=
  pe_compG (Gs := fun _ => True) (hb := false) (CW := fun J p cs Q H1 => CompW J p tt te cs Q H1) caps capsN hi ht he hkind hcell hnames hx hfr hcap hlen hnd (.inl hc) (fun _ _ _ _ _ h => h.g) hs

/-- a block over n items, by its word: turn, what is made so far, heap -/
theorem comp_by {J : It} {p : Addr} {tt : TT} {te : TE} {cs : St} {Q : VK} {H1 : Hp} (n : Nat) (Pv : Nat → List V → Hp → Prop) (h0 : Pv 0 [] (upd H1 p (.lst [])))
    (hs : ∀ i ys H, i < n → Pv i ys H → J.go i H ∧ ∀ v H3, J.yld i H v H3 → tt (some v :: cs) H3 fun b H4 => if b = true then te (some v :: cs) H4 fun y H5 => H5 p = some (.lst ys) ∧ ys.length < sizeLine ∧ Pv (i + 1) (ys ++ [y]) (upd H5 p (.lst (ys ++ [y]))) else Pv (i + 1) ys H4)
    (hd : ∀ ys H, Pv n ys H → J.stop n H ∧ Q (.ref p) H) : CompW J p tt te cs Q H1 := by
  refine ⟨fun i m ys H => m = n - i ∧ i ≤ n ∧ Pv i ys H, ⟨n, by simp, Nat.zero_le _, h0⟩, ?_⟩
  rintro i m ys H ⟨rfl, hi, pv⟩
  by_cases hlt : i < n
  · obtain ⟨g, st⟩ := hs i ys H hlt pv
    exact .inr ⟨g, Pv (i + 1), fun ys' H' p' => ⟨n - (i + 1), by omega, rfl, hlt, p'⟩, st⟩
  · have e : i = n := by omega
    subst e
    exact .inl (hd ys H pv)

/-! ### over a text's signs -/
def Its (z : Str) : It := ⟨fun i _ => i < z.length, fun i H x H' => H' = H ∧ ∃ c, z.cps[i]? = some c ∧ x = .str ⟨#[c]⟩, fun i _ => z.length ≤ i⟩
theorem turn_ascii {P : Program} {w : World} {K : PySem.W.Frag} {tg : Expr} (z : Str) (t : Tok) (it : Addr) : Turn P w K tg (Its z) [it] it (fun i h => h.IsStrIter it "str_ascii_iterator" z t i) where
  mem := by simp
  obj := fun i h st b hb => by
    have e : b = it := by simpa using hb
    subst e
    obtain ⟨o, e, c, d⟩ := st
    exact ⟨o, e, fun v z => by rw [d] at z; cases z⟩
  keep := fun i h h' st k => by
    obtain ⟨o, e, r⟩ := st
    exact ⟨o, k it (by simp) o e, r⟩
  item := by
    intro X hP hw hK s hc i pins σ H E I hf st hg
    subst hP hw hK
    obtain ⟨f0, f1, f2, f3, f4, f5⟩ := hf it (by simp)
    have hi : i < z.cps.size := hg
    refine wpAny_pyNext_ascii_item st (c := z.cps[i]) (by simp [hi]) fun h' st' sb => ?_
    have I1 : Inv X pins σ H { s with heap := h', toks := s.toks + 1 } := I.turned (fun b o hb e => (sb.2 b hb).trans e) f0 f1 f3 f4 f5
    obtain ⟨o, e, c, d⟩ := id st'
    exact ⟨_, rfl, go_of (s := { s with heap := h', toks := s.toks + 1 }) e c d (by decide) ⟨.str ⟨#[z.cps[i]]⟩, H, I1, ⟨_, rfl⟩, ⟨rfl, _, by simp [hi], rfl⟩, st', fun b hb => (hf b hb).1⟩⟩
  done := by
    intro X hP hw hK s hc i pins σ H E I hf st hg
    subst hP hw hK
    obtain ⟨f0, f1, f2, f3, f4, f5⟩ := hf it (by simp)
    have hi : z.cps.size ≤ i := hg
    exact wpAny_pyNext_ascii_end hc.none st (by simp [hi]) fun h' eb => ⟨rfl, I.turned (t' := s.toks) (fun b o hb e => eb b o hb e) f0 f1 f3 f4 f5⟩
  self := fun _ _ _ _ _ st h => wpAny_pyIter_striter_ascii st h
theorem turn_wide {P : Program} {w : World} {K : PySem.W.Frag} {tg : Expr} (z : Str) (t : Tok) (it : Addr) : Turn P w K tg (Its z) [it] it (fun i h => h.IsStrIter it "str_iterator" z t i) where
  mem := by simp
  obj := fun i h st b hb => by
    have e : b = it := by simpa using hb
    subst e
    obtain ⟨o, e, c, d⟩ := st
    exact ⟨o, e, fun v z => by rw [d] at z; cases z⟩
  keep := fun i h h' st k => by
    obtain ⟨o, e, r⟩ := st
    exact ⟨o, k it (by simp) o e, r⟩
  item := by
    intro X hP hw hK s hc i pins σ H E I hf st hg
    subst hP hw hK
    obtain ⟨f0, f1, f2, f3, f4, f5⟩ := hf it (by simp)
    have hi : i < z.cps.size := hg
    refine wpAny_pyNext_wide_item st (c := z.cps[i]) (by simp [hi]) fun h' st' sb => ?_
    have I1 : Inv X pins σ H { s with heap := h', toks := s.toks + 1 } := I.turned (fun b o hb e => (sb.2 b hb).trans e) f0 f1 f3 f4 f5
    obtain ⟨o, e, c, d⟩ := id st'
    exact ⟨_, rfl, go_of (s := { s with heap := h', toks := s.toks + 1 }) e c d (by decide) ⟨.str ⟨#[z.cps[i]]⟩, H, I1, ⟨_, rfl⟩, ⟨rfl, _, by simp [hi], rfl⟩, st', fun b hb => (hf b hb).1⟩⟩
  done := by
    intro X hP hw hK s hc i pins σ H E I hf st hg
    subst hP hw hK
    obtain ⟨f0, f1, f2, f3, f4, f5⟩ := hf it (by simp)
    have hi : z.cps.size ≤ i := hg
    exact wpAny_pyNext_wide_end hc.none st (by simp [hi]) fun h' eb => ⟨rfl, I.turned (t' := s.toks) (fun b o hb e => eb b o hb e) f0 f1 f3 f4 f5⟩
  self := fun _ _ _ _ _ st h => wpAny_pyIter_striter_wide st h
def iStr (tl : TE) : TI := fun σ H R => tl σ H fun x H1 => ∃ z, x = .str z ∧ R (Its z) H1
theorem pi_str {X : Cx} {tg l : Expr} {tl : TE} (hl : PE X l tl) : PI X tg l (iStr tl) := by
  intro pins s σ H R I h
  refine thn (hl pins s σ H _ I h) fun v s1 ⟨x, H1, I1, r1, q1⟩ => ?_
  obtain ⟨z, e, q⟩ := q1
  subst e
  obtain ⟨t, rfl⟩ := r1
  have hf : H1 s1.heap.objs.size = none := I1.hok.fresh (Nat.le_refl _)
  cases ha : z.cps.all (· < 128)
  · refine wpAny_pyIter_wide ha ?_
    exact ⟨s1.heap.objs.size, [s1.heap.objs.size], _, Its z, H1, rfl, I1.kept (t' := s1.toks) fun b u e => Heap.get?_push_of_some _ e, turn_wide z t _, ⟨_, Heap.get?_push_size _ rfl, rfl, rfl⟩, fun b hb => by
      have e : b = s1.heap.objs.size := by simpa using hb
      subst e
      exact I1.fpOk (Nat.le_refl _) hf, q⟩
  · refine wpAny_pyIter_ascii ha ?_
    exact ⟨s1.heap.objs.size, [s1.heap.objs.size], _, Its z, H1, rfl, I1.kept (t' := s1.toks) fun b u e => Heap.get?_push_of_some _ e, turn_ascii z t _, ⟨_, Heap.get?_push_size _ rfl, rfl, rfl⟩, fun b hb => by
      have e : b = s1.heap.objs.size := by simpa using hb
      subst e
      exact I1.fpOk (Nat.le_refl _) hf, q⟩

/-! ### isinstance -/
section
variable {X : Cx}
theorem call_isinst : CallR X (.builtin "isinstance") (fun vs H Q => ∃ x T t b, vs = [x, .ty T] ∧ TyOf X.K H x t ∧ PySem.W.kitOne X.K t (.type T) = some b ∧ Q (.bl b) H) := by
  intro pins s σ H xs us Q I r h
  obtain ⟨x, T, t, b, rfl, ty, e, q⟩ := h
  obtain ⟨u, v, rfl, rx, rv⟩ := r.two
  cases (show v = Value.type T from rv)
  exact isinst_ok I rx ty e fun tk => ⟨.bl b, H, I.tok tk, rfl, q⟩

/-! ### texts -/
theorem strsAre_of {ys : List Str} : ∀ {us : List Value}, Vals (ys.map V.str) us → StrsAre us ys := by
  induction ys with
  | nil => intro us r; rw [List.map_nil] at r; cases r; exact .nil
  | cons y ys ih =>
    intro us r
    rw [List.map_cons] at r
    cases r with
    | cons r1 r2 =>
      obtain ⟨t, e⟩ := r1
      subst e
      exact .cons y t (ih r2)
def rJoin (K : PySem.W.Frag) : V → List V → Hp → VK → Prop := fun x xs H Q => ∃ z p ys, x = .str z ∧ xs = [.ref p] ∧ SqL K H p (ys.map V.str) ∧ (ys.map (·.length)).sum + ys.length * z.length ≤ 16777216 ∧ Q (.str (Txt.join z ys)) H
theorem mt_join : MtR X "str.join" (rJoin X.K) := by
  intro pins s σ H x xs v us Q I rx rs h
  obtain ⟨z, p, ys, rfl, rfl, hq, hz, q⟩ := h
  obtain ⟨t, rfl⟩ := rx
  obtain ⟨u, rfl, ru⟩ := rs.one
  cases ru
  obtain ⟨its, r, pl, _⟩ := I.list hq
  exact join_list pl.isList (strsAre_of (by simpa using r)) hz fun t' k => ⟨.str _, H, I.tok k, ⟨_, rfl⟩, q⟩
def rSlS : V → Option Int → Option Int → Hp → VK → Prop := fun x lo hi H Q => ∃ z, x = .str z ∧ z.length ≤ sizeLine ∧ Q (.str (Txt.slice z lo hi)) H
theorem sl_str : SlR X rSlS := by
  intro pins s σ H x v vl vu lo hi sl Q I rx hs pl pu h
  obtain ⟨z, rfl, hz, q⟩ := h
  obtain ⟨t, rfl⟩ := rx
  refine ⟨"str", _, PySem.F.slot_str_getitem.lookup, typeIs_str _ _ _, ?_⟩
  obtain ⟨o, ho, hc, hd⟩ := hs
  have fin : ∀ {l u : Option Int}, (∀ t' k, EP X pins σ Q (.str (Txt.slice z l u) t') { s with toks := k }) → ∀ t' k, EP X pins σ Q (.str (Txt.slice z l u) t') { s with toks := k } := fun h => h
  cases pl with
  | none =>
    cases pu with
    | none => exact wpAny_getItem_str_slice (l := none) (u := none) (st := none) ⟨o, ho, hc, hd⟩ rfl (post_val_or_str ⟨Nat.le_trans (Txt.slice_le z _ _) hz, fun t' k => ⟨.str _, H, I.tok k, ⟨_, rfl⟩, q⟩⟩)
    | int j uj => exact wpAny_getItem_str_slice (l := none) (u := some (j, uj)) (st := none) ⟨o, ho, hc, hd⟩ rfl (post_val_or_str ⟨Nat.le_trans (Txt.slice_le z _ _) hz, fun t' k => ⟨.str _, H, I.tok k, ⟨_, rfl⟩, q⟩⟩)
  | int i ui =>
    cases pu with
    | none => exact wpAny_getItem_str_slice (l := some (i, ui)) (u := none) (st := none) ⟨o, ho, hc, hd⟩ rfl (post_val_or_str ⟨Nat.le_trans (Txt.slice_le z _ _) hz, fun t' k => ⟨.str _, H, I.tok k, ⟨_, rfl⟩, q⟩⟩)
    | int j uj => exact wpAny_getItem_str_slice (l := some (i, ui)) (u := some (j, uj)) (st := none) ⟨o, ho, hc, hd⟩ rfl (post_val_or_str ⟨Nat.le_trans (Txt.slice_le z _ _) hz, fun t' k => ⟨.str _, H, I.tok k, ⟨_, rfl⟩, q⟩⟩)

/-! ### lists compared, flat items -/
/-! ### sum of a list of ints -/
/-! ### // by any written positive number -/
theorem op_fdivB : OpR X (binaryOp .FloorDiv) (rI (fun _ j => 0 < j ∧ j.natAbs.log2 < 9000) fun i j => .int (i / j)) := opI fun i j _ _ _ _ _ hc q => by
  have h1 : (0 : Int) < j := hc.1
  exact floordiv_int (by omega) (by rw [Int.fdiv_eq_ediv_of_nonneg i (by omega)]; exact q) (.inl (PyProof.noPylong_of_log2 hc.2))
/-! ### tuples put together: whichever is empty -/
end
end L2
namespace L2
open PySem PySem.Spec PyProof.Rows
/-! ### comprehensions whose target is any: a tuple of names -/
def CompWT (Gs : Hp → Prop) (g : TG) (k : Nat) (J : It) (p : Addr) (tt : TT) (te : TE) (cs : St) (Q : VK) (H1 : Hp) : Prop := ∃ W : Nat → Nat → List V → Hp → Prop, (∃ m, W 0 m [] (upd H1 p (.lst []))) ∧ ∀ i m ys H2, W i m ys H2 →
  (J.stop i H2 ∧ Gs H2 ∧ Q (.ref p) H2) ∨ (J.go i H2 ∧ Gs H2 ∧ ∃ N : List V → Hp → Prop, (∀ ys' H', N ys' H' → ∃ m', m' < m ∧ W (i + 1) m' ys' H') ∧
    ∀ v H3, J.yld i H2 v H3 → ∀ vs0 : St, vs0.length = k → g v (vs0 ++ cs) H3 fun σ' H' => (∃ vs' : St, σ' = vs' ++ cs ∧ vs'.length = k) ∧ tt σ' H' fun b H4 => if b = true then te σ' H4 fun y H5 => H5 p = some (.lst ys) ∧ ys.length < sizeLine ∧ N (ys ++ [y]) (upd H5 p (.lst (ys ++ [y]))) else N ys H4)
theorem comp_goT {X : Cx} {use : Option (Value → Sem Unit)} {Post : Value → Shared → Prop} {pins : List (Addr × Obj)} {s : Shared} {σ : St} {H : Hp} {Q : VK} {Gs : Hp → Prop} {hb : Bool} {CW : It → Addr → St → VK → Hp → Prop} {elt iter : Expr} {ifs : List Expr} {tg : Expr} {xs : List Str} {g : TG} {pos : Pos} {sc : Scope} {wi : TI} {tt : TT} {te : TE} (caps : List Nat) (capsN : List Str)
    (hi : PI X tg iter wi hb)
    (hg : ∀ cl C s H ex pn, PG (cxComp X (xs ++ capsN) sc cl C s H ex pn) tg g)
    (ht : ∀ cl C s H ex pn, PTs (cxComp X (xs ++ capsN) sc cl C s H ex pn) ifs tt)
    (he : ∀ cl C s H ex pn, PE (cxComp X (xs ++ capsN) sc cl C s H ex pn) elt te)
    (hkind : sc.kind = .function) (hcell : ∀ y ∈ sc.names, y.2 ≠ .cell) (hnames : ∀ y ∈ sc.names, y.2 = .local → sc.names.lookup y.1 = some .local)
    (hfr : ∀ y ∈ sc.names, y.2 = .free → y.1 ∈ capsN)
    (hcap : ∀ (j : Nat) (y : Str), capsN[j]? = some y → ∃ i : Nat, caps[j]? = some i ∧ X.N[i]? = some y ∧ sc.names.lookup y = some .free ∧ (X.env.kindOf y = some .cell ∨ X.env.kindOf y = some .free)) (hlen : caps.length = capsN.length)
    (hc : X.calm = true ∨ (hb = true ∧ ∀ s H, HOk X.prog X.w H s.heap → Gs H → HandQ X s)) (kW : ∀ J p cs Q H1, CW J p cs Q H1 → CompWT Gs g xs.length J p tt te cs Q H1)
    (hs : ∀ x, foldedSetIterable iter X.env x = pure x) (I : Inv X pins σ H s) (h : tCompC CW wi caps σ H Q)
    (fin : ∀ (C p : Addr) (H5 : Hp) (s5 : Shared), (∃ m, s5.heap.Ns C m) → Inv X pins σ H5 s5 → FpOk X pins H5 C → Q (.ref p) H5 → compPost (model X.prog X.w) X.A X.xe use Post (.ref p) C (.ok .next) s5) :
    wpAny (model X.prog X.w) X.A (comprehension (.ListComp elt [⟨tg, iter, ifs, 0⟩] sc pos) sc X.env (firstIterPos [⟨tg, iter, ifs, 0⟩] pos) (newList []) (firstAsync [⟨tg, iter, ifs, 0⟩]) (firstIter [⟨tg, iter, ifs, 0⟩] X.env) use) Post X.xe s := by
  have hEnd : ∀ s H, HOk X.prog X.w H s.heap → Gs H → EndQ hb X s := by
    rcases hc with hc | ⟨e, k⟩
    · exact fun _ _ _ _ => .inl (I.ok.hd hc)
    · exact fun s H o g => .inr ⟨e, k s H o g⟩
  obtain ⟨cl, hclos, hq2, hq3⟩ := closure_ok (env := X.env) (sc := sc) (fun y hy hf => by
    obtain ⟨j, hj⟩ := List.mem_iff_getElem?.mp (hfr y hy hf)
    obtain ⟨_, _, _, _, k⟩ := hcap j y.1 hj
    exact I.ok.has y.1 k)
  refine wpAny_comprehension_free (use := use) rfl hs hclos hkind hnames (thn (hi pins s σ H _ I h) fun v s1 h1 => thn h1 fun itv s2 h2 => ?_)
  obtain ⟨it, fp, tn, J, H2, e, I2, T, st2, f2, q⟩ := h2
  subst e
  refine wpAny_newObj_type (wpAny_newFunctionEnv hcell (by intro y hy; simp at hy) (fun h1 hns hsb => ?_) hkind)
  dsimp only at hns hsb ⊢
  obtain ⟨W, ⟨m0, w0⟩, turn⟩ := kW _ _ _ _ _ (q s2.heap.objs.size (I2.hok.fresh (Nat.le_refl _)))
  have I3 : Inv X pins σ (upd H2 s2.heap.objs.size (.lst [])) { s2 with heap := s2.heap.push { cls := .type "list", dict := none, data := .seq ([] : List Value).toArray }, toks := s2.toks } := I2.lnew (its := []) (ys := []) (t' := s2.toks) .nil (Nat.zero_le _)
  generalize hH3 : s2.heap.push { cls := .type "list", dict := none, data := .seq ([] : List Value).toArray } = g3 at hns hsb I3 ⊢
  have hsz3 : g3.objs.size = s2.heap.objs.size + 1 := by rw [← hH3, Heap.size_push]
  generalize hHp : upd H2 s2.heap.objs.size (.lst []) = Hp3 at w0 I3
  have hlt : ∀ b o, g3.get? b = some o → b ≠ g3.objs.size := fun b o e => Nat.ne_of_lt (Heap.lt_size e)
  have old : ∀ b o, g3.get? b = some o → h1.get? b = some o := fun b o e => hsb.extBut b o (hlt b o e) (Heap.get?_push_of_some _ e)
  have fpo : ∀ b ∈ fp, ∃ o, g3.get? b = some o := fun b hb => by
    obtain ⟨o, e, _⟩ := T.obj 0 s2.heap st2 b hb
    exact ⟨o, by rw [← hH3]; exact Heap.get?_push_of_some _ e⟩
  have fpC : ∀ b ∈ fp, b ≠ g3.objs.size := fun b hb => by obtain ⟨o, e⟩ := fpo b hb; exact hlt b o e
  have fpH : ∀ b ∈ fp, Hp3 b = none := fun b hb => by
    obtain ⟨o, e, _⟩ := T.obj 0 s2.heap st2 b hb
    rw [← hHp, upd_ne (Nat.ne_of_lt (Heap.lt_size e))]
    exact (f2 b hb).1
  have fsSub : ∀ b, b ≠ X.env.locals → b ∉ X.fs → b ∉ frs X.stack := fun b h1 h2 z => by
    rcases List.mem_cons.mp (I2.stkSub b z) with z | z
    · exact h1 z
    · exact h2 z
  -- the block's context
  have okc : (cxComp X (xs ++ capsN) sc cl g3.objs.size { s2 with heap := g3, toks := s2.toks } Hp3 fp (X.pn ++ pins)).Ok := by
    refine ⟨I3.ok.mod, hkind, I3.ok.glob, I3.ok.blt, Nat.le_refl _, fun y z c e1 e2 => I3.ok.inj y z c (hq2 y c e1) (hq2 z c e2), fun y hy => ?_, fun y c z => absurd z Bool.false_ne_true, I3.ok.hd, I3.ok.frames, .inl rfl, fun b hb => ⟨fpC b hb, fun y c e => (f2 b hb).2.2.2.2.1 y c (hq2 y c e)⟩,
      I3.bs, Nat.le_trans I3.ok.bsz I3.sz, fun b o e hb => ?_, fun b hb => fsSub b (f2 b hb).2.1 (f2 b hb).2.2.1, I3.stack, I3.stkFree⟩
    · have hy' : ∃ k, (relabel sc X.env).names.lookup y = some k ∧ (k = .cell ∨ k = .free) := by
        rcases hy with hy | hy
        · exact ⟨_, hy, .inl rfl⟩
        · exact ⟨_, hy, .inr rfl⟩
      obtain ⟨k, e, hk⟩ := hy'
      obtain ⟨k0, e0, hk0⟩ := relabel_look e
      have em := PySem.mem_of_lookup e0
      rcases hk0 with rfl | ⟨rfl, _⟩
      · rcases hk with rfl | rfl
        · exact absurd rfl (hcell _ em)
        · exact hq3 _ em rfl
      · exact hq3 _ em rfl
    · rcases (f2 b hb).2.2.2.1 with z | z
      · exact I3.ok.noex b o e z
      · have h1 : b < X.base.objs.size := Heap.lt_size e
        have h2 := I3.ok.bsz
        exact absurd (Nat.lt_of_lt_of_le h1 (Nat.le_trans h2 z)) (Nat.lt_irrefl _)
  have Ic : Inv (cxComp X (xs ++ capsN) sc cl g3.objs.size { s2 with heap := g3, toks := s2.toks } Hp3 fp (X.pn ++ pins)) [] (List.replicate xs.length none ++ capV σ caps) Hp3 { s2 with heap := h1, toks := s2.toks + ([] : List (Str × Value)).length } := by
    refine ⟨okc, rfl, I3.bare, Un.kept old, ⟨_, hns, fun i y v e1 e2 e3 => ?_⟩, fun y c e => ?_, I3.hok.fresh (Nat.le_refl _), fun y c e => I3.freeC y c (hq2 y c e), fun p hp => ?_, I3.hok.kept old, ?_⟩
    · by_cases hlt0 : i < xs.length
      · have e2 : (List.replicate xs.length (none : Option V) ++ capV σ caps)[i]? = some (some v) := e2
        rw [List.getElem?_append_left (by rw [List.length_replicate]; exact hlt0), List.getElem?_replicate, if_pos hlt0] at e2
        cases e2
      · have e1 : (xs ++ capsN)[i]? = some y := e1
        have e2 : (List.replicate xs.length (none : Option V) ++ capV σ caps)[i]? = some (some v) := e2
        rw [List.getElem?_append_right (Nat.le_of_not_lt hlt0)] at e1
        rw [List.getElem?_append_right (by rw [List.length_replicate]; exact Nat.le_of_not_lt hlt0), List.length_replicate] at e2
        generalize i - xs.length = j at e1 e2
        have e1' : capsN[j]? = some y := e1
        obtain ⟨i, c1, c2, c3, c4⟩ := hcap j y e1'
        have e2' : (capV σ caps)[j]? = some (some v) := e2
        have hv : σ[i]? = some (some v) := by
          unfold capV at e2'
          rw [List.getElem?_map, c1] at e2'
          have e4 : (σ[i]?).getD none = some v := Option.some.inj e2'
          cases e5 : σ[i]? with
          | none => rw [e5] at e4; cases e4
          | some w => rw [e5] at e4; exact congrArg some e4
        obtain ⟨m, _, hl⟩ := I3.loc
        have vis : Vis X.env.scope y := by
          rcases c4 with z | z
          · exact .inr (.inl z)
          · exact .inr (.inr z)
        obtain ⟨u, r, l⟩ := hl i y v c2 hv vis
        refine ⟨u, r, .inr ⟨relabel_free c3, ?_⟩⟩
        rcases l with ⟨lk, _⟩ | ⟨_, c, ec, o, ho, hd⟩
        · rcases c4 with z | z <;> (rw [lk] at z; cases z)
        · obtain ⟨c', e'⟩ := hq3 _ (PySem.mem_of_lookup c3) rfl
          have e'' := hq2 _ _ e'
          have e3' : (some c' : Option Addr) = some c := e''.symm.trans ec
          cases e3'
          exact ⟨c, e', o, old _ _ ho, hd⟩
    · obtain ⟨v, o, ho, hd⟩ := I3.cell y c (hq2 y c e)
      exact ⟨v, o, old _ _ ho, hd⟩
    · have hp' : p ∈ X.pn ++ pins := by simpa using hp
      obtain ⟨e1, e2, e3, e4, e5⟩ := I3.pin p hp'
      exact ⟨old _ _ e1, e2, hlt _ _ e1, fsSub _ e3 e4, e5⟩
    · show (List.replicate xs.length (none : Option V) ++ capV σ caps).length = (xs ++ capsN).length
      unfold capV
      rw [List.length_append, List.length_append, List.length_replicate, List.length_map, hlen]
  have stat : ∀ {H' : Hp}, (∀ b ∈ fp, H' b = none) → ∀ b ∈ fp, FpOk (cxComp X (xs ++ capsN) sc cl g3.objs.size { s2 with heap := g3, toks := s2.toks } Hp3 fp (X.pn ++ pins)) [] H' b := fun hn b hb =>
    ⟨hn b hb, fpC b hb, fsSub b (f2 b hb).2.1 (f2 b hb).2.2.1, .inl hb, fun y c e => (f2 b hb).2.2.2.2.1 y c (hq2 y c e), fun p hp => (f2 b hb).2.2.2.2.2 p (by simpa using hp)⟩
  -- behind the block
  have back : ∀ {pins5 : List (Addr × Obj)} {σ5 : St} {H5 : Hp} {s5 : Shared} {h' : Heap}, Inv (cxComp X (xs ++ capsN) sc cl g3.objs.size { s2 with heap := g3, toks := s2.toks } Hp3 fp (X.pn ++ pins)) pins5 σ5 H5 s5 → Heap.SameBut g3.objs.size s5.heap h' → Inv X pins σ H5 { s5 with heap := h' } := by
    intro pins5 σ5 H5 s5 h' I5 sb
    have un : Un (frs X.stack) fp Hp3 H5 g3 s5.heap := I5.base
    have fr : H5 g3.objs.size = none := I5.free
    have un' : Un (frs X.stack) fp Hp3 H5 g3 h' := ⟨fun b o e n hb hx => (sb.2 b (hlt b o e)).trans (un.keep b o e n hb hx),
      fun b o e n hb hx => by obtain ⟨sl, z⟩ := un.slot b o e n hb hx; exact ⟨sl, (sb.2 b (hlt b o e)).trans z⟩, un.free,
      fun b o e hx => by obtain ⟨o', z⟩ := un.there b o e hx; exact ⟨o', (sb.2 b (hlt b o e)).trans z⟩, un.tups, un.frzs, un.tbls⟩
    have hok : HOk X.prog X.w H5 h' := fun b u e => (I5.hok b u e).stay (fun c v hc' z => (sb.2 c (by
      rintro rfl
      rcases hc' with hc' | hc'
      · rw [hc', e] at fr; cases fr
      · rw [fr] at hc'; cases hc')).trans z) (fun _ z => z) (fun _ _ z => z)
    obtain ⟨hh, g, d, t, os⟩ := s5
    have eo : os = s2.os := I5.os
    subst eo
    have z := I3.call (h' := h') (g' := g) (d' := d) (t' := t) (ch := fp) un' hok I5.bare fun b hb => ⟨(f2 b hb).2.2.2.1, (f2 b hb).2.1, (f2 b hb).2.2.2.2.1, (f2 b hb).2.2.2.2.2⟩
    exact z
  have st4 : tn 0 h1 := T.keep 0 s2.heap h1 st2 fun b hb o e => old b o (by rw [← hH3]; exact Heap.get?_push_of_some _ e)
  have loop : codeAny (model X.prog X.w) X.A (.compLoop (.ListComp elt [⟨tg, iter, ifs, 0⟩] sc pos) 0 (.ref it) (.ref s2.heap.objs.size) (compEnvC sc cl g3.objs.size X.env))
      (compPost (model X.prog X.w) X.A X.xe use Post (.ref s2.heap.objs.size) g3.objs.size) { s2 with heap := h1, toks := s2.toks + ([] : List (Str × Value)).length } := by
    refine comp_loop (fun n s' => ∃ i ys v0 H', v0.length = xs.length ∧ Inv (cxComp X (xs ++ capsN) sc cl g3.objs.size { s2 with heap := g3, toks := s2.toks } Hp3 fp (X.pn ++ pins)) [] (v0 ++ capV σ caps) H' s' ∧ tn i s'.heap ∧ (∀ b ∈ fp, H' b = none) ∧ W i n ys H') ?_ m0 ⟨0, [], List.replicate xs.length none, Hp3, List.length_replicate, Ic, st4, fpH, w0⟩
    rintro n s' ⟨i, ys, v0, H', hv0, I', st', fr', w'⟩
    rcases turn i n ys H' w' with ⟨stop, gs, qn⟩ | ⟨go, gs, N, hN, step⟩
    · refine thn (T.done (cxComp X (xs ++ capsN) sc cl g3.objs.size { s2 with heap := g3, toks := s2.toks } Hp3 fp (X.pn ++ pins)) rfl rfl rfl s' (hEnd s' H' I'.hok gs) i [] _ H' NoX I' (stat fr') st' stop) fun r s5 ⟨hr, I5⟩ => ?_
      subst hr
      obtain ⟨m, hn, _⟩ := id I5.loc
      exact fin g3.objs.size s2.heap.objs.size H' s5 ⟨m, hn⟩ (back (h' := s5.heap) I5 ⟨rfl, fun _ _ => rfl⟩) (I3.fpOk (Nat.le_refl _) I5.free) qn
    · refine thn (T.item (cxComp X (xs ++ capsN) sc cl g3.objs.size { s2 with heap := g3, toks := s2.toks } Hp3 fp (X.pn ++ pins)) rfl rfl rfl s' (hEnd s' H' I'.hok gs) i [] _ H' NoX I' (stat fr') st' go) fun r s5 ⟨u, hr, h5⟩ => ?_
      subst hr
      refine thn h5 fun _ s6 ⟨v, H6, I6, r6, y6, st6, fr6⟩ => ?_
      have I6' := I6.pinned (stat fr6) (T.obj _ _ st6)
      have again : ∀ {σ7 v7 : St} {H7 : Hp} {s7 : Shared} {ys' : List V}, σ7 = v7 ++ capV σ caps → v7.length = xs.length → Inv (cxComp X (xs ++ capsN) sc cl g3.objs.size { s2 with heap := g3, toks := s2.toks } Hp3 fp (X.pn ++ pins)) ([] ++ pinsAt fp s6.heap) σ7 H7 s7 → N ys' H7 →
          ∃ m, m < n ∧ ∃ i ys v0 H', v0.length = xs.length ∧ Inv (cxComp X (xs ++ capsN) sc cl g3.objs.size { s2 with heap := g3, toks := s2.toks } Hp3 fp (X.pn ++ pins)) [] (v0 ++ capV σ caps) H' s7 ∧ tn i s7.heap ∧ (∀ b ∈ fp, H' b = none) ∧ W i m ys H' := by
        intro σ7 v7 H7 s7 ys' eσ hv7 I7 n7
        subst eσ
        obtain ⟨m', hm, w7⟩ := hN ys' H7 n7
        refine ⟨m', hm, i + 1, ys', v7, H7, hv7, I7.unpinned, T.keep _ _ _ st6 fun b hb o e => (I7.pin (b, o) (List.mem_append_right _ (List.mem_append_right _ (mem_pinsAt hb e)))).1, fun b hb => ?_, w7⟩
        obtain ⟨o, e, d⟩ := T.obj _ _ st6 b hb
        exact (I7.pin (b, o) (List.mem_append_right _ (List.mem_append_right _ (mem_pinsAt hb e)))).2.1
      refine thn (hg _ _ _ _ _ _ _ s6 _ H6 v u _ I6' r6 (step v H6 y6 v0 hv0)) fun _ s7 ⟨σ7, H7, I7, ⟨v7, e7, hv7⟩, q7⟩ => ?_
      refine thn (ht _ _ _ _ _ _ _ s7 _ H7 _ I7 q7) fun ok s8 ⟨H8, I8, q8⟩ => ?_
      cases ok with
      | false => exact again e7 hv7 I8 q8
      | true =>
        refine thn (he _ _ _ _ _ _ _ s8 _ H8 _ I8 q8) fun y s9 ⟨yv, H9, I9, r9, hp9, hz9, n9⟩ => ?_
        refine thn (mt_append (X := cxComp X (xs ++ capsN) sc cl g3.objs.size { s2 with heap := g3, toks := s2.toks } Hp3 fp (X.pn ++ pins)) _ s9 _ H9 (.ref s2.heap.objs.size) [yv] (.ref s2.heap.objs.size) [y] (fun _ H' => H' = upd H9 s2.heap.objs.size (.lst (ys ++ [yv]))) I9 rfl (.cons r9 .nil)
          ⟨s2.heap.objs.size, ys, yv, rfl, rfl, hp9, hz9, rfl⟩) fun _ s10 ⟨_, H10, I10, _, e10⟩ => ?_
        subst e10
        exact again e7 hv7 I10 n9
  exact codeAny_compStart_list loop (T.self X.A 0 _ _ _ st4 loop)

theorem pe_compT {X : Cx} {Gs : Hp → Prop} {hb : Bool} {CW : It → Addr → St → VK → Hp → Prop} {elt iter : Expr} {ifs : List Expr} {tg : Expr} {xs : List Str} {g : TG} {pos : Pos} {sc : Scope} {wi : TI} {tt : TT} {te : TE} (caps : List Nat) (capsN : List Str)
    (hi : PI X tg iter wi hb)
    (hg : ∀ cl C s H ex pn, PG (cxComp X (xs ++ capsN) sc cl C s H ex pn) tg g)
    (ht : ∀ cl C s H ex pn, PTs (cxComp X (xs ++ capsN) sc cl C s H ex pn) ifs tt)
    (he : ∀ cl C s H ex pn, PE (cxComp X (xs ++ capsN) sc cl C s H ex pn) elt te)
    (hkind : sc.kind = .function) (hcell : ∀ y ∈ sc.names, y.2 ≠ .cell) (hnames : ∀ y ∈ sc.names, y.2 = .local → sc.names.lookup y.1 = some .local)
    (hfr : ∀ y ∈ sc.names, y.2 = .free → y.1 ∈ capsN)
    (hcap : ∀ (j : Nat) (y : Str), capsN[j]? = some y → ∃ i : Nat, caps[j]? = some i ∧ X.N[i]? = some y ∧ sc.names.lookup y = some .free ∧ (X.env.kindOf y = some .cell ∨ X.env.kindOf y = some .free)) (hlen : caps.length = capsN.length)
    (hc : X.calm = true ∨ (hb = true ∧ ∀ s H, HOk X.prog X.w H s.heap → Gs H → HandQ X s)) (kW : ∀ J p cs Q H1, CW J p cs Q H1 → CompWT Gs g xs.length J p tt te cs Q H1)
    (hs : ∀ x, foldedSetIterable iter X.env x = pure x := by intro _; rfl) :
    PE X (.ListComp elt [⟨tg, iter, ifs, 0⟩] sc pos) (tCompC CW wi caps) := by
  intro pins s σ H Q I h
  rw [eval_ListComp]
  exact comp_goT (use := none) caps capsN hi hg ht he hkind hcell hnames hfr hcap hlen hc kW hs I h fun C p H5 s5 ⟨m, hn⟩ I5 f q => ⟨m, hn, fun h' sb => ⟨.ref p, H5, I5.turned (t' := s5.toks) (fun b o hb e => (sb.2 b hb).trans e) f.1 f.2.1 f.2.2.2.1 f.2.2.2.2.1 f.2.2.2.2.2, rfl, q⟩⟩
end L2
namespace L2
open PySem PySem.Spec PyProof.Rows

/-! ### an exception of an own class: its object, its traceback -/
/-- e is an instance of the exception class at C, its dict at dd, its traceback tb -/
def ExAt (h : Heap) (e C : Addr) (dd : Option Addr) (tb : Value) : Prop := ∃ vs sl, h.get? e = some ⟨.ref C, dd, .fields vs, sl⟩ ∧ vs.size = 6 ∧ vs[1]? = some tb ∧ vs[2]? = some .none
/-- the traceback's first entry: in flight at fl -/
def TbAt (h : Heap) (T : Addr) (fl : Value) : Prop := ∃ oT ts, h.get? T = some oT ∧ oT.data = .fields ts ∧ ts[3]? = some fl
theorem ExAt.lt {h : Heap} {e C : Addr} {dd : Option Addr} {tb : Value} (x : ExAt h e C dd tb) : e < h.objs.size := by obtain ⟨_, _, q, _⟩ := x; exact Heap.lt_size q
theorem ExAt.keep {h h' : Heap} {e C : Addr} {dd : Option Addr} {tb : Value} (x : ExAt h e C dd tb) (k : ∀ o, h.get? e = some o → h'.get? e = some o) : ExAt h' e C dd tb := by
  obtain ⟨vs, sl, q, r⟩ := x; exact ⟨vs, sl, k _ q, r⟩
section
variable {M : Model} {A : Around} {E : Value → Shared → Prop} {s : Shared}
/-- a field of the exception is put -/
theorem ExAt.put {h : Heap} {e C : Addr} {dd : Option Addr} {tb : Value} (x : ExAt h e C dd tb) (v : Value) : ExAt (h.update e (Obj.mapFields (·.setIfInBounds 1 v))) e C dd v := by
  obtain ⟨vs, sl, q, z, r, r2⟩ := x
  refine ⟨vs.setIfInBounds 1 v, sl, ?_, by simpa using z, by simp [z], by rw [Array.getElem?_setIfInBounds_ne (by decide)]; exact r2⟩
  rw [Heap.get?_update_self _ q rfl]
  rfl
theorem TbAt.put {h : Heap} {T : Addr} {fl : Value} (x : TbAt h T fl) (v : Value) : TbAt (h.update T (Obj.mapFields (·.setIfInBounds 3 v))) T v := by
  obtain ⟨oT, ts, q, d, r⟩ := x
  have hz := (Array.getElem?_eq_some_iff.mp r).1
  have d' := Obj.data_mapFields d (·.setIfInBounds 3 v)
  exact ⟨_, _, Heap.get?_update_self _ q (Obj.isFreed_of_fields d'), d', by simp [hz]⟩
theorem setFlight_to {e C T : Addr} {dd : Option Addr} {fl : Value} {fr : Option Addr} {Q : Unit → Shared → Prop} (x : ExAt s.heap e C dd (.ref T)) (t : TbAt s.heap T fl)
    (h : Q () { s with heap := s.heap.update T (Obj.mapFields (·.setIfInBounds 3 (fr.elim .none fun f => rawInt f))) }) : wpAny M A (setFlight (.ref e) fr) Q E s := by
  obtain ⟨vs, sl, q, z, r, _⟩ := x
  obtain ⟨oT, ts, qT, dT, rT⟩ := t
  unfold setFlight
  refine wpAny_bind (wpAny_field q rfl r ?_)
  rw [if_pos (show (Value.ref T != Value.none) = true from by simp)]
  exact wpAny_setField qT dT (Array.getElem?_eq_some_iff.mp rT).1 h
theorem setFlight_ok {e C T : Addr} {dd : Option Addr} {fl : Value} {Q : Unit → Shared → Prop} (x : ExAt s.heap e C dd (.ref T)) (t : TbAt s.heap T fl)
    (h : Q () { s with heap := s.heap.update T (Obj.mapFields (·.setIfInBounds 3 .none)) }) : wpAny M A (setFlight (.ref e) none) Q E s := setFlight_to (fr := none) x t h
/-- what noteFrame and the landing behind it leave: all but e, the old entry and the frames' slots is kept; a new entry stands, nothing in flight -/
structure Noted (l : List Env) (e C : Addr) (dd : Option Addr) (tb0 fl : Value) (h h' : Heap) (T : Addr) : Prop where
  ex : ExAt h' e C dd (.ref T)
  tb : TbAt h' T fl
  new : tb0 = .ref T ∨ h.objs.size ≤ T
  keep : ∀ b o, b ≠ e → (∀ T0, tb0 = .ref T0 → b ≠ T0) → b ∉ frs l → h.get? b = some o → h'.get? b = some o
  slot : ∀ b o, b ≠ e → (∀ T0, tb0 = .ref T0 → b ≠ T0) → h.get? b = some o → ∃ sl, h'.get? b = some { o with slots := sl }
theorem new_entry {base : Heap} {env : Env} {outer : List Env} {L e C : Addr} {dd : Option Addr} {head tb : Value} {hadNext : Bool} {Q : Unit → Shared → Prop} (hfr : A.frames = some (env :: outer)) (hl : s.heap.FunFrames base (env :: outer))
    (hf : env.frame = some L) (x : ExAt s.heap e C dd tb)
    (h : ∀ h' T, ExAt h' e C dd (.ref T) → TbAt h' T (rawInt L) → s.heap.objs.size ≤ T → (∀ b o, b ≠ e → b ∉ frs (env :: outer) → s.heap.get? b = some o → h'.get? b = some o) →
      (∀ b o, b ≠ e → s.heap.get? b = some o → ∃ sl, h'.get? b = some { o with slots := sl }) → Q () { s with heap := h' }) :
    wpAny M A (do let a ← frameOf env; let pl ← entryPlaceOf L hadNext; let b ← EntryCells.newEntry head a .none (rawInt L) .none pl; setField (.ref e) 1 b) Q E s := by
  have hene : e ∉ (env :: outer).filterMap (·.frame) := fun hm => by
    obtain ⟨vs, sl, q, _⟩ := x
    obtain ⟨_, o, ho, hnf⟩ := hl.mem hm
    rw [q] at ho
    cases ho
    exact hnf vs rfl
  refine wpAny_bind (wpAny_frameOf_fun hfr hl hf fun h1 s1 => ?_)
  refine wpAny_bind (wpAny_entryPlaceOf fun pl hpl => ?_)
  unfold EntryCells.newEntry newFields
  refine wpAny_bind (wpAny_newObj_type ?_ (hpl.sizeOk5 _ _ _ _ _))
  have x1 : ExAt h1 e C dd tb := x.keep fun o q => (s1.2.1 e hene).trans q
  have hsz : h1.objs.size = s.heap.objs.size := s1.1
  obtain ⟨vs, sl, q, z, r, _⟩ := id x1
  have q2 := Heap.get?_push_of_some (h := h1) { cls := .type "traceback", dict := none, data := .fields ([head, .ref L, .none, rawInt L, .none] ++ (if pl.isEmpty then List.replicate 6 Value.none else pl)).toArray } q
  refine wpAny_setField q2 rfl (by rw [z]; decide) ?_
  have hTe : h1.objs.size ≠ e := Nat.ne_of_gt x1.lt
  have x2 : ExAt (h1.push { cls := .type "traceback", dict := none, data := .fields ([head, .ref L, .none, rawInt L, .none] ++ (if pl.isEmpty then List.replicate 6 Value.none else pl)).toArray }) e C dd tb := x1.keep fun o e => Heap.get?_push_of_some _ e
  have kp : ∀ b o, b ≠ e → h1.get? b = some o → ((h1.push { cls := .type "traceback", dict := none, data := .fields ([head, .ref L, .none, rawInt L, .none] ++ (if pl.isEmpty then List.replicate 6 Value.none else pl)).toArray }).update e (Obj.mapFields (·.setIfInBounds 1 (Value.ref h1.objs.size)))).get? b = some o := fun b o hb hq => by
    rw [Heap.get?_update_other _ _ (Ne.symm hb)]
    exact Heap.get?_push_of_some _ hq
  refine h _ h1.objs.size (x2.put _) ⟨_, _, (Heap.get?_update_other _ _ (Ne.symm hTe)).trans (Heap.get?_push_size h1 rfl), rfl, ?_⟩ (by rw [hsz]; exact Nat.le_refl _) (fun b o hb hn hq => kp b o hb ((s1.2.1 b hn).trans hq)) (fun b o hb hq => ?_)
  · simp
  · obtain ⟨sl', hs⟩ := s1.2.2 b o hq
    exact ⟨sl', kp b _ hb hs⟩
/-- noteFrame: behind a first raise, behind a callee's, or again in this frame -/
theorem note_ok {base : Heap} {env : Env} {outer : List Env} {L e C : Addr} {dd : Option Addr} {tb : Value} {Q : Unit → Shared → Prop} (hfr : A.frames = some (env :: outer)) (hl : s.heap.FunFrames base (env :: outer))
    (hf : env.frame = some L) (x : ExAt s.heap e C dd tb) (ht : tb = .none ∨ ∃ T0, tb = .ref T0 ∧ T0 ≠ e ∧ (TbAt s.heap T0 .none ∨ TbAt s.heap T0 (rawInt L)))
    (h : ∀ h' T, T ≠ e → Noted (env :: outer) e C dd tb (rawInt L) s.heap h' T → Q () { s with heap := h' }) :
    wpAny M A (noteFrame (.ref e) env) Q E s := by
  have fin : ∀ {h1 h2 : Heap} {T : Addr}, h1.objs.size = s.heap.objs.size → (∀ b o, b ≠ e → (∀ T0, tb = .ref T0 → b ≠ T0) → s.heap.get? b = some o → h1.get? b = some o) →
      ExAt h2 e C dd (.ref T) → TbAt h2 T (rawInt L) → h1.objs.size ≤ T → (∀ b o, b ≠ e → b ∉ frs (env :: outer) → h1.get? b = some o → h2.get? b = some o) →
      (∀ b o, b ≠ e → h1.get? b = some o → ∃ sl, h2.get? b = some { o with slots := sl }) → Q () { s with heap := h2 } := by
    intro h1 h2 T hsz k1 x2 t2 hT k2 s2
    exact h _ T (Nat.ne_of_gt (Nat.lt_of_lt_of_le x.lt (by rw [← hsz]; exact hT))) ⟨x2, t2, .inr (by rw [← hsz]; exact hT), fun b o hb hb0 hn q => k2 b o hb hn (k1 b o hb hb0 q), fun b o hb hb0 q => s2 b o hb (k1 b o hb hb0 q)⟩
  unfold noteFrame
  simp only [hf]
  obtain ⟨vs, sl, q, z, r, _⟩ := id x
  refine wpAny_bind (wpAny_field q rfl r ?_)
  rcases ht with rfl | ⟨T0, rfl, hne, t0 | t0⟩
  · rw [if_neg (by decide)]
    exact new_entry hfr hl hf x fun h' T x' t' hT k' s' => fin rfl (fun b o _ _ q => q) x' t' hT k' s'
  · rw [if_pos (show (Value.ref T0 != Value.none) = true from by simp)]
    obtain ⟨oT, ts, qT, dT, rT⟩ := id t0
    refine wpAny_bind (wpAny_field qT dT rT ?_)
    rw [if_neg (show ¬ ((Value.none == rawInt L) = true) from by simp [rawInt])]
    refine wpAny_bind (wpAny_setField qT dT (Array.getElem?_eq_some_iff.mp rT).1 ?_)
    have oth : ∀ b, b ≠ T0 → (s.heap.update T0 (Obj.mapFields (·.setIfInBounds 3 Value.none))).get? b = s.heap.get? b := fun b hb => Heap.get?_update_other _ _ (Ne.symm hb)
    have x1 : ExAt (s.heap.update T0 (Obj.mapFields (·.setIfInBounds 3 Value.none))) e C dd (.ref T0) := x.keep fun o q => (oth e (Ne.symm hne)).trans q
    have hl1 : (s.heap.update T0 (Obj.mapFields (·.setIfInBounds 3 Value.none))).FunFrames base (env :: outer) := hl.of_keeps fun b o hb hnf => ⟨o, (oth b (fun z => by
      rw [z, qT] at hb
      cases hb
      exact hnf ts dT)).trans hb, rfl⟩
    have hsz : (s.heap.update T0 (Obj.mapFields (·.setIfInBounds 3 Value.none))).objs.size = s.heap.objs.size := by simp [Heap.update]
    exact new_entry (s := { s with heap := s.heap.update T0 (Obj.mapFields (·.setIfInBounds 3 Value.none)) }) hfr hl1 hf x1 fun h' T x' t' hT k' s' => fin hsz (fun b o _ hb0 q => (oth b (hb0 T0 rfl)).trans q) x' t' hT k' s'
  · rw [if_pos (show (Value.ref T0 != Value.none) = true from by simp)]
    obtain ⟨oT, ts, qT, dT, rT⟩ := id t0
    refine wpAny_bind (wpAny_field qT dT rT ?_)
    rw [if_pos (show (rawInt L == rawInt L) = true from by simp)]
    exact wpAny_pure (h s.heap T0 hne ⟨x, t0, .inl rfl, fun b o _ _ _ q => q, fun b o _ _ q => ⟨o.slots, q⟩⟩)
/-- the flight of the head entry is put -/
theorem Noted.fly {l : List Env} {e C : Addr} {dd : Option Addr} {tb0 fl v : Value} {h h' : Heap} {T : Addr} (N : Noted l e C dd tb0 fl h h' T) (hne : T ≠ e) : Noted l e C dd tb0 v h (h'.update T (Obj.mapFields (·.setIfInBounds 3 v))) T := by
  have low : ∀ b o, (∀ T0, tb0 = .ref T0 → b ≠ T0) → h.get? b = some o → T ≠ b := fun b o hb q => by
    rcases N.new with z | z
    · exact (hb T z).symm
    · exact Nat.ne_of_gt (Nat.lt_of_lt_of_le (Heap.lt_size q) z)
  refine ⟨N.ex.keep fun o q => (Heap.get?_update_other _ _ hne).trans q, N.tb.put v, N.new, fun b o hb hb0 hn q => ?_, fun b o hb hb0 q => ?_⟩
  · exact (Heap.get?_update_other _ _ (low b o hb0 q)).trans (N.keep b o hb hb0 hn q)
  · obtain ⟨sl, q2⟩ := N.slot b o hb hb0 q
    exact ⟨sl, (Heap.get?_update_other _ _ (low b o hb0 q)).trans q2⟩
/-- noteFrame, then nothing in flight -/
theorem noted_ok {base : Heap} {env : Env} {outer : List Env} {L e C : Addr} {dd : Option Addr} {tb : Value} {Q : Unit → Shared → Prop} (hfr : A.frames = some (env :: outer)) (hl : s.heap.FunFrames base (env :: outer))
    (hf : env.frame = some L) (x : ExAt s.heap e C dd tb) (ht : tb = .none ∨ ∃ T0, tb = .ref T0 ∧ T0 ≠ e ∧ (TbAt s.heap T0 .none ∨ TbAt s.heap T0 (rawInt L)))
    (h : ∀ h' T, Noted (env :: outer) e C dd tb .none s.heap h' T → Q () { s with heap := h' }) :
    wpAny M A (noteFrame (.ref e) env) (fun _ s2 => wpAny M A (setFlight (.ref e) none) Q E s2) E s :=
  note_ok hfr hl hf x ht fun h' T hne N => setFlight_ok (s := { s with heap := h' }) N.ex N.tb (h _ T (N.fly hne))
/-- noteFrame, then in flight here: an exception comes through a loop of this frame -/
theorem noted_here {base : Heap} {env : Env} {outer : List Env} {L e C : Addr} {dd : Option Addr} {tb : Value} {Ex : Value → Shared → Prop} (hfr : A.frames = some (env :: outer)) (hl : s.heap.FunFrames base (env :: outer))
    (hf : env.frame = some L) (x : ExAt s.heap e C dd tb) (ht : tb = .none ∨ ∃ T0, tb = .ref T0 ∧ T0 ≠ e ∧ (TbAt s.heap T0 .none ∨ TbAt s.heap T0 (rawInt L)))
    (h : ∀ h' T, Noted (env :: outer) e C dd tb (rawInt L) s.heap h' T → Ex (.ref e) { s with heap := h' }) :
    notedBy M A env (cameBackBy M A env Ex) (.ref e) s := by
  refine note_ok hfr hl hf x ht fun h' T hne N => ?_
  obtain ⟨vs, sl, q, z, r, _⟩ := id N.ex
  refine wpAny_bind (wpAny_field (s := { s with heap := h' }) q rfl r ?_)
  rw [if_neg (show ¬ ((Value.ref T == Value.none) = true) from by simp)]
  rw [hf]
  exact setFlight_to (s := { s with heap := h' }) (fr := some L) N.ex N.tb (h _ T (N.fly hne))
end
end L2
namespace L2
open PySem PySem.Spec PyProof.Rows PySem.W PySem.Builtin PySem.Builtin.ObjectAttr

/-! ### a field of an exception of an own class is stored, read -/
def tailVE : List Value := [.type "ValueError", .type "Exception", .type "BaseException", .type "object"]
/-- own classes, then ValueError's line -/
inductive ExcMro : List Value → Prop where
  | ve : ExcMro tailVE
  | own {l : List Value} (c : Addr) (h : ExcMro l) : ExcMro (.ref c :: l)
theorem refuse_tail (self : Value) : refuseLoop self "__setattr__" tailVE = pure () := by kernel_rfl
theorem ExcMro.passes {l : List Value} (h : ExcMro l) (self : Value) : refuseLoop self "__setattr__" l = pure () := by
  induction h with
  | ve => exact refuse_tail self
  | own c _ ih => rw [refuseLoop_ref]; exact ih
theorem ExcMro.has {l : List Value} (h : ExcMro l) : l.contains (.type "object") = true ∧ l.contains (.type "BaseException") = true ∧ l.contains (.type "ValueError") = true ∧ l.isEmpty = false := by
  induction h with
  | ve => decide +kernel
  | own c _ ih =>
    obtain ⟨i1, i2, i3, _⟩ := ih
    exact ⟨by rw [List.contains_cons, i1, Bool.or_true], by rw [List.contains_cons, i2, Bool.or_true], by rw [List.contains_cons, i3, Bool.or_true], rfl⟩
/-- what of the text an exception class must have -/
structure XCls (K : Frag) (C : Addr) : Prop where
  cd : ∃ cd, clsIn K C = some cd ∧ ExcMro cd.mro ∧ cd.hasDict = true
  sa : findIn K (.ref C) "__setattr__" = some (some (.builtin "object.__setattr__"))
  ga : findIn K (.ref C) "__getattribute__" = some (some (.builtin "BaseException.__getattribute__"))
  gt : findIn K (.ref C) "__getattr__" = some none
  ca : findIn K (.ref C) "__class__" = some (some (.builtin "object.__class__"))
  hn : specialIn K (.builtin "object.__class__") "__get__" = some (some (.builtin "getset_descriptor.__get__"))
  tk : takesIn K (.builtin "object.__class__") = some true

section
variable {prog : Program} {w : World} {A : Around} {E : Value → Shared → Prop} {s : Shared} {K : Frag} {x C : Addr} {ox : Obj} {od : Option Obj} {R : Result → Shared → Prop}
theorem XCls.obj (c : XCls K C) (X : K.In s.heap) (I : InstAt s.heap x ox C od) (T : String) (hT : T = "object" ∨ T = "BaseException") : Looks (model prog w) s.heap (isInstance (.ref x) (.type T)) true := by
  obtain ⟨cd, hc, hm, _⟩ := c.cd
  obtain ⟨h1, h2, _, h4⟩ := hm.has
  refine I.type.andThen (looks_mroIn X ?_)
  unfold mroIn
  rw [hc, Option.bind_some, if_neg (by rw [h4]; decide)]
  rcases hT with rfl | rfl
  · rw [h1]
  · rw [h2]
theorem osa_exc {name : Str} {tk : Tok} {v : Value} (X : K.In s.heap) (I : InstAt s.heap x ox C od) (c : XCls K C) (ht : takerIn K C name = some none)
    (h : ∀ b, wpAny (model prog w) A.in1 (storeInOwnDict (.ref x) (.ref C) (.str name tk) name v b)
      (fun fin s' => match fin with | .done f => R (.ok f) s' | .again c' => c'.quiet = true ∧ codeAny (model prog w) A c' R s') (fun e s' => R (.error e) s') s) :
    codeAny (model prog w) A (.call (.builtin "object.__setattr__") ⟨[.ref x, .str name tk, v], []⟩) R s := by
  have SF := PySem.F.store_object
  obtain ⟨cd, hc, ho, _⟩ := id c.cd
  refine codeAny_call_builtin SF.slot.plain SF.entry (@check_slot (model prog w) _ _ s "object.__setattr__" "object" "__setattr__" (.ref x) [.str name tk, v] [] _ SF.kind SF.split (c.obj X I "object" (.inl rfl)) (SF.args (.ref x) (.str name tk) v) ?_)
  obtain ⟨attr, ha, hr⟩ := Option.bind_eq_some_iff.mp ht
  have hm : Looks (model prog w) s.heap (mroOf (.ref C)) cd.mro := (looks_clsIn X hc).andThen .now
  have L3 : Looks (model prog w) s.heap (storeTaker? attr) none := by
    cases attr with
    | none => exact .now
    | some a =>
      obtain ⟨b, hb, hz⟩ := Option.map_eq_some_iff.mp hr
      refine (looks_takesIn X hb).andThen ?_
      cases b with
      | false => exact .now
      | true => cases hz
  rw [osa_eq, refuse_eq]
  refine wpAny_bind (wpAny_bind (I.type.here (wpAny_bind (hm.here ?_))))
  rw [ho.passes]
  refine wpAny_pure (wpAny_bind (I.type.here (wpAny_bind ((looks_findIn X ha).here (wpAny_bind (L3.here ?_))))))
  exact h _
/-- x.f = v: the first field of the exception x: its dict is made -/
theorem exc_set_first {vs : Array Value} {sl : Array (Option Value)} {name : Str} {v : Value} {Q : Unit → Shared → Prop} (X : K.In s.heap) (c : XCls K C) (ht : takerIn K C name = some none) (hx : s.heap.get? x = some ⟨.ref C, none, .fields vs, sl⟩)
    (h : ∀ h' dx, s.heap.objs.size ≤ dx → h'.get? x = some ⟨.ref C, some dx, .fields vs, sl⟩ → h'.Ns1 dx (fun y => if y = name then some v else none) → (∀ b o, b ≠ x → s.heap.get? b = some o → h'.get? b = some o) → Q () { s with heap := h', toks := s.toks + 2 }) :
    wpAny (model prog w) A (setAttr (.ref x) name v) Q E s := by
  have I : InstAt s.heap x ⟨.ref C, none, .fields vs, sl⟩ C none := ⟨hx, rfl, rfl, True.intro⟩
  refine set_plain X I c.sa (osa_exc (s := { s with toks := s.toks + 1 }) X I c ht fun b => ?_)
  obtain ⟨cd, hc, _, hd'⟩ := c.cd
  refine wpAny_bind (wpAny_pure (wpAny_bind (wpAny_bind (wpAny_loadPart hx (wpAny_bind (Looks.here (s := { s with toks := s.toks + 1 }) (looks_clsIn X hc) ?_))))))
  rw [hd']
  have hne : s.heap.objs.size ≠ x := Nat.ne_of_gt (Heap.lt_size hx)
  have hx1 := Heap.get?_push_of_some (h := s.heap) ({ cls := .type "dict", data := .dict #[] } : Obj) hx
  have hx2 : ((s.heap.push { cls := .type "dict", data := .dict #[] }).update x fun o => { o with dict := some s.heap.objs.size }).get? x = some ⟨.ref C, some s.heap.objs.size, .fields vs, sl⟩ := by rw [Heap.get?_update_self _ hx1 rfl]
  have hd2 : ((s.heap.push { cls := .type "dict", data := .dict #[] }).update x fun o => { o with dict := some s.heap.objs.size }).get? s.heap.objs.size = some { cls := .type "dict", data := .dict #[] } := by
    rw [Heap.get?_update_other _ _ (Ne.symm hne)]
    exact Heap.get?_push_size _ rfl
  have n2 : ((s.heap.push { cls := .type "dict", data := .dict #[] }).update x fun o => { o with dict := some s.heap.objs.size }).Ns1 s.heap.objs.size (fun _ => none) :=
    Heap.Ns1.of_empty ⟨_, #[], _, hd2, rfl, (fun e he => absurd he (by simp)), fun _ => rfl⟩
  refine wpAny_bind (wpAny_alloc (wpAny_bind (wpAny_update hx1 (wpAny_pure (a := some s.heap.objs.size) (wpAny_bind (wpAny_pure (wpAny_bind ?_)))))))
  refine wpAny_nsSet1 (s := { s with toks := s.toks + 1, heap := (s.heap.push { cls := .type "dict", data := .dict #[] }).update x fun o => { o with dict := some s.heap.objs.size } }) n2 fun h' hn2 hs2 => ?_
  obtain ⟨oD, esD, epD, hoD, hdD, hcD⟩ := hn2.count (PySem.Within.cons (ns := []) name v (fun y hy => absurd rfl hy))
  refine wpAny_bind (wpAny_lookBehind hoD (by rw [hdD]; exact pastItsLine_dict (Nat.le_trans hcD (by show 1 ≤ sizeLine + 1; rw [sizeLine_eq]; omega))) ?_)
  refine wpAny_pure (h _ s.heap.objs.size (Nat.le_refl _) ((hs2.2 _ (Ne.symm hne)).trans hx2) hn2 fun b o hb q => ?_)
  have hbd : b ≠ s.heap.objs.size := Nat.ne_of_lt (Heap.lt_size q)
  rw [hs2.2 b hbd, Heap.get?_update_other _ _ (Ne.symm hb)]
  exact Heap.get?_push_of_some _ q
/-- x.f -/
theorem exc_get {vs : Array Value} {sl : Array (Option Value)} {dx : Addr} {mA : Str → Option Value} {name : Str} {v : Value} {expr : Bool} {Q : Value → Shared → Prop} (X : K.In s.heap) (c : XCls K C) (hx : s.heap.get? x = some ⟨.ref C, some dx, .fields vs, sl⟩)
    (hn : s.heap.Ns1 dx mA) (ha : findIn K (.ref C) name = some none) (hv : mA name = some v) (hv' : handedIn v = true) (h : Q v { s with toks := s.toks + 1 }) :
    wpAny (model prog w) A (getAttr (.ref x) name expr) Q E s := by
  obtain ⟨od, ho, hl⟩ := lookIn_ns hn
  have I : InstAt s.heap x ⟨.ref C, some dx, .fields vs, sl⟩ C (some od) := ⟨hx, rfl, rfl, ho⟩
  obtain ⟨cd, hc, hm, hd'⟩ := id c.cd
  have hh : hasDictIn K C = true := by unfold hasDictIn; rw [hc]; exact hd'
  have hf : findObj K C (some od) name = some (.value v) := findObj_own hh ha rfl (by rw [hl, hv])
  have hi := c.obj (prog := prog) (w := w) X I "BaseException" (.inr rfl)
  obtain ⟨hp, g, d, t, os⟩ := s
  have L0 := I.type (M := model prog w)
  have L1 := looks_findIn (M := model prog w) X c.ga
  have L2 := looks_findIn (M := model prog w) X c.gt
  have L3 := looks_find (M := model prog w) X I hf
  have sl := PySem.F.excAttr_ValueError.ga
  unfold getAttr getAttrBy
  refine wpAny_bind (wpAny_mkText (wpAny_holding (wpAny_bind (L0.at (wpAny_bind (L1.at ?_))))))
  show wpAny _ _ (getAttrByItsOwn _ _ _ _ _ _) _ _ _
  unfold getAttrByItsOwn hookBefore
  refine wpAny_bind (L2.at ?_)
  have hcg : callGetattribute (.ref x) (.str name t) (.builtin "BaseException.__getattribute__") expr = boundAndCalled (.builtin "BaseException.__getattribute__") (.ref x) (.str name t) := by cases expr <;> rfl
  rw [hcg]
  refine wpAny_bind (wpAny_attempt (wpAny_holding ?_))
  unfold boundAndCalled
  rw [sl.bind]
  refine wpAny_bind (wpAny_pure (wpAny_call (codeAny_call_builtin sl.plain PySem.F.entry_bexc_ga ?_)))
  refine @check_slot (model prog w) _ _ ⟨hp, g, d, t + 1, os⟩ "BaseException.__getattribute__" "BaseException" "__getattribute__" (.ref x) [.str name t] [] _ (by decide +kernel) (by decide +kernel) hi (PySem.F.args_bexc_ga _ _) ?_
  unfold Builtin.«object.__getattribute__»
  refine wpAny_bind (wpAny_pure (wpAny_bind (wpAny_pure (wpAny_bind (L0.at (wpAny_bind (L3.at ?_)))))))
  refine wpAny_pure ?_
  show wpAny _ _ (handedOut v) _ _ _
  rw [handedOut_of hv']
  exact wpAny_pure h
/-- x.__class__, for isinstance -/
theorem exc_class {Q : Option Value → Shared → Prop} (X : K.In s.heap) (c : XCls K C) (I : InstAt s.heap x ox C od) (h : Q (some (.ref C)) { s with toks := s.toks + 1 }) : wpAny (model prog w) A (getAttr? (.ref x) "__class__") Q E s := by
  obtain ⟨cd, hc, hm, hd'⟩ := id c.cd
  have hf : findObj K C od "__class__" = some (.bind (.builtin "getset_descriptor.__get__") (.builtin "object.__class__")) := by
    unfold findObj
    rw [hc, Option.bind_some, c.ca, Option.bind_some]
    simp [c.hn, c.tk]
  have hmo : mroIn K C (.type "object") = some true := by
    unfold mroIn
    rw [hc, Option.bind_some, if_neg (by rw [hm.has.2.2.2]; decide), hm.has.1]
  have hi := c.obj (prog := prog) (w := w) X I "BaseException" (.inr rfl)
  obtain ⟨hp, g, d, t, os⟩ := s
  have L0 := I.type (M := model prog w)
  have L1 := looks_findIn (M := model prog w) X c.ga
  have L2 := looks_findIn (M := model prog w) X c.gt
  have L3 := looks_find (M := model prog w) X I hf
  have sl := PySem.F.excAttr_ValueError.ga
  unfold getAttr? getAttrBy? getAttrBy
  refine wpAny_bind (wpAny_mkText (wpAny_bind (wpAny_attempt (wpAny_holding (wpAny_bind (L0.at (wpAny_bind (L1.at (?_ : wpAny _ _ (getAttrByItsOwn _ _ _ _ _ _) _ _ _)))))))))
  unfold getAttrByItsOwn hookBefore
  refine wpAny_bind (L2.at ?_)
  have hcg : callGetattribute (.ref x) (.str "__class__" t) (.builtin "BaseException.__getattribute__") false = boundAndCalled (.builtin "BaseException.__getattribute__") (.ref x) (.str "__class__" t) := rfl
  rw [hcg]
  refine wpAny_bind (wpAny_attempt (wpAny_holding ?_))
  unfold boundAndCalled
  rw [sl.bind]
  refine wpAny_bind (wpAny_pure (wpAny_call (codeAny_call_builtin sl.plain PySem.F.entry_bexc_ga ?_)))
  refine @check_slot (model prog w) _ _ ⟨hp, g, d, t + 1, os⟩ "BaseException.__getattribute__" "BaseException" "__getattribute__" (.ref x) [.str "__class__" t] [] _ (by decide +kernel) (by decide +kernel) hi (PySem.F.args_bexc_ga _ _) ?_
  unfold Builtin.«object.__getattribute__»
  refine wpAny_bind (wpAny_pure (wpAny_bind (wpAny_pure (wpAny_bind (L0.at (wpAny_bind (L3.at ?_)))))))
  show wpAny _ _ (bindTo _ _ _ _) _ _ _
  unfold bindTo
  dsimp only
  refine wpAny_bind (wpAny_holding (wpAny_call (class_get (s := ⟨hp, g, d, t + 1, os⟩) (ox := ox) (od := od) X I hmo ?_)))
  exact wpAny_pure (handed_on rfl (wpAny_pure h))
/-- isinstance's view of an exception of an own class -/
theorem XCls.kit (c : XCls K C) : KitX K (.ref x) (.ref C) (fun h => InstAt h x ox C od) where
  ty := fun _ _ _ I => I.type
  it := fun _ _ X _ => by
    obtain ⟨cd, hc, _⟩ := c.cd
    unfold clsIn at hc
    split at hc
    · rename_i ho
      intro A' Q' E' s' k q
      unfold isType loadHead
      exact wpAny_bind (wpAny_loadPart (k _ _ (X _ _ ho)) (wpAny_pure q))
    · cases hc
  ne := fun h tp dd its n sl X htp => by
    obtain ⟨cd, hc, _⟩ := c.cd
    refine Bool.eq_false_iff.mpr fun q => ?_
    obtain rfl : C = tp := Value.ref.inj (beq_iff_eq.mp q)
    unfold clsIn at hc
    split at hc
    · rename_i ho
      cases (X _ _ ho).symm.trans htp
    · cases hc
  ca := fun X I k => exc_class X c I k
end
end L2
namespace L2
open PySem PySem.Spec PyProof.Rows PySem.W

/-! ### an exception of an own class with an own __init__ is made -/
section
variable {prog : Program} {w : World} {A : Around} {E : Value → Shared → Prop} {h : Heap} {g : Array GenState} {d : Drawn} {t : Nat} {os : OsState} {nm q : Str} {C N fI : Addr} {bs bm bmB rest : List Value} {hdct : Bool} {sn : List Str} {sub : List Value}
  {ab : Bool} {col : Option Bool} {dd : Option Addr} {k0 k1 k2 k3 k5 : Option Value} {B newId initId : String}
abbrev exObj (C : Addr) (t : Addr) : Obj := { cls := .ref C, data := .fields #[.ref t, .none, .none, .none, .bool false, .none] }
abbrev argObj (rest : List Value) : Obj := { cls := .type "tuple", data := .seq rest.toArray }
/-- the heap with the new exception -/
abbrev exHeap (h : Heap) (C : Addr) (rest : List Value) : Heap := (h.push (argObj rest)).push (exObj C h.objs.size)
theorem exc_tc (F : ExcBaseFacts B newId initId bmB) (T : OwnTail h bmB bm) (hC : h.get? C = some (excClassObj nm q C N bs bm hdct sn sub ab col dd k0 k1 k2 k3 k5 newId)) (hi : Looks (model prog w) h (typeLookup (.ref C) "__init__") (some (.ref fI)))
    (hb : ∀ self, Looks (model prog w) h (bindSpecial (.ref fI) self) (.ref fI, [self])) (hz : rest.length ≤ sizeLine) {Q : Fin → Shared → Prop}
    (hq : wpAny (model prog w) A (call (.ref fI) (.ref (h.objs.size + 1) :: rest)) (fun r s' => r = .none ∧ Q (.done (.ret (.ref (h.objs.size + 1)))) s') E ⟨exHeap h C rest, g, d, t, os⟩) :
    wpAny (model prog w) A (Builtin.«type.__call__» ⟨.ref C :: rest, []⟩) Q E ⟨h, g, d, t, os⟩ := by
  repeat (first | (with_reducible refine wpAny_loadPart_at hC ?_) | (with_reducible refine wpAny_madeBy_exc hC ?_) | wp_step)
  refine codeAny_call_builtin_code (Code.quiet_builtin _ F.quiet) (wpAny_check_new_subT F T hC (codeAny_exc_new_subT F T hC ?_ hz))
  show wpAny _ _ _ _ _ _
  have kp : ∀ b o, h.get? b = some o → (exHeap h C rest).get? b = some o := fun b o e => Heap.get?_push_of_some _ (Heap.get?_push_of_some _ e)
  have c1 := kp C _ hC
  have x1 : (exHeap h C rest).get? (h.objs.size + 1) = some (exObj C h.objs.size) := by heap_get
  have hcC : (Value.ref C :: bm).contains (.ref C) = true := by simp
  have i1 := hi.keeps kp
  have b1 := (hb (.ref (h.objs.size + 1))).keeps kp
  unfold isInstance
  repeat (first | (with_reducible refine wpAny_loadPart_at x1 ?_) | ((with_reducible refine wpAny_isSubtype_exc c1 ?_); rw [hcC]) | wp_step)
  show wpAny _ _ (typeLookup (.ref C) _) _ _ _
  refine i1.at ?_
  refine wpAny_holding (wpAny_bind (b1.at ?_))
  refine wpAny_bind (wpAny_mono hq (fun r s' hr => ?_) fun _ _ x => x)
  obtain ⟨rfl, hQ⟩ := hr
  wp_walk
  exact hQ
theorem exc_call (F : ExcBaseFacts B newId initId bmB) (T : OwnTail h bmB bm) (hC : h.get? C = some (excClassObj nm q C N bs bm hdct sn sub ab col dd k0 k1 k2 k3 k5 newId)) (hi : Looks (model prog w) h (typeLookup (.ref C) "__init__") (some (.ref fI)))
    (hb : ∀ self, Looks (model prog w) h (bindSpecial (.ref fI) self) (.ref fI, [self])) (hz : rest.length ≤ sizeLine) {Q : Value → Shared → Prop}
    (hq : wpAny (model prog w) (A.under (.builtin "type.__call__" ⟨.ref C :: rest, []⟩)) (call (.ref fI) (.ref (h.objs.size + 1) :: rest)) (fun r s' => r = .none ∧ Q (.ref (h.objs.size + 1)) s') E ⟨exHeap h C rest, g, d, t, os⟩) :
    wpAny (model prog w) A (call (.ref C) rest) Q E ⟨h, g, d, t, os⟩ := by
  have tl := tc_lookup
  have tb := tc_bind (.ref C)
  have hT : (⟨h, g, d, t, os⟩ : Shared).TypeIs (.ref C) "type" := ⟨_, hC, rfl⟩
  refine wpAny_call <| codeAny_of_tree (?_ : wpAny _ _ (callAny (.ref C) _) _ _ _)
  repeat (any_goals (first | assumption | (with_reducible refine wpAny_loadPart_at hC ?_) | wp_step))
  refine ⟨rfl, codeAny_call_builtin_at (Code.quiet_builtin _ (by decide +kernel)) entry_typeCall (wpAny_check_type_call_sub hC ?_)⟩
  exact exc_tc F T hC hi hb hz hq
end
end L2
namespace L2
open PySem PySem.Spec PyProof.Rows PySem.W
section
variable {M : Model} {A : Around} {E : Value → Shared → Prop} {h : Heap} {g : Array GenState} {d : Drawn} {t : Nat} {os : OsState} {nm q : Str} {C N : Addr} {bs bm : List Value} {hdct : Bool} {sn : List Str} {sub : List Value}
  {ab : Bool} {col : Option Bool} {dd : Option Addr} {k0 k1 k2 k3 k5 : Option Value} {newId : String} {env : Env}
theorem raise_inst {s : Shared} {x : Sem Value} {Q : Flow → Shared → Prop} (hbase : bm.contains (.type "BaseException") = true) (hh : A.handled = none)
    (hx : wpAny M A x (fun v s1 => ∃ e dx vs sl, v = .ref e ∧ s1.heap.get? C = some (excClassObj nm q C N bs bm hdct sn sub ab col dd k0 k1 k2 k3 k5 newId) ∧
      s1.heap.get? e = some ⟨.ref C, dx, .fields vs, sl⟩ ∧ vs[1]? = some .none ∧ E (.ref e) s1) E s) : wpAny M A (raiseStmt env (some x) none) Q E s := by
  have hcB : (Value.ref C :: bm).contains (.type "BaseException") = true := by rw [List.contains_cons, hbase, Bool.or_true]
  unfold raiseStmt
  refine wpAny_bind (wpAny_mono hx (fun v s1 ⟨e, dx, vs, sl, ev, hC, he, h1, hE⟩ => ?_) fun _ _ z => z)
  subst ev
  obtain ⟨hp, g, d, tk, os⟩ := s1
  repeat (first | (with_reducible refine wpAny_loadPart_at he ?_) | (with_reducible refine wpAny_loadPart_at hC ?_) | ((with_reducible refine wpAny_isSubtype_exc hC ?_); rw [hcB]) | wp_step)
  rw [h1]
  refine wpAny_pure ?_
  rw [if_neg (by decide)]
  exact wpAny_pure (wpAny_raiseNew_none hh hE)
variable {nm2 q2 : Str} {D N2 : Addr} {bs2 bm2 : List Value} {hdct2 : Bool} {sn2 : List Str} {sub2 : List Value} {ab2 : Bool} {col2 : Option Bool} {dd2 : Option Addr} {j0 j1 j2 j3 j5 : Option Value} {newId2 : String}
/-- except D: the exception is of the class C -/
theorem exc_match {e : Addr} {oe : Obj} {r : Bool} {Q : Bool → Shared → Prop} (hC : h.get? C = some (excClassObj nm q C N bs bm hdct sn sub ab col dd k0 k1 k2 k3 k5 newId))
    (hD : h.get? D = some (excClassObj nm2 q2 D N2 bs2 bm2 hdct2 sn2 sub2 ab2 col2 dd2 j0 j1 j2 j3 j5 newId2)) (he : h.get? e = some oe) (hcls : oe.cls = .ref C) (hbase : bm2.contains (.type "BaseException") = true)
    (hr : (Value.ref C :: bm).contains (.ref D) = r) (hq : Q r ⟨h, g, d, t, os⟩) : wpAny M A (excMatches (.ref e) (.ref D)) Q E ⟨h, g, d, t, os⟩ := by
  have hcB : (Value.ref D :: bm2).contains (.type "BaseException") = true := by rw [List.contains_cons, hbase, Bool.or_true]
  have f := tc_notTuple
  unfold excMatches
  repeat (first | ((with_reducible refine wpAny_loadPart_at he ?_); rw [hcls]) | (with_reducible refine wpAny_loadPart_at hD ?_) | ((with_reducible refine wpAny_isSubtype_exc hD ?_); rw [hcB]) | ((with_reducible refine wpAny_isSubtype_exc hC ?_); rw [hr]) | wp_step)
  cases r <;> (wp_walk; exact hq)
end
end L2
namespace L2
open PySem PySem.Spec PyProof.Rows PySem.W

/-! ### exceptions in the abstract heap -/
/-- an exception that was made and not yet raised; one that has been raised; its dict -/
def FxO (e C : Addr) (dd : Option Addr) : HO := .ext fun h => ExAt h e C dd .none
def ExcO (e C : Addr) (dd : Option Addr) : HO := .ext fun h => ∃ tb, ExAt h e C dd tb
def XdO (dx : Addr) (fs : List (Str × V)) : HO := .ext fun h => ∃ mA, h.Ns1 dx mA ∧ (∀ f, RelO (fs.lookup f) (mA f)) ∧ PySem.Within mA (fs.map (·.1))
section
variable {P : Program} {w : World} {H : Hp} {h : Heap} {e C dx : Addr} {dd : Option Addr} {tb : Value} {fs : List (Str × V)}
theorem ExAt.some (x : ExAt h e C dd tb) : ∃ o, h.get? e = some o := let ⟨_, _, q, _⟩ := x; ⟨_, q⟩
theorem fx_ok (x : ExAt h e C dd .none) : ObjOk P w H h e (FxO e C dd) := ⟨x, x.some, fun _ _ y k => ExAt.keep y k⟩
theorem exc_ok (x : ExAt h e C dd tb) : ObjOk P w H h e (ExcO e C dd) := ⟨⟨tb, x⟩, x.some, fun _ _ ⟨t, y⟩ k => ⟨t, ExAt.keep y k⟩⟩
theorem xd_ok {mA : Str → Option Value} (n : h.Ns1 dx mA) (r : ∀ f, RelO (fs.lookup f) (mA f)) (q : PySem.Within mA (fs.map (·.1))) : ObjOk P w H h dx (XdO dx fs) :=
  ⟨⟨mA, n, r, q⟩, let ⟨o, _, _, z, _⟩ := n; ⟨o, z⟩, fun _ _ ⟨m, n, r, q⟩ k => ⟨m, n.at k, r, q⟩⟩
theorem fx_get (hok : HOk P w H h) (q : H e = some (FxO e C dd)) : ExAt h e C dd .none := (show ObjOk P w H h e (FxO e C dd) from hok e _ q).1
theorem exc_at (hok : HOk P w H h) (q : H e = some (ExcO e C dd)) : ∃ tb, ExAt h e C dd tb := (show ObjOk P w H h e (ExcO e C dd) from hok e _ q).1
theorem xd_get (hok : HOk P w H h) (q : H dx = some (XdO dx fs)) : ∃ mA, h.Ns1 dx mA ∧ (∀ f, RelO (fs.lookup f) (mA f)) ∧ PySem.Within mA (fs.map (·.1)) := (show ObjOk P w H h dx (XdO dx fs) from hok dx _ q).1
theorem upd_self {a : Addr} {o : HO} (q : H a = some o) : upd H a o = H := by
  funext b
  by_cases hb : b = a
  · subst hb; rw [upd_same, q]
  · rw [upd_ne hb]
end
/-- the traceback's head, behind a raise: none, or a record of ours that nothing else knows -/
def TbOk (X : Cx) (pins : List (Addr × Obj)) (H : Hp) (s : Shared) (tb : Value) : Prop :=
  tb = .none ∨ ∃ T, tb = .ref T ∧ H T = none ∧ X.s₀.heap.objs.size ≤ T ∧ (∀ p ∈ X.pn ++ pins, p.1 ≠ T) ∧ (TbAt s.heap T .none ∨ TbAt s.heap T (rawInt X.env.locals))
section
variable {X : Cx} {pins : List (Addr × Obj)} {σ : St} {H : Hp} {s : Shared} {h' : Heap} {ea C T : Addr} {dd : Option Addr} {tb : Value}
theorem Inv.locNe (I : Inv X pins σ H s) {a : Addr} {o : Obj} {vs : Array Value} (q : s.heap.get? a = some o) (d : o.data = .fields vs) : a ≠ X.env.locals ∧ ∀ x c, X.env.cells.lookup x = some c → c ≠ a := by
  refine ⟨fun z => ?_, fun x c e z => ?_⟩
  · obtain ⟨m, ⟨o', es, ep, ho', hd', _⟩, _⟩ := I.loc
    rw [z, ho'] at q; cases q; rw [hd'] at d; cases d
  · obtain ⟨v, o', ho', hd'⟩ := I.cell x c e
    rw [z, q] at ho'; cases ho'; rw [d] at hd'; cases hd'
theorem tb_new (I : Inv X pins σ H s) (ht : TbOk X pins H s tb) (N : tb = .ref T ∨ s.heap.objs.size ≤ T) : H T = none ∧ X.s₀.heap.objs.size ≤ T ∧ ∀ p ∈ X.pn ++ pins, p.1 ≠ T := by
  rcases N with rfl | N
  · rcases ht with z | ⟨T0, z, a, b, c, _⟩
    · cases z
    · cases z
      exact ⟨a, b, c⟩
  · refine ⟨I.hok.fresh N, Nat.le_trans I.sz N, fun p hp z => ?_⟩
    have := Heap.lt_size (I.pin p hp).1
    rw [z] at this
    exact absurd (Nat.lt_of_lt_of_le this N) (Nat.lt_irrefl _)
theorem Inv.noted {fl : Value} (I : Inv X pins σ H s) (hs : X.stack = X.env :: X.outer) (hf : X.env.frame = some X.env.locals) (mu : Mut (H ea)) (x : ExAt s.heap ea C dd tb) (ht : TbOk X pins H s tb)
    (N : Noted (X.env :: X.outer) ea C dd tb fl s.heap h' T) : Inv X pins σ (upd H ea (ExcO ea C dd)) { s with heap := h' } := by
  have nea : ∀ b, H b = none → b ≠ ea := fun b n z => by subst z; rw [n] at mu; exact mu
  have nmu : ∀ b u, H b = some u → ¬ Mut (some u) → b ≠ ea := fun b u q nm z => by subst z; rw [q] at mu; exact nm mu
  have mem : ∀ b, b ∈ frs (X.env :: X.outer) → b = X.env.locals ∨ b ∈ X.fs := fun b hb => by
    unfold frs at hb
    rw [List.filterMap_cons, hf] at hb
    exact List.mem_cons.mp hb
  have frn : ∀ b, b ∈ frs (X.env :: X.outer) → H b = none := fun b hb => I.stkFree b (by rw [hs]; exact hb)
  have step : ∀ ch : List Addr, (∀ b ∈ ch, (b ∈ X.ex ∨ X.s₀.heap.objs.size ≤ b) ∧ b ≠ X.env.locals ∧ (∀ x c, X.env.cells.lookup x = some c → c ≠ b) ∧ ∀ p ∈ X.pn ++ pins, p.1 ≠ b) → (∀ T0, tb = .ref T0 → T0 ∈ ch ∧ H T0 = none) →
      Inv X pins σ (upd H ea (ExcO ea C dd)) { s with heap := h' } := by
    intro ch hch hT
    have nT : ∀ b, b ∉ ch → ∀ T0, tb = .ref T0 → b ≠ T0 := fun b hb T0 e z => hb (z ▸ (hT T0 e).1)
    have nT' : ∀ b u, H b = some u → ∀ T0, tb = .ref T0 → b ≠ T0 := fun b u q T0 e z => by
      rw [z, (hT T0 e).2] at q; cases q
    refine I.step (g' := s.gens) (d' := s.drawn) (t' := s.toks) (ch := ch) hch (fun b o hL hb hc q n => ?_) (fun b o hL hb hc q n => N.slot b o (nea b n) (nT b hc) q) (fun b o _ _ n => by rw [upd_ne (nea b n)]; exact n)
      (fun b o hc q => ?_) (fun b xs q => by rw [upd_ne (nmu b _ q fun z => z)]; exact q) (fun b o u q => by rw [upd_ne (nmu b _ q fun z => z)]; exact q) (fun b ps q => ⟨#[], by rw [upd_ne (nmu b _ q fun z => z), q]; simp⟩) (fun m hm => ?_) (fun b u q => ?_) I.bare
    · exact N.keep b o (nea b n) (nT b hc) (fun z => (mem b z).elim hL hb) q
    · by_cases hb : b = ea
      · subst hb; exact N.ex.some
      · obtain ⟨sl, e⟩ := N.slot b o hb (nT b hc) q
        exact ⟨_, e⟩
    · obtain ⟨o, es, ep, ho, r⟩ := hm
      have hL : X.env.locals ∉ ch := fun z => (hch _ z).2.1 rfl
      obtain ⟨sl, e⟩ := N.slot _ o (nea _ I.free) (nT _ hL) ho
      exact ⟨_, es, ep, e, r⟩
    · by_cases hb : b = ea
      · subst hb
        rw [upd_same] at q
        cases q
        exact exc_ok N.ex
      · rw [upd_ne hb] at q
        have own : ∀ c, H c = some (.own b) → c ≠ ea := fun c r => nmu c _ r fun z => z
        have all : ∀ c v u, H c = some v → c ≠ ea → s.heap.get? c = some u → h'.get? c = some u := fun c v u e hc q' =>
          N.keep c u hc (nT' c v e) (fun z => by rw [frn c z] at e; cases e) q'
        refine (I.hok b u q).stay (fun c v hc r => ?_) (fun c r => by rw [upd_ne (own c r)]; exact r) fun c xs r => by rw [upd_ne (nmu c _ r fun z => z)]; exact r
        rcases hc with z | z
        · exact all c u v (by rw [z]; exact q) (by rw [z]; exact hb) r
        · exact all c _ v z (own c z) r
  rcases ht with rfl | ⟨T0, rfl, n0, b0, p0, t0⟩
  · exact step [] (fun _ z => nomatch z) fun _ z => by cases z
  · have t1 : ∃ oT ts, s.heap.get? T0 = some oT ∧ oT.data = .fields ts := by
      rcases t0 with ⟨oT, ts, qT, dT, _⟩ | ⟨oT, ts, qT, dT, _⟩ <;> exact ⟨oT, ts, qT, dT⟩
    obtain ⟨oT, ts, qT, dT⟩ := t1
    obtain ⟨l1, l2⟩ := I.locNe qT dT
    refine step [T0] (fun b hb => ?_) fun T1 z => by cases z; exact ⟨by simp, n0⟩
    obtain rfl : b = T0 := by simpa using hb
    exact ⟨.inr b0, l1, l2, p0⟩
end

/-! ### how an exception lies behind a call; within a body -/
def CXw (P : Program) (w : World) : CXT := fun outer H s E e s' => ∃ ea C dd T H', e = .ref ea ∧ s'.os = s.os ∧ AllBare s'.gens ∧ Un (frs outer) [] H H' s.heap s'.heap ∧ HOk P w H' s'.heap ∧ H' ea = some (ExcO ea C dd) ∧
  ExAt s'.heap ea C dd (.ref T) ∧ TbAt s'.heap T .none ∧ H' T = none ∧ s.heap.objs.size ≤ T ∧ E (.ref ea) dd H'
def XP (X : Cx) (pins : List (Addr × Obj)) (σ : St) (E : XK) (e : Value) (s' : Shared) : Prop := ∃ ea C dd tb H', e = .ref ea ∧ Inv X pins σ H' s' ∧ Mut (H' ea) ∧ ExAt s'.heap ea C dd tb ∧ TbOk X pins H' s' tb ∧ E (.ref ea) dd (upd H' ea (ExcO ea C dd))
/-- what leaves is as this body wants it -/
def Leaves (X : Cx) (E : XK) : Prop := ∀ (pins : List (Addr × Obj)) (σ : St) (e : Value) (s' : Shared), XP X pins σ E e s' → X.xe e s'
section
variable {X : Cx} {pins : List (Addr × Obj)} {σ : St} {H : Hp} {s s' : Shared} {E : XK} {e : Value}
theorem xp_call (I : Inv X pins σ H s) (h : CXw X.prog X.w X.stack H s E e s') : XP X pins σ E e s' := by
  obtain ⟨ea, C, dd, T, H', rfl, os, bare, un, hok, he, x, t, nT, hT, q⟩ := h
  refine ⟨ea, C, dd, .ref T, H', rfl, I.call' os un hok bare (fun _ z => nomatch z), by rw [he]; trivial, x, .inr ⟨T, rfl, nT, Nat.le_trans I.sz hT, fun p hp z => ?_, .inl t⟩, by rw [upd_self he]; exact q⟩
  have := Heap.lt_size (I.pin p hp).1
  rw [z] at this
  exact absurd (Nat.lt_of_lt_of_le this hT) (Nat.lt_irrefl _)
theorem passes_of (l : Leaves X E) : Passes (CXw X.prog X.w) X E := fun pins σ H s e s' I h => l pins σ e s' (xp_call I h)
/-- a def's own frame is left -/
theorem leaves_fn {P : Program} {w : World} {K : PySem.W.Frag} {mg : Str → Option Value} {base : Heap} {N : List Str} {qual : Str} {scope : Scope} {f : Addr} {cd : Value} {A : Around} {outer : List Env} {s : Shared} {H : Hp} {E : XK} :
    Leaves (cxOf (CXw P w) P w K mg base N qual scope f cd A outer s H E) E := by
  rintro pins σ e s' ⟨ea, C, dd, tb, H', rfl, I, mu, x, ht, q⟩
  show wpAny _ _ (leaving _ _) _ _ _
  unfold leaving
  have hfr := I.ok.frames
  have ne : ∀ T0, H' T0 = none → T0 ≠ ea := fun T0 n z => by subst z; rw [n] at mu; exact mu
  refine wpAny_bind (noted_ok (A := A.deeper (envOfC qual scope s.heap.objs.size f cd)) (base := base) (env := envOfC qual scope s.heap.objs.size f cd) (outer := outer) hfr I.stack rfl x ?_ fun h' T Nt => ?_)
  · rcases ht with z | ⟨T0, z, n0, _, _, t0⟩
    · exact .inl z
    · exact .inr ⟨T0, z, ne T0 n0, t0⟩
  · have J := I.noted rfl rfl mu x ht Nt
    obtain ⟨nT, hT, _⟩ := tb_new I ht Nt.new
    exact ⟨ea, C, dd, T, upd H' ea (ExcO ea C dd), rfl, J.os, J.bare, J.base, J.hok, upd_same, Nt.ex, Nt.tb, by rw [upd_ne (ne T nT)]; exact nT, hT, q⟩
end
end L2
namespace L2
open PySem PySem.Spec PyProof.Rows PySem.W

/-! ### an own class of exceptions, by the text -/
/-- the class object; its mro behind it -/
def XOb (K : Frag) (C : Addr) (bm : List Value) : Prop := ∃ nm q N bs hdct sn sub ab col dd k0 k1 k2 k3 k5, K.lookup C = some (excClassObj nm q C N bs bm hdct sn sub ab col dd k0 k1 k2 k3 k5 "ValueError.__new__")
structure XMk (K : Frag) (C : Addr) (bm : List Value) (f : Addr) : Prop where
  ob : XOb K C bm
  tl : tailIn K tailVE bm = true
  init : findIn K (.ref C) "__init__" = some (some (.ref f))
  fn : isFn K (.ref f) = true
  kp : keepIn K (.ref C) = true
/-- C(..), an own exception with an own __init__ -/
def tExc (C : Addr) (sp : Sp) (dvs : List V) (E : XK) (t : TA) : TE := fun σ H Q => t σ H fun vs H1 => ∀ x, H1 x = none →
  sp (.ref x :: (vs ++ dvs)) (upd H1 x (FxO x C none)) (fun v H2 => v = .non ∧ Q (.ref x) H2) E
section
variable {X : Cx} {CX : CXT} {k : Nat} {f C : Addr} {bm : List Value} {fd : FuncData} {ps : List Str} {sp : Sp} {dvs : List V} {ds : List Value} {E : XK} {x m : Str} {p pos apos : Pos} {e o : Expr} {es : List Expr} {ta : TE} {t : TA}
theorem run_exc {pins : List (Addr × Obj)} {σ : St} {H : Hp} {s : Shared} {Q : VK} {us : List Value} {vs : List V} (M : XMk X.K C bm f) {cc : Bool} (F : FnOk X.prog X.w X.K X.mg X.base CX k f fd ps sp cc) (hr : Room (k + 1) X.A cc) (hb : Binds X.K fd ps ds) (hd : Vals dvs ds)
    (hx : Passes CX X E) (hz : ps.length ≤ 1000) (I : Inv X pins σ H s) (r : Vals vs us)
    (h : ∀ x, H x = none → sp (.ref x :: (vs ++ dvs)) (upd H x (FxO x C none)) (fun v H2 => v = .non ∧ Q (.ref x) H2) E) :
    wpAny (model X.prog X.w) X.A (call (.ref C) us) (EP X pins σ Q) X.xe s := by
  have hq := h (s.heap.objs.size + 1) (I.hok.fresh (Nat.le_succ _))
  have I1 := I.kept (h' := s.heap.push (argObj us)) (t' := s.toks) (fun b u e => Heap.get?_push_of_some _ e)
  have hx1 : (exHeap s.heap C us).get? (s.heap.objs.size + 1) = some (exObj C s.heap.objs.size) := by heap_get
  have I2 : Inv X pins σ (upd H (s.heap.objs.size + 1) (FxO (s.heap.objs.size + 1) C none)) { s with heap := exHeap s.heap C us } :=
    I1.laid (a := s.heap.objs.size + 1) (o := FxO (s.heap.objs.size + 1) C none) (h' := exHeap s.heap C us) (t' := s.toks) (fun b u e => Heap.get?_push_of_some _ e) (by show (s.heap.push (argObj us)).objs.size ≤ _; rw [Heap.size_push]; exact Nat.le_refl _)
      (fx_ok ⟨_, _, hx1, rfl, rfl, rfl⟩)
  have r2 : Vals (V.ref (s.heap.objs.size + 1) :: (vs ++ dvs)) (Value.ref (s.heap.objs.size + 1) :: (us ++ ds)) := .cons rfl (r.append hd)
  have hl : (Value.ref (s.heap.objs.size + 1) :: us ++ ds).length = ps.length := by
    have e := r2.length
    rw [F.len _ _ _ _ hq] at e
    exact e.symm
  have hus : us.length ≤ sizeLine := by
    rw [sizeLine_eq]
    simp only [List.cons_append, List.length_cons, List.length_append] at hl
    omega
  obtain ⟨nm, q, N, bs, hdct, sn, sub, ab, col, dd, k0, k1, k2, k3, k5, ho⟩ := M.ob
  obtain ⟨hp, g, d, tk, os⟩ := s
  refine exc_call PySem.F.excBase_ValueError (tail_of_in I.kIn M.tl) (I.kIn _ _ ho) (looks_findIn I.kIn M.init) (fun self => bind_fn I.kIn self (beq_iff_eq.mp M.fn)) hus ?_
  refine wpAny_call (codeAny_mono (F.run _ X.stack _ _ ⟨Value.ref (hp.objs.size + 1) :: us, []⟩ (Value.ref (hp.objs.size + 1) :: (us ++ ds)) _ _ E (hr.make C us []) (I2.env0.make C us []) (hb _ (Value.ref (hp.objs.size + 1) :: us) I2.kIn hl) r2 hq) fun r s' hq' => ?_)
  cases r with
  | error e => exact hx pins σ _ _ e s' I2 hq'
  | ok fl =>
    cases fl with
    | ret u =>
      obtain ⟨v, H', I3, rv, ev, q3⟩ := I2.after hq'
      subst ev
      exact ⟨rv, ⟨V.ref (hp.objs.size + 1), H', I3, rfl, q3⟩⟩
    | next => exact False.elim hq'
    | brk => exact False.elim hq'
    | cont => exact False.elim hq'
theorem pe_exc (M : XMk X.K C bm f) {cc : Bool} (F : FnOk X.prog X.w X.K X.mg X.base CX k f fd ps sp cc) (hr : Room (k + 1) X.A cc) (hg : Gl X x) (hm : X.mg x = some (.ref C)) (hb : Binds X.K fd ps ds) (hd : Vals dvs ds) (hx : Passes CX X E)
    (ha : PA X (e :: es) t) (hz : ps.length ≤ 1000 := by decide) (hdb : (x == ("__debug__" : Str)) = false := by decide) (he : starEach (e :: es) X.env = (false, eval e X.env) :: starEach es X.env := by rfl) (hpl : (backTo pos (starEach es X.env)).any (·.1) = false := by rfl) :
    PE X (.Call (.Name x p) (e :: es) [] pos) (tExc C sp dvs E t) := by
  intro pins s σ H Q I h
  refine wpAny_Call_Name_kw (ld_glob I hg hm ?_ hdb)
  refine PySem.W.callWith_K (h₀ := X.base) I.ok.mod.kin M.kp (thn (ha pos pins s σ H _ I h) fun us s1 ⟨vs, H1, I1, r, q⟩ => ⟨I1.kIn, ?_⟩) he hpl
  exact run_exc M F hr hb hd hx hz I1 r q
/-- raise e -/
def tRaise (C : Addr) (te : TE) (E : XK) : TS := fun _ σ H => te σ H fun v H1 => ∃ ea dd, v = .ref ea ∧ H1 ea = some (FxO ea C dd) ∧ E (.ref ea) dd (upd H1 ea (ExcO ea C dd))
theorem ps_raise (ob : XOb X.K C bm) (hbm : bm.contains (.type "BaseException") = true) (hh : X.A.handled = none) (hl : Leaves X E) (he : PE X e ta) : PS X (.Raise (some e) none pos) (tRaise C ta E) := by
  intro pins s σ H D I h
  obtain ⟨nm, q, N, bs, hdct, sn, sub, ab, col, dd0, k0, k1, k2, k3, k5, ho⟩ := ob
  rw [arm_exec_Raise]
  refine wpAny_bind (wpAny_standAt (raise_inst (C := C) (nm := nm) (q := q) (N := N) (bs := bs) (bm := bm) (hdct := hdct) (sn := sn) (sub := sub) (ab := ab) (col := col) (dd := dd0) (k0 := k0) (k1 := k1) (k2 := k2) (k3 := k3) (k5 := k5) (newId := "ValueError.__new__") hbm hh ?_))
  refine wpAny_bind (thn (he pins s σ H _ I h) fun u s1 ⟨v, H1, I1, r, ea, dd, ev, hH, q⟩ => ?_)
  subst ev
  cases (show u = Value.ref ea from r)
  refine wpAny_bind (wpAny_standAt (wpAny_pure ?_))
  have x1 := fx_get I1.hok hH
  obtain ⟨vs, sl, q1, z, q2, _⟩ := id x1
  exact ⟨ea, dd, vs, sl, rfl, I1.kIn _ _ ho, q1, q2, hl pins σ _ _ ⟨ea, C, dd, .none, H1, rfl, I1, by rw [hH]; trivial, x1, .inl rfl, q⟩⟩
end

/-! ### its fields -/
section
variable {X : Cx} {pins : List (Addr × Obj)} {σ : St} {H : Hp} {s : Shared} {a C dx : Addr} {fs : List (Str × V)} {f : Str} {A : Around} {E : Value → Shared → Prop}
theorem xset1_ok {y : V} {u : Value} {Q : Unit → Shared → Prop} (I : Inv X pins σ H s) (e : H a = some (FxO a C none)) (c : XCls X.K C) (n : takerIn X.K C f = some none) (ry : RelV y u)
    (h : ∀ s' dx, H dx = none → Inv X pins σ (upd (upd H dx (XdO dx [(f, y)])) a (FxO a C (some dx))) s' → Q () s') : wpAny (model X.prog X.w) A (setAttr (.ref a) f u) Q E s := by
  obtain ⟨vs, sl, q, z, q1⟩ := fx_get I.hok e
  refine exc_set_first I.kIn c n q fun h' dx hdx hx hn k => ?_
  have nd := I.hok.fresh hdx
  have mu : Mut (H a) := by rw [e]; trivial
  have hda : dx ≠ a := Nat.ne_of_gt (Nat.lt_of_lt_of_le (Heap.lt_size q) hdx)
  have na : ∀ b, H b = none → b ≠ a := fun b n z => by subst z; rw [n] at mu; exact mu
  have nmu : ∀ b u, H b = some u → ¬ Mut (some u) → b ≠ a := fun b u qb nm z => by subst z; rw [qb] at mu; exact nm mu
  have nd' : ∀ b u, H b = some u → b ≠ dx := fun b u q z => by rw [z, nd] at q; cases q
  refine h _ dx nd (I.un (t' := s.toks + 2) (h' := h') ⟨fun b o q n _ _ => k b o (na b n) q, fun b o q n _ _ => ⟨o.slots, k b o (na b n) q⟩, fun b o q n _ => ?_, fun b o q _ => ?_, fun b xs q => ?_, fun b o u q => ?_, fun b ps q => ⟨#[], ?_⟩⟩ fun b u q => ?_)
  · rw [upd_ne (na b n), upd_ne (Nat.ne_of_lt (Nat.lt_of_lt_of_le (Heap.lt_size q) hdx))]; exact n
  · by_cases hb : b = a
    · subst hb; exact ⟨_, hx⟩
    · exact ⟨o, k b o hb q⟩
  · rw [upd_ne (nmu b _ q fun z => z), upd_ne (nd' b _ q)]; exact q
  · rw [upd_ne (nmu b _ q fun z => z), upd_ne (nd' b _ q)]; exact q
  · rw [upd_ne (nmu b _ q fun z => z), upd_ne (nd' b _ q), q]; simp
  · by_cases hb : b = a
    · subst hb
      rw [upd_same] at q
      cases q
      exact fx_ok ⟨vs, sl, hx, z, q1⟩
    · rw [upd_ne hb] at q
      by_cases hbd : b = dx
      · subst hbd
        rw [upd_same] at q
        cases q
        refine xd_ok hn (fun g => ?_) fun g hg => ?_
        · show RelO (List.lookup g [(f, y)]) (if g = f then some u else none)
          by_cases hgf : g = f
          · have hb : (g == f) = true := beq_iff_eq.mpr hgf
            simp only [List.lookup, hb, if_pos hgf]
            exact ry
          · have hb : (g == f) = false := beq_eq_false_iff_ne.mpr hgf
            simp only [List.lookup, hb, if_neg hgf]
            trivial
        · by_cases hgf : g = f
          · subst hgf; simp
          · exact absurd (if_neg hgf) hg
      · rw [upd_ne hbd] at q
        have own : ∀ c, H c = some (.own b) → c ≠ a := fun c r => nmu c _ r fun z => z
        refine (I.hok b u q).stay (fun c v hc r => k c v ?_ r) (fun c r => by rw [upd_ne (own c r), upd_ne (nd' c _ r)]; exact r) fun c xs r => by rw [upd_ne (nmu c _ r fun z => z), upd_ne (nd' c _ r)]; exact r
        rcases hc with z | z
        · rw [z]; exact hb
        · exact own c z
theorem xget_ok {b : Bool} {v : V} {Q : Value → Shared → Prop} (I : Inv X pins σ H s) (e : H a = some (ExcO a C (some dx))) (ed : H dx = some (XdO dx fs)) (c : XCls X.K C) (n : NoAttr X.K C f) (l : fs.lookup f = some v)
    (h : ∀ u s', Inv X pins σ H s' → RelV v u → Q u s') : wpAny (model X.prog X.w) A (getAttr (.ref a) f b) Q E s := by
  obtain ⟨tb, vs, sl, q, z, q1⟩ := exc_at I.hok e
  obtain ⟨mA, hn, r, wi⟩ := xd_get I.hok ed
  obtain ⟨u, hu, ru⟩ := RelO.some_of (v := v) (o := mA f) (by rw [← l]; exact r f)
  exact exc_get I.kIn c q hn n hu (handed_of ru) (h u _ (I.tok _) ru)
end
/-- self.f = value, the exception's first field; a further one -/
def sXf1 (K : Frag) (ta tv : TE) (f : Str) : TS := fun D σ H => tv σ H fun y H1 => ta σ H1 fun x H2 => ∃ a C, x = .ref a ∧ H2 a = some (FxO a C none) ∧ XCls K C ∧ takerIn K C f = some none ∧
  ∀ dx, H2 dx = none → D.nx σ (upd (upd H2 dx (XdO dx [(f, y)])) a (FxO a C (some dx)))
/-- e.f of a raised exception -/
def tXf (K : Frag) (ta : TE) (f : Str) : TE := fun σ H Q => ta σ H fun x H1 => ∃ a C dx fs v, x = .ref a ∧ H1 a = some (ExcO a C (some dx)) ∧ H1 dx = some (XdO dx fs) ∧ XCls K C ∧ NoAttr K C f ∧ fs.lookup f = some v ∧ Q v H1
section
variable {X : Cx} {o e value : Expr} {f : Str} {pos pos' tpos : Pos} {ta tv : TE}
theorem ps_xf1 (ha : PE X o ta) (hv : PE X value tv) (hs : swapsWith value (some (.Attribute o f pos')) pos.line X.env = pure false) : PS X (.Assign [.Attribute o f pos'] value pos) (sXf1 X.K ta tv f) := by
  intro pins s σ H D I h
  refine plainObj_wpAny_Assign_Attribute (thn (hv pins s σ H _ I h) fun u s1 ⟨y, H1, I1, ry, q⟩ => thn (ha pins s1 σ H1 _ I1 q) fun ov s2 ⟨x, H2, I2, rx, a, C, ex, ea, c, n, q2⟩ => ?_) hs
  subst ex
  cases (show ov = Value.ref a from rx)
  exact xset1_ok I2 ea c n ry fun s3 dx hd I3 => ⟨σ, _, I3, q2 dx hd⟩
theorem pe_xf (he : PE X e ta) (hb : attributeBase e f X.env (eval e X.env) = eval e X.env) : PE X (.Attribute e f pos) (tXf X.K ta f) := by
  intro pins s σ H Q I h
  refine attr_of hb (thn (he pins s σ H _ I h) fun u s1 ⟨x, H1, I1, rx, a, C, dx, fs, v, ex, ea, ed, c, n, l, q⟩ => ?_)
  subst ex
  cases (show u = Value.ref a from rx)
  exact xget_ok I1 ea ed c n l fun u' s2 I2 ru => ⟨v, H1, I2, ru, q⟩
/-- the exception's dict is there, where it has one -/
def Dk (H : Hp) : Option Addr → Prop
  | none => True
  | some dx => ∃ fs, H dx = some (XdO dx fs)
/-- isinstance(e, c) of a raised exception -/
theorem call_isinstX : CallR X (.builtin "isinstance") (fun vs H Q => ∃ a C dd c cv b, vs = [.ref a, c] ∧ H a = some (ExcO a C dd) ∧ Dk H dd ∧ XCls X.K C ∧ RelV c cv ∧ (∀ u, RelV c u → u = cv) ∧ kitOne X.K (.ref C) cv = some b ∧ Q (.bl b) H) := by
  intro pins s σ H xs us Q I r h
  obtain ⟨a, C, dd, c, cv, b, rfl, ea, dk, cl, _, hu, e, q⟩ := h
  obtain ⟨u, v, rfl, rx, rv⟩ := r.two
  cases (show u = Value.ref a from rx)
  cases hu v rv
  obtain ⟨tb, vs, sl, q0, z, q1⟩ := exc_at I.hok ea
  have J : ∃ od, InstAt s.heap a ⟨.ref C, dd, .fields vs, sl⟩ C od := by
    cases dd with
    | none => exact ⟨none, q0, rfl, rfl, trivial⟩
    | some dx =>
      obtain ⟨fs, ed⟩ := dk
      obtain ⟨mA, ⟨o, es, ep, ho, _⟩, _⟩ := xd_get I.hok ed
      exact ⟨some o, q0, rfl, rfl, ho⟩
  obtain ⟨od, J⟩ := J
  exact kia_one cl.kit I.kIn J e (fun z => nomatch z) fun tk => ⟨.bl b, H, I.tok tk, rfl, q⟩
end
/-! ### an own exception class without an __init__ of its own -/
section
variable {X : Cx} {C : Addr} {bm : List Value} {x : Str} {p pos : Pos}
end
end L2
namespace L2
open PySem PySem.Spec PyProof.Rows PySem.W

/-! ### code whose exceptions are caught in the same body -/
/-- an expression's reading with the exception's end -/
abbrev TX := St → Hp → VK → XK → Prop
/-- a try's body: the ends, the wish of an exception at the names' values then -/
abbrev TB := Ends → (St → XK) → St → Hp → Prop
def PX (X : Cx) (e : Expr) (t : TX) : Prop :=
  ∀ (pins : List (Addr × Obj)) (s : Shared) (σ : St) (H : Hp) (Q : VK) (E : XK), Inv X pins σ H s → t σ H Q E → wpAny (model X.prog X.w) X.A (eval e X.env) (EP X pins σ Q) (XP X pins σ E) s
def BP (X : Cx) (pins : List (Addr × Obj)) (Ex : St → XK) (e : Value) (s' : Shared) : Prop := ∃ σ', XP X pins σ' (Ex σ') e s'
def PB (X : Cx) (sts : List Stmt) (t : TB) : Prop :=
  ∀ (pins : List (Addr × Obj)) (s : Shared) (σ : St) (H : Hp) (D : Ends) (Ex : St → XK), Inv X pins σ H s → t D Ex σ H → wpAny (model X.prog X.w) X.A (execs sts X.env) (SP X pins D) (BP X pins Ex) s
section
variable {X : Cx} {k : Nat} {f C : Addr} {fd : FuncData} {ps : List Str} {sp : Sp} {dvs : List V} {ds : List Value} {E : XK} {x m : Str} {p pos apos : Pos} {e o : Expr} {es : List Expr} {ta : TE} {t : TA}
def tCallX (sp : Sp) (dvs : List V) (t : TA) : TX := fun σ H Q E => t σ H fun vs H1 => sp (vs ++ dvs) H1 Q E
theorem run_fnX {pins : List (Addr × Obj)} {σ : St} {H : Hp} {s : Shared} {Q : VK} {us : List Value} {vs : List V} {cc : Bool} (F : FnOk X.prog X.w X.K X.mg X.base (CXw X.prog X.w) k f fd ps sp cc) (hr : Room k X.A cc) (hb : Binds X.K fd ps ds) (hd : Vals dvs ds)
    (I : Inv X pins σ H s) (r : Vals vs us) (h : sp (vs ++ dvs) H Q E) : wpAny (model X.prog X.w) X.A (call (.ref f) us) (EP X pins σ Q) (XP X pins σ E) s := by
  have r2 : Vals (vs ++ dvs) (us ++ ds) := r.append hd
  have hl : (us ++ ds).length = ps.length := by rw [← r2.length]; exact F.len _ _ _ _ h
  refine wpAny_call (codeAny_mono (F.run X.A X.stack s H ⟨us, []⟩ (us ++ ds) (vs ++ dvs) Q E hr I.env0 (hb s us I.kIn hl) r2 h) fun r s' hq => ?_)
  cases r with
  | error e => exact xp_call I hq
  | ok fl =>
    cases fl with
    | ret u => exact I.after hq
    | next => exact False.elim hq
    | brk => exact False.elim hq
    | cont => exact False.elim hq
theorem px_call {cc : Bool} (F : FnOk X.prog X.w X.K X.mg X.base (CXw X.prog X.w) k f fd ps sp cc) (hr : Room k X.A cc) (hg : Gl X x) (hm : X.mg x = some (.ref f)) (hk : PySem.W.keepIn X.K (.ref f) = true) (hb : Binds X.K fd ps ds) (hd : Vals dvs ds)
    (ha : PA X.nox (e :: es) t) (hdb : (x == ("__debug__" : Str)) = false := by decide) (he : starEach (e :: es) X.env = (false, eval e X.env) :: starEach es X.env := by rfl) (hpl : (backTo pos (starEach es X.env)).any (·.1) = false := by rfl) :
    PX X (.Call (.Name x p) (e :: es) [] pos) (tCallX sp dvs t) := by
  intro pins s σ H Q E I h
  refine wpAny_Call_Name_kw (ld_glob I hg hm ?_ hdb)
  refine PySem.W.callWith_K (h₀ := X.base) I.ok.mod.kin hk (wpAny_mono (ha pos pins s σ H _ (I.wish _) h) (fun us s1 ⟨vs, H1, I1, r, q⟩ => ⟨I1.unwish.kIn, ?_⟩) fun _ _ z => False.elim z) he hpl
  exact run_fnX F hr hb hd I1.unwish r q
def bSet (i : Nat) (t : TX) : TB := fun D Ex σ H => t σ H (fun v H1 => D.nx (σ.set i (some v)) H1) (Ex σ)
/-- one statement of such a body -/
def PB1 (X : Cx) (st : Stmt) (t : TB) : Prop :=
  ∀ (pins : List (Addr × Obj)) (s : Shared) (σ : St) (H : Hp) (D : Ends) (Ex : St → XK), Inv X pins σ H s → t D Ex σ H → wpAny (model X.prog X.w) X.A (exec st X.env) (SP X pins D) (BP X pins Ex) s
theorem pb_set {t : TX} {i : Nat} {pos' : Pos} (hN : X.N.Nodup) (hi : X.N[i]? = some x) (hx : Loc X.env.scope x) (he : PX X e t) (hs : swapsWith e (some (.Name x pos')) pos.line X.env = pure false := by rfl)
    (hf : X.fn x = true ∨ X.env.scope.names.lookup x = some .local := by first | exact .inl rfl | exact .inr rfl | assumption) : PB1 X (.Assign [.Name x pos'] e pos) (bSet i t) := by
  intro pins s σ H D Ex I h
  refine wpAny_Assign_Name (wpAny_mono (he pins s σ H _ _ I h) (fun v s1 ⟨y, H1, I1, r1, q1⟩ => ?_) fun _ _ z => ⟨σ, z⟩) hs
  exact store_ok I1 hN hi hx r1 (fun s2 I2 => ⟨_, H1, I2, q1⟩) hf
theorem pb_one {st : Stmt} {t : TB} (h1 : PB1 X st t) : PB X [st] t := by
  intro pins s σ H D Ex I h
  refine wpAny_execs_cons (thn (h1 pins s σ H D Ex I h) fun f s1 q => ?_)
  cases f with
  | next => exact wpAny_execs_nil q
  | ret v => exact q
  | brk => exact q
  | cont => exact q
end

/-! ### try: .. except D as n: .. -/
/-- the context of an except suite -/
abbrev Cx.hand (X : Cx) (ea : Addr) : Cx := { X with A := X.A.mark (some (.ref ea)), calm := false, xe := fun _ _ => False }
section
variable {X : Cx} {pins : List (Addr × Obj)} {σ : St} {H : Hp} {s : Shared} {ea : Addr}
theorem Cx.Ok.hand (ok : X.Ok) : (X.hand ea).Ok :=
  ⟨ok.mod, ok.kind, ok.glob, ok.blt, ok.above, ok.inj, ok.has, ok.cab, (fun z => nomatch z), ok.frames, ok.stk, ok.exf, ok.bs, ok.bsz, ok.noex, ok.exfs, ok.funs, ok.frf⟩
theorem Inv.hand (I : Inv X pins σ H s) : Inv (X.hand ea) pins σ H s := ⟨I.ok.hand, I.os, I.bare, I.base, I.loc, I.cell, I.free, I.freeC, I.pin, I.hok, I.len⟩
theorem Inv.unhand (ok : X.Ok) (I : Inv (X.hand ea) pins σ H s) : Inv X pins σ H s := ⟨ok, I.os, I.bare, I.base, I.loc, I.cell, I.free, I.freeC, I.pin, I.hok, I.len⟩
/-- a local name is unbound -/
theorem Inv.gone {i : Nat} {x : Str} {M : Model} {A : Around} {E : Value → Shared → Prop} {pos : Pos} {Q : Unit → Shared → Prop} (I : Inv X pins σ H s) (hN : X.N.Nodup) (hi : X.N[i]? = some x) (hk : X.env.kindOf x = some .local)
    (h : ∀ s', Inv X pins (σ.set i none) H s' → Q () s') : wpAny M A (do bindName X.env x .none; unbindBehindTheSuite X.env x pos) Q E s := by
  obtain ⟨m, hn, hl⟩ := id I.loc
  have hcls : (X.env.scope.kind == .class || (X.env.scope.kind == .module && X.env.locals != X.env.globals)) = false := by rw [I.ok.kind]; rfl
  have hiσ : i < σ.length := by rw [I.len]; exact (List.getElem?_eq_some_iff.mp hi).1
  have cne := I.cne
  refine wpAny_nameGoes_keeps hk hn hcls fun h' v hn' hs => h _ ?_
  have neL : ∀ b o, X.s₀.heap.get? b = some o → b ≠ X.env.locals := fun b o e => Nat.ne_of_lt (Nat.lt_of_lt_of_le (Heap.lt_size e) I.ok.above)
  refine ⟨I.ok, I.os, I.bare, ⟨fun b o e n hb hx => (hs.2 b (neL b o e)).trans (I.base.keep b o e n hb hx), fun b o e n hb hx => ?_, I.base.free, fun b o e hx => ?_, I.base.tups, I.base.frzs, I.base.tbls⟩, ⟨_, hn', fun j y v' e1 e2 e3 => ?_⟩, fun y c e => ?_, I.free, I.freeC, fun p hp => ?_, fun b u q => ?_, by simpa using I.len⟩
  · obtain ⟨sl, e1⟩ := I.base.slot b o e n hb hx
    exact ⟨sl, (hs.2 b (neL b o e)).trans e1⟩
  · obtain ⟨o', e1⟩ := I.base.there b o e hx
    exact ⟨o', (hs.2 b (neL b o e)).trans e1⟩
  · have hj : j ≠ i := fun z => by
      subst z
      rw [List.getElem?_set_self hiσ] at e2
      cases e2
    rw [List.getElem?_set_ne (Ne.symm hj)] at e2
    obtain ⟨u', r', q⟩ := hl j y v' e1 e2 e3
    refine ⟨u', r', ?_⟩
    rcases q with ⟨k, e⟩ | ⟨k, c, e, z⟩
    · have ny : y ≠ x := fun e => hj (nodup_ix hN e1 (e ▸ hi))
      exact .inl ⟨k, by simp [ny, e]⟩
    · exact .inr ⟨k, c, e, z.sameBut hs (cne y c e)⟩
  · obtain ⟨w', z⟩ := I.cell y c e
    exact ⟨w', z.sameBut hs (cne y c e)⟩
  · obtain ⟨e, n, ne, nf, d⟩ := I.pin p hp
    exact ⟨(hs.2 p.1 ne).trans e, n, ne, nf, d⟩
  · refine (I.hok b u q).stay (fun c v hc r => (hs.2 c fun z => ?_).trans r) (fun _ q => q) fun _ _ q => q
    subst z
    rcases hc with z | z
    · rw [← z, I.free] at q; cases q
    · rw [I.free] at z; cases z
end
/-- the suite's ends: behind it the name is unbound -/
def Ends.gone (D : Ends) (i : Nat) : Ends := { nx := fun σ H => D.nx (σ.set i none) H, rt := D.rt, bk := fun σ H => D.bk (σ.set i none) H, ct := fun σ H => D.ct (σ.set i none) H }
/-- try: tb; except D as the i-th name: ts; no else -/
def tTry (K : Frag) (D : Addr) (i : Nat) (tb : TB) (ts : Addr → TS) : TS := fun Dn σ H => tb Dn (fun σ' ev dd H' => ∃ ea C bm, ev = .ref ea ∧ H' ea = some (ExcO ea C dd) ∧ XOb K C bm ∧ (Value.ref C :: bm).contains (.ref D) = true ∧
  ts ea (Dn.gone i) (σ'.set i (some (.ref ea))) H') σ H
section
variable {X : Cx} {body suite : List Stmt} {b₀ : Stmt} {tb : TB} {ts : Addr → TS} {wn n : Str} {D : Addr} {bmD : List Value} {i : Nat} {np hpos pos : Pos}
theorem ps_try (hb : PB X body tb) (hs : ∀ ea, PSs (X.hand ea) (b₀ :: suite) (ts ea)) (hg : Gl X wn) (hm : X.mg wn = some (.ref D)) (ob : XOb X.K D bmD) (hbm : bmD.contains (.type "BaseException") = true) (hN : X.N.Nodup) (hi : X.N[i]? = some n)
    (hk : X.env.scope.names.lookup n = some .local) (hst : X.stack = X.env :: X.outer := by rfl) (hfr : X.env.frame = some X.env.locals := by rfl) (hdb : (wn == ("__debug__" : Str)) = false := by decide) :
    PS X (.Try body [.ExceptHandler (some (.Name wn np)) (some n) (b₀ :: suite) hpos] [] [] pos) (tTry X.K D i tb ts) := by
  intro pins s σ H Dn I h
  refine wpAny_Try_except (wpAny_mono (hb pins s σ H Dn _ I h) (fun f s1 q => ?_) ?_)
  · cases f with
    | next => exact wpAny_execs_nil q
    | ret v => exact q
    | brk => exact q
    | cont => exact q
  rintro e s1 ⟨σ1, ea, C, dd, tb1, H1, rfl, I1, mu, x, ht, ea', C', bm, e1, hH, obC, hc, q⟩
  cases e1
  have ne : ∀ T0, H1 T0 = none → T0 ≠ ea := fun T0 n z => by subst z; rw [n] at mu; exact mu
  refine noted_ok (base := X.base) (env := X.env) (outer := X.outer) (by rw [I1.ok.frames, hst]) (by rw [← hst]; exact I1.stack) hfr x ?_ fun h' T Nt => ?_
  · rcases ht with z | ⟨T0, z, n0, _, _, t0⟩
    · exact .inl z
    · exact .inr ⟨T0, z, ne T0 n0, t0⟩
  have J := I1.noted hst hfr mu x ht Nt
  obtain ⟨nT0, hT, pT⟩ := tb_new I1 ht Nt.new
  have nT : upd H1 ea (ExcO ea C dd) T = none := by
    rw [upd_ne (ne T nT0)]; exact nT0
  have eC : C' = C := by
    obtain ⟨tb2, vs2, sl2, q2, _⟩ := exc_at J.hok hH
    obtain ⟨vs3, sl3, q3, _⟩ := Nt.ex
    have q3' := q3.symm.trans q2
    cases q3'
    rfl
  subst eC
  obtain ⟨nmC, qC, NC, bsC, hdC, snC, subC, abC, colC, ddC, a0, a1, a2, a3, a5, hoC⟩ := obC
  obtain ⟨nmD, qD, ND, bsD, hdD, snD, subD, abD, colD, ddD, d0, d1, d2, d3, d5, hoD⟩ := ob
  obtain ⟨vs3, sl3, q3, z3, t3⟩ := id Nt.ex
  have J' := J.hand (ea := ea)
  refine wpAny_handleBy_cons (codeAny_handlers_test (ld_glob (X := X.hand ea) J' hg hm ?_ hdb)) (by intro q; cases q)
  obtain ⟨hp1, g1, dr1, tk1, os1⟩ := s1
  refine exc_match (J.kIn _ _ hoC) (J.kIn _ _ hoD) q3 rfl hbm hc (codeAny_handlers_suite_as ?_)
  obtain ⟨oT, tsT, qT, dT, rT⟩ := id Nt.tb
  obtain ⟨l1, l2⟩ := J.locNe qT dT
  refine setFlight_ok Nt.ex Nt.tb ?_
  have J2 := J'.turned (it := T) (t' := tk1) (h' := h'.update T (Obj.mapFields (·.setIfInBounds 3 .none))) (fun b o hb e => (Heap.get?_update_other _ _ (Ne.symm hb)).trans e) nT l1 (.inr hT) l2 pT
  refine store_ok (X := X.hand ea) J2 hN hi (.inl hk) (show RelV (.ref ea) (.ref ea) from rfl) (fun s2 J3 => ?_) (.inr hk)
  refine wpAny_mono (hs ea pins s2 _ _ (Dn.gone i) J3 q) (fun f s3 hq => ?_) fun _ _ z => False.elim z
  have fin : ∀ {σ' : St} {H' : Hp} {Q : Unit → Shared → Prop} {E : Value → Shared → Prop}, Inv (X.hand ea) pins σ' H' s3 → (∀ s4, Inv X pins (σ'.set i none) H' s4 → Q () s4) → wpAny (model X.prog X.w) X.A (do bindName X.env n .none; unbindBehindTheSuite X.env n hpos) Q E s3 :=
    fun Z k => (Z.unhand I.ok).gone hN hi hk k
  cases f with
  | next =>
    obtain ⟨σ', H', Z, q⟩ := hq
    exact fin Z fun s4 Z4 => ⟨_, H', Z4, q⟩
  | ret v =>
    obtain ⟨v', σ', H', Z, r, q⟩ := hq
    exact fin Z fun s4 Z4 => ⟨v', _, H', Z4, r, q⟩
  | brk =>
    obtain ⟨σ', H', Z, q⟩ := hq
    exact fin Z fun s4 Z4 => ⟨_, H', Z4, q⟩
  | cont =>
    obtain ⟨σ', H', Z, q⟩ := hq
    exact fin Z fun s4 Z4 => ⟨_, H', Z4, q⟩
end
end L2
namespace L2
open PySem PySem.Spec PyProof.Rows
section
variable {X : Cx}
/-- all(xs) of a list of truths -/
theorem bools_items : ∀ {bs : List Bool} {us : List Value}, Vals (bs.map V.bl) us → us = bs.map Value.bool
  | [], us, r => by
    rw [List.map_nil] at r
    cases r
    rfl
  | b :: bs, us, r => by
    rw [List.map_cons] at r
    cases r with
    | cons r1 r2 =>
      cases (show _ = Value.bool b from r1)
      rw [bools_items r2, List.map_cons]
theorem call_all (hh : X.A.handled = none) : CallR X (.builtin "all") (fun vs H Q => ∃ (p : Addr) (bs : List Bool), vs = [.ref p] ∧ SqL X.K H p (bs.map V.bl) ∧ Q (.bl (bs.all id)) H) := by
  intro pins s σ H xs us Q I r h
  obtain ⟨p, bs, rfl, hq, q⟩ := h
  obtain ⟨u, rfl, ru⟩ := r.one
  cases ru
  obtain ⟨its, r1, p1, _⟩ := I.list hq
  cases bools_items r1
  have hl : s.heap.IsList p (bs.map Value.bool).toArray := p1.isList
  have hlt : p < s.heap.objs.size := by obtain ⟨_, e, _⟩ := hl; exact Heap.lt_size e
  refine call_all_walk (wpAny_pyIter_list hl ?_)
  refine ⟨_, _, _, _, _, _, fun i => bs.getD i true, rfl, Walks.list (A := X.A.in1) hh _ p (Nat.ne_of_lt hlt) (bs.map Value.bool).toArray, ⟨⟨_, Heap.get?_push_size _ rfl, rfl, rfl⟩, hl.push _⟩, ?_, fun h' tk hk => ?_⟩
  · intro i v s' Q' E' hi hq'
    have hi' : (bs.map Value.bool)[i]? = some v := by simpa using hi
    rw [List.getElem?_map] at hi'
    cases e : bs[i]? with
    | none => rw [e] at hi'; cases hi'
    | some b =>
      rw [e] at hi'
      cases hi'
      have eb : bs.getD i true = b := by simp [List.getD, e]
      have hq2 : Q' b s' := by rw [← eb]; exact hq'
      exact wpAny_truthy_bool hq2
  · have ea : (List.range (bs.map Value.bool).toArray.size).all (fun i => bs.getD i true) = bs.all id := by
      have : (List.range bs.length).map (fun i => bs.getD i true) = bs := by
        apply List.ext_getElem
        · simp
        · intro n h1 h2
          simp [List.getD, List.getElem?_eq_getElem h2]
      calc _ = ((List.range bs.length).map (fun i => bs.getD i true)).all id := by rw [List.all_map]; simp
        _ = bs.all id := by rw [this]
    rw [ea]
    exact ⟨.bl _, H, I.kept (h' := h') (t' := tk) (fun b o e => hk b o (by simp; exact Nat.ne_of_lt (Heap.lt_size e)) (Heap.get?_push_of_some _ e)), rfl, q⟩
end
end L2
/-! ### general words over the layer -/
namespace L2
open PySem PySem.Spec PyProof.Rows
section
variable {P : Program} {w : World} {K : PySem.W.Frag} {mg : Str → Option Value} {base : Heap}
/-- a def that may raise an own exception -/
theorem Fun.okX {x qual : Str} {st : Stmt} {f : Addr} {fd : FuncData} {N ps : List Str} {k : Nat} {sp : Sp} (F : Fun K x qual st f fd) (S : FnScope N ps (defScope st)) (len : ∀ vs H Q E, sp vs H Q E → vs.length = ps.length)
    (hbody : ∀ (cdv : Value) (A : Around) (outer : List Env) (s : Shared) (H : Hp) (vs : List V) (Q : VK) (E : XK), Room k (A.deeper (envOfC qual (defScope st) s.heap.objs.size f cdv)) → sp vs H Q E →
      ∃ t, PSs (cxOf (CXw P w) P w K mg base N qual (defScope st) f cdv A outer s H E) (defBody st) t ∧ t { nx := fun _ H' => Q .non H', rt := Q } (start N vs) H) : FnOk P w K mg base (CXw P w) (k + 1) f fd ps sp := by
  obtain ⟨oc, od, kV, doc, pm, an, cdv, ct, osl, rfl, lk, hcd⟩ := F.ex
  exact fn_of lk hcd S len fun A outer s H vs Q E hr hsp => hbody cdv A outer s H vs Q E hr hsp
/-- where nothing is raised, a def that may raise is called like any other -/
theorem passN {X : Cx} : Passes (CXw X.prog X.w) X E0 := passes_of fun pins σ e s' ⟨_, _, _, _, _, _, _, _, _, _, z⟩ => z.elim
theorem same_new {H : Hp} {p : Addr} (h : H p = none) (o : HO) : Same H (upd H p o) := fun b u q => by rw [upd_ne (ne_of_none q h)]; exact q
theorem same_over {H H' : Hp} {p : Addr} (s : Same H H') (h : H p = none) (o : HO) : Same H (upd H' p o) := fun b u q => by rw [upd_ne (ne_of_none q h)]; exact s b u q
theorem small {n : Nat} (h : n ≤ 100000) : n < sizeLine := Nat.lt_of_le_of_lt h (by decide)
theorem take_snoc {α β : Type} (f : α → β) {l : List α} {i : Nat} {c : α} (h : l[i]? = some c) : (l.take (i + 1)).map f = (l.take i).map f ++ [f c] := by
  rw [List.take_add_one, h, List.map_append]
  rfl
theorem codes_at {x : Str} {i c : Nat} (h : x.cps[i]? = some c) : x.cps.toList[i]? = some c := by simpa using h
theorem codes_len (x : Str) : x.cps.toList.length = x.length := by simp [Str.length]
/-- behind a raise -/
theorem raised_same {H : Hp} {e dx : Addr} {a b c d : HO} (he : H e = none) (hd : H dx = none) : Same H (upd (upd (upd (upd H e a) dx b) e c) e d) := fun x u q => by
  rw [upd_ne (ne_of_none q he), upd_ne (ne_of_none q he), upd_ne (ne_of_none q hd), upd_ne (ne_of_none q he)]
  exact q
theorem new_free {H : Hp} {p q : Addr} {o : HO} (h : upd H p o q = none) : q ≠ p ∧ H q = none := by
  have n : q ≠ p := fun z => by rw [z, upd_same] at h; cases h
  rw [upd_ne n] at h
  exact ⟨n, h⟩
/-- an own exception class with an own __init__, as a raiser wants it -/
structure XHas (K : PySem.W.Frag) (mg : Str → Option Value) (x : Str) (st : Stmt) (C : Addr) (bm : List Value) (f : Addr) (fd : FuncData) (ps : List Str) : Prop where
  xm : XMk K C bm f
  cl : XCls K C
  be : bm.contains (.type "BaseException") = true
  nm : mg x = some (.ref C)
  fn : Fun K "__init__" (x ++ Str.ofString ".__init__") st f fd
  bd : Binds K fd ps []
structure Has (K : PySem.W.Frag) (mg : Str → Option Value) (x : Str) (st : Stmt) (ps : List Str) (f : Addr) (fd : FuncData) : Prop where
  fn : Fun K x x st f fd
  bd : Binds K fd ps []
  nm : mg x = some (.ref f)
end
end L2
namespace L2
open PySem PyProof.Rows
/-! ### classes of exceptions by the text -/
abbrev wl (W : Addr) : List Value := .ref W :: tailVE
theorem xob_cls {K : PySem.W.Frag} {C : Addr} {bm : List Value} (h : XOb K C bm) : ∃ cd, PySem.W.clsIn K C = some cd ∧ cd.mro = .ref C :: bm ∧ PySem.W.typeIn K (.ref C) = some (.type "type") := by
  obtain ⟨nm, q, N, bs, hdct, sn, sub, ab, col, dd, k0, k1, k2, k3, k5, ho⟩ := h
  refine ⟨(match K.lookup C with | some ⟨_, _, .cls cd, _⟩ => cd | _ => { name := nm, bases := [], mro := [], ns := 0, qualname := nm, hasDict := false, slotNames := [], subclasses := [], abstract := false, collection := none, hasDel := false }), ?_, ?_, ?_⟩
  · unfold PySem.W.clsIn
    rw [ho]
  · rw [ho]
  · show (K.lookup C).map (·.cls) = _
    rw [ho]
    rfl
theorem kit_ve {K : PySem.W.Frag} {C W : Addr} (h : XOb K C (wl W)) : PySem.W.kitOne K (.ref C) (.type "ValueError") = some true := by
  obtain ⟨cd, e1, e2, _⟩ := xob_cls h
  unfold PySem.W.kitOne
  rw [if_neg (by simp)]
  show (if PySem.W.kitMeta "ValueError" = true then PySem.W.subIn K (.ref C) (.type "ValueError") else none) = _
  rw [if_pos (by decide +kernel)]
  show PySem.W.mroIn K C (.type "ValueError") = _
  unfold PySem.W.mroIn
  rw [e1, Option.bind_some, e2]
  simp [tailVE]
theorem tail_ve (K : PySem.W.Frag) : PySem.W.tailIn K tailVE tailVE = true := by
  unfold tailVE PySem.W.tailIn
  simp
theorem ns_ok {K : PySem.W.Frag} {N : Addr} {oc : Value} {od : Option Addr} {es : Array DictEntry} {ep : Nat} {sl : Array (Option Value)} (l : K.lookup N = some ⟨oc, od, .dict es ep, sl⟩) (h : (es.all fun e => match e.key with | .str _ _ => true | _ => false) = true) : PySem.W.nsOkIn K N = true := by
  unfold PySem.W.nsOkIn
  rw [l]
  exact h
theorem tail_own {K : PySem.W.Frag} {C N : Addr} {bm tl : List Value} {nm q : Str} {bs : List Value} {hdct : Bool} {sn : List Str} {sub : List Value} {ab : Bool} {col : Option Bool} {dd : Option Addr} {k0 k1 k2 k3 k5 : Option Value}
    (l : K.lookup C = some (excClassObj nm q C N bs bm hdct sn sub ab col dd k0 k1 k2 k3 k5 "ValueError.__new__")) (n1 : PySem.W.nsOkIn K N = true) (n2 : PySem.W.nsIn K N "__init__" = some none) (t : PySem.W.tailIn K tailVE tl = true) : PySem.W.tailIn K tailVE (.ref C :: tl) = true := by
  unfold PySem.W.tailIn
  dsimp only
  rw [l]
  simp [n1, n2, t]
end L2
namespace L2
open PySem PySem.Spec PyProof.Rows
/-! ### lists of pairs as tables -/
section
variable {κ : Type} [DecidableEq κ]
end


/-! ### a tracked dict, its keys ints and texts or tuples of these -/
section
variable {P : Program} {w : World} {H : Hp} {h : Heap} {a : Addr}
end

section
variable {X : Cx} {pins : List (Addr × Obj)} {σ : St} {H : Hp} {s : Shared} {a : Addr} {y v : V} {u r : Value} {o : Option V} {A : Around} {E : Value → Shared → Prop}

end

section
variable {X : Cx} {pins : List (Addr × Obj)} {σ : St} {H : Hp} {s : Shared} {a : Addr} {kvs : List (Key × V)} {k : Key} {u : Value} {A : Around} {E : Value → Shared → Prop}
end


/-! ### readings and rules -/
section
variable {X : Cx} {o i e value : Expr} {pos pos' tpos : Pos} {td ty tv : TE}
end


/-! ### displays -/
section
variable {X : Cx} {pos : Pos}
end

/-! ### methods -/
section
variable {X : Cx} {pins : List (Addr × Obj)} {σ : St} {H : Hp} {s : Shared} {a : Addr} {y d : V} {u r : Value} {o : Option V} {A : Around} {E : Value → Shared → Prop}
end

section
variable {X : Cx} {o e f : Expr} {apos cpos : Pos} {td ty tx : TE}
end

/-! ### dict(d): a copy -/
section
variable {X : Cx} {pins : List (Addr × Obj)} {σ : St} {H : Hp} {s : Shared} {a : Addr} {kvs : List (Key × V)} {A : Around} {E : Value → Shared → Prop}
end


section
variable {X : Cx} {pins : List (Addr × Obj)} {σ : St} {H : Hp} {s : Shared} {a : Addr} {y : V} {u : Value} {A : Around} {E : Value → Shared → Prop}
end
section
variable {X : Cx}
end
/-! ### a dict's pairs: keys that differ -/
section
variable {κ : Type} [DecidableEq κ]
end
end L2
namespace L2
open PySem PySem.Spec PyProof.Rows
/-! ### lists and tuples within one another that are equal -/
section
variable {X : Cx} {pins : List (Addr × Obj)} {σ : St} {H : Hp} {s : Shared}
end
end L2
namespace L2
open PySem PySem.Spec PyProof.Rows
/-! ### what is a list or a tuple -/
def sqO (tu : Bool) (xs : List V) : HO := match tu with
  | false => .lst xs
  | true => .tup xs
def Sq (K : PySem.W.Frag) (tu : Bool) (H : Hp) (a : Addr) (xs : List V) : Prop := match tu with
  | false => SqL K H a xs
  | true => SqT K H a xs
def ItS (K : PySem.W.Frag) (tu : Bool) (a : Addr) : It := match tu with
  | false => Itl K a
  | true => Itt K a
/-- a comprehension over a list or a tuple -/
theorem comp_seq {K : PySem.W.Frag} {tu : Bool} {a p : Addr} {tt : TT} {te : TE} {cs : St} {Q : VK} {H1 : Hp} {xs : List V} (Pv : Nat → List V → Hp → Prop) (h0 : Pv 0 [] (upd H1 p (.lst [])))
    (hl : ∀ i ys H, i ≤ xs.length → Pv i ys H → Sq K tu H a xs)
    (hs : ∀ i x ys H, xs[i]? = some x → Pv i ys H → tt (some x :: cs) H fun b H4 => if b = true then te (some x :: cs) H4 fun y H5 => H5 p = some (.lst ys) ∧ ys.length < sizeLine ∧ Pv (i + 1) (ys ++ [y]) (upd H5 p (.lst (ys ++ [y]))) else Pv (i + 1) ys H4)
    (hd : ∀ ys H, Pv xs.length ys H → Q (.ref p) H) : CompW (ItS K tu a) p tt te cs Q H1 := by
  refine comp_by xs.length Pv h0 ?_ ?_
  · intro i ys H hi pv
    have q := hl i ys H (Nat.le_of_lt hi) pv
    cases tu with
    | false =>
      refine ⟨⟨xs, xs[i], q, by simp [hi]⟩, fun v H3 y => ?_⟩
      obtain ⟨e, y⟩ := y
      subst e
      exact hs i v ys _ (y xs q) pv
    | true =>
      refine ⟨⟨xs, xs[i], q, by simp [hi]⟩, fun v H3 y => ?_⟩
      obtain ⟨e, y⟩ := y
      subst e
      exact hs i v ys _ (y xs q) pv
  · intro ys H pv
    have q := hl _ ys H (Nat.le_refl _) pv
    cases tu with
    | false => exact ⟨⟨xs, q, Nat.le_refl _⟩, hd ys H pv⟩
    | true => exact ⟨⟨xs, q, Nat.le_refl _⟩, hd ys H pv⟩
def tCompR (g : TG) (k : Nat) (wi : TI) (tt : TT) (te : TE) (caps : List Nat) : TE := fun σ H Q => wi σ H fun J H1 => ∀ p, H1 p = none → CompWT (fun _ => True) g k J p tt te (capV σ caps) Q H1
theorem pe_compR {X : Cx} {elt iter : Expr} {ifs : List Expr} {tg : Expr} {g : TG} {pos : Pos} {sc : Scope} {wi : TI} {tt : TT} {te : TE} (xs : List Str) (caps : List Nat) (capsN : List Str)
    (hi : PI X tg iter wi)
    (hg : ∀ cl C s H ex pn, PG (cxComp X (xs ++ capsN) sc cl C s H ex pn) tg g)
    (ht : ∀ cl C s H ex pn, PTs (cxComp X (xs ++ capsN) sc cl C s H ex pn) ifs tt)
    (he : ∀ cl C s H ex pn, PE (cxComp X (xs ++ capsN) sc cl C s H ex pn) elt te)
    (hkind : sc.kind = .function) (hcell : ∀ y ∈ sc.names, y.2 ≠ .cell) (hnames : ∀ y ∈ sc.names, y.2 = .local → sc.names.lookup y.1 = some .local)
    (hfr : ∀ y ∈ sc.names, y.2 = .free → y.1 ∈ capsN)
    (hcap : ∀ (j : Nat) (y : Str), capsN[j]? = some y → ∃ i : Nat, caps[j]? = some i ∧ X.N[i]? = some y ∧ sc.names.lookup y = some .free ∧ (X.env.kindOf y = some .cell ∨ X.env.kindOf y = some .free)) (hlen : caps.length = capsN.length)
    (hc : X.calm = true)
    (hs : ∀ x, foldedSetIterable iter X.env x = pure x := by intro _; rfl) :
    PE X (.ListComp elt [⟨tg, iter, ifs, 0⟩] sc pos) (tCompR g xs.length wi tt te caps) :=
  pe_compT (Gs := fun _ => True) (hb := false) (CW := fun J p cs Q H1 => CompWT (fun _ => True) g xs.length J p tt te cs Q H1) caps capsN hi hg ht he hkind hcell hnames hfr hcap hlen (.inl hc) (fun _ _ _ _ _ h => h) hs
theorem ps_setC1 {X : Cx} {elt iter : Expr} {ifs : List Expr} {x y : Str} {px pos pos' pos2 : Pos} {sc : Scope} {wi : TI} {tt : TT} {te : TE} {i : Nat} (hN : X.N.Nodup) (hiN : X.N[i]? = some y) (hy : X.env.scope.names.lookup y = some .local) (caps : List Nat) (capsN : List Str)
    (hi : PI X (.Name x px) iter wi)
    (ht : ∀ cl C s H ex pn, PTs (cxComp X (x :: capsN) sc cl C s H ex pn) ifs tt)
    (he : ∀ cl C s H ex pn, PE (cxComp X (x :: capsN) sc cl C s H ex pn) elt te)
    (hkind : sc.kind = .function) (hcell : ∀ y ∈ sc.names, y.2 ≠ .cell) (hnames : ∀ y ∈ sc.names, y.2 = .local → sc.names.lookup y.1 = some .local) (hx : sc.names.lookup x = some .local)
    (hfr : ∀ y ∈ sc.names, y.2 = .free → y.1 ∈ capsN)
    (hcap : ∀ (j : Nat) (y : Str), capsN[j]? = some y → ∃ i : Nat, caps[j]? = some i ∧ X.N[i]? = some y ∧ sc.names.lookup y = some .free ∧ (X.env.kindOf y = some .cell ∨ X.env.kindOf y = some .free)) (hlen : caps.length = capsN.length)
    (hnd : (x :: capsN).Nodup) (hc : X.calm = true)
    (hsw : swapsWith (.ListComp elt [⟨.Name x px, iter, ifs, 0⟩] sc pos) (some (.Name y pos')) pos2.line X.env = pure true := by rfl)
    (hs : ∀ x, foldedSetIterable iter X.env x = pure x := by intro _; rfl) :
    PS X (.Assign [.Name y pos'] (.ListComp elt [⟨.Name x px, iter, ifs, 0⟩] sc pos) pos2) (tAsg (tComp wi tt te caps) (gName i)) :=
  ps_setC (Gs := fun _ => True) (hb := false) (CW := fun J p cs Q H1 => CompW J p tt te cs Q H1) hN hiN hy caps capsN hi ht he hkind hcell hnames hx hfr hcap hlen hnd (.inl hc) (fun _ _ _ _ _ h => h.g) hsw hs
/-! ### l != [] -/
section
variable {X : Cx}
end
/-! ### rules within a comprehension, K told -/
section
variable {X : Cx} {K : PySem.W.Frag}
end
/-! ### tuples of flat things in a list -/
end L2
namespace L2
open PySem PySem.Spec PyProof.Rows
/-! ### rows of stretches, as numbers -/
theorem take_next {α : Type} {rs : List α} {i : Nat} {r : α} (h : rs[i]? = some r) : rs.take (i + 1) = rs.take i ++ [r] := by
  rw [List.take_add_one, h]
  rfl
/-! ### whole numbers from b on -/
/-! ### gaps -/
/-! ### rows in the heap -/
end L2
namespace L2
open PySem PySem.Spec PyProof.Rows PySem.W

/-! ### try with several clauses, with or without a name; with an else -/
section
variable {X : Cx} {rest : List ExceptHandler} {suite : List Stmt} {b₀ : Stmt} {ts : Addr → TS} {tr : THs} {wn n : Str} {D : Addr} {bmD : List Value} {i : Nat} {np hpos pos : Pos}
end
end L2
namespace L2
open PySem PySem.Spec PyProof.Rows PySem.W

/-! ### loops in a def that may raise -/
def XPE (X : Cx) (E : XK) (e : Value) (s' : Shared) : Prop := ∃ (pins : List (Addr × Obj)) (σ : St), XP X pins σ E e s'
section
variable {X : Cx} {E : XK}
theorem xp_unwish {W : Value → Shared → Prop} {pins : List (Addr × Obj)} {σ : St} {e : Value} {s' : Shared} (h : XP (X.wish W) pins σ E e s') : XP X pins σ E e s' := by
  obtain ⟨ea, C, dd, tb, H', a, I, b, c, d, q⟩ := h
  exact ⟨ea, C, dd, tb, H', a, I.unwish, b, c, d, q⟩
theorem leaves_in : Leaves (X.wish (XPE X E)) E := fun pins σ e s' h => ⟨pins, σ, xp_unwish h⟩
theorem passes_in : Passes (CXw X.prog X.w) (X.wish (XPE X E)) E := passes_of leaves_in
theorem own_in (hst : X.stack = X.env :: X.outer) (hfr : X.env.frame = some X.env.locals) : PassesOwn (model X.prog X.w) X.A X.env (XPE X E) := by
  rintro e s ⟨pins, σ, ea, C, dd, tb, H, rfl, I, mu, x, ht, q⟩
  have ne : ∀ T0, H T0 = none → T0 ≠ ea := fun T0 n z => by subst z; rw [n] at mu; exact mu
  refine noted_here (base := X.base) (outer := X.outer) (by rw [I.ok.frames, hst]) (by rw [← hst]; exact I.stack) hfr x ?_ fun h' T Nt => ?_
  · rcases ht with z | ⟨T0, z, n0, _, _, t0⟩
    · exact .inl z
    · exact .inr ⟨T0, z, ne T0 n0, t0⟩
  have J := I.noted hst hfr mu x ht Nt
  obtain ⟨nT, hT, pT⟩ := tb_new I ht Nt.new
  refine ⟨pins, σ, ea, C, dd, .ref T, _, rfl, J, by rw [upd_same]; trivial, Nt.ex, .inr ⟨T, rfl, by rw [upd_ne (ne T nT)]; exact nT, hT, pT, .inr Nt.tb⟩, ?_⟩
  rw [upd_upd]
  exact q
theorem ps_whileE {c : Expr} {body : List Stmt} {tc : TT} {tb : TS} {pos : Pos} (l : Leaves X E) (hc : PT (X.wish (XPE X E)) c tc) (hb : PSs (X.wish (XPE X E)) body tb)
    (hst : X.stack = X.env :: X.outer := by rfl) (hfr : X.env.frame = some X.env.locals := by rfl) : PS X (.While c body [] pos) (tWhile tc tb) := by
  intro pins s σ H D I h
  refine wpAny_mono (ps_while (X := X.wish (XPE X E)) (own_in hst hfr) hc hb pins s σ H D (I.wish _) h) (fun _ _ z => z.unwish) ?_
  rintro e s' ⟨pins', σ', z⟩
  exact l pins' σ' e s' z
end

/-! ### methods and makings that raise, within a try's body -/
section
variable {X : Cx} {k : Nat} {f C : Addr} {fd : FuncData} {ps : List Str} {sp : Sp} {dvs : List V} {ds : List Value} {x m : Str} {p pos apos : Pos} {e o : Expr} {es : List Expr} {ta : TE} {t : TA}
end
end L2
/-! ### things of any kind; is_whole, is_within -/
namespace L2
open PySem PySem.Spec PyProof.Rows
section
variable (K : PySem.W.Frag)
theorem k0_ib : PySem.W.kitOne K (.type "int") (.type "bool") = some false := by kernel_rfl
theorem k0_sb : PySem.W.kitOne K (.type "str") (.type "bool") = some false := by kernel_rfl
end
/-! ### methods; classes of exceptions -/
end L2
/-! ### a floor -/
namespace FL
open PySem L2 PyProof.Rows
structure FS where
  n : Int
  kp : List (Key × V)
  ks : List (Key × V)
  ws : List V
  d : Bool
  l : V
section
variable {C p pc sp wr : Addr} {H H' : Hp} {st st' : FS}
end
structure Cl where
  F : Addr
  W : Addr
  PG : Addr
  NF : Addr
  NP : Addr
  NI : Addr
  SO : Addr
/-! ### what each of its methods promises -/
end FL
namespace L2
open PySem PySem.Spec PyProof.Rows
section
variable {X : Cx}
end
end L2
namespace FL
open PySem L2 PyProof.Rows
/-! ### what the law keeps beside a floor -/
structure LS where
  bn : List (Key × V)
  bd : List (Key × V)
  dn : List V
  lf : Int
  dk : Bool
section
variable {H H' : Hp} {q b a d : Addr} {ls : LS}
end
section
variable {H : Hp} {q b a d : Addr} {ls : LS}
end
/-! ### both tell the same -/
section
variable {st : FS} {ls : LS} {m : Nat} {i : Int} {v : V}
/-! ### a floor and what is kept beside it -/
structure AD where
  p : Addr
  pc : Addr
  sp : Addr
  wr : Addr
  q : Addr
  b : Addr
  a : Addr
  d : Addr
section
variable {R R' : FS → LS → Prop} {c : Cl} {H H' : Hp} {A B : AD} {n : Int}
end
end
end FL
/-! ### sorted, min and max of lists, min of three -/
namespace L2
open PySem PySem.Spec PyProof.Rows
section
variable {X : Cx}
end
end L2
/-! ### a dict's keys as a list, sorted -/
namespace L2
open PySem PySem.Spec PyProof.Rows PySem.W
section
variable {X : Cx}
end
end L2
/-! ### d.update(e), both dicts of ints and texts -/
namespace L2
open PySem PySem.Spec PyProof.Rows
section
variable {X : Cx} {pins : List (Addr × Obj)} {σ : St} {H : Hp} {s : Shared} {a b : Addr} {A : Around} {E : Value → Shared → Prop}
end
section
variable {X : Cx} {o e : Expr} {apos cpos : Pos} {td ty : TE}
end
end L2
/-! ### several records of ours turn; zip of two lists, its pairs taken apart at once -/
namespace L2
open PySem PySem.Spec PyProof.Rows
section
variable {X : Cx} {pins : List (Addr × Obj)} {σ : St} {H : Hp} {s : Shared} {h' : Heap}
/-- untracked records of ours have turned -/
theorem Inv.turns {t' : Nat} {W : List Addr} (I : Inv X pins σ H s) (hW : ∀ b ∈ W, FpOk X pins H b) (k : ∀ b o, b ∉ W → s.heap.get? b = some o → h'.get? b = some o) : Inv X pins σ H { s with heap := h', toks := t' } := by
  have nit : ∀ b u, H b = some u → b ∉ W := fun b u e z => by
    have q := (hW b z).1
    rw [q] at e
    cases e
  have lW : X.env.locals ∉ W := fun z => (hW _ z).2.1 rfl
  refine I.step (g' := s.gens) (d' := s.drawn) (ch := W) (fun b hb => ?_) (fun b o _ _ hc e _ => k b o hc e) (fun b o _ _ hc e _ => ⟨o.slots, k b o hc e⟩) (fun _ _ _ _ n => n) (fun b o hc e => ⟨o, k b o hc e⟩) (fun _ _ e => e) (fun _ _ _ e => e)
    (fun b ps e => ⟨#[], by rw [e]; simp⟩) (fun m hm => ?_) (fun b u e => ?_) I.bare
  · obtain ⟨_, a2, _, a4, a5, a6⟩ := hW b hb
    exact ⟨a4, a2, a5, a6⟩
  · obtain ⟨o, es, ep, ho, r⟩ := hm
    exact ⟨o, es, ep, k _ o lW ho, r⟩
  · refine (I.hok b u e).stay (fun c v hc q => k c v ?_ q) (fun _ q => q) fun _ _ q => q
    rcases hc with z | z
    · exact z ▸ nit b u e
    · exact nit c _ z
/-- the same, and a new object is tracked -/
theorem Inv.turnsLaid {t' : Nat} {W : List Addr} {T : Addr} {o : HO} (I : Inv X pins σ H s) (hW : ∀ b ∈ W, FpOk X pins H b) (k : ∀ b u, b ∉ W → s.heap.get? b = some u → h'.get? b = some u) (hT : s.heap.objs.size ≤ T)
    (new : ObjOk X.prog X.w (upd H T o) h' T o) : Inv X pins σ (upd H T o) { s with heap := h', toks := t' } := by
  have nT := I.hok.fresh hT
  have nit : ∀ b u, H b = some u → b ∉ W := fun b u e z => by
    have q := (hW b z).1
    rw [q] at e
    cases e
  have lW : X.env.locals ∉ W := fun z => (hW _ z).2.1 rfl
  refine I.step (g' := s.gens) (d' := s.drawn) (ch := W) (fun b hb => ?_) (fun b o _ _ hc e _ => k b o hc e) (fun b o _ _ hc e _ => ⟨o.slots, k b o hc e⟩)
    (fun b o _ e n => by rw [upd_ne (Nat.ne_of_lt (Nat.lt_of_lt_of_le (Heap.lt_size e) hT))]; exact n) (fun b o hc e => ⟨o, k b o hc e⟩)
    (fun b xs e => by rw [upd_ne (ne_of_none e nT)]; exact e) (fun b _ _ e => by rw [upd_ne (ne_of_none e nT)]; exact e)
    (fun b ps e => ⟨#[], by rw [upd_ne (ne_of_none e nT), e]; simp⟩) (fun m hm => ?_) (fun b u e => ?_) I.bare
  · obtain ⟨_, a2, _, a4, a5, a6⟩ := hW b hb
    exact ⟨a4, a2, a5, a6⟩
  · obtain ⟨o, es, ep, ho, r⟩ := hm
    exact ⟨o, es, ep, k _ o lW ho, r⟩
  · by_cases hb : b = T
    · subst hb
      rw [upd_same] at e
      cases e
      exact new
    · rw [upd_ne hb] at e
      refine (I.hok b u e).stay (fun c v hc q => k c v ?_ q) (fun c q => by rw [upd_ne (ne_of_none q nT)]; exact q) fun c xs q => by rw [upd_ne (ne_of_none q nT)]; exact q
      rcases hc with z | z
      · exact z ▸ nit b u e
      · exact nit c _ z
end
/-- the lists at a and b side by side -/
def Itz (K : PySem.W.Frag) (a b : Addr) : It :=
  ⟨fun i H => ∃ xs ys x y, SqL K H a xs ∧ SqL K H b ys ∧ xs[i]? = some x ∧ ys[i]? = some y,
   fun i H v H' => ∃ t x y, v = .ref t ∧ H t = none ∧ H' = upd H t (.tup [x, y]) ∧ (∀ xs, SqL K H a xs → xs[i]? = some x) ∧ ∀ ys, SqL K H b ys → ys[i]? = some y,
   fun i H => ∃ xs ys, SqL K H a xs ∧ SqL K H b ys ∧ (xs.length ≤ i ∨ ys.length ≤ i)⟩
/-- what a zip's records are -/
structure ZipAt (z TI TO i1 i2 a b : Addr) (i : Nat) (h : Heap) : Prop where
  zip : IsZip h z TI TO .none
  its : IsPair h TI (.ref i1) (.ref i2)
  own : ∃ u v, IsPair h TO u v
  it1 : h.IsListIter i1 a i
  it2 : h.IsListIter i2 b i
theorem ZipAt.apart {z TI TO i1 i2 a b : Addr} {i : Nat} {h : Heap} {p q : Array Value} (Z : ZipAt z TI TO i1 i2 a b i h) (ha : h.IsList a p) (hb : h.IsList b q) (t : TI ≠ TO) (n : i1 ≠ i2) : ZipApart z TI TO i1 i2 a b := by
  obtain ⟨hz, hI, ⟨u, v, hO⟩, ⟨o1, e1, c1, _⟩, ⟨o2, e2, c2, _⟩⟩ := Z
  obtain ⟨oa, ea, ca, _⟩ := ha
  obtain ⟨ob, eb, cb, _⟩ := hb
  have ne : ∀ {x y : Addr} {o o' : Obj}, h.get? x = some o → h.get? y = some o' → o.cls ≠ o'.cls → x ≠ y := fun e e' hc z => by
    subst z
    rw [e] at e'
    cases e'
    exact hc rfl
  refine ⟨ne hI hz ?_, ne hO hz ?_, ne e1 hz ?_, ne e2 hz ?_, t, ne hI e1 ?_, ne hI e2 ?_, ne hO e1 ?_, ne hO e2 ?_, n, ne ea hz ?_, ne ea hO ?_, ne ea e1 ?_, ne ea e2 ?_, ne eb hz ?_, ne eb hO ?_, ne eb e1 ?_, ne eb e2 ?_⟩ <;> simp [c1, c2, ca, cb]
theorem turn_zip {P : Program} {w : World} {K : PySem.W.Frag} {elts : List Expr} {x1} {tp : Pos} {z TI TO i1 i2 a b : Addr} (t : TI ≠ TO) (n : i1 ≠ i2) :
    Turn P w K (.Tuple elts x1 tp) (Itz K a b) [z, TI, TO, i1, i2] z (ZipAt z TI TO i1 i2 a b) where
  mem := by simp
  obj := fun i h Z c hc => by
    obtain ⟨hz, hI, ⟨u, v, hO⟩, ⟨o1, e1, _, d1⟩, ⟨o2, e2, _, d2⟩⟩ := Z
    simp only [List.mem_cons, List.not_mem_nil, or_false] at hc
    rcases hc with rfl | rfl | rfl | rfl | rfl
    · exact ⟨_, hz, fun v q => by cases q⟩
    · exact ⟨_, hI, fun v q => by cases q⟩
    · exact ⟨_, hO, fun v q => by cases q⟩
    · exact ⟨_, e1, fun v q => by rw [d1] at q; cases q⟩
    · exact ⟨_, e2, fun v q => by rw [d2] at q; cases q⟩
  keep := fun i h h' Z k => by
    obtain ⟨hz, hI, ⟨u, v, hO⟩, j1, j2⟩ := Z
    exact ⟨k z (by simp) _ hz, k TI (by simp) _ hI, ⟨u, v, k TO (by simp) _ hO⟩, j1.at fun o e => k i1 (by simp) o e, j2.at fun o e => k i2 (by simp) o e⟩
  item := by
    intro X hP hw hK s hc i pins σ H E I hf Z hg
    subst hP hw hK
    obtain ⟨xs, ys, x, y, qa, qb, gx, gy⟩ := hg
    obtain ⟨its, rv, p, _⟩ := I.list qa
    obtain ⟨jts, rw', p', _⟩ := I.list qb
    obtain ⟨u, hu, ru⟩ := rv.get gx
    obtain ⟨v, hv, rv'⟩ := rw'.get gy
    have D := Z.apart p.isList p'.isList t n
    obtain ⟨hz, hI, ⟨e1, e2, hO⟩, j1, j2⟩ := Z
    refine wpAny_pyNext_zip_item D hz hI hO j1 j2 p.isList p'.isList (x := u) (y := v) (by simpa using hu) (by simpa using hv) fun h1 a1 a2 a3 a4 a5 a6 kp => ?_
    refine ⟨_, rfl, wpAny_letOwnedTupleGo_zip a1 fun h2 b1 sb => ?_⟩
    have lz := Heap.lt_size hz
    have T2 : IsPair h2 s.heap.objs.size u v := sb.extBut _ _ (Nat.ne_of_gt lz) a5
    have nT := I.hok.fresh (Nat.le_refl s.heap.objs.size)
    have I1 : Inv X pins σ (upd H s.heap.objs.size (.tup [x, y])) { s with heap := h2 } := I.turnsLaid (W := [z, TI, TO, i1, i2]) (t' := s.toks) (T := s.heap.objs.size) (o := .tup [x, y]) hf
      (fun c o hc e => by
        simp only [List.mem_cons, List.not_mem_nil, or_false, not_or] at hc
        exact sb.extBut _ _ hc.1 (kp c o hc.1 hc.2.2.1 hc.2.2.2.1 hc.2.2.2.2 e)) (Nat.le_refl _) ⟨by show 2 ≤ sizeLine; decide, [u, v], .cons ru (.cons rv' .nil), ⟨_, T2, rfl, _, rfl⟩⟩
    refine ⟨.ref s.heap.objs.size, _, I1, rfl, ⟨_, x, y, rfl, nT, rfl, fun zs hq => by rw [I.list_inj hq qa]; exact gx, fun zs hq => by rw [I.list_inj hq qb]; exact gy⟩, ?_, fun c hc => ?_⟩
    · exact ⟨b1, sb.extBut _ _ D.TIz (kp _ _ D.TIz D.TITO D.TIi1 D.TIi2 hI), ⟨_, _, sb.extBut _ _ D.TOz a2⟩, a3.extBut sb.extBut D.i1z, a4.extBut sb.extBut D.i2z⟩
    · have lt : c < s.heap.objs.size := by
        simp only [List.mem_cons, List.not_mem_nil, or_false] at hc
        obtain ⟨o1, f1, _⟩ := j1
        obtain ⟨o2, f2, _⟩ := j2
        rcases hc with rfl | rfl | rfl | rfl | rfl
        · exact lz
        · exact Heap.lt_size hI
        · exact Heap.lt_size hO
        · exact Heap.lt_size f1
        · exact Heap.lt_size f2
      rw [upd_ne (Nat.ne_of_lt lt)]
      exact (hf c hc).1
  done := by
    intro X hP hw hK s hc i pins σ H E I hf Z hg
    subst hP hw hK
    obtain ⟨xs, ys, qa, qb, hx⟩ := hg
    obtain ⟨its, rv, p, _⟩ := I.list qa
    obtain ⟨jts, rw', p', _⟩ := I.list qb
    have D := Z.apart p.isList p'.isList t n
    obtain ⟨hz, hI, ⟨e1, e2, hO⟩, j1, j2⟩ := Z
    have l1 := rv.length
    have l2 := rw'.length
    refine wpAny_pyNext_zip_end hc.none D hz hI hO j1 j2 p.isList p'.isList (hx.imp (fun q => by simp; omega) fun q => by simp; omega) fun h' kp => ⟨rfl, I.turns (t' := s.toks) (W := [z, TI, TO, i1, i2]) hf fun c o hc e => ?_⟩
    simp only [List.mem_cons, List.not_mem_nil, or_false, not_or] at hc
    exact kp c o hc.1 hc.2.2.1 hc.2.2.2.1 hc.2.2.2.2 e
  self := fun _ _ _ _ _ st h => wpAny_pyIter_zip st.zip h
def iZip (K : PySem.W.Frag) (ta : TA) : TI := fun σ H R => ta σ H fun vs H1 => ∃ a b xs ys, vs = [.ref a, .ref b] ∧ SqL K H1 a xs ∧ SqL K H1 b ys ∧ R (Itz K a b) H1
theorem pi_zip {X : Cx} {elts : List Expr} {x1} {tp : Pos} {a b : Expr} {ta : TA} {p pos : Pos} (hg : Gl X "zip") (hm : X.mg "zip" = none) (ha : PA X [a, b] ta) (hs : starEach [a, b] X.env = [(false, eval a X.env), (false, eval b X.env)] := by rfl) (hs2 : starEach [b] X.env = [(false, eval b X.env)] := by rfl) :
    PI X (.Tuple elts x1 tp) (.Call (.Name "zip" p) [a, b] [] pos) (iZip X.K ta) := by
  intro pins s σ H R I h
  refine Call_ (ld_blt I hg hm boot_zip (PyProof.Rows.callWith_type1 (thn (ha pos pins s σ H _ I h) fun us s1 ⟨vs, H1, I1, r1, q1⟩ => ?_) (by rw [hs, hs2]) (by rw [hs2]; rfl)))
  obtain ⟨a, b, xs, ys, e, qa, qb, q⟩ := q1
  subst e
  cases r1 with
  | cons r rr =>
    cases rr with
    | cons r' rr =>
      cases rr
      cases r
      cases r'
      obtain ⟨its, rv, p, _⟩ := I1.list qa
      obtain ⟨jts, rw', p', _⟩ := I1.list qb
      refine call_zip_2 p.isList p'.isList fun h' z1 z2 z3 z4 z5 z6 kp => wpAny_pyIter_zip z1 ?_
      refine ⟨_, [_, s1.heap.objs.size + 2, s1.heap.objs.size + 3, s1.heap.objs.size, s1.heap.objs.size + 1], _, _, H1, rfl, I1.kept (t' := s1.toks) kp, turn_zip (by simp) (by simp), ⟨z1, z2, ⟨_, _, z3⟩, z4, z5⟩, fun c hc => ?_, q⟩
      have le : s1.heap.objs.size ≤ c := by
        simp only [List.mem_cons, List.not_mem_nil, or_false] at hc
        rcases hc with rfl | rfl | rfl | rfl | rfl <;> omega
      exact I1.fpOk le (I1.hok.fresh le)
end L2
/-! ### zip of two tuples, its pairs taken apart at once -/
namespace L2
open PySem PySem.Spec PyProof.Rows
section
variable {prog : Program} {w : World} {A : Around} {E : Value → Shared → Prop} {s : Shared}
/-- one turn of a tuple's iterator, as zip draws it -/
theorem drawT {j c : Addr} {k : Nat} {us : Array Value} {u : Value} {Q : Value → Shared → Prop} (hj : s.heap.IsTupleIter j c k) (hc : s.heap.IsTuple c us) (hu : us[k]? = some u)
    (q : ∀ g, g.IsTupleIter j c (k + 1) → Heap.SameBut j s.heap g → Q u { s with heap := g }) : wpAny (model prog w) A (Builtin.SmallTypes.nextOf (.ref j)) Q E s := by
  obtain ⟨oj, ej, kj, dj⟩ := id hj
  obtain ⟨oc, ec, _, nc, dc⟩ := hc
  unfold Builtin.SmallTypes.nextOf
  have T := hj.typeIs
  refine wpAny_bind (wpAny_callSpecial?_slot (name := Str.ofString "__next__") T F.slot_tuple_iterator_next (wpAny_call_entry F.slot_tuple_iterator_next T F.entry_tuple_iterator_next ?_ (F.args_tuple_iterator_next_1 _)))
  show wpAny (model prog w) _ (field (.ref j) 0 >>= _) _ _ s
  refine wpAny_bind (wpAny_field ej dj (x := .ref c) rfl ?_)
  show wpAny (model prog w) _ (if (Value.ref c == Value.none) = true then _ else _) _ _ s
  rw [if_neg (show ¬ ((Value.ref c == Value.none) = true) by simp)]
  show wpAny (model prog w) _ (field (.ref j) 1 >>= _) _ _ s
  refine wpAny_bind (wpAny_field ej dj (x := .int k 0) rfl ?_)
  show wpAny (model prog w) _ (seqItems? (.ref c) >>= _) _ _ s
  refine wpAny_bind (wpAny_seqItems ec dc ?_)
  simp only [Int.toNat_natCast, hu]
  refine wpAny_bind (wpAny_setField ej dj (by simp) (wpAny_pure ⟨u, rfl, wpAny_pure (q _ ⟨_, Heap.get?_update_self _ ej (Obj.isFreed_of_fields (Obj.data_mapFields dj _)), (Obj.cls_mapFields ..).trans kj, ?_⟩ (Heap.SameBut.update ..))⟩))
  rw [Obj.data_mapFields dj]
  simp [rawInt]
theorem drawT_end {j c : Addr} {k : Nat} {us : Array Value} {Q : Value → Shared → Prop} (hh : A.handled = none) (hj : s.heap.IsTupleIter j c k) (hc : s.heap.IsTuple c us) (hu : us[k]? = none)
    (q : ∀ g e, Heap.ExtBut j s.heap g → (∃ o, g.get? e = some o ∧ o.cls = .type "StopIteration") → E (.ref e) { s with heap := g }) : wpAny (model prog w) A (Builtin.SmallTypes.nextOf (.ref j)) Q E s := by
  obtain ⟨oj, ej, kj, dj⟩ := id hj
  obtain ⟨oc, ec, _, nc, dc⟩ := hc
  unfold Builtin.SmallTypes.nextOf
  have T := hj.typeIs
  refine wpAny_bind (wpAny_callSpecial?_slot (name := Str.ofString "__next__") T F.slot_tuple_iterator_next (wpAny_call_entry F.slot_tuple_iterator_next T F.entry_tuple_iterator_next ?_ (F.args_tuple_iterator_next_1 _)))
  show wpAny (model prog w) _ (field (.ref j) 0 >>= _) _ _ s
  refine wpAny_bind (wpAny_field ej dj (x := .ref c) rfl ?_)
  show wpAny (model prog w) _ (if (Value.ref c == Value.none) = true then _ else _) _ _ s
  rw [if_neg (show ¬ ((Value.ref c == Value.none) = true) by simp)]
  show wpAny (model prog w) _ (field (.ref j) 1 >>= _) _ _ s
  refine wpAny_bind (wpAny_field ej dj (x := .int k 0) rfl ?_)
  show wpAny (model prog w) _ (seqItems? (.ref c) >>= _) _ _ s
  refine wpAny_bind (wpAny_seqItems ec dc ?_)
  simp only [Int.toNat_natCast, hu]
  refine wpAny_bind (wpAny_rule (wpAny_bind (wpAny_setField ej dj (by simp) ?_)))
  show wpAny (model prog w) _ (newExc (.type "StopIteration") [] >>= _) _ _ _
  refine wpAny_bind ?_
  simp only [newExc, newTuple]
  refine wpAny_bind (wpAny_newObj_type ?_ (by size_fits))
  refine wpAny_bind (m := firstArgMember _ _) (wpAny_of_eq (a := Value.none) (by simp only [firstArgMember]; rfl) ?_)
  refine wpAny_newObj_type ?_ (by size_fits)
  simp only [raiseNew]
  refine wpAny_bind (wpAny_handled ?_)
  rw [show A.in1.handled = none from hh]
  exact wpAny_bind (wpAny_pure (wpAny_throw (q _ _ (((Heap.SameBut.update ..).extBut.push _).push _) ⟨_, Heap.get?_push_size _ rfl, rfl⟩)))
/-- zip's step, both have one more -/
theorem zipT_item {z p o i1 i2 c1 c2 : Addr} {k : Nat} {us vs : Array Value} {u v a b : Value} {Q : Value → Shared → Prop} (D : ZipApart z p o i1 i2 c1 c2) (hz : IsZip s.heap z p o .none) (hp : IsPair s.heap p (.ref i1) (.ref i2)) (ho : IsPair s.heap o a b)
    (j1 : s.heap.IsTupleIter i1 c1 k) (j2 : s.heap.IsTupleIter i2 c2 k) (t1 : s.heap.IsTuple c1 us) (t2 : s.heap.IsTuple c2 vs) (hu : us[k]? = some u) (hv : vs[k]? = some v)
    (q : ∀ g, IsZip g z p o (rawInt s.heap.objs.size) → IsPair g o u v → g.IsTupleIter i1 c1 (k + 1) → g.IsTupleIter i2 c2 (k + 1) → IsPair g s.heap.objs.size u v →
      (∀ c x, c ≠ z → c ≠ o → c ≠ i1 → c ≠ i2 → s.heap.get? c = some x → g.get? c = some x) → Q (.ref s.heap.objs.size) { s with heap := g }) :
    wpAny (model prog w) A (Builtin.«zip.__next__» ⟨[.ref z], []⟩) (fun f s' => ∃ r, f = .done (.ret r) ∧ Q r s') E s := by
  show wpAny (model prog w) _ (field (.ref z) 2 >>= _) _ _ _
  refine wpAny_bind (wpAny_field hz rfl (x := .bool false) rfl ?_)
  show wpAny (model prog w) _ (field (.ref z) 3 >>= _) _ _ _
  refine wpAny_bind (wpAny_field hz rfl (x := .ref p) rfl (wpAny_bind (wpAny_seqItems hp rfl ?_)))
  show wpAny (model prog w) _ (Builtin.SmallTypes.ownedTupleIsFree (.ref z) >>= _) _ _ _
  refine wpAny_bind ?_
  unfold Builtin.SmallTypes.ownedTupleIsFree
  refine wpAny_bind (wpAny_field hz rfl (x := .none) rfl (wpAny_pure ?_))
  simp only [if_true]
  refine wpAny_bind (wpAny_rule (wpAny_bind (wpAny_field hz rfl (x := .ref o) rfl (wpAny_bind (wpAny_setField_rec hz (by simp) fun g1 z1 s1 => ?_)))))
  refine wpAny_bind ?_
  simp only [List.zipIdx_cons, List.zipIdx_nil, List.forIn_cons, List.forIn_nil]
  refine wpAny_bind (wpAny_bind (wpAny_onRaise ?_))
  show wpAny (model prog w) _ (Builtin.SmallTypes.nextOf (.ref i1) >>= _) _ _ _
  refine wpAny_bind (drawT (j1.extBut s1.extBut D.i1z) (t1.extBut s1.extBut D.l1z) hu fun g2 j12 s2 => wpAny_pure ?_)
  have o2 : IsPair g2 o a b := s2.extBut _ _ D.TOi1 (s1.extBut _ _ D.TOz ho)
  refine wpAny_bind (wpAny_seqItems o2 rfl (wpAny_bind (wpAny_updateSeq_pair o2 fun g3 o3 s3 => ?_)))
  replace o3 : IsPair g3 o u b := o3
  refine wpAny_bind (wpAny_letGo (wpAny_pure (wpAny_bind (wpAny_bind (wpAny_onRaise ?_)))))
  show wpAny (model prog w) _ (Builtin.SmallTypes.nextOf (.ref i2) >>= _) _ _ _
  refine wpAny_bind (drawT (((j2.extBut s1.extBut D.i2z).extBut s2.extBut D.i12.symm).extBut s3.extBut D.TOi2.symm) (((t2.extBut s1.extBut D.l2z).extBut s2.extBut D.l2i1).extBut s3.extBut D.l2TO) hv fun g4 j24 s4 => wpAny_pure ?_)
  have o4 : IsPair g4 o u b := s4.extBut _ _ D.TOi2 o3
  refine wpAny_bind (wpAny_seqItems o4 rfl (wpAny_bind (wpAny_updateSeq_pair o4 fun g5 o5 s5 => ?_)))
  replace o5 : IsPair g5 o u v := o5
  refine wpAny_bind (wpAny_letGo (wpAny_pure (wpAny_pure (wpAny_bind (wpAny_seqItems o5 rfl (wpAny_bind (wpAny_newTuple ?_)))))))
  have sz : g5.objs.size = s.heap.objs.size := by rw [s5.1, s4.1, s3.1, s2.1, s1.1]
  have z5 : IsZip g5 z p o .ellipsis := s5.extBut _ _ D.TOz.symm (s4.extBut _ _ D.i2z.symm (s3.extBut _ _ D.TOz.symm (s2.extBut _ _ D.i1z.symm z1)))
  have k5 : ∀ c x, c ≠ z → c ≠ o → c ≠ i1 → c ≠ i2 → s.heap.get? c = some x → g5.get? c = some x := fun c x n1 n2 n3 n4 e => s5.extBut _ _ n2 (s4.extBut _ _ n4 (s3.extBut _ _ n2 (s2.extBut _ _ n3 (s1.extBut _ _ n1 e))))
  have j15 : g5.IsTupleIter i1 c1 (k + 1) := ((j12.extBut s3.extBut D.TOi1.symm).extBut s4.extBut D.i12).extBut s5.extBut D.TOi1.symm
  have j25 : g5.IsTupleIter i2 c2 (k + 1) := j24.extBut s5.extBut D.TOi2.symm
  have lz : z < g5.objs.size := Heap.lt_size z5
  show wpAny (model prog w) _ (Builtin.SmallTypes.ownedTupleHandOut (.ref z) (.ref g5.objs.size) >>= _) _ _ _
  refine wpAny_bind ?_
  unfold Builtin.SmallTypes.ownedTupleHandOut
  have z6 : IsZip (g5.push { cls := .type "tuple", data := .seq #[u, v] }) z p o .ellipsis := Heap.get?_push_of_some _ z5
  refine wpAny_bind (wpAny_setField_rec z6 (by simp) fun g7 z7 s7 => ?_)
  replace z7 : IsZip g7 z p o (rawInt g5.objs.size) := z7
  refine wpAny_setField_rec z7 (by simp) fun g8 z8 s8 => ?_
  replace z8 : IsZip g8 z p o (rawInt g5.objs.size) := z8
  have up : ∀ c x, c ≠ z → g5.get? c = some x → g8.get? c = some x := fun c x n1 e => s8.extBut _ _ n1 (s7.extBut _ _ n1 (Heap.get?_push_of_some _ e))
  have n8 : IsPair g8 g5.objs.size u v := s8.extBut _ _ (Nat.ne_of_gt lz) (s7.extBut _ _ (Nat.ne_of_gt lz) (Heap.get?_push_size _ rfl))
  rw [sz] at z8 n8
  refine wpAny_pure ⟨_, rfl, ?_⟩
  show Q (.ref g5.objs.size) _
  rw [sz]
  obtain ⟨x1, e1, r1⟩ := j15
  obtain ⟨x2, e2, r2⟩ := j25
  exact q g8 z8 (up _ _ D.TOz o5) ⟨x1, up _ _ D.i1z e1, r1⟩ ⟨x2, up _ _ D.i2z e2, r2⟩ n8 fun c x n1 n2 n3 n4 e => up c x n1 (k5 c x n1 n2 n3 n4 e)
/-- zip's step, one of them has no more -/
theorem zipT_end {z p o i1 i2 c1 c2 : Addr} {k : Nat} {us vs : Array Value} {a b : Value} {Q : Fin → Shared → Prop} (hh : A.handled = none) (D : ZipApart z p o i1 i2 c1 c2) (hz : IsZip s.heap z p o .none) (hp : IsPair s.heap p (.ref i1) (.ref i2)) (ho : IsPair s.heap o a b)
    (j1 : s.heap.IsTupleIter i1 c1 k) (j2 : s.heap.IsTupleIter i2 c2 k) (t1 : s.heap.IsTuple c1 us) (t2 : s.heap.IsTuple c2 vs) (hn : us[k]? = none ∨ vs[k]? = none)
    (q : ∀ g e, (∀ c x, c ≠ z → c ≠ o → c ≠ i1 → c ≠ i2 → s.heap.get? c = some x → g.get? c = some x) → (∃ x, g.get? e = some x ∧ x.cls = .type "StopIteration") → E (.ref e) { s with heap := g }) :
    wpAny (model prog w) A (Builtin.«zip.__next__» ⟨[.ref z], []⟩) Q E s := by
  show wpAny (model prog w) _ (field (.ref z) 2 >>= _) _ _ _
  refine wpAny_bind (wpAny_field hz rfl (x := .bool false) rfl ?_)
  show wpAny (model prog w) _ (field (.ref z) 3 >>= _) _ _ _
  refine wpAny_bind (wpAny_field hz rfl (x := .ref p) rfl (wpAny_bind (wpAny_seqItems hp rfl ?_)))
  show wpAny (model prog w) _ (Builtin.SmallTypes.ownedTupleIsFree (.ref z) >>= _) _ _ _
  refine wpAny_bind ?_
  unfold Builtin.SmallTypes.ownedTupleIsFree
  refine wpAny_bind (wpAny_field hz rfl (x := .none) rfl (wpAny_pure ?_))
  simp only [if_true]
  refine wpAny_bind (wpAny_rule (wpAny_bind (wpAny_field hz rfl (x := .ref o) rfl (wpAny_bind (wpAny_setField_rec hz (by simp) fun g1 z1 s1 => ?_)))))
  replace z1 : IsZip g1 z p o .ellipsis := z1
  refine wpAny_bind ?_
  simp only [List.zipIdx_cons, List.zipIdx_nil, List.forIn_cons, List.forIn_nil]
  refine wpAny_bind (wpAny_bind (wpAny_onRaise ?_))
  show wpAny (model prog w) _ (Builtin.SmallTypes.nextOf (.ref i1) >>= _) _ _ _
  have apart : ∀ {g : Heap} {e : Addr} {x : Obj}, IsZip g z p o .ellipsis → g.get? e = some x → x.cls = .type "StopIteration" → e ≠ z := fun hz' he hc n => by
    subst n
    rw [hz'] at he
    cases he
    simp at hc
  cases hu : us[k]? with
  | none =>
    refine wpAny_bind (drawT_end hh (j1.extBut s1.extBut D.i1z) (t1.extBut s1.extBut D.l1z) hu fun g2 e s2 he => ?_)
    obtain ⟨x, ex, cx⟩ := he
    have z2 : IsZip g2 z p o .ellipsis := s2 _ _ D.i1z.symm z1
    exact wpAny_setField_rec z2 (by simp) fun g3 _ s3 => q g3 e (fun c y n1 _ n3 _ h => s3.extBut _ _ n1 (s2 _ _ n3 (s1.extBut _ _ n1 h))) ⟨x, s3.extBut _ _ (apart z2 ex cx) ex, cx⟩
  | some u =>
    have hv : vs[k]? = none := hn.resolve_left fun h => by rw [hu] at h; cases h
    refine wpAny_bind (drawT (j1.extBut s1.extBut D.i1z) (t1.extBut s1.extBut D.l1z) hu fun g2 j12 s2 => wpAny_pure ?_)
    have o2 : IsPair g2 o a b := s2.extBut _ _ D.TOi1 (s1.extBut _ _ D.TOz ho)
    refine wpAny_bind (wpAny_seqItems o2 rfl (wpAny_bind (wpAny_updateSeq_pair o2 fun g3 o3 s3 => ?_)))
    refine wpAny_bind (wpAny_letGo (wpAny_pure (wpAny_bind (wpAny_bind (wpAny_onRaise ?_)))))
    show wpAny (model prog w) _ (Builtin.SmallTypes.nextOf (.ref i2) >>= _) _ _ _
    refine wpAny_bind (drawT_end hh (((j2.extBut s1.extBut D.i2z).extBut s2.extBut D.i12.symm).extBut s3.extBut D.TOi2.symm) (((t2.extBut s1.extBut D.l2z).extBut s2.extBut D.l2i1).extBut s3.extBut D.l2TO) hv fun g4 e s4 he => ?_)
    obtain ⟨x, ex, cx⟩ := he
    have z4 : IsZip g4 z p o .ellipsis := s4 _ _ D.i2z.symm (s3.extBut _ _ D.TOz.symm (s2.extBut _ _ D.i1z.symm z1))
    exact wpAny_setField_rec z4 (by simp) fun g5 _ s5 => q g5 e (fun c y n1 n2 n3 n4 h => s5.extBut _ _ n1 (s4 _ _ n4 (s3.extBut _ _ n2 (s2.extBut _ _ n3 (s1.extBut _ _ n1 h))))) ⟨x, s5.extBut _ _ (apart z4 ex cx) ex, cx⟩
theorem nextT_item {z p o i1 i2 c1 c2 : Addr} {k : Nat} {us vs : Array Value} {u v a b : Value} {Q : Option Value → Shared → Prop} (D : ZipApart z p o i1 i2 c1 c2) (hz : IsZip s.heap z p o .none) (hp : IsPair s.heap p (.ref i1) (.ref i2)) (ho : IsPair s.heap o a b)
    (j1 : s.heap.IsTupleIter i1 c1 k) (j2 : s.heap.IsTupleIter i2 c2 k) (t1 : s.heap.IsTuple c1 us) (t2 : s.heap.IsTuple c2 vs) (hu : us[k]? = some u) (hv : vs[k]? = some v)
    (q : ∀ g, IsZip g z p o (rawInt s.heap.objs.size) → IsPair g o u v → g.IsTupleIter i1 c1 (k + 1) → g.IsTupleIter i2 c2 (k + 1) → IsPair g s.heap.objs.size u v →
      (∀ c x, c ≠ z → c ≠ o → c ≠ i1 → c ≠ i2 → s.heap.get? c = some x → g.get? c = some x) → Q (some (.ref s.heap.objs.size)) { s with heap := g }) : wpAny (model prog w) A (pyNext (.ref z)) Q E s := by
  have T : s.TypeIs (.ref z) "zip" := ⟨_, hz, rfl⟩
  unfold pyNext
  exact wpAny_bind (wpAny_attempt (wpAny_callSpecial?_slot (name := Str.ofString "__next__") T F.slot_zip_next (wpAny_call_entry F.slot_zip_next T F.entry_zip_next
      (zipT_item D hz hp ho j1 j2 t1 t2 hu hv fun g b1 b2 b3 b4 b5 b6 => wpAny_pure (q g b1 b2 b3 b4 b5 b6)) (F.args_zip_next_1 _))))
theorem nextT_end {z p o i1 i2 c1 c2 : Addr} {k : Nat} {us vs : Array Value} {a b : Value} {Q : Option Value → Shared → Prop} (hh : A.handled = none) (D : ZipApart z p o i1 i2 c1 c2) (hz : IsZip s.heap z p o .none) (hp : IsPair s.heap p (.ref i1) (.ref i2)) (ho : IsPair s.heap o a b)
    (j1 : s.heap.IsTupleIter i1 c1 k) (j2 : s.heap.IsTupleIter i2 c2 k) (t1 : s.heap.IsTuple c1 us) (t2 : s.heap.IsTuple c2 vs) (hn : us[k]? = none ∨ vs[k]? = none)
    (q : ∀ g, (∀ c x, c ≠ z → c ≠ o → c ≠ i1 → c ≠ i2 → s.heap.get? c = some x → g.get? c = some x) → Q none { s with heap := g }) : wpAny (model prog w) A (pyNext (.ref z)) Q E s := by
  have T : s.TypeIs (.ref z) "zip" := ⟨_, hz, rfl⟩
  unfold pyNext
  refine wpAny_bind (wpAny_attempt (wpAny_callSpecial?_slot (name := Str.ofString "__next__") T F.slot_zip_next (wpAny_call_entry F.slot_zip_next T F.entry_zip_next (zipT_end hh D hz hp ho j1 j2 t1 t2 hn fun g e kp he => ?_) (F.args_zip_next_1 _))))
  obtain ⟨x, ex, cx⟩ := he
  exact wpAny_bind (wpAny_isInstance (T := "StopIteration") (b := true) ⟨x, ex, cx⟩ isSubtype_stop (wpAny_pure (q _ kp)))
end
end L2

namespace L2
open PySem PySem.Spec PyProof.Rows
abbrev zt1 (h : Heap) (c : Addr) : Heap := h.push { cls := .type "tuple_iterator", data := .fields #[.ref c, .int 0 0] }
abbrev zt2 (h : Heap) (c d : Addr) : Heap := (zt1 h c).push { cls := .type "tuple_iterator", data := .fields #[.ref d, .int 0 0] }
abbrev zt3 (h : Heap) (c d : Addr) : Heap := (zt2 h c d).push { cls := .type "tuple", data := .seq #[.ref h.objs.size, .ref (zt1 h c).objs.size] }
abbrev zt4 (h : Heap) (c d : Addr) : Heap := (zt3 h c d).push { cls := .type "tuple", data := .seq #[.none, .none] }
abbrev zt5 (h : Heap) (c d : Addr) : Heap := (zt4 h c d).push { cls := .type "zip", data := .fields #[.none, .bool false, .bool false, .ref (zt2 h c d).objs.size, .ref (zt3 h c d).objs.size] }
theorem newT_zip (c d : Addr) (us vs : Array Value) : Meets (Builtin.«zip.__new__» ⟨[.type "zip", .ref c, .ref d], []⟩) (fun _ R s => s.heap.IsTuple c us ∧ s.heap.IsTuple d vs ∧ R (.ok (.ret (.ref (zt4 s.heap c d).objs.size))) { s with heap := zt5 s.heap c d }) :=
  .of_wp fun prog w A R s q => by
    obtain ⟨hp, g, dr, tk, os⟩ := s
    obtain ⟨e1, e2, q⟩ := q
    have hsub := sub_zip
    have t1 : Heap.IsTuple (Shared.heap ⟨hp, g, dr, tk, os⟩) c us := e1
    have t2 : Heap.IsTuple (Shared.heap ⟨hp.push { cls := .type "tuple_iterator", data := .fields #[.ref c, .int 0 0] }, g, dr, tk, os⟩) d vs := Heap.IsTuple.push e2 _
    wp_walk using wpAny_pyIter_tuple t1, wpAny_pyIter_tuple t2
    exact ⟨_, rfl, q⟩
section
variable {prog : Program} {w : World} {A : Around} {E : Value → Shared → Prop} {s : Shared}
theorem callT_zip {c d : Addr} {us vs : Array Value} {Q : Value → Shared → Prop} (e1 : s.heap.IsTuple c us) (e2 : s.heap.IsTuple d vs)
    (q : ∀ g, IsZip g (s.heap.objs.size + 4) (s.heap.objs.size + 2) (s.heap.objs.size + 3) .none → IsPair g (s.heap.objs.size + 2) (.ref s.heap.objs.size) (.ref (s.heap.objs.size + 1)) → IsPair g (s.heap.objs.size + 3) .none .none →
      g.IsTupleIter s.heap.objs.size c 0 → g.IsTupleIter (s.heap.objs.size + 1) d 0 → (∀ b o, s.heap.get? b = some o → g.get? b = some o) → Q (.ref (s.heap.objs.size + 4)) { s with heap := g }) : wpAny (model prog w) A (call (.type "zip") [.ref c, .ref d]) Q E s := by
  refine callType_new F.called_zip (by decide) (F.typeCall_zip_2 _ _) (F.newCall_zip_2 _ _) (fun ob => F.args_object_init_3 ob _ _) F.entry_zip_new (newT_zip c d us vs) ⟨e1, e2, ?_⟩
  have n1 : (zt1 s.heap c).objs.size = s.heap.objs.size + 1 := Heap.size_push ..
  have n2 : (zt2 s.heap c d).objs.size = s.heap.objs.size + 2 := by rw [Heap.size_push, n1]
  have n3 : (zt3 s.heap c d).objs.size = s.heap.objs.size + 3 := by rw [Heap.size_push, n2]
  have n4 : (zt4 s.heap c d).objs.size = s.heap.objs.size + 4 := by rw [Heap.size_push, n3]
  have a5 : (zt5 s.heap c d).get? (zt4 s.heap c d).objs.size = some _ := Heap.get?_push_size _ rfl
  have a4 : (zt5 s.heap c d).get? (zt3 s.heap c d).objs.size = some _ := Heap.get?_push_of_some _ (Heap.get?_push_size _ rfl)
  have a3 : (zt5 s.heap c d).get? (zt2 s.heap c d).objs.size = some _ := Heap.get?_push_of_some _ (Heap.get?_push_of_some _ (Heap.get?_push_size _ rfl))
  have a2 : (zt5 s.heap c d).get? (zt1 s.heap c).objs.size = some _ := Heap.get?_push_of_some _ (Heap.get?_push_of_some _ (Heap.get?_push_of_some _ (Heap.get?_push_size _ rfl)))
  have a1 : (zt5 s.heap c d).get? s.heap.objs.size = some _ := Heap.get?_push_of_some _ (Heap.get?_push_of_some _ (Heap.get?_push_of_some _ (Heap.get?_push_of_some _ (Heap.get?_push_size _ rfl))))
  show _ ∧ _
  rw [n2, n3, n4] at a5
  rw [n3] at a4
  rw [n1, n2] at a3
  rw [n1] at a2
  rw [n4]
  exact ⟨⟨_, a5, rfl⟩, q _ a5 a3 a4 ⟨_, a1, rfl, rfl⟩ ⟨_, a2, rfl, rfl⟩ fun b o e => Heap.get?_push_of_some _ (Heap.get?_push_of_some _ (Heap.get?_push_of_some _ (Heap.get?_push_of_some _ (Heap.get?_push_of_some _ e))))⟩
end
/-- the tuples at a and b side by side -/
def ItzT (K : PySem.W.Frag) (a b : Addr) : It :=
  ⟨fun i H => ∃ xs ys x y, SqT K H a xs ∧ SqT K H b ys ∧ xs[i]? = some x ∧ ys[i]? = some y,
   fun i H v H' => ∃ t x y, v = .ref t ∧ H t = none ∧ H' = upd H t (.tup [x, y]) ∧ (∀ xs, SqT K H a xs → xs[i]? = some x) ∧ ∀ ys, SqT K H b ys → ys[i]? = some y,
   fun i H => ∃ xs ys, SqT K H a xs ∧ SqT K H b ys ∧ (xs.length ≤ i ∨ ys.length ≤ i)⟩
structure ZipTAt (z TI TO i1 i2 a b : Addr) (i : Nat) (h : Heap) : Prop where
  zip : IsZip h z TI TO .none
  its : IsPair h TI (.ref i1) (.ref i2)
  own : ∃ u v, IsPair h TO u v
  it1 : h.IsTupleIter i1 a i
  it2 : h.IsTupleIter i2 b i
/-- here the tuples' own addresses are not told apart from zip's tuple by their class: TO ≠ a, b are asked for -/
theorem ZipTAt.apart {z TI TO i1 i2 a b : Addr} {i : Nat} {h : Heap} {p q : Array Value} (Z : ZipTAt z TI TO i1 i2 a b i h) (ha : h.IsTuple a p) (hb : h.IsTuple b q) (t : TI ≠ TO) (n : i1 ≠ i2) (na : a ≠ TO) (nb : b ≠ TO) : ZipApart z TI TO i1 i2 a b := by
  obtain ⟨hz, hI, ⟨u, v, hO⟩, ⟨o1, e1, c1, _⟩, ⟨o2, e2, c2, _⟩⟩ := Z
  obtain ⟨oa, ea, ca, _⟩ := ha
  obtain ⟨ob, eb, cb, _⟩ := hb
  have ne : ∀ {x y : Addr} {o o' : Obj}, h.get? x = some o → h.get? y = some o' → o.cls ≠ o'.cls → x ≠ y := fun e e' hc z => by
    subst z
    rw [e] at e'
    cases e'
    exact hc rfl
  refine ⟨ne hI hz ?_, ne hO hz ?_, ne e1 hz ?_, ne e2 hz ?_, t, ne hI e1 ?_, ne hI e2 ?_, ne hO e1 ?_, ne hO e2 ?_, n, ne ea hz ?_, na, ne ea e1 ?_, ne ea e2 ?_, ne eb hz ?_, nb, ne eb e1 ?_, ne eb e2 ?_⟩ <;> simp [c1, c2, ca, cb]
theorem turn_zipT {P : Program} {w : World} {K : PySem.W.Frag} {elts : List Expr} {x1} {tp : Pos} {z TI TO i1 i2 a b : Addr} (t : TI ≠ TO) (n : i1 ≠ i2) (na : a ≠ TO) (nb : b ≠ TO) :
    Turn P w K (.Tuple elts x1 tp) (ItzT K a b) [z, TI, TO, i1, i2] z (ZipTAt z TI TO i1 i2 a b) where
  mem := by simp
  obj := fun i h Z c hc => by
    obtain ⟨hz, hI, ⟨u, v, hO⟩, ⟨o1, e1, _, d1⟩, ⟨o2, e2, _, d2⟩⟩ := Z
    simp only [List.mem_cons, List.not_mem_nil, or_false] at hc
    rcases hc with rfl | rfl | rfl | rfl | rfl
    · exact ⟨_, hz, fun v q => by cases q⟩
    · exact ⟨_, hI, fun v q => by cases q⟩
    · exact ⟨_, hO, fun v q => by cases q⟩
    · exact ⟨_, e1, fun v q => by rw [d1] at q; cases q⟩
    · exact ⟨_, e2, fun v q => by rw [d2] at q; cases q⟩
  keep := fun i h h' Z k => by
    obtain ⟨hz, hI, ⟨u, v, hO⟩, ⟨o1, f1, r1⟩, ⟨o2, f2, r2⟩⟩ := Z
    exact ⟨k z (by simp) _ hz, k TI (by simp) _ hI, ⟨u, v, k TO (by simp) _ hO⟩, ⟨o1, k i1 (by simp) _ f1, r1⟩, ⟨o2, k i2 (by simp) _ f2, r2⟩⟩
  item := by
    intro X hP hw hK s hc i pins σ H E I hf Z hg
    subst hP hw hK
    obtain ⟨xs, ys, x, y, qa, qb, gx, gy⟩ := hg
    obtain ⟨its, rv, p, _⟩ := I.tuple qa
    obtain ⟨jts, rw', p', _⟩ := I.tuple qb
    obtain ⟨u, hu, ru⟩ := rv.get gx
    obtain ⟨v, hv, rv'⟩ := rw'.get gy
    have D := Z.apart (show s.heap.IsTuple a its.toArray from p) (show s.heap.IsTuple b jts.toArray from p') t n na nb
    obtain ⟨hz, hI, ⟨e1, e2, hO⟩, j1, j2⟩ := Z
    refine nextT_item D hz hI hO j1 j2 (show s.heap.IsTuple a its.toArray from p) (show s.heap.IsTuple b jts.toArray from p') (u := u) (v := v) (by simpa using hu) (by simpa using hv) fun h1 a1 a2 a3 a4 a5 kp => ?_
    refine ⟨_, rfl, wpAny_letOwnedTupleGo_zip a1 fun h2 b1 sb => ?_⟩
    have lz := Heap.lt_size hz
    have T2 : IsPair h2 s.heap.objs.size u v := sb.extBut _ _ (Nat.ne_of_gt lz) a5
    have nT := I.hok.fresh (Nat.le_refl s.heap.objs.size)
    have I1 : Inv X pins σ (upd H s.heap.objs.size (.tup [x, y])) { s with heap := h2 } := I.turnsLaid (W := [z, TI, TO, i1, i2]) (t' := s.toks) (T := s.heap.objs.size) (o := .tup [x, y]) hf
      (fun c o hc e => by
        simp only [List.mem_cons, List.not_mem_nil, or_false, not_or] at hc
        exact sb.extBut _ _ hc.1 (kp c o hc.1 hc.2.2.1 hc.2.2.2.1 hc.2.2.2.2 e)) (Nat.le_refl _) ⟨by show 2 ≤ sizeLine; decide, [u, v], .cons ru (.cons rv' .nil), ⟨_, T2, rfl, _, rfl⟩⟩
    refine ⟨.ref s.heap.objs.size, _, I1, rfl, ⟨_, x, y, rfl, nT, rfl, fun zs hq => by rw [I.tuple_inj hq qa]; exact gx, fun zs hq => by rw [I.tuple_inj hq qb]; exact gy⟩, ?_, fun c hc => ?_⟩
    · exact ⟨b1, sb.extBut _ _ D.TIz (kp _ _ D.TIz D.TITO D.TIi1 D.TIi2 hI), ⟨_, _, sb.extBut _ _ D.TOz a2⟩, a3.extBut sb.extBut D.i1z, a4.extBut sb.extBut D.i2z⟩
    · have lt : c < s.heap.objs.size := by
        simp only [List.mem_cons, List.not_mem_nil, or_false] at hc
        obtain ⟨o1, f1, _⟩ := j1
        obtain ⟨o2, f2, _⟩ := j2
        rcases hc with rfl | rfl | rfl | rfl | rfl
        · exact lz
        · exact Heap.lt_size hI
        · exact Heap.lt_size hO
        · exact Heap.lt_size f1
        · exact Heap.lt_size f2
      rw [upd_ne (Nat.ne_of_lt lt)]
      exact (hf c hc).1
  done := by
    intro X hP hw hK s hc i pins σ H E I hf Z hg
    subst hP hw hK
    obtain ⟨xs, ys, qa, qb, hx⟩ := hg
    obtain ⟨its, rv, p, _⟩ := I.tuple qa
    obtain ⟨jts, rw', p', _⟩ := I.tuple qb
    have D := Z.apart (show s.heap.IsTuple a its.toArray from p) (show s.heap.IsTuple b jts.toArray from p') t n na nb
    obtain ⟨hz, hI, ⟨e1, e2, hO⟩, j1, j2⟩ := Z
    have l1 := rv.length
    have l2 := rw'.length
    refine nextT_end hc.none D hz hI hO j1 j2 (show s.heap.IsTuple a its.toArray from p) (show s.heap.IsTuple b jts.toArray from p') (hx.imp (fun q => by simp; omega) fun q => by simp; omega) fun h' kp => ⟨rfl, I.turns (t' := s.toks) (W := [z, TI, TO, i1, i2]) hf fun c o hc e => ?_⟩
    simp only [List.mem_cons, List.not_mem_nil, or_false, not_or] at hc
    exact kp c o hc.1 hc.2.2.1 hc.2.2.2.1 hc.2.2.2.2 e
  self := fun _ _ _ _ _ st h => wpAny_pyIter_zip st.zip h
def iZipT (K : PySem.W.Frag) (ta : TA) : TI := fun σ H R => ta σ H fun vs H1 => ∃ a b xs ys, vs = [.ref a, .ref b] ∧ SqT K H1 a xs ∧ SqT K H1 b ys ∧ R (ItzT K a b) H1
theorem pi_zipT {X : Cx} {elts : List Expr} {x1} {tp : Pos} {a b : Expr} {ta : TA} {p pos : Pos} (hg : Gl X "zip") (hm : X.mg "zip" = none) (ha : PA X [a, b] ta) (hs : starEach [a, b] X.env = [(false, eval a X.env), (false, eval b X.env)] := by rfl) (hs2 : starEach [b] X.env = [(false, eval b X.env)] := by rfl) :
    PI X (.Tuple elts x1 tp) (.Call (.Name "zip" p) [a, b] [] pos) (iZipT X.K ta) := by
  intro pins s σ H R I h
  refine Call_ (ld_blt I hg hm boot_zip (PyProof.Rows.callWith_type1 (thn (ha pos pins s σ H _ I h) fun us s1 ⟨vs, H1, I1, r1, q1⟩ => ?_) (by rw [hs, hs2]) (by rw [hs2]; rfl)))
  obtain ⟨a, b, xs, ys, e, qa, qb, q⟩ := q1
  subst e
  cases r1 with
  | cons r rr =>
    cases rr with
    | cons r' rr =>
      cases rr
      cases r
      cases r'
      obtain ⟨its, rv, p, _⟩ := I1.tuple qa
      obtain ⟨jts, rw', p', _⟩ := I1.tuple qb
      have la : a < s1.heap.objs.size := by obtain ⟨o, e, _⟩ := p; exact Heap.lt_size e
      have lb : b < s1.heap.objs.size := by obtain ⟨o, e, _⟩ := p'; exact Heap.lt_size e
      refine callT_zip (show s1.heap.IsTuple a its.toArray from p) (show s1.heap.IsTuple b jts.toArray from p') fun h' z1 z2 z3 z4 z5 kp => wpAny_pyIter_zip z1 ?_
      refine ⟨_, [_, s1.heap.objs.size + 2, s1.heap.objs.size + 3, s1.heap.objs.size, s1.heap.objs.size + 1], _, _, H1, rfl, I1.kept (t' := s1.toks) kp, turn_zipT (by simp) (by simp) (Nat.ne_of_lt (Nat.lt_of_lt_of_le la (Nat.le_add_right _ _))) (Nat.ne_of_lt (Nat.lt_of_lt_of_le lb (Nat.le_add_right _ _))), ⟨z1, z2, ⟨_, _, z3⟩, z4, z5⟩, fun c hc => ?_, q⟩
      have le : s1.heap.objs.size ≤ c := by
        simp only [List.mem_cons, List.not_mem_nil, or_false] at hc
        rcases hc with rfl | rfl | rfl | rfl | rfl <;> omega
      exact I1.fpOk le (I1.hok.fresh le)
end L2
namespace L2
open PySem PySem.Spec PyProof.Rows
/-! ### rows by cells, and joined -/
/-! ### lists of rows compared -/
section
variable {X : Cx} {pins : List (Addr × Obj)} {σ : St} {H : Hp} {s : Shared}
end
/-! ### a slice of a tuple, perhaps the whole -/
end L2
namespace L2
open PySem PySem.Spec PyProof.Rows
/-! ### things that are no tuples -/
section
variable (K : PySem.W.Frag)
theorem k0_it : PySem.W.kitOne K (.type "int") (.type "tuple") = some false := by kernel_rfl
theorem k0_st : PySem.W.kitOne K (.type "str") (.type "tuple") = some false := by kernel_rfl
theorem k0_bt : PySem.W.kitOne K (.type "bool") (.type "tuple") = some false := by kernel_rfl
theorem k0_nt : PySem.W.kitOne K (.type "NoneType") (.type "tuple") = some false := by kernel_rfl
theorem k0_lt : PySem.W.kitOne K (.type "list") (.type "tuple") = some false := by kernel_rfl
theorem k0_dt : PySem.W.kitOne K (.type "dict") (.type "tuple") = some false := by kernel_rfl
theorem k0_tt : PySem.W.kitOne K (.type "tuple") (.type "tuple") = some true := by kernel_rfl
end
/-! ### a stretch, or what is none -/
/-! ### loops over two tuples at once, comprehensions over a tuple -/
theorem comp_tup {K : PySem.W.Frag} {a p : Addr} {tt : TT} {te : TE} {cs : St} {Q : VK} {H1 : Hp} {xs : List V} (Pv : Nat → List V → Hp → Prop) (h0 : Pv 0 [] (upd H1 p (.lst [])))
    (hl : ∀ i ys H, i ≤ xs.length → Pv i ys H → SqT K H a xs)
    (hs : ∀ i x ys H, xs[i]? = some x → Pv i ys H → tt (some x :: cs) H fun b H4 => if b = true then te (some x :: cs) H4 fun y H5 => H5 p = some (.lst ys) ∧ ys.length < sizeLine ∧ Pv (i + 1) (ys ++ [y]) (upd H5 p (.lst (ys ++ [y]))) else Pv (i + 1) ys H4)
    (hd : ∀ ys H, Pv xs.length ys H → Q (.ref p) H) : CompW (Itt K a) p tt te cs Q H1 := comp_seq (tu := true) Pv h0 hl hs hd
end L2
namespace HT
open PySem PySem.Spec PyProof.Rows
section
variable {prog : Program} {w : World} {A : Around} {E : Value → Shared → Prop} {s : Shared}
end
end HT
namespace L2
open PySem PySem.Spec PyProof.Rows
section
variable {X : Cx}
end
end L2
namespace L2
open PySem PySem.Spec PyProof.Rows
/-! ### a dict of cells -/
/-! ### a row's cells rise -/
/-! ### the law's loop over a thing -/
end L2
namespace L2
open PySem PySem.Spec PyProof.Rows
/-! ### a tidied row is a tidy row -/
end L2
namespace L2
open PySem PySem.Spec PyProof.Rows
/-! ### a row laid over a row -/
/-! ### cells -/
/-! ### a dict of cells, in whatever order -/
end L2
set_option maxHeartbeats 1000000
/-! ### range(a, b, 8) -/
namespace L2
open PySem PySem.Spec PyProof.Rows
section
variable {X : Cx} {tg : Expr}
end
end L2
/-! ### enumerate(a list), its pairs taken apart at once -/
namespace L2
open PySem PySem.Spec PyProof.Rows
end L2
namespace L2
open PySem PySem.Spec PyProof.Rows
/-! ### things of any kind, to any depth -/
inductive Tr : Type
  | int (n : Int) | str (s : Str) | bl (b : Bool) | non | dct | tup (l : List Tr) | lst (l : List Tr)
mutual
def At (H : Hp) : Tr → V → Prop
  | .int n, v => v = .int n
  | .str s, v => v = .str s
  | .bl b, v => v = .bl b
  | .non, v => v = .non
  | .dct, v => ∃ a kvs, v = .ref a ∧ H a = some (.dK kvs)
  | .tup l, v => ∃ a vs, v = .ref a ∧ H a = some (.tup vs) ∧ Ats H l vs
  | .lst l, v => ∃ a vs, v = .ref a ∧ H a = some (.lst vs) ∧ Ats H l vs
def Ats (H : Hp) : List Tr → List V → Prop
  | [], vs => vs = []
  | t :: ts, vs => ∃ v ws, vs = v :: ws ∧ At H t v ∧ Ats H ts ws
end
mutual
theorem At.mono {H H' : Hp} (s : Same H H') : ∀ {t : Tr} {v : V}, At H t v → At H' t v
  | .int n, v, h => by unfold At at *; exact h
  | .str n, v, h => by unfold At at *; exact h
  | .bl n, v, h => by unfold At at *; exact h
  | .non, v, h => by unfold At at *; exact h
  | .dct, v, h => by
    unfold At at *
    obtain ⟨a, kvs, e, h⟩ := h
    exact ⟨a, kvs, e, s _ _ h⟩
  | .tup l, v, h => by
    unfold At at *
    obtain ⟨a, vs, e, h, k⟩ := h
    exact ⟨a, vs, e, s _ _ h, Ats.mono s k⟩
  | .lst l, v, h => by
    unfold At at *
    obtain ⟨a, vs, e, h, k⟩ := h
    exact ⟨a, vs, e, s _ _ h, Ats.mono s k⟩
theorem Ats.mono {H H' : Hp} (s : Same H H') : ∀ {l : List Tr} {vs : List V}, Ats H l vs → Ats H' l vs
  | [], vs, h => by unfold Ats at *; exact h
  | t :: ts, vs, h => by
    unfold Ats at *
    obtain ⟨v, ws, e, h, k⟩ := h
    exact ⟨v, ws, e, At.mono s h, Ats.mono s k⟩
end
theorem Ats.len {H : Hp} : ∀ {l : List Tr} {vs : List V}, Ats H l vs → vs.length = l.length
  | [], vs, h => by
    unfold Ats at h
    rw [h]
    rfl
  | t :: ts, vs, h => by
    unfold Ats at h
    obtain ⟨v, ws, rfl, _, k⟩ := h
    rw [List.length_cons, List.length_cons, Ats.len k]
theorem Ats.get {H : Hp} : ∀ {l : List Tr} {vs : List V} {i : Nat} {v : V}, Ats H l vs → vs[i]? = some v → ∃ t, l[i]? = some t ∧ At H t v
  | [], vs, i, v, h, e => by
    unfold Ats at h
    subst h
    cases e
  | t :: ts, vs, i, v, h, e => by
    unfold Ats at h
    obtain ⟨w, ws, rfl, h, k⟩ := h
    cases i with
    | zero => cases e; exact ⟨t, rfl, h⟩
    | succ i =>
      obtain ⟨t', h1, h2⟩ := Ats.get k (show ws[i]? = some v from e)
      exact ⟨t', h1, h2⟩
theorem Ats.nil (H : Hp) : Ats H [] [] := by unfold Ats; rfl
theorem Ats.cons {H : Hp} {t : Tr} {ts : List Tr} {v : V} {vs : List V} (h : At H t v) (k : Ats H ts vs) : Ats H (t :: ts) (v :: vs) := by
  unfold Ats
  exact ⟨v, vs, rfl, h, k⟩
theorem Ats.app {H : Hp} {us : List Tr} {ws : List V} (k : Ats H us ws) : ∀ {l : List Tr} {vs : List V}, Ats H l vs → Ats H (l ++ us) (vs ++ ws)
  | [], vs, h => by
    unfold Ats at h
    subst h
    exact k
  | t :: ts, vs, h => by
    unfold Ats at h
    obtain ⟨v, vs, rfl, h, k2⟩ := h
    exact Ats.cons h (Ats.app k k2)
def isTup : Tr → Bool
  | .tup _ => true
  | _ => false
theorem At.tup {H : Hp} {l : List Tr} {v : V} (h : At H (.tup l) v) : ∃ a vs, v = .ref a ∧ H a = some (.tup vs) ∧ Ats H l vs := by
  unfold At at h
  exact h
theorem At.lst {H : Hp} {l : List Tr} {v : V} (h : At H (.lst l) v) : ∃ a vs, v = .ref a ∧ H a = some (.lst vs) ∧ Ats H l vs := by
  unfold At at h
  exact h
theorem At.mkT {H : Hp} {l : List Tr} {a : Addr} {vs : List V} (h : H a = some (.tup vs)) (k : Ats H l vs) : At H (.tup l) (.ref a) := by
  unfold At
  exact ⟨a, vs, rfl, h, k⟩
theorem At.int {H : Hp} (n : Int) : At H (.int n) (.int n) := by unfold At; rfl
theorem At.str {H : Hp} (n : Str) : At H (.str n) (.str n) := by unfold At; rfl
/-! ### stretches out of trees -/
end L2
namespace L2
open PySem PySem.Spec PyProof.Rows
/-! ### words among the trees; what kind a tree is of -/
def sigS : Str := Str.ofString "abcdefghijklmnopqrstuvwxyz0123456789"
def okc (c : Nat) : Bool := (decide (97 ≤ c) && decide (c ≤ 122)) || (decide (48 ≤ c) && decide (c ≤ 57))
def isw (x : Str) : Bool := decide (1 ≤ x.length) && decide (x.length ≤ 8) && x.cps.toList.all okc
theorem sig_codes : sigS.cps.toList = [97, 98, 99, 100, 101, 102, 103, 104, 105, 106, 107, 108, 109, 110, 111, 112, 113, 114, 115, 116, 117, 118, 119, 120, 121, 122, 48, 49, 50, 51, 52, 53, 54, 55, 56, 57] := by decide +kernel
theorem in_sig (c : Nat) : (!(Builtin.Str.occurrences sigS ⟨#[c]⟩ 0 sigS.length 1).isEmpty) = okc c := by
  rw [StrLaws.found_one, sig_codes]
  unfold okc
  rw [← Bool.decide_and, ← Bool.decide_and, ← Bool.decide_or]
  refine decide_eq_decide.mpr ?_
  simp only [List.mem_cons, List.not_mem_nil, or_false]
  omega
def wordT : Tr → Bool
  | .str z => isw z
  | _ => false
def isStrT : Tr → Bool
  | .str _ => true
  | _ => false
def isLstT : Tr → Bool
  | .lst _ => true
  | _ => false
section
variable (K : PySem.W.Frag)
theorem kt_is : PySem.W.kitOne K (.type "int") (.type "str") = some false := by kernel_rfl
theorem kt_ss : PySem.W.kitOne K (.type "str") (.type "str") = some true := by kernel_rfl
theorem kt_bs : PySem.W.kitOne K (.type "bool") (.type "str") = some false := by kernel_rfl
theorem kt_ns : PySem.W.kitOne K (.type "NoneType") (.type "str") = some false := by kernel_rfl
theorem kt_ls : PySem.W.kitOne K (.type "list") (.type "str") = some false := by kernel_rfl
theorem kt_ts : PySem.W.kitOne K (.type "tuple") (.type "str") = some false := by kernel_rfl
theorem kt_ds : PySem.W.kitOne K (.type "dict") (.type "str") = some false := by kernel_rfl
theorem kt_il : PySem.W.kitOne K (.type "int") (.type "list") = some false := by kernel_rfl
theorem kt_sl : PySem.W.kitOne K (.type "str") (.type "list") = some false := by kernel_rfl
theorem kt_bl : PySem.W.kitOne K (.type "bool") (.type "list") = some false := by kernel_rfl
theorem kt_nl : PySem.W.kitOne K (.type "NoneType") (.type "list") = some false := by kernel_rfl
theorem kt_ll : PySem.W.kitOne K (.type "list") (.type "list") = some true := by kernel_rfl
theorem kt_tl : PySem.W.kitOne K (.type "tuple") (.type "list") = some false := by kernel_rfl
theorem kt_dl : PySem.W.kitOne K (.type "dict") (.type "list") = some false := by kernel_rfl
end
theorem At.ty {K : PySem.W.Frag} {H : Hp} {t : Tr} {v : V} (h : At H t v) : ∃ ty, TyOf K H v ty ∧ PySem.W.kitOne K ty (.type "tuple") = some (isTup t) ∧ PySem.W.kitOne K ty (.type "str") = some (isStrT t) ∧ PySem.W.kitOne K ty (.type "list") = some (isLstT t) := by
  cases t with
  | int n => unfold At at h; subst h; exact ⟨_, .int n, k0_it K, kt_is K, kt_il K⟩
  | str n => unfold At at h; subst h; exact ⟨_, .str n, k0_st K, kt_ss K, kt_sl K⟩
  | bl n => unfold At at h; subst h; exact ⟨_, .bl n, k0_bt K, kt_bs K, kt_bl K⟩
  | non => unfold At at h; subst h; exact ⟨_, .non, k0_nt K, kt_ns K, kt_nl K⟩
  | dct =>
    unfold At at h
    obtain ⟨a, kvs, rfl, e⟩ := h
    exact ⟨_, .dK e, k0_dt K, kt_ds K, kt_dl K⟩
  | tup l =>
    obtain ⟨a, vs, rfl, e, _⟩ := h.tup
    exact ⟨_, .tup e, k0_tt K, kt_ts K, kt_tl K⟩
  | lst l =>
    obtain ⟨a, vs, rfl, e, _⟩ := h.lst
    exact ⟨_, .lst e, k0_lt K, kt_ls K, kt_ll K⟩
end L2
namespace L2
open PySem PySem.Spec PyProof.Rows
/-! ### trees of tuples only; lists frozen -/
mutual
def nl : Tr → Bool
  | .lst _ => false
  | .dct => false
  | .tup l => nls l
  | _ => true
def nls : List Tr → Bool
  | [] => true
  | t :: ts => nl t && nls ts
end
mutual
theorem At.keepT {H H' : Hp} (k : ∀ q u, H q = some (.tup u) → H' q = some (.tup u)) : ∀ {t : Tr} {v : V}, nl t = true → At H t v → At H' t v
  | .int n, v, _, h => by unfold At at *; exact h
  | .str n, v, _, h => by unfold At at *; exact h
  | .bl n, v, _, h => by unfold At at *; exact h
  | .non, v, _, h => by unfold At at *; exact h
  | .dct, v, n, h => by unfold nl at n; cases n
  | .lst l, v, n, h => by unfold nl at n; cases n
  | .tup l, v, n, h => by
    unfold nl at n
    unfold At at *
    obtain ⟨a, vs, e, h, z⟩ := h
    exact ⟨a, vs, e, k _ _ h, Ats.keepT k n z⟩
theorem Ats.keepT {H H' : Hp} (k : ∀ q u, H q = some (.tup u) → H' q = some (.tup u)) : ∀ {l : List Tr} {vs : List V}, nls l = true → Ats H l vs → Ats H' l vs
  | [], vs, _, h => by unfold Ats at *; exact h
  | t :: ts, vs, n, h => by
    unfold nls at n
    rw [Bool.and_eq_true] at n
    unfold Ats at *
    obtain ⟨v, ws, e, h, z⟩ := h
    exact ⟨v, ws, e, At.keepT k n.1 h, Ats.keepT k n.2 z⟩
end
theorem nls_mem : ∀ {l : List Tr} {t : Tr}, nls l = true → t ∈ l → nl t = true
  | u :: ts, t, h, m => by
    unfold nls at h
    rw [Bool.and_eq_true] at h
    cases m with
    | head => exact h.1
    | tail _ m => exact nls_mem h.2 m
theorem nls_of : ∀ {l : List Tr}, (∀ t ∈ l, nl t = true) → nls l = true
  | [], _ => rfl
  | t :: ts, h => by
    unfold nls
    rw [h t (List.mem_cons_self ..), nls_of fun u hu => h u (List.mem_cons_of_mem _ hu)]
    rfl
end L2
namespace L2
open PySem PySem.Spec PyProof.Rows
def g2 (K : PySem.W.Frag) : TG := gTup K 2 (gCons (gName 0) (gCons (gName 1) gNil))
theorem comp_zip2 {K : PySem.W.Frag} {a b p : Addr} {tt : TT} {te : TE} {cs : St} {Q : VK} {H1 : Hp} {xs ys : List V} (Pv : Nat → List V → Hp → Prop) (h0 : Pv 0 [] (upd H1 p (.lst [])))
    (hl : ∀ i zs H, Pv i zs H → SqL K H a xs ∧ SqL K H b ys)
    (hs : ∀ i x y t zs H, xs[i]? = some x → ys[i]? = some y → Pv i zs H → H t = none → tt (some x :: some y :: cs) (upd H t (.tup [x, y])) fun bb H4 => if bb = true then te (some x :: some y :: cs) H4 fun z H5 => H5 p = some (.lst zs) ∧ zs.length < sizeLine ∧ Pv (i + 1) (zs ++ [z]) (upd H5 p (.lst (zs ++ [z]))) else Pv (i + 1) zs H4)
    (hd : ∀ zs H, Pv (min xs.length ys.length) zs H → Q (.ref p) H) : CompWT (fun _ => True) (g2 K) 2 (Itz K a b) p tt te cs Q H1 := by
  refine ⟨fun i m zs H => m = min xs.length ys.length - i ∧ i ≤ min xs.length ys.length ∧ Pv i zs H, ⟨min xs.length ys.length, by simp, Nat.zero_le _, h0⟩, ?_⟩
  rintro i m zs H ⟨rfl, hi, pv⟩
  obtain ⟨q1, q2⟩ := hl i zs H pv
  by_cases hlt : i < min xs.length ys.length
  · have l1 : i < xs.length := by omega
    have l2 : i < ys.length := by omega
    refine .inr ⟨⟨xs, ys, xs[i], ys[i], q1, q2, by simp [l1], by simp [l2]⟩, trivial, Pv (i + 1), fun ys' H' p' => ⟨min xs.length ys.length - (i + 1), by omega, rfl, hlt, p'⟩, fun v H3 y => ?_⟩
    obtain ⟨t, x, y, rfl, ht, rfl, hx, hy⟩ := y
    intro vs0 hv
    match vs0, hv with
    | [w1, w2], _ => exact ⟨t, _, rfl, SqT.of upd_same, rfl, x, _, rfl, y, _, rfl, rfl, ⟨[some x, some y], rfl, rfl⟩, hs i x y t zs H (hx xs q1) (hy ys q2) pv ht⟩
  · have e : i = min xs.length ys.length := by omega
    subst e
    refine .inl ⟨⟨xs, ys, q1, q2, by omega⟩, trivial, hd zs H pv⟩
end L2
/-! ### a set's table: its places rise -/
namespace L2
open PySem
end L2
/-! ### adding to a set keeps its places rising, and no dummies -/
namespace L2
open PySem
end L2
/-! ### a set by the list of its members, in the order of its table -/
namespace L2
open PySem PyProof.Rows
section
variable {prog : Program} {w : World} {K : Type} [DecidableEq K] (knd : KeyKind prog w K)
variable {knd}
variable {A : Around} {E : Value → Shared → Prop} {s : Shared}
end
end L2
/-! ### set(a list) -/
namespace L2
open PySem PyProof.Rows
section
variable {prog : Program} {w : World} {K : Type} [DecidableEq K] {knd : KeyKind prog w K}
variable {A : Around} {E : Value → Shared → Prop}
variable {s : Shared}
end
end L2
/-! ### a set walked -/
namespace L2
open PySem PyProof.Rows
section
variable {prog : Program} {w : World} {A : Around} {E : Value → Shared → Prop} {s : Shared}
end
end L2
namespace L2
open PySem PyProof.Rows
section
variable {prog : Program} {w : World} {A : Around} {E : Value → Shared → Prop} {s : Shared}
end
end L2
namespace L2
open PySem PyProof.Rows
section
variable {prog : Program} {w : World} {A : Around} {E : Value → Shared → Prop} {s : Shared}
end
end L2
namespace L2
open PySem PyProof.Rows
section
variable {prog : Program} {w : World} {A : Around} {E : Value → Shared → Prop} {s : Shared}
variable {K : Type} [DecidableEq K] {knd : KeyKind prog w K}
end
end L2
namespace L2
open PySem PyProof.Rows
section
variable {prog : Program} {w : World} {A : Around} {E : Value → Shared → Prop} {s : Shared} {K : Type} [DecidableEq K] {knd : KeyKind prog w K}
end
end L2
namespace L2
open PySem PyProof.Rows
section
variable {prog : Program} {w : World} {A : Around} {E : Value → Shared → Prop} {s : Shared}
variable {K : Type} [DecidableEq K] {knd : KeyKind prog w K}
end
end L2
/-! ### sorted(set(a list of ints)) -/
namespace L2
open PySem PySem.Spec PyProof.Rows
section
variable {X : Cx} {e : Expr} {te : TE}
end
end L2
/-! ### trees compared with texts, is True, numbers or texts rising -/
namespace L2
open PySem PySem.Spec PyProof.Rows
section
variable {X : Cx}
end
end L2
/-! ### parts of a display or of a call: no star -/
namespace L2
open PySem PySem.Spec PyProof.Rows
def noStar : Expr → Bool
  | .Starred .. => false
  | _ => true
theorem star_cons {e : Expr} (h : noStar e = true) (es : List Expr) (env : Env) : starEach (e :: es) env = (false, eval e env) :: starEach es env := by
  cases e with
  | Starred => cases h
  | _ => rfl
section
variable {X : Cx} {e : Expr} {es : List Expr} {te : TE} {t : TA}
theorem pc (ha : PE X e te) (hr : PA X es t) (hs : noStar e = true := by rfl) : PA X (e :: es) (tCons te t) := pa_cons ha hr (star_cons hs es X.env)
end
end L2
set_option maxHeartbeats 4000000
namespace K86
open PySem L2
/-! ### lines read by parts, and by a stack: the same -/
abbrev Cs := List Nat
def figC (c : Nat) : Bool := decide (48 ≤ c) && decide (c ≤ 57)
def sgnC (c : Nat) : Bool := figC c || (decide (97 ≤ c) && decide (c ≤ 122)) || decide (c = 47)
/-- no sign that parts words -/
def nd (c : Nat) : Bool := !(decide (c = 40) || decide (c = 41) || decide (c = 44))
def val (w : Cs) : Int := w.foldl (fun (n : Int) (c : Nat) => n * 10 + ((c : Int) - 48)) 0
def numOf (w : Cs) : Option Int := if 1 ≤ w.length ∧ w.length ≤ 10 ∧ w.all figC = true ∧ (w.head? = some 48 → w = [48]) ∧ val w ≤ 4294967295 then some (val w) else none
def txt (w : Cs) : Str := ⟨w.toArray⟩
def numP (cs : Cs) : Option (Tr × Cs) := (numOf (cs.takeWhile figC)).map fun n => (.int n, cs.dropWhile figC)
def loopK (p : Cs → Option (Tr × Cs)) : Nat → List Tr → Cs → Option (Tr × Cs)
  | 0, _, _ => none
  | n + 1, acc, cs => match p cs with
    | none => none
    | some (t, []) => none
    | some (t, c :: r) => if c = 44 then loopK p n (acc ++ [t]) r else if c = 41 then some (.tup (acc ++ [t]), r) else none
def tupK (p : Cs → Option (Tr × Cs)) (r : Cs) : Option (Tr × Cs) := if r.head? = some 41 then some (.tup [], r.tail) else loopK p r.length [] r
def oneK (q : Cs → Option (Tr × Cs)) : Cs → Option (Tr × Cs)
  | [] => none
  | c :: r => if c = 39 then some (.str (txt (r.takeWhile sgnC)), r.dropWhile sgnC) else if c = 40 then q r else numP (c :: r)
def partK : Nat → Cs → Option (Tr × Cs)
  | 0 => oneK fun _ => none
  | k + 1 => oneK (tupK (partK k))
def stuffK (cs : Cs) : Option Tr := match partK 6 cs with
  | some (t, []) => some t
  | _ => none
def wordP (w : Cs) : Option Tr := match w with
  | 39 :: r => if r.all sgnC = true then some (.str (txt r)) else none
  | _ => (numOf w).map Tr.int
def push (t : Tr) : List (List Tr) → List (List Tr)
  | [] => []
  | a :: st => (a ++ [t]) :: st
def fin (st : List (List Tr)) (due : Bool) : List Tr := if due = true ∨ 1 < st.length then [] else st.headD []
def mach : Nat → List (List Tr) → Bool → Cs → List Tr
  | 0, st, due, _ => fin st due
  | _ + 1, st, due, [] => fin st due
  | n + 1, st, due, c :: r => if ¬ st.length < 8 then fin st due else
    if due = true ∧ c = 40 then mach n ([] :: st) (decide (r.head? ≠ some 41)) r
    else if due = true then match wordP ((c :: r).takeWhile nd) with
      | none => []
      | some t => mach n (push t st) false ((c :: r).dropWhile nd)
    else if 1 < st.length ∧ c = 41 then mach n (push (.tup (st.headD [])) st.tail) false r
    else if 1 < st.length ∧ c = 44 then mach n st true r
    else []
theorem tw_all {p : Nat → Bool} (hp : ∀ c, p c = true → nd c = true) : ∀ {cs : Cs}, (cs.takeWhile nd).all p = true → cs.takeWhile p = cs.takeWhile nd ∧ cs.dropWhile p = cs.dropWhile nd
  | [], _ => ⟨rfl, rfl⟩
  | c :: r, h => by
    cases hn : nd c with
    | true =>
      rw [List.takeWhile_cons, if_pos hn, List.all_cons, Bool.and_eq_true] at h
      obtain ⟨e1, e2⟩ := tw_all hp h.2
      rw [List.takeWhile_cons, if_pos h.1, List.takeWhile_cons, if_pos hn, List.dropWhile_cons, if_pos h.1, List.dropWhile_cons, if_pos hn, e1, e2]
      exact ⟨rfl, rfl⟩
    | false =>
      have hf : p c = false := by
        cases hc : p c with
        | true => rw [hp c hc] at hn; cases hn
        | false => rfl
      rw [List.takeWhile_cons, hf, List.takeWhile_cons, hn, List.dropWhile_cons, hf, List.dropWhile_cons, hn]
      exact ⟨rfl, rfl⟩
theorem tw_not {p : Nat → Bool} (hp : ∀ c, p c = true → nd c = true) : ∀ {cs : Cs}, ¬ (cs.takeWhile nd).all p = true → ∃ c r, cs.dropWhile p = c :: r ∧ nd c = true
  | [], h => absurd rfl h
  | c :: r, h => by
    cases hn : nd c with
    | true =>
      rw [List.takeWhile_cons, if_pos hn, List.all_cons, Bool.and_eq_true] at h
      cases hc : p c with
      | true =>
        obtain ⟨c', r', e, h'⟩ := tw_not hp (cs := r) fun z => h ⟨hc, z⟩
        exact ⟨c', r', by rw [List.dropWhile_cons, if_pos hc]; exact e, h'⟩
      | false => exact ⟨c, r, by rw [List.dropWhile_cons, hc]; rfl, hn⟩
    | false =>
      rw [List.takeWhile_cons, hn] at h
      exact absurd rfl h
theorem fig_nd (c : Nat) (h : figC c = true) : nd c = true := by
  unfold figC at h
  rw [Bool.and_eq_true, decide_eq_true_eq, decide_eq_true_eq] at h
  unfold nd
  rw [decide_eq_false (by omega), decide_eq_false (by omega), decide_eq_false (by omega)]
  rfl
theorem sgn_nd (c : Nat) (h : sgnC c = true) : nd c = true := by
  unfold sgnC figC at h
  simp only [Bool.or_eq_true, Bool.and_eq_true, decide_eq_true_eq] at h
  unfold nd
  rw [decide_eq_false (by omega), decide_eq_false (by omega), decide_eq_false (by omega)]
  rfl
theorem push_len (t : Tr) (st : List (List Tr)) : (push t st).length = st.length := by
  cases st <;> rfl
/-- behind a part only a sign that parts words goes on -/
theorem mach_no {n : Nat} {st : List (List Tr)} {c : Nat} {r : Cs} (hn : 0 < n) (h8 : st.length < 8) (hc' : c ≠ 41 ∧ c ≠ 44) : mach n st false (c :: r) = [] := by
  match n, hn with
  | n + 1, _ =>
    unfold mach
    rw [if_neg (fun z => z h8), if_neg (fun z => by cases z.1), if_neg (fun z => by cases z), if_neg (fun z => hc'.1 z.2), if_neg (fun z => hc'.2 z.2)]
theorem mach_nd {n : Nat} {st : List (List Tr)} {c : Nat} {r : Cs} (hn : 0 < n) (h8 : st.length < 8) (hc : nd c = true) : mach n st false (c :: r) = [] :=
  mach_no hn h8 ⟨fun z => (by subst z; cases hc), fun z => (by subst z; cases hc)⟩
theorem mach_close {n : Nat} {a : List Tr} {st : List (List Tr)} {r : Cs} (h8 : st.length + 1 < 8) (h1 : 1 ≤ st.length) : mach (n + 1) (a :: st) false (41 :: r) = mach n (push (.tup a) st) false r := by
  conv => lhs; unfold mach
  rw [if_neg (fun z => z h8), if_neg (fun z => by cases z.1), if_neg (fun z => by cases z), if_pos ⟨by simp only [List.length_cons]; omega, rfl⟩]
  rfl
theorem mach_comma {n : Nat} {a : List Tr} {st : List (List Tr)} {r : Cs} (h8 : st.length + 1 < 8) (h1 : 1 ≤ st.length) : mach (n + 1) (a :: st) false (44 :: r) = mach n (a :: st) true r := by
  conv => lhs; unfold mach
  rw [if_neg (fun z => z h8), if_neg (fun z => by cases z.1), if_neg (fun z => by cases z), if_neg (fun z => by cases z.2), if_pos ⟨by simp only [List.length_cons]; omega, rfl⟩]
theorem mach_open {n : Nat} {st : List (List Tr)} {r : Cs} (h8 : st.length < 8) : mach (n + 1) st true (40 :: r) = mach n ([] :: st) (decide (r.head? ≠ some 41)) r := by
  conv => lhs; unfold mach
  rw [if_neg (fun z => z h8), if_pos ⟨rfl, rfl⟩]
theorem mach_full {n : Nat} {st : List (List Tr)} {due : Bool} {cs : Cs} (h8 : ¬ st.length < 8) : mach n st due cs = [] := by
  have f : fin st due = [] := by
    unfold fin
    rw [if_pos (.inr (by omega))]
  match n, cs with
  | 0, _ => unfold mach; exact f
  | n + 1, [] => unfold mach; exact f
  | n + 1, c :: r => unfold mach; rw [if_pos h8]; exact f
theorem mach_word {n : Nat} {st : List (List Tr)} {c : Nat} {r : Cs} (h8 : st.length < 8) (hc : c ≠ 40) : mach (n + 1) st true (c :: r) = match wordP ((c :: r).takeWhile nd) with
      | none => []
      | some t => mach n (push t st) false ((c :: r).dropWhile nd) := by
  conv => lhs; unfold mach
  rw [if_neg (fun z => z h8), if_neg (fun z => hc z.2), if_pos rfl]
theorem mach_end {n : Nat} {st : List (List Tr)} : mach n st true [] = [] := by
  cases n <;> (unfold mach fin; rw [if_pos (.inl rfl)])
theorem drop_len {p : Nat → Bool} : ∀ cs : Cs, (cs.dropWhile p).length ≤ cs.length
  | [] => Nat.le_refl _
  | c :: r => by
    rw [List.dropWhile_cons]
    split
    · have := drop_len (p := p) r
      simp only [List.length_cons]
      omega
    · exact Nat.le_refl _
theorem numOf_all {w : Cs} {n : Int} (h : numOf w = some n) : w.all figC = true ∧ 1 ≤ w.length := by
  unfold numOf at h
  split at h
  · next c => exact ⟨c.2.2.1, c.1⟩
  · cases h
/-- a part by the stack -/
def Steps (p : Cs → Option (Tr × Cs)) (d : Nat) : Prop := ∀ (n : Nat) (st : List (List Tr)) (cs : Cs), st.length = d → cs.length ≤ n →
  (∀ t rest, p cs = some (t, rest) → rest.length < cs.length ∧ ∃ n', rest.length ≤ n' ∧ mach n st true cs = mach n' (push t st) false rest) ∧ (p cs = none → mach n st true cs = [])
theorem loop_steps {p : Cs → Option (Tr × Cs)} {d : Nat} (d1 : 1 ≤ d) (d7 : d + 1 < 8) (hp : Steps p (d + 1)) : ∀ (f n : Nat) (acc : List Tr) (st : List (List Tr)) (cs : Cs), st.length = d → cs.length ≤ n → cs.length ≤ f →
    (∀ t rest, loopK p f acc cs = some (t, rest) → rest.length < cs.length ∧ ∃ n', rest.length ≤ n' ∧ mach n (acc :: st) true cs = mach n' (push t st) false rest) ∧ (loopK p f acc cs = none → mach n (acc :: st) true cs = [])
  | 0, n, acc, st, cs, hs, hn, hf => by
    have : cs = [] := List.length_eq_zero_iff.mp (by omega)
    subst this
    exact ⟨fun t rest h => by (unfold loopK at h; cases h), fun _ => mach_end⟩
  | f + 1, n, acc, st, cs, hs, hn, hf => by
    have ih := hp n (acc :: st) cs (by simp only [List.length_cons]; omega) hn
    unfold loopK
    cases hpc : p cs with
    | none => exact ⟨fun t rest h => (by cases h), fun _ => ih.2 hpc⟩
    | some tr =>
      obtain ⟨t, rest⟩ := tr
      obtain ⟨hl, n', hn', em⟩ := ih.1 t rest hpc
      have em' : mach n (acc :: st) true cs = mach n' ((acc ++ [t]) :: st) false rest := em
      cases rest with
      | nil =>
        refine ⟨fun t rest h => (by cases h), fun _ => ?_⟩
        rw [em']
        cases n' <;> (unfold mach fin; rw [if_pos (.inr (by simp only [List.length_cons]; omega))])
      | cons c r =>
        simp only [List.length_cons] at hn' hl
        obtain ⟨m, rfl⟩ : ∃ m, n' = m + 1 := ⟨n' - 1, by omega⟩
        dsimp only
        by_cases h44 : c = 44
        · subst h44
          rw [if_pos rfl, em', mach_comma (by omega) (by omega)]
          have k := loop_steps d1 d7 hp f m (acc ++ [t]) st r hs (by omega) (by omega)
          refine ⟨fun t' rest' h => ?_, k.2⟩
          obtain ⟨a, b⟩ := k.1 t' rest' h
          exact ⟨by omega, b⟩
        · rw [if_neg h44]
          by_cases h41 : c = 41
          · subst h41
            rw [if_pos rfl, em', mach_close (by omega) (by omega)]
            refine ⟨fun t' rest' h => ?_, fun h => by cases h⟩
            cases h
            exact ⟨by omega, m, by omega, rfl⟩
          · rw [if_neg h41]
            refine ⟨fun t' rest' h => (by cases h), fun _ => ?_⟩
            rw [em']
            exact mach_no (by omega) (by simp only [List.length_cons]; omega) ⟨h41, h44⟩
theorem one_steps {q : Cs → Option (Tr × Cs)} {d : Nat} (d7 : d < 8) (hq : ∀ (n : Nat) (st : List (List Tr)) (r : Cs), st.length = d → r.length ≤ n →
    (∀ t rest, q r = some (t, rest) → rest.length ≤ r.length ∧ ∃ n', rest.length ≤ n' ∧ mach n ([] :: st) (decide (r.head? ≠ some 41)) r = mach n' (push t st) false rest) ∧ (q r = none → mach n ([] :: st) (decide (r.head? ≠ some 41)) r = [])) : Steps (oneK q) d := by
  intro n st cs hs hn
  cases cs with
  | nil => exact ⟨fun t rest h => by (unfold oneK at h; cases h), fun _ => mach_end⟩
  | cons c r =>
    simp only [List.length_cons] at hn
    obtain ⟨m, rfl⟩ : ∃ m, n = m + 1 := ⟨n - 1, by omega⟩
    unfold oneK
    dsimp only
    by_cases h39 : c = 39
    · subst h39
      rw [if_pos rfl, mach_word (by omega) (by decide)]
      have ew : (39 :: r).takeWhile nd = 39 :: r.takeWhile nd := rfl
      have ed : (39 :: r).dropWhile nd = r.dropWhile nd := rfl
      rw [ew, ed]
      refine ⟨fun t rest h => ?_, fun h => by cases h⟩
      cases h
      have dl := drop_len (p := sgnC) r
      refine ⟨by simp only [List.length_cons]; omega, ?_⟩
      show ∃ n', _ ∧ (match (if (r.takeWhile nd).all sgnC = true then some (Tr.str (txt (r.takeWhile nd))) else none) with
        | none => []
        | some t => mach m (push t st) false (r.dropWhile nd)) = _
      by_cases ha : (r.takeWhile nd).all sgnC = true
      · obtain ⟨e1, e2⟩ := tw_all sgn_nd ha
        rw [if_pos ha, e1, e2]
        exact ⟨m, by rw [← e2]; omega, rfl⟩
      · rw [if_neg ha]
        obtain ⟨c', r', e, hc'⟩ := tw_not sgn_nd ha
        rw [e] at dl ⊢
        simp only [List.length_cons] at dl
        exact ⟨m, by simp only [List.length_cons]; omega, (mach_nd (by omega) (by rw [push_len]; omega) hc').symm⟩
    · rw [if_neg h39]
      by_cases h40 : c = 40
      · subst h40
        rw [if_pos rfl, mach_open (by omega)]
        have k := hq m st r hs (by omega)
        refine ⟨fun t rest h => ?_, k.2⟩
        obtain ⟨a, b⟩ := k.1 t rest h
        exact ⟨by simp only [List.length_cons]; omega, b⟩
      · rw [if_neg h40, mach_word (by omega) h40]
        have wp : wordP ((c :: r).takeWhile nd) = (numOf ((c :: r).takeWhile nd)).map Tr.int := by
          cases hn' : nd c with
          | true =>
            rw [List.takeWhile_cons, if_pos hn']
            unfold wordP
            split
            · next h => injection h with h _; exact absurd h h39
            · rfl
          | false =>
            rw [List.takeWhile_cons, hn']
            rfl
        rw [wp]
        by_cases ha : ((c :: r).takeWhile nd).all figC = true
        · obtain ⟨e1, e2⟩ := tw_all fig_nd ha
          unfold numP
          rw [e1, e2]
          cases hnum : numOf ((c :: r).takeWhile nd) with
          | none => exact ⟨fun t rest h => (by cases h), fun _ => rfl⟩
          | some k =>
            refine ⟨fun t rest h => ?_, fun h => by cases h⟩
            cases h
            have l1 := (numOf_all hnum).2
            have hlen : ((c :: r).dropWhile nd).length ≤ r.length := by
              cases hn' : nd c with
              | true =>
                rw [List.dropWhile_cons, if_pos hn']
                exact drop_len r
              | false =>
                rw [List.takeWhile_cons, hn'] at l1
                exact absurd l1 (by show ¬ 1 ≤ 0; decide)
            exact ⟨by simp only [List.length_cons]; omega, m, by omega, rfl⟩
        · have nn : numOf ((c :: r).takeWhile nd) = none := by
            cases hnum : numOf ((c :: r).takeWhile nd) with
            | none => rfl
            | some k => exact absurd (numOf_all hnum).1 ha
          rw [nn]
          refine ⟨fun t rest h => ?_, fun _ => rfl⟩
          unfold numP at h
          cases hnum : numOf ((c :: r).takeWhile figC) with
          | none => rw [hnum] at h; cases h
          | some k =>
            rw [hnum] at h
            cases h
            have l1 := (numOf_all hnum).2
            have hlen : ((c :: r).dropWhile figC).length ≤ r.length := by
              cases hn' : figC c with
              | true =>
                rw [List.dropWhile_cons, if_pos hn']
                exact drop_len r
              | false =>
                rw [List.takeWhile_cons, hn'] at l1
                exact absurd l1 (by show ¬ 1 ≤ 0; decide)
            obtain ⟨c', r', e, hc'⟩ := tw_not fig_nd ha
            rw [e] at hlen ⊢
            simp only [List.length_cons] at hlen
            exact ⟨by simp only [List.length_cons]; omega, m, by simp only [List.length_cons]; omega, (mach_nd (by omega) (by rw [push_len]; omega) hc').symm⟩
theorem part_steps : ∀ k : Nat, k ≤ 6 → Steps (partK k) (7 - k)
  | 0, _ => one_steps (by omega) fun n st r hs hn => ⟨fun t rest h => (by cases h), fun _ => mach_full (by simp only [List.length_cons]; omega)⟩
  | k + 1, hk => one_steps (by omega) fun n st r hs hn => by
    unfold tupK
    by_cases h41 : r.head? = some 41
    · rw [if_pos h41]
      refine ⟨fun t rest h => ?_, fun h => by cases h⟩
      cases h
      cases r with
      | nil => cases h41
      | cons c r =>
        cases h41
        simp only [List.length_cons] at hn
        obtain ⟨m, rfl⟩ : ∃ m, n = m + 1 := ⟨n - 1, by omega⟩
        refine ⟨by simp, m, ?_, ?_⟩
        · show r.length ≤ m
          omega
        · exact mach_close (by omega) (by omega)
    · rw [if_neg h41]
      have hd : decide (r.head? ≠ some 41) = true := decide_eq_true h41
      rw [hd]
      have hp := part_steps k (by omega)
      rw [show 7 - k = (7 - (k + 1)) + 1 by omega] at hp
      have k' := loop_steps (d := 7 - (k + 1)) (by omega) (by omega) hp r.length n [] st r hs hn (Nat.le_refl _)
      refine ⟨fun t rest h => ?_, k'.2⟩
      obtain ⟨a, b⟩ := k'.1 t rest h
      exact ⟨by omega, b⟩
/-- both read the same -/
theorem read_same (cs : Cs) (n : Nat) (hn : cs.length ≤ n) : mach n [[]] true cs = (match stuffK cs with
    | some t => [t]
    | none => []) := by
  have h := part_steps 6 (Nat.le_refl _) n [[]] cs rfl hn
  unfold stuffK
  cases hp : partK 6 cs with
  | none => exact h.2 hp
  | some tr =>
    obtain ⟨t, rest⟩ := tr
    obtain ⟨_, n', hn', e⟩ := h.1 t rest hp
    rw [e]
    cases rest with
    | nil => cases n' <;> rfl
    | cons c r =>
      simp only [List.length_cons] at hn'
      obtain ⟨m, rfl⟩ : ∃ m, n' = m + 1 := ⟨n' - 1, by omega⟩
      show mach (m + 1) [[t]] false (c :: r) = []
      unfold mach
      rw [if_neg (fun z => z (by show 1 < 8; decide)), if_neg (fun z => by cases z.1), if_neg (fun z => by cases z), if_neg (fun z => absurd z.1 (by show ¬ 1 < 1; decide)), if_neg (fun z => absurd z.1 (by show ¬ 1 < 1; decide))]
end K86
set_option maxHeartbeats 4000000
namespace K86
open PySem L2
/-! ### the figures of a number -/
theorem val_snoc (w : Cs) (c : Nat) : val (w ++ [c]) = val w * 10 + ((c : Int) - 48) := by
  unfold val
  rw [List.foldl_append]
  rfl
def digs (m : Nat) : Cs := (Nat.toDigits 10 m).map Char.toNat
theorem dig_one : ∀ d : Fin 10, (Nat.digitChar d).toNat = 48 + d.val := by decide
theorem digs_lt {m : Nat} (h : m < 10) : digs m = [48 + m] := by
  unfold digs
  rw [Nat.toDigits_of_lt_base h]
  have := dig_one ⟨m, h⟩
  simp only [List.map_cons, List.map_nil]
  exact congrArg (· :: []) this
theorem digs_step {m : Nat} (h : 10 ≤ m) : digs m = digs (m / 10) ++ [48 + m % 10] := by
  have e := Nat.toDigits_append_toDigits (b := 10) (n := m / 10) (d := m % 10) (by decide) (by omega) (by omega)
  rw [show 10 * (m / 10) + m % 10 = m by omega] at e
  unfold digs
  rw [← e, List.map_append]
  congr 1
  exact digs_lt (by omega)
structure Figs (m : Nat) (w : Cs) : Prop where
  fig : ∀ c ∈ w, figC c = true
  val : val w = m
  hd : w.head? = some 48 → w = [48]
  l1 : 1 ≤ w.length
  pos : 0 < m → w.head? ≠ some 48
theorem fig_of {d : Nat} (h : d < 10) : figC (48 + d) = true := by
  unfold figC
  rw [decide_eq_true (by omega), decide_eq_true (by omega)]
  rfl
theorem digs_figs (m : Nat) : Figs m (digs m) := by
  induction m using Nat.strongRecOn with
  | ind m ih =>
    by_cases h : m < 10
    · rw [digs_lt h]
      refine ⟨fun c hc => ?_, ?_, fun e => ?_, (by show (1 : Nat) ≤ 1; decide), fun p e => ?_⟩
      · rw [List.mem_singleton.mp hc]
        exact fig_of h
      · show (0 : Int) * 10 + (((48 + m : Nat) : Int) - 48) = m
        omega
      · injection e with e
        rw [e]
      · injection e with e
        omega
    · rw [digs_step (by omega)]
      have k := ih (m / 10) (by omega)
      obtain ⟨c0, r0, e0⟩ : ∃ c r, digs (m / 10) = c :: r := by
        cases hd : digs (m / 10) with
        | nil =>
          have := k.l1
          rw [hd] at this
          exact absurd this (by decide)
        | cons c r => exact ⟨c, r, rfl⟩
      have np := k.pos (by omega)
      refine ⟨fun c hc => ?_, ?_, fun e => ?_, ?_, fun p e => ?_⟩
      · rcases List.mem_append.mp hc with hc | hc
        · exact k.fig c hc
        · rw [List.mem_singleton.mp hc]
          exact fig_of (by omega)
      · rw [val_snoc, k.val]
        omega
      · rw [e0] at e np
        exact absurd e np
      · rw [List.length_append]
        simp
      · rw [e0] at e np
        exact absurd e np
theorem digs_len {m : Nat} (h : m < 10000000000) : (digs m).length ≤ 10 := by
  unfold digs
  rw [List.length_map]
  exact (Nat.length_toDigits_le_iff (b := 10) (by decide) (by decide)).mpr h
theorem numOf_digs {m : Nat} (h : m ≤ 4294967295) : numOf (digs m) = some (m : Int) := by
  have k := digs_figs m
  unfold numOf
  rw [if_pos ⟨k.l1, digs_len (by omega), List.all_eq_true.mpr k.fig, k.hd, by rw [k.val]; omega⟩, k.val]
theorem codes_int (m : Nat) : (Str.ofString (toString (m : Int))).cps.toList = digs m := by
  rw [PyProof.Rows.signs_ofString]
  unfold digs
  congr 1
  show (Nat.repr m).toList = Nat.toDigits 10 m
  unfold Nat.repr
  simp
/-! ### a stuff's line -/
mutual
def lineT : Tr → Cs
  | .int n => digs n.toNat
  | .str z => 39 :: z.cps.toList
  | .tup l => 40 :: (linesT l ++ [41])
  | _ => []
def linesT : List Tr → Cs
  | [] => []
  | [t] => lineT t
  | t :: u :: l => lineT t ++ 44 :: linesT (u :: l)
end
mutual
def goodT : Nat → Tr → Bool
  | _, .int n => decide (0 ≤ n) && decide (n ≤ 4294967295)
  | _, .str z => z.cps.toList.all sgnC
  | 0, .tup _ => false
  | k + 1, .tup l => goodsT k l
  | _, _ => false
def goodsT : Nat → List Tr → Bool
  | _, [] => true
  | k, t :: l => goodT k t && goodsT k l
end
/-- what may stand behind a part -/
def endC (r : Cs) : Prop := r = [] ∨ ∃ q, r = 44 :: q ∨ r = 41 :: q
theorem tw_end {p : Nat → Bool} (h44 : p 44 = false) (h41 : p 41 = false) : ∀ {w r : Cs}, (∀ c ∈ w, p c = true) → endC r → (w ++ r).takeWhile p = w ∧ (w ++ r).dropWhile p = r
  | [], r, _, h => by
    rcases h with rfl | ⟨q, rfl | rfl⟩
    · exact ⟨rfl, rfl⟩
    · rw [List.nil_append, List.takeWhile_cons, h44, List.dropWhile_cons, h44]
      exact ⟨rfl, rfl⟩
    · rw [List.nil_append, List.takeWhile_cons, h41, List.dropWhile_cons, h41]
      exact ⟨rfl, rfl⟩
  | c :: w, r, hw, h => by
    have hc := hw c (List.mem_cons_self ..)
    obtain ⟨e1, e2⟩ := tw_end h44 h41 (w := w) (fun d hd => hw d (List.mem_cons_of_mem _ hd)) h
    rw [List.cons_append, List.takeWhile_cons, if_pos hc, List.dropWhile_cons, if_pos hc, e1, e2]
    exact ⟨rfl, rfl⟩
theorem goods_mem {k : Nat} : ∀ {l : List Tr}, goodsT k l = true → ∀ t ∈ l, goodT k t = true
  | [], _, t, m => by cases m
  | u :: l, h, t, m => by
    unfold goodsT at h
    rw [Bool.and_eq_true] at h
    rcases List.mem_cons.mp m with rfl | m
    · exact h.1
    · exact goods_mem h.2 t m
theorem txt_codes (z : Str) : txt z.cps.toList = z := by
  unfold txt
  rw [Array.toArray_toList]
/-- how a line begins -/
theorem line_head {k : Nat} {t : Tr} (h : goodT k t = true) : ∃ c r, lineT t = c :: r ∧ c ≠ 41 ∧ (figC c = true ∨ c = 39 ∨ c = 40) := by
  cases t with
  | int n =>
    have f := digs_figs n.toNat
    cases hd : digs n.toNat with
    | nil =>
      have := f.l1
      rw [hd] at this
      exact absurd this (by decide)
    | cons c r =>
      have hc := f.fig c (by rw [hd]; exact List.mem_cons_self ..)
      refine ⟨c, r, by unfold lineT; exact hd, fun z => ?_, .inl hc⟩
      subst z
      cases hc
  | str z => exact ⟨39, _, by unfold lineT; rfl, by decide, .inr (.inl rfl)⟩
  | tup l => exact ⟨40, _, by unfold lineT; rfl, by decide, .inr (.inr rfl)⟩
  | bl b => cases k <;> (unfold goodT at h; cases h)
  | non => cases k <;> (unfold goodT at h; cases h)
  | dct => cases k <;> (unfold goodT at h; cases h)
  | lst l => cases k <;> (unfold goodT at h; cases h)
theorem loop_line {p : Cs → Option (Tr × Cs)} {r : Cs} : ∀ (l : List Tr) (f : Nat) (acc : List Tr), l ≠ [] → (∀ t ∈ l, ∀ q, endC q → p (lineT t ++ q) = some (t, q)) → l.length ≤ f → loopK p f acc (linesT l ++ 41 :: r) = some (.tup (acc ++ l), r)
  | [], _, _, h, _, _ => absurd rfl h
  | [t], f, acc, _, hp, hf => by
    obtain ⟨m, rfl⟩ : ∃ m, f = m + 1 := ⟨f - 1, by simp only [List.length_cons, List.length_nil] at hf; omega⟩
    have e := hp t (List.mem_cons_self ..) (41 :: r) (.inr ⟨r, .inr rfl⟩)
    unfold loopK linesT
    rw [e]
    dsimp only
    rw [if_neg (by decide), if_pos rfl]
  | t :: u :: l, f, acc, _, hp, hf => by
    obtain ⟨m, rfl⟩ : ∃ m, f = m + 1 := ⟨f - 1, by simp only [List.length_cons] at hf; omega⟩
    have e := hp t (List.mem_cons_self ..) (44 :: (linesT (u :: l) ++ 41 :: r)) (.inr ⟨_, .inl rfl⟩)
    unfold loopK
    have el : linesT (t :: u :: l) ++ 41 :: r = lineT t ++ 44 :: (linesT (u :: l) ++ 41 :: r) := by
      conv => lhs; unfold linesT
      rw [List.append_assoc, List.cons_append]
    rw [el, e]
    dsimp only
    rw [if_pos rfl, loop_line (u :: l) m (acc ++ [t]) (by simp) (fun v hv => hp v (List.mem_cons_of_mem _ hv)) (by simp only [List.length_cons] at hf ⊢; omega), List.append_assoc]
    rfl
theorem lines_len {k : Nat} : ∀ {l : List Tr}, goodsT k l = true → l.length ≤ (linesT l).length
  | [], _ => Nat.le_refl _
  | [t], h => by
    obtain ⟨c, r, e, _⟩ := line_head (goods_mem h t (List.mem_cons_self ..))
    unfold linesT
    rw [e]
    simp
  | t :: u :: l, h => by
    have h' := h
    unfold goodsT at h'
    rw [Bool.and_eq_true] at h'
    have ih := lines_len (l := u :: l) h'.2
    obtain ⟨c, r, e, _⟩ := line_head h'.1
    conv => rhs; unfold linesT
    rw [e]
    simp only [List.length_cons, List.length_append] at ih ⊢
    omega
theorem lines_head {k : Nat} {l : List Tr} {q : Cs} (h : goodsT k l = true) (hl : l ≠ []) : (linesT l ++ q).head? ≠ some 41 := by
  match l, hl with
  | [t], _ =>
    obtain ⟨c, r, e, hc, _⟩ := line_head (goods_mem h t (List.mem_cons_self ..))
    unfold linesT
    rw [e]
    intro z
    injection z with z
    exact hc z
  | t :: u :: l, _ =>
    obtain ⟨c, r, e, hc, _⟩ := line_head (goods_mem h t (List.mem_cons_self ..))
    unfold linesT
    rw [e]
    intro z
    injection z with z
    exact hc z
theorem num_line {n : Int} {q : Cs} {f : Cs → Option (Tr × Cs)} (h0 : 0 ≤ n) (h1 : n ≤ 4294967295) (hq : endC q) : oneK f (lineT (.int n) ++ q) = some (.int n, q) := by
  obtain ⟨c, r, e, _, hc⟩ := line_head (k := 0) (t := .int n) (by unfold goodT; rw [decide_eq_true h0, decide_eq_true h1]; rfl)
  have f1 := digs_figs n.toNat
  have hfc : figC c = true := f1.fig c (by
    have : digs n.toNat = c :: r := by
      unfold lineT at e
      exact e
    rw [this]
    exact List.mem_cons_self ..)
  have h39 : c ≠ 39 := fun z => by subst z; cases hfc
  have h40 : c ≠ 40 := fun z => by subst z; cases hfc
  have en : numP (lineT (.int n) ++ q) = some (.int n, q) := by
    unfold numP
    have el : lineT (.int n) = digs n.toNat := by unfold lineT; rfl
    obtain ⟨e1, e2⟩ := tw_end (p := figC) (by decide) (by decide) (w := digs n.toNat) f1.fig hq
    rw [el, e1, e2, numOf_digs (by omega)]
    show some (Tr.int ((n.toNat : Nat) : Int), q) = _
    rw [show ((n.toNat : Nat) : Int) = n by omega]
  rw [e] at en ⊢
  show (if c = 39 then _ else if c = 40 then _ else numP (c :: (r ++ q))) = _
  rw [if_neg h39, if_neg h40]
  exact en
theorem one_str {f : Cs → Option (Tr × Cs)} (r : Cs) : oneK f (39 :: r) = some (.str (txt (r.takeWhile sgnC)), r.dropWhile sgnC) := rfl
theorem one_open {f : Cs → Option (Tr × Cs)} (r : Cs) : oneK f (40 :: r) = f r := rfl
theorem str_line {z : Str} {q : Cs} {f : Cs → Option (Tr × Cs)} (h : z.cps.toList.all sgnC = true) (hq : endC q) : oneK f (lineT (.str z) ++ q) = some (.str z, q) := by
  obtain ⟨e1, e2⟩ := tw_end (p := sgnC) (by decide) (by decide) (w := z.cps.toList) (List.all_eq_true.mp h) hq
  unfold lineT
  rw [List.cons_append, one_str, e1, e2, txt_codes]
theorem part_line : ∀ (k : Nat) (t : Tr), goodT k t = true → ∀ q, endC q → partK k (lineT t ++ q) = some (t, q) := by
  intro k
  induction k with
  | zero =>
    intro t h q hq
    cases t with
    | int n =>
      unfold goodT at h
      rw [Bool.and_eq_true, decide_eq_true_eq, decide_eq_true_eq] at h
      exact num_line h.1 h.2 hq
    | str z =>
      unfold goodT at h
      exact str_line h hq
    | _ => unfold goodT at h; cases h
  | succ k ih =>
    intro t h q hq
    cases t with
    | int n =>
      unfold goodT at h
      rw [Bool.and_eq_true, decide_eq_true_eq, decide_eq_true_eq] at h
      exact num_line h.1 h.2 hq
    | str z =>
      unfold goodT at h
      exact str_line h hq
    | tup l =>
      unfold goodT at h
      have el : lineT (.tup l) ++ q = 40 :: (linesT l ++ 41 :: q) := by
        conv => lhs; unfold lineT
        simp
      rw [el]
      show oneK (tupK (partK k)) (40 :: (linesT l ++ 41 :: q)) = _
      rw [one_open]
      unfold tupK
      by_cases hl : l = []
      · subst hl
        unfold linesT
        rw [List.nil_append, if_pos (show (41 :: q).head? = some 41 from rfl)]
        rfl
      · rw [if_neg (lines_head h hl)]
        have ll := lines_len h
        rw [loop_line l _ [] hl (fun t ht q hq => ih t (goods_mem h t ht) q hq) (by rw [List.length_append]; omega)]
        rfl
    | _ => unfold goodT at h; cases h
/-- a line is read back -/
theorem stuff_line {t : Tr} (h : goodT 6 t = true) : stuffK (lineT t) = some t := by
  have e := part_line 6 t h [] (.inl rfl)
  rw [List.append_nil] at e
  unfold stuffK
  rw [e]
end K86
namespace K86
open PySem L2 PyProof.Rows
def figS : Str := Str.ofString "0123456789"
def top (i : Nat) : Stmt := PySem.Challenge.pw_clonewood_k86_lines_and_stuff.main.body.getD i (.Pass ⟨0, 0, 0, 0⟩)
abbrev sLof : Stmt := top 10
abbrev sNof : Stmt := top 11
abbrev sNat : Stmt := top 12
abbrev sTat : Stmt := top 13
abbrev sPat : Stmt := top 14
abbrev sPar : Stmt := top 15
abbrev sSof : Stmt := top 16
abbrev sCel : Stmt := top 18
abbrev sMix : Stmt := top 19
abbrev sLtx : Stmt := top 20
abbrev sPla : Stmt := top 21
abbrev sStu : Stmt := top 22
abbrev sLin : Stmt := top 23
abbrev sSpo : Stmt := top 24
abbrev sWrd : Stmt := top 25
abbrev sClo : Stmt := top 26
abbrev sRea : Stmt := top 27
abbrev sSam : Stmt := top 28
abbrev sTol : Stmt := top 29
abbrev sRig : Stmt := top 30
abbrev sLaw : Stmt := top 31
/-- what the top has of names -/
structure Txt (mg : Str → Option Value) : Prop where
  isi : mg "isinstance" = none
  int : mg "int" = none
  bol : mg "bool" = none
  str : mg "str" = none
  len : mg "len" = none
  rng : mg "range" = none
  tup : mg "tuple" = none
  min : mg "min" = none
  max : mg "max" = none
  all : mg "all" = none
  zip : mg "zip" = none
  vae : mg "ValueError" = none
  sgn : ∃ t, mg "SIGNS" = some (.str sigS t)
  grt : ∃ t, mg "GREATEST" = some (.int 4294967295 t)
  fig : ∃ t, mg "FIGURES" = some (.str figS t)
  mfi : ∃ t, mg "MOST_FIGURES" = some (.int 10 t)
  mde : ∃ t, mg "MOST_DEEP" = some (.int 6 t)
end K86
set_option maxHeartbeats 4000000
namespace K86
open PySem L2
section
variable {P : Program} {w : World} {K : PySem.W.Frag} {mg : Str → Option Value} {base : Heap} {f fMix : Addr} {fd dMix : FuncData}
def spCel (K : PySem.W.Frag) : Sp := fun vs H Q _ => ∃ (a : Addr) (ns : List Int) (k : Int), vs = [.ref a, .int k] ∧ 0 ≤ k ∧ SqL K H a (ns.map V.int) ∧ ∀ z : Int, Q (.int z) H
theorem scCel : FnScope ["_law_script", "_law_k"] ["_law_script", "_law_k"] (defScope sCel) := ⟨rfl, rfl, rfl, by decide +kernel, rfl, by decide +kernel, by decide +kernel⟩
theorem ok_Cel (F : Fun K "_law_cell_at" "_law_cell_at" sCel f fd) (T : Txt mg) : FnOk P w K mg base CX0 1 f fd ["_law_script", "_law_k"] (spCel K) := by
  refine F.ok scCel (fun vs H Q E h => ?_) (fun cdv A outer s H vs Q E hr h => ?_)
  · obtain ⟨a, ns, k, rfl, _⟩ := h
    rfl
  obtain ⟨a, ns, k, rfl, h0, hS, q⟩ := h
  refine ⟨_, (pss_cons (ps_if (pt_cmpR op_lt (pv 1) (pe_callB call_len_seq rfl T.len PySem.boot_len (pc (pv 0) pa_nil)) (nomark _))
    (pss_one (ps_ret (pe_ix ix_list (pv 0) (pv 1) (fun _ _ => rfl))))
    pss_nil)
    (pss_one (ps_ret pe_int))), ?_⟩
  refine ⟨_, rfl, _, rfl, a, _, rfl, .inl hS, _, _, rfl, rfl, _, rfl, ?_⟩
  refine ite2 (fun c => ?_) (fun c => ?_)
  · have c' : k < (((ns.map V.int).length : Nat) : Int) := of_decide_eq_true c
    rw [List.length_map] at c'
    obtain ⟨j, rfl⟩ := Int.eq_ofNat_of_zero_le h0
    have hk : j < ns.length := by omega
    exact ⟨_, rfl, _, rfl, a, _, _, .int ns[j], rfl, rfl, hS, atI_nat (by simp [hk]), q _⟩
  · exact q 0
def spMix : Sp := fun vs H Q _ => ∃ (c k : Int), vs = [.int c, .int k] ∧ 0 ≤ k ∧ k ≤ 1000 ∧ ∀ z : Int, 0 ≤ z → z < 2147483587 → Q (.int z) H
theorem scMix : FnScope ["_law_cell", "_law_k", "_law_j", "_law_number"] ["_law_cell", "_law_k"] (defScope sMix) := ⟨rfl, rfl, rfl, by decide +kernel, rfl, by decide +kernel, by decide +kernel⟩
theorem ok_Mix (F : Fun K "_law_mixed" "_law_mixed" sMix f fd) (T : Txt mg) : FnOk P w K mg base CX0 1 f fd ["_law_cell", "_law_k"] spMix := by
  refine F.ok scMix (fun vs H Q E h => ?_) (fun cdv A outer s H vs Q E hr h => ?_)
  · obtain ⟨c, k, rfl, _⟩ := h
    rfl
  obtain ⟨c, k, rfl, k0, k1, q⟩ := h
  refine ⟨_, (pss_cons (ps_if (PW.pt (pw_and (pt_cmpR op_gt (pv 0) pe_int (nomark _)) (pw_and1 (pt_cmpR op_eq (pe_op op_mod (pv 0) pe_int) pe_int (nomark _)))))
    (pss_cons (ps_set (i := 0) scMix.nd rfl (Or.inl rfl) (pe_op op_fdiv (pv 0) pe_int))
    (pss_cons (ps_for PassesOwn.never rfl (pi_range1 rfl T.rng (pc (pv 1) pa_nil)) (pg_name (i := 2) scMix.nd rfl (Or.inl rfl))
    (pss_one (ps_set (i := 0) scMix.nd rfl (Or.inl rfl) (pe_op op_fdivB (pv 0) pe_int))))
    (pss_one (ps_ret (pe_op op_mod (pv 0) pe_int)))))
    pss_nil)
    (pss_cons (ps_set (i := 3) scMix.nd rfl (Or.inl rfl) (pe_op op_mod (pe_op op_add (pe_op op_add (pe_op op_mod (pv 0) pe_int) (pe_op op_mul pe_int (pv 1))) pe_int) pe_int))
    (pss_cons (ps_set (i := 3) scMix.nd rfl (Or.inl rfl) (pe_op op_mod (pe_op op_mul (pv 3) (pv 3)) pe_int))
    (pss_one (ps_ret (pe_op op_mod (pe_op op_add (pe_op op_add (pe_op op_mul (pv 3) (pv 3)) (pe_op op_mul pe_int (pv 3))) (pe_op op_mul pe_int (pv 1))) pe_int)))))), ?_⟩
  refine ⟨_, rfl, _, _, rfl, rfl, _, rfl, ite2 (fun c1 => ?_) (fun c1 => ?_)⟩
  · refine ⟨_, rfl, _, _, rfl, rfl, (by show (0 : Int) < 2; decide), rfl, _, rfl, ite2 (fun c2 => ?_) (fun c2 => ?_)⟩
    · refine ⟨_, rfl, _, _, rfl, rfl, ⟨by decide, by decide⟩, ?_⟩
      refine ⟨_, rfl, k, rfl, by omega, by omega, ?_⟩
      refine for_range (lo := 0) (n := k.toNat) (fun j σ H2 => ∃ (z : Int) (o : Option V), σ = [some (.int z), some (.int k), o, none] ∧ H2 = H) ⟨_, _, rfl, rfl⟩ ?_ ?_
      · rintro j σ H2 hj ⟨z, o, rfl, rfl⟩
        exact ⟨_, rfl, _, _, rfl, rfl, ⟨by decide, by decide⟩, _, _, rfl, rfl⟩
      · rintro σ H2 ⟨z, o, rfl, rfl⟩
        exact ⟨_, rfl, _, _, rfl, rfl, (by show (0 : Int) < 2147483587; decide), q _ (by show (0 : Int) ≤ z % 2147483587; omega) (by show z % 2147483587 < 2147483587; omega)⟩
    · refine ⟨_, rfl, _, _, rfl, rfl, (by show (0 : Int) < 2147483629; decide), _, rfl, _, _, rfl, rfl, .inl ⟨by decide, by decide⟩, _, _, rfl, rfl, _, _, rfl, rfl, _, _, rfl, rfl, (by show (0 : Int) < 2147483629; decide), ?_⟩
      have a0 : 0 ≤ (c % 2147483629 + 7919 * k + 17) % 2147483629 := by omega
      have a1 : (c % 2147483629 + 7919 * k + 17) % 2147483629 < 2147483629 := by omega
      dsimp only
      generalize (c % 2147483629 + 7919 * k + 17) % 2147483629 = n at a0 a1
      refine ⟨_, rfl, _, rfl, _, _, rfl, rfl, .inl ⟨by omega, by omega⟩, _, _, rfl, rfl, (by show (0 : Int) < 2147483629; decide), ?_⟩
      have b0 := Int.emod_nonneg (n * n) (show (2147483629 : Int) ≠ 0 by decide)
      have b1 := Int.emod_lt_of_pos (n * n) (show (0 : Int) < 2147483629 by decide)
      dsimp only
      generalize n * n % 2147483629 = n2 at b0 b1
      exact ⟨_, rfl, _, rfl, _, _, rfl, rfl, .inl ⟨by omega, by omega⟩, _, rfl, _, _, rfl, rfl, .inl ⟨by decide, by decide⟩, _, _, rfl, rfl, _, rfl, _, _, rfl, rfl, .inl ⟨by decide, by decide⟩, _, _, rfl, rfl, _, _, rfl, rfl, (by show (0 : Int) < 2147483587; decide), q _ (Int.emod_nonneg _ (by decide)) (Int.emod_lt_of_pos _ (by decide))⟩
  · refine iteF ?_
    refine ⟨_, rfl, _, _, rfl, rfl, (by show (0 : Int) < 2147483629; decide), _, rfl, _, _, rfl, rfl, .inl ⟨by decide, by decide⟩, _, _, rfl, rfl, _, _, rfl, rfl, _, _, rfl, rfl, (by show (0 : Int) < 2147483629; decide), ?_⟩
    have a0 : 0 ≤ (c % 2147483629 + 7919 * k + 17) % 2147483629 := by omega
    have a1 : (c % 2147483629 + 7919 * k + 17) % 2147483629 < 2147483629 := by omega
    dsimp only
    generalize (c % 2147483629 + 7919 * k + 17) % 2147483629 = n at a0 a1
    refine ⟨_, rfl, _, rfl, _, _, rfl, rfl, .inl ⟨by omega, by omega⟩, _, _, rfl, rfl, (by show (0 : Int) < 2147483629; decide), ?_⟩
    have b0 := Int.emod_nonneg (n * n) (show (2147483629 : Int) ≠ 0 by decide)
    have b1 := Int.emod_lt_of_pos (n * n) (show (0 : Int) < 2147483629 by decide)
    dsimp only
    generalize n * n % 2147483629 = n2 at b0 b1
    exact ⟨_, rfl, _, rfl, _, _, rfl, rfl, .inl ⟨by omega, by omega⟩, _, rfl, _, _, rfl, rfl, .inl ⟨by decide, by decide⟩, _, _, rfl, rfl, _, rfl, _, _, rfl, rfl, .inl ⟨by decide, by decide⟩, _, _, rfl, rfl, _, _, rfl, rfl, (by show (0 : Int) < 2147483587; decide), q _ (Int.emod_nonneg _ (by decide)) (Int.emod_lt_of_pos _ (by decide))⟩
end
end K86
set_option maxHeartbeats 4000000
namespace K86
open PySem L2
theorem glued_c : ∀ (l : List Str) (acc : Array Nat), (l.foldl (fun a p => a ++ (Str.ofString ",").cps ++ p.cps) acc).toList = acc.toList ++ (l.map fun p => 44 :: p.cps.toList).flatten
  | [], acc => by simp
  | x :: l, acc => by
    have e : (Str.ofString ",").cps = #[44] := by decide +kernel
    rw [List.foldl_cons, glued_c l]
    simp [e]
def joinC : List Cs → Cs
  | [] => []
  | [w] => w
  | w :: u :: r => w ++ 44 :: joinC (u :: r)
theorem joinC_cons : ∀ (w : Cs) (r : List Cs), joinC (w :: r) = w ++ (r.map fun u => 44 :: u).flatten
  | w, [] => by simp [joinC]
  | w, u :: r => by
    unfold joinC
    rw [joinC_cons u r]
    simp
theorem join_comma (l : List Str) : (Txt.join (Str.ofString ",") l).cps.toList = joinC (l.map (·.cps.toList)) := by
  cases l with
  | nil => decide +kernel
  | cons x l =>
    show ((List.foldl (fun a p => a ++ (Str.ofString ",").cps ++ p.cps) x.cps l)).toList = _
    rw [glued_c, List.map_cons, joinC_cons, List.map_map]
    rfl
theorem joinC_lines : ∀ l : List Tr, joinC (l.map lineT) = linesT l
  | [] => rfl
  | [t] => by
    unfold linesT
    rfl
  | t :: u :: l => by
    unfold linesT
    show lineT t ++ 44 :: joinC (lineT u :: l.map lineT) = _
    rw [← joinC_lines (u :: l)]
    rfl
theorem code_txt (w : Cs) : (txt w).cps.toList = w := by
  unfold txt
  simp
theorem len_codes (z : Str) : z.length = z.cps.toList.length := by
  rw [codes_len]
theorem app_codes (a b : Str) : (a ++ b).cps.toList = a.cps.toList ++ b.cps.toList := by
  show (a.cps ++ b.cps).toList = _
  rw [Array.toList_append]
theorem str_ext {a b : Str} (h : a.cps.toList = b.cps.toList) : a = b := by
  cases a
  cases b
  simp only [Str.mk.injEq]
  exact Array.toList_inj.mp h
theorem mem_line {l : List Tr} {t : Tr} (h : t ∈ l) : (lineT t).length ≤ (linesT l).length := by
  match l, h with
  | [u], h =>
    rw [List.mem_singleton.mp h]
    unfold linesT
    exact Nat.le_refl _
  | u :: v :: l, h =>
    rcases List.mem_cons.mp h with rfl | h
    · unfold linesT
      rw [List.length_append]
      omega
    · have := mem_line h
      unfold linesT
      rw [List.length_append, List.length_cons]
      omega
theorem sum_lines : ∀ l : List Tr, ((l.map fun t => txt (lineT t)).map (·.length)).sum ≤ (linesT l).length
  | [] => Nat.le_refl _
  | [t] => by
    unfold linesT
    simp only [List.map_cons, List.map_nil, List.sum_cons, List.sum_nil]
    rw [len_codes, code_txt]
    omega
  | t :: u :: l => by
    have ih := sum_lines (u :: l)
    unfold linesT
    simp only [List.map_cons, List.sum_cons] at ih ⊢
    rw [List.length_append, List.length_cons]
    have : (txt (lineT t)).length = (lineT t).length := by rw [len_codes, code_txt]
    omega
section
variable {P : Program} {w : World} {K : PySem.W.Frag} {mg : Str → Option Value} {base : Heap} {f : Addr} {fd : FuncData}
def spLof (n : Nat) : Sp := fun vs H Q _ => ∃ x t, vs = [x] ∧ At H t x ∧ goodT n t = true ∧ (lineT t).length ≤ 50000 ∧ ∀ H', Same H H' → Q (.str (txt (lineT t))) H'
def spLofN : Nat → Sp
  | 0 => fun _ _ _ _ => False
  | n + 1 => spLof n
theorem scLof : FnScope ["stuff"] ["stuff"] (defScope sLof) := ⟨rfl, rfl, rfl, by decide +kernel, rfl, by decide +kernel, by decide +kernel⟩
theorem ok_Lof (F : Fun K "line_of" "line_of" sLof f fd) (hLof : Has K mg "line_of" sLof ["stuff"] f fd) (T : Txt mg) : ∀ n : Nat, FnOk P w K mg base CX0 n f fd ["stuff"] (spLofN n)
  | 0 => ⟨fun _ _ _ _ h => h.elim, fun _ _ _ _ _ _ _ _ _ _ _ _ _ h => h.elim⟩
  | n + 1 => by
    have GLof := ok_Lof F hLof T n
    refine F.ok scLof (fun vs H Q E h => ?_) (fun cdv A outer s H vs Q E hr h => ?_)
    · obtain ⟨x, t, rfl, _⟩ := h
      rfl
    obtain ⟨x, t, rfl, hx, hg, hl, q⟩ := h
    refine ⟨_, (pss_cons (ps_if (pt_val (pe_callB call_isinst rfl T.isi PyProof.Rows.boot_isinstance (pc (pv 0) (pc (pe_bltn (v := .ty "tuple") rfl T.tup PyProof.Rows.boot_tuple rfl) pa_nil))))
    (pss_one (ps_ret (pe_op op_add_str (pe_op op_add_str pe_str (pe_bm PySem.F.plainAttrs_str PySem.F.slot_str_join PySem.F.type_str_join mt_join pe_str (pc (pe_comp [] [] (pi_tup (pv 0)) (fun _ _ _ _ _ _ => pts_nil)
          (fun _ _ _ _ _ _ => (pe_call GLof (hr.mono (Nat.le_refl _)) rfl hLof.nm hLof.fn.kp hLof.bd .nil pass0 (pc (pv 0) pa_nil)))
          rfl (by decide +kernel) (by decide +kernel) rfl (by decide +kernel) (fun _ _ z => nomatch z) rfl (by decide +kernel) rfl) pa_nil))) pe_str)))
    pss_nil)
    (pss_cons (ps_if (pt_val (pe_callB call_isinst rfl T.isi PyProof.Rows.boot_isinstance (pc (pv 0) (pc (pe_bltn (v := .ty "str") rfl T.str PyProof.Rows.boot_str rfl) pa_nil))))
    (pss_one (ps_ret (pe_op op_add_str pe_str (pv 0))))
    pss_nil)
    (pss_one (ps_ret (pe_callTy call_str_int rfl T.str PyProof.Rows.boot_str (pc (pv 0) pa_nil)))))), ?_⟩
    obtain ⟨ty, ht, k2, k3, _⟩ := hx.ty (K := K)
    refine ⟨_, rfl, x, "tuple", ty, isTup t, rfl, ht, k2, _, rfl, ?_⟩
    cases e : isTup t with
    | true =>
      cases t with
      | tup l =>
        obtain ⟨m, rfl⟩ : ∃ m, n = m + 1 := by
          cases n with
          | zero => unfold goodT at hg; cases hg
          | succ m => exact ⟨m, rfl⟩
        unfold goodT at hg
        refine iteT ?_
        obtain ⟨a, ws, rfl, ha, k⟩ := hx.tup
        have ln := k.len
        have el : lineT (.tup l) = 40 :: (linesT l ++ [41]) := by
          conv => lhs; unfold lineT
        have ll : (linesT l).length + 2 ≤ 50000 := by
          rw [el] at hl
          simp only [List.length_cons, List.length_append, List.length_nil] at hl
          omega
        have len := lines_len hg
        refine ⟨rfl, _, rfl, a, rfl, ⟨_, SqT.of ha⟩, fun p hp => ?_⟩
        refine comp_tup (K := K) (a := a) (xs := ws) (fun i us H2 => Same H H2 ∧ H2 p = some (.lst us) ∧ us = ((l.take i).map fun t => txt (lineT t)).map V.str) ⟨same_new hp _, upd_same, rfl⟩ (fun i us H2 _ h2 => SqT.of (h2.1 _ _ ha)) ?_ ?_
        · rintro i v us H2 hv ⟨s2, e2, rfl⟩
          obtain ⟨t, ht, hat⟩ := (k.mono s2).get hv
          have mt := List.mem_of_getElem? ht
          have li : i < l.length := (List.getElem?_eq_some_iff.mp ht).1
          refine ttT ⟨_, rfl, v, t, rfl, hat, goods_mem hg t mt, ?_, fun H3 s3 => ⟨s3 _ _ e2, small (by simp; omega), same_over (s2.trans s3) hp _, upd_same, ?_⟩⟩
          · have := mem_line mt
            omega
          · rw [take_next ht, List.map_append, List.map_append]
            rfl
        · rintro us H2 ⟨s2, e2, rfl⟩
          rw [ln, List.take_length] at e2
          have lj : (Txt.join (Str.ofString ",") (l.map fun t => txt (lineT t))).cps.toList = linesT l := by
            rw [join_comma, List.map_map, ← joinC_lines]
            exact congrArg joinC (List.map_congr_left fun t _ => code_txt _)
          have lc : (Str.ofString ",").length = 1 := by decide +kernel
          have lo : (Str.ofString "(").length = 1 := by decide +kernel
          have lk : (Str.ofString ")").length = 1 := by decide +kernel
          refine ⟨_, p, _, rfl, rfl, SqL.of e2, ?_, _, _, rfl, rfl, ?_, _, _, rfl, rfl, ?_, ?_⟩
          · have := sum_lines l
            rw [List.length_map, lc]
            omega
          · rw [lo, len_codes, lj]
            exact Nat.le_of_lt (small (by omega))
          · rw [Str.length_append, lo, lk, len_codes, lj]
            exact Nat.le_of_lt (small (by omega))
          · have ez : Str.ofString "(" ++ Txt.join (Str.ofString ",") (l.map fun t => txt (lineT t)) ++ Str.ofString ")" = txt (lineT (.tup l)) := str_ext (by
              rw [app_codes, app_codes, lj, code_txt, el]
              have e1 : (Str.ofString "(").cps.toList = [40] := by decide +kernel
              have e2 : (Str.ofString ")").cps.toList = [41] := by decide +kernel
              rw [e1, e2]
              simp)
            rw [ez]
            exact q H2 s2
      | _ => cases e
    | false =>
      refine iteF ?_
      refine ⟨_, rfl, x, "str", ty, isStrT t, rfl, ht, k3, _, rfl, ?_⟩
      cases t with
      | str z =>
        have hz : x = .str z := by unfold At at hx; exact hx
        subst hz
        have el : lineT (.str z) = 39 :: z.cps.toList := by
          conv => lhs; unfold lineT
        have lq : (Str.ofString "'").length = 1 := by decide +kernel
        refine iteT ⟨_, rfl, _, _, rfl, rfl, ?_, ?_⟩
        · rw [lq, len_codes]
          rw [el, List.length_cons] at hl
          exact Nat.le_of_lt (small (by omega))
        · have ez : Str.ofString "'" ++ z = txt (lineT (.str z)) := str_ext (by
            have e1 : (Str.ofString "'").cps.toList = [39] := by decide +kernel
            rw [app_codes, code_txt, el, e1]
            simp)
          rw [ez]
          exact q H (Same.refl H)
      | int m =>
        have hz : x = .int m := by unfold At at hx; exact hx
        subst hz
        have hm : 0 ≤ m ∧ m ≤ 4294967295 := by
          cases n <;> (unfold goodT at hg; rw [Bool.and_eq_true, decide_eq_true_eq, decide_eq_true_eq] at hg; exact hg)
        refine iteF ⟨_, rfl, m, rfl, ?_, ?_⟩
        · have : m.natAbs < 2 ^ 32 := by omega
          by_cases hz : m.natAbs = 0
          · rw [hz]
            decide
          · exact Nat.lt_trans ((Nat.log2_lt hz).mpr this) (by decide)
        · have ez : Str.ofString (toString m) = txt (lineT (.int m)) := str_ext (by
            obtain ⟨k, rfl⟩ := Int.eq_ofNat_of_zero_le hm.1
            rw [codes_int, code_txt]
            conv => rhs; unfold lineT
            rfl)
          rw [ez]
          exact q H (Same.refl H)
      | tup l => cases e
      | _ => cases n <;> (unfold goodT at hg; cases hg)
end
end K86
set_option maxHeartbeats 4000000
namespace K86
open PySem L2
section
variable {P : Program} {w : World} {K : PySem.W.Frag} {mg : Str → Option Value} {base : Heap} {f : Addr} {fd : FuncData}
theorem scLin : FnScope ["_law_stuff_here"] ["_law_stuff_here"] (defScope sLin) := ⟨rfl, rfl, rfl, by decide +kernel, rfl, by decide +kernel, by decide +kernel⟩
theorem ok_Lin (F : Fun K "_law_line" "_law_line" sLin f fd) (hLin : Has K mg "_law_line" sLin ["_law_stuff_here"] f fd) (T : Txt mg) : ∀ n : Nat, FnOk P w K mg base CX0 n f fd ["_law_stuff_here"] (spLofN n)
  | 0 => ⟨fun _ _ _ _ h => h.elim, fun _ _ _ _ _ _ _ _ _ _ _ _ _ h => h.elim⟩
  | n + 1 => by
    have GLin := ok_Lin F hLin T n
    refine F.ok scLin (fun vs H Q E h => ?_) (fun cdv A outer s H vs Q E hr h => ?_)
    · obtain ⟨x, t, rfl, _⟩ := h
      rfl
    obtain ⟨x, t, rfl, hx, hg, hl, q⟩ := h
    refine ⟨_, (pss_cons (ps_if (pt_val (pe_callB call_isinst rfl T.isi PyProof.Rows.boot_isinstance (pc (pv 0) (pc (pe_bltn (v := .ty "tuple") rfl T.tup PyProof.Rows.boot_tuple rfl) pa_nil))))
    (pss_one (ps_ret (pe_op op_add_str (pe_op op_add_str pe_str (pe_bm PySem.F.plainAttrs_str PySem.F.slot_str_join PySem.F.type_str_join mt_join pe_str (pc (pe_comp [] [] (pi_tup (pv 0)) (fun _ _ _ _ _ _ => pts_nil)
          (fun _ _ _ _ _ _ => (pe_call GLin (hr.mono (Nat.le_refl _)) rfl hLin.nm hLin.fn.kp hLin.bd .nil pass0 (pc (pv 0) pa_nil)))
          rfl (by decide +kernel) (by decide +kernel) rfl (by decide +kernel) (fun _ _ z => nomatch z) rfl (by decide +kernel) rfl) pa_nil))) pe_str)))
    pss_nil)
    (pss_cons (ps_if (pt_val (pe_callB call_isinst rfl T.isi PyProof.Rows.boot_isinstance (pc (pv 0) (pc (pe_bltn (v := .ty "str") rfl T.str PyProof.Rows.boot_str rfl) pa_nil))))
    (pss_one (ps_ret (pe_op op_add_str pe_str (pv 0))))
    pss_nil)
    (pss_one (ps_ret (pe_callTy call_str_int rfl T.str PyProof.Rows.boot_str (pc (pv 0) pa_nil)))))), ?_⟩
    obtain ⟨ty, ht, k2, k3, _⟩ := hx.ty (K := K)
    refine ⟨_, rfl, x, "tuple", ty, isTup t, rfl, ht, k2, _, rfl, ?_⟩
    cases e : isTup t with
    | true =>
      cases t with
      | tup l =>
        obtain ⟨m, rfl⟩ : ∃ m, n = m + 1 := by
          cases n with
          | zero => unfold goodT at hg; cases hg
          | succ m => exact ⟨m, rfl⟩
        unfold goodT at hg
        refine iteT ?_
        obtain ⟨a, ws, rfl, ha, k⟩ := hx.tup
        have ln := k.len
        have el : lineT (.tup l) = 40 :: (linesT l ++ [41]) := by
          conv => lhs; unfold lineT
        have ll : (linesT l).length + 2 ≤ 50000 := by
          rw [el] at hl
          simp only [List.length_cons, List.length_append, List.length_nil] at hl
          omega
        have len := lines_len hg
        refine ⟨rfl, _, rfl, a, rfl, ⟨_, SqT.of ha⟩, fun p hp => ?_⟩
        refine comp_tup (K := K) (a := a) (xs := ws) (fun i us H2 => Same H H2 ∧ H2 p = some (.lst us) ∧ us = ((l.take i).map fun t => txt (lineT t)).map V.str) ⟨same_new hp _, upd_same, rfl⟩ (fun i us H2 _ h2 => SqT.of (h2.1 _ _ ha)) ?_ ?_
        · rintro i v us H2 hv ⟨s2, e2, rfl⟩
          obtain ⟨t, ht, hat⟩ := (k.mono s2).get hv
          have mt := List.mem_of_getElem? ht
          have li : i < l.length := (List.getElem?_eq_some_iff.mp ht).1
          refine ttT ⟨_, rfl, v, t, rfl, hat, goods_mem hg t mt, ?_, fun H3 s3 => ⟨s3 _ _ e2, small (by simp; omega), same_over (s2.trans s3) hp _, upd_same, ?_⟩⟩
          · have := mem_line mt
            omega
          · rw [take_next ht, List.map_append, List.map_append]
            rfl
        · rintro us H2 ⟨s2, e2, rfl⟩
          rw [ln, List.take_length] at e2
          have lj : (Txt.join (Str.ofString ",") (l.map fun t => txt (lineT t))).cps.toList = linesT l := by
            rw [join_comma, List.map_map, ← joinC_lines]
            exact congrArg joinC (List.map_congr_left fun t _ => code_txt _)
          have lc : (Str.ofString ",").length = 1 := by decide +kernel
          have lo : (Str.ofString "(").length = 1 := by decide +kernel
          have lk : (Str.ofString ")").length = 1 := by decide +kernel
          refine ⟨_, p, _, rfl, rfl, SqL.of e2, ?_, _, _, rfl, rfl, ?_, _, _, rfl, rfl, ?_, ?_⟩
          · have := sum_lines l
            rw [List.length_map, lc]
            omega
          · rw [lo, len_codes, lj]
            exact Nat.le_of_lt (small (by omega))
          · rw [Str.length_append, lo, lk, len_codes, lj]
            exact Nat.le_of_lt (small (by omega))
          · have ez : Str.ofString "(" ++ Txt.join (Str.ofString ",") (l.map fun t => txt (lineT t)) ++ Str.ofString ")" = txt (lineT (.tup l)) := str_ext (by
              rw [app_codes, app_codes, lj, code_txt, el]
              have e1 : (Str.ofString "(").cps.toList = [40] := by decide +kernel
              have e2 : (Str.ofString ")").cps.toList = [41] := by decide +kernel
              rw [e1, e2]
              simp)
            rw [ez]
            exact q H2 s2
      | _ => cases e
    | false =>
      refine iteF ?_
      refine ⟨_, rfl, x, "str", ty, isStrT t, rfl, ht, k3, _, rfl, ?_⟩
      cases t with
      | str z =>
        have hz : x = .str z := by unfold At at hx; exact hx
        subst hz
        have el : lineT (.str z) = 39 :: z.cps.toList := by
          conv => lhs; unfold lineT
        have lq : (Str.ofString "'").length = 1 := by decide +kernel
        refine iteT ⟨_, rfl, _, _, rfl, rfl, ?_, ?_⟩
        · rw [lq, len_codes]
          rw [el, List.length_cons] at hl
          exact Nat.le_of_lt (small (by omega))
        · have ez : Str.ofString "'" ++ z = txt (lineT (.str z)) := str_ext (by
            have e1 : (Str.ofString "'").cps.toList = [39] := by decide +kernel
            rw [app_codes, code_txt, el, e1]
            simp)
          rw [ez]
          exact q H (Same.refl H)
      | int m =>
        have hz : x = .int m := by unfold At at hx; exact hx
        subst hz
        have hm : 0 ≤ m ∧ m ≤ 4294967295 := by
          cases n <;> (unfold goodT at hg; rw [Bool.and_eq_true, decide_eq_true_eq, decide_eq_true_eq] at hg; exact hg)
        refine iteF ⟨_, rfl, m, rfl, ?_, ?_⟩
        · have : m.natAbs < 2 ^ 32 := by omega
          by_cases hz : m.natAbs = 0
          · rw [hz]
            decide
          · exact Nat.lt_trans ((Nat.log2_lt hz).mpr this) (by decide)
        · have ez : Str.ofString (toString m) = txt (lineT (.int m)) := str_ext (by
            obtain ⟨k, rfl⟩ := Int.eq_ofNat_of_zero_le hm.1
            rw [codes_int, code_txt]
            conv => rhs; unfold lineT
            rfl)
          rw [ez]
          exact q H (Same.refl H)
      | tup l => cases e
      | _ => cases n <;> (unfold goodT at hg; cases hg)
end
end K86
set_option maxHeartbeats 4000000
namespace K86
open PySem L2 PyProof.Rows
/-! ### slices by codes -/
theorem slc_hi (l : Option Int) {j : Int} {n : Nat} (h : (n : Int) ≤ j) : Builtin.Str.strSliceIndices l (some j) 1 n = Builtin.Str.strSliceIndices l (some (n : Int)) 1 n := by
  have a : ¬ (j < 0) := by omega
  have b : ¬ ((n : Int) < 0) := by omega
  have c : min j (n : Int) = n := by omega
  simp [Builtin.Str.strSliceIndices, a, b, c]
theorem slice_hi (z : Str) (l : Option Int) {j : Int} (h : (z.length : Int) ≤ j) : Txt.slice z l (some j) = Txt.slice z l (some (z.length : Int)) := by
  unfold Txt.slice
  rw [slc_hi l h]
theorem slc {z : Str} {i j : Nat} (hi : i ≤ z.length) (hij : i ≤ j) : (Txt.slice z (some (i : Int)) (some (j : Int))).cps.toList = (z.cps.toList.drop i).take (j - i) := by
  by_cases hj : j ≤ z.length
  · have e : Txt.slice z (some (i : Int)) (some (j : Int)) = _ := StrLaws.sliceText_nat z hij hj
    rw [e]
  · rw [slice_hi z _ (by omega)]
    have e : Txt.slice z (some (i : Int)) (some (z.length : Int)) = _ := StrLaws.sliceText_nat z hi (Nat.le_refl _)
    rw [e]
    have hl : z.cps.toList.length = z.length := codes_len z
    show (z.cps.toList.drop i).take (z.length - i) = _
    rw [List.take_of_length_le (by rw [List.length_drop]; omega), List.take_of_length_le (by rw [List.length_drop]; omega)]
theorem slc_from {z : Str} {i : Nat} (hi : i ≤ z.length) : (Txt.slice z (some (i : Int)) none).cps.toList = z.cps.toList.drop i := by
  have e : Txt.slice z (some (i : Int)) none = Txt.slice z (some (i : Int)) (some (z.length : Int)) := by
    unfold Txt.slice
    rw [StrLaws.sliceIdx_none_hi]
  have hl : z.cps.toList.length = z.length := codes_len z
  rw [e, slc hi hi, List.take_of_length_le (by rw [List.length_drop]; omega)]
theorem slc_to {z : Str} {j : Nat} : (Txt.slice z none (some (j : Int))).cps.toList = z.cps.toList.take j := by
  have e : Txt.slice z none (some (j : Int)) = Txt.slice z (some ((0 : Nat) : Int)) (some (j : Int)) := by
    unfold Txt.slice
    rw [StrLaws.sliceIdx_none_lo]
    rfl
  rw [e, slc (Nat.zero_le _) (Nat.zero_le _)]
  rfl
/-- a text by its codes -/
theorem slc_eq {z : Str} {i j : Nat} (hi : i ≤ z.length) (hij : i ≤ j) : Txt.slice z (some (i : Int)) (some (j : Int)) = txt ((z.cps.toList.drop i).take (j - i)) := str_ext (by rw [slc hi hij, code_txt])
theorem txt_inj {a b : Cs} (h : txt a = txt b) : a = b := by
  have := congrArg (fun z => z.cps.toList) h
  simp only [code_txt] at this
  exact this
theorem one_is {cs : Cs} {c : Nat} {s : Str} (hs : s = txt [c]) : decide (V.str (txt (cs.take 1)) = V.str s) = decide (cs.head? = some c) := by
  subst hs
  refine decide_eq_decide.mpr ⟨fun h => ?_, fun h => ?_⟩
  · injection h with h
    have := txt_inj h
    cases cs with
    | nil => cases this
    | cons d r => injection this with this; rw [this]; rfl
  · cases cs with
    | nil => cases h
    | cons d r => injection h with h; rw [h]; rfl
/-! ### signs among others -/
theorem in_one {s : Str} {c : Nat} {p : Nat → Bool} (h : decide (c ∈ s.cps.toList) = p c) : (!(Builtin.Str.occurrences s ⟨#[c]⟩ 0 s.length 1).isEmpty) = p c := by
  rw [StrLaws.found_one, h]
theorem fig_codes : figS.cps.toList = [48, 49, 50, 51, 52, 53, 54, 55, 56, 57] := by decide +kernel
theorem in_fig (c : Nat) : (!(Builtin.Str.occurrences figS ⟨#[c]⟩ 0 figS.length 1).isEmpty) = figC c := in_one (p := figC) (by
  rw [fig_codes]
  unfold figC
  rw [← Bool.decide_and]
  refine decide_eq_decide.mpr ?_
  simp only [List.mem_cons, List.not_mem_nil, or_false]
  omega)
def allS : Str := Str.ofString "/0123456789abcdefghijklmnopqrstuvwxyz"
theorem all_codes : allS.cps.toList = [47, 48, 49, 50, 51, 52, 53, 54, 55, 56, 57, 97, 98, 99, 100, 101, 102, 103, 104, 105, 106, 107, 108, 109, 110, 111, 112, 113, 114, 115, 116, 117, 118, 119, 120, 121, 122] := by decide +kernel
theorem in_all (c : Nat) : (!(Builtin.Str.occurrences allS ⟨#[c]⟩ 0 allS.length 1).isEmpty) = sgnC c := in_one (p := sgnC) (by
  rw [all_codes]
  unfold sgnC figC
  rw [← Bool.decide_and, ← Bool.decide_and, ← Bool.decide_or, ← Bool.decide_or]
  refine decide_eq_decide.mpr ?_
  simp only [List.mem_cons, List.not_mem_nil, or_false]
  omega)
def parS : Str := Str.ofString "(),"
theorem par_codes : parS.cps.toList = [40, 41, 44] := by decide +kernel
theorem in_par (c : Nat) : (!(Builtin.Str.occurrences parS ⟨#[c]⟩ 0 parS.length 1).isEmpty) = !nd c := in_one (p := fun c => !nd c) (by
  rw [par_codes]
  unfold nd
  rw [Bool.not_not, ← Bool.decide_or, ← Bool.decide_or]
  refine decide_eq_decide.mpr ?_
  simp only [List.mem_cons, List.not_mem_nil, or_false]
  omega)
theorem ch_eq {c d : Nat} {s : Str} (hs : s = txt [d]) : decide (V.str ⟨#[c]⟩ = V.str s) = decide (c = d) := by
  subst hs
  refine decide_eq_decide.mpr ⟨fun h => ?_, fun h => by rw [h]; rfl⟩
  injection h with h
  have h' : txt [c] = txt [d] := h
  injection txt_inj h'
/-! ### a word of the like signs, walked -/
theorem tw_more {p : Nat → Bool} {cs : Cs} {a j : Nat} (h : j ≤ ((cs.drop a).takeWhile p).length) : (∀ c, cs[a + j]? = some c → (p c = true ↔ j < ((cs.drop a).takeWhile p).length)) ∧ (cs[a + j]? = none → ¬ j < ((cs.drop a).takeWhile p).length) := by
  rw [← List.getElem?_drop]
  generalize cs.drop a = l at h
  induction l generalizing j with
  | nil => exact ⟨fun c e => by simp at e, fun _ => by simp⟩
  | cons d r ih =>
    rw [List.takeWhile_cons] at h ⊢
    cases hd : p d with
    | true =>
      rw [hd] at h
      simp only [if_true] at h ⊢
      cases j with
      | zero => exact ⟨fun c e => by (cases e; simp [hd]), fun e => by cases e⟩
      | succ j =>
        simp only [List.length_cons] at h ⊢
        have k := ih (j := j) (by omega)
        refine ⟨fun c e => ?_, fun e => ?_⟩
        · have := k.1 c e
          rw [this]
          omega
        · have := k.2 e
          omega
    | false =>
      rw [hd] at h
      simp only [Bool.false_eq_true, if_false, List.length_nil] at h ⊢
      have : j = 0 := by omega
      subst this
      refine ⟨fun c e => ?_, fun e => by omega⟩
      cases e
      rw [hd]
      simp
theorem tw_take {p : Nat → Bool} (l : Cs) : l.take (l.takeWhile p).length = l.takeWhile p ∧ l.drop (l.takeWhile p).length = l.dropWhile p := by
  induction l with
  | nil => exact ⟨rfl, rfl⟩
  | cons d r ih =>
    rw [List.takeWhile_cons, List.dropWhile_cons]
    cases hd : p d with
    | true => simp only [if_true, List.length_cons, List.take_succ_cons, List.drop_succ_cons, ih.1, ih.2, and_self]
    | false => simp
theorem tw_len {p : Nat → Bool} (l : Cs) : (l.takeWhile p).length + (l.dropWhile p).length = l.length := by
  rw [← List.length_append, List.takeWhile_append_dropWhile]
/-! ### int(a text of figures) -/
theorem val_digits (w : Cs) (h : w.all figC = true) : val w = ((NumText.digitsVal w : Nat) : Int) := by
  unfold val NumText.digitsVal
  have : ∀ (w : Cs) (a : Nat), w.all figC = true → w.foldl (fun (n : Int) (c : Nat) => n * 10 + ((c : Int) - 48)) (a : Int) = ((w.foldl (fun acc c => acc * 10 + (c - 48)) a : Nat) : Int) := by
    intro w
    induction w with
    | nil => intro a _; rfl
    | cons c r ih =>
      intro a h
      rw [List.all_cons, Bool.and_eq_true] at h
      have hc := h.1
      unfold figC at hc
      rw [Bool.and_eq_true, decide_eq_true_eq, decide_eq_true_eq] at hc
      rw [List.foldl_cons, List.foldl_cons, ← ih _ h.2]
      congr 1
      omega
  exact this w 0 h
section
variable {X : Cx}
theorem call_intF : CallR X (.type "int") (fun xs H Q => ∃ z : Str, xs = [.str z] ∧ z.cps.toList.all figC = true ∧ 1 ≤ z.length ∧ z.length ≤ 10 ∧ Q (.int (val z.cps.toList)) H) := by
  intro pins s σ H xs us Q I r h
  obtain ⟨z, rfl, hf, h1, h2, q⟩ := h
  obtain ⟨u, rfl, t, rfl⟩ := vals1 r
  have hd : NumText.AllDigits z.cps.toList := fun c hc => by
    have := List.all_eq_true.mp hf c hc
    unfold figC at this
    rw [Bool.and_eq_true, decide_eq_true_eq, decide_eq_true_eq] at this
    exact this
  have hn : z.cps.toList ≠ [] := fun e => by
    have hl : z.cps.toList.length = z.length := codes_len z
    rw [e] at hl
    simp at hl
    omega
  exact PySem.W.KIN.call_text (intText_digits hd hn (by omega)) (by omega) ⟨.int (val z.cps.toList), H, I.tok _, ⟨_, by rw [val_digits _ hf]⟩, q⟩
/-- a text taken several times -/
theorem op_mulS : OpR X (binaryOp .Mult) (fun x y H Q => ∃ z n, x = .str z ∧ y = .int n ∧ 1 ≤ n ∧ n ≤ 100 ∧ z.length = 1 ∧ ∀ u : Str, u.length = n.toNat → Q (.str u) H) := by
  intro pins s σ H x y v u Q I rx ry h
  obtain ⟨z, n, rfl, rfl, h1, h2, hz, q⟩ := h
  obtain ⟨t, rfl⟩ := rx
  obtain ⟨t', rfl⟩ := ry
  refine PySem.P.mul_str ?_ (fun _ _ => ?_) (fun _ _ => ?_) ?_
  · rw [decide_eq_false (by omega), decide_eq_false (by omega)]
    rfl
  · rw [hz]
    have : (1 : Int) ≤ (2 ^ 63 - 1) / n := Int.le_ediv_of_mul_le (by omega) (by omega)
    omega
  · rw [hz]
    unfold Builtin.Str.tooLong
    refine decide_eq_false ?_
    have : n.toNat ≤ 100 := by omega
    have : 100 < sizeLine := by decide
    omega
  · rw [if_neg (by omega)]
    by_cases hn : n = 1
    · subst hn
      rw [if_pos (by simp)]
      exact ⟨.str z, H, I, ⟨_, rfl⟩, q z (by rw [hz]; rfl)⟩
    · have e : (n == 1 || z.length == 0) = false := by
        rw [hz]
        simp [hn]
      rw [if_neg (by rw [e]; decide)]
      have el : ∀ (k : Nat) (a : Array Nat), ((List.replicate k z.cps).foldl (· ++ ·) a).size = a.size + k := by
        intro k
        induction k with
        | zero => intro a; rfl
        | succ k ih =>
          intro a
          rw [List.replicate_succ, List.foldl_cons, ih, Array.size_append]
          have : z.cps.size = 1 := hz
          omega
      have el' := el n.toNat #[]
      refine ⟨?_, ⟨.str _, H, I.tok _, ⟨_, rfl⟩, q _ ?_⟩⟩
      · show ((List.replicate n.toNat z.cps).foldl (· ++ ·) #[]).size ≤ _
        rw [el']
        have : 100 < sizeLine := by decide
        simp
        omega
      · show ((List.replicate n.toNat z.cps).foldl (· ++ ·) #[]).size = _
        rw [el']
        simp
/-- [e] within a try, where e may raise -/
theorem px_lst1 {e : Expr} {t : TX} {pos : Pos} (he : PX X e t) (hs : noStar e = true := by rfl) : PX X (.List [e] pos) (fun σ H Q E => t σ H (fun x H1 => ∀ p, H1 p = none → Q (.ref p) (upd H1 p (.lst [x]))) E) := by
  intro pins s σ H Q E I h
  refine wpAny_List_spliced ?_
  rw [star_cons hs]
  show wpAny _ _ (spliced ((false, eval e X.env) :: backTo pos (starEach [] X.env))) _ _ s
  refine Calls.spliced_cons (wpAny_mono (he pins s σ H _ E I h) (fun u s1 ⟨x, H1, I1, r1, q1⟩ => ?_) fun _ _ z => z)
  refine Calls.spliced_nil ⟨by show 1 ≤ sizeLine; decide, ?_⟩
  have hf : H1 s1.heap.objs.size = none := I1.hok.fresh (Nat.le_refl _)
  exact ⟨.ref s1.heap.objs.size, upd H1 s1.heap.objs.size (.lst [x]), I1.laid (t' := s1.toks) (fun b u e => Heap.get?_push_of_some _ e) (Nat.le_refl _) ⟨by show 1 ≤ sizeLine; decide, _, 0, .cons r1 .nil, Heap.get?_push_size _ rfl⟩, rfl, q1 _ hf⟩
end
end K86
set_option maxHeartbeats 4000000
namespace K86
open PySem L2
abbrev sIni : Stmt := inClass (top 3) 0
section
variable {P : Program} {w : World} {K : PySem.W.Frag} {mg : Str → Option Value} {base : Heap} {f C fI : Addr} {fd dI : FuncData} {bm : List Value}
/-! ### NoLine.__init__ -/
def spIni (C : Addr) : Sp := fun vs H Q _ => ∃ e x, vs = [.ref e, x] ∧ H e = some (FxO e C none) ∧ ∀ dx, H dx = none → Q .non (upd (upd H dx (XdO dx [("line", x)])) e (FxO e C (some dx)))
theorem scIni : FnScope ["self", "line"] ["self", "line"] (defScope sIni) := ⟨rfl, rfl, rfl, by decide +kernel, rfl, by decide +kernel, by decide +kernel⟩
theorem ok_Ini (F : Fun K "__init__" "NoLine.__init__" sIni f fd) (cl : XCls K C) (tk : PySem.W.takerIn K C "line" = some none) : FnOk P w K mg base CX0 1 f fd ["self", "line"] (spIni C) := by
  refine F.ok scIni (fun vs H Q E h => ?_) (fun cdv A outer s H vs Q E hr h => ?_)
  · obtain ⟨e, x, rfl, _⟩ := h
    rfl
  obtain ⟨e, x, rfl, he, q⟩ := h
  refine ⟨_, (pss_one (ps_xf1 (pv 0) (pv 1) rfl)), ?_⟩
  exact ⟨_, rfl, _, rfl, e, C, rfl, he, cl, tk, fun dx hd => q dx hd⟩
/-- how a refusal lies there -/
def Ref (C : Addr) (x : V) (H : Hp) (E : XK) : Prop := ∀ ea dx H', Same H H' → H' ea = some (ExcO ea C (some dx)) → H' dx = some (XdO dx [("line", x)]) → E (.ref ea) (some dx) H'
theorem Ref.mono {C : Addr} {x : V} {H H1 : Hp} {E : XK} (h : Ref C x H E) (s : Same H H1) : Ref C x H1 E := fun ea dx H' s' e1 e2 => h ea dx H' (s.trans s') e1 e2
theorem ref_up {C : Addr} {x : V} {H : Hp} {E : XK} (h : Ref C x H E) : ∀ e, H e = none → spIni C (.ref e :: ([x] ++ [])) (upd H e (FxO e C none)) (fun v H2 => v = .non ∧ ∃ ea dd, V.ref e = .ref ea ∧ H2 ea = some (FxO ea C dd) ∧ E (.ref ea) dd (upd H2 ea (ExcO ea C dd))) E0 := by
  intro e he
  refine ⟨e, x, rfl, upd_same, fun dx hdx => ⟨rfl, e, some dx, rfl, upd_same, ?_⟩⟩
  obtain ⟨n1, n2⟩ := new_free hdx
  refine h e dx _ (raised_same he n2) upd_same ?_
  rw [upd_ne n1, upd_ne n1, upd_same]
/-! ### number_of -/
def numV (w : Cs) : V := match numOf w with
  | some n => .int n
  | none => .non
def spNof : Sp := fun vs H Q _ => ∃ z : Str, vs = [.str z, .int 4294967295] ∧ z.length ≤ 50100 ∧ ∀ H', Same H H' → Q (numV z.cps.toList) H'
theorem num_no {w : Cs} (h : ¬ (1 ≤ w.length ∧ w.length ≤ 10 ∧ w.all figC = true ∧ (w.head? = some 48 → w = [48]) ∧ val w ≤ 4294967295)) : numV w = .non := by
  unfold numV numOf
  rw [if_neg h]
theorem num_yes {w : Cs} (h : 1 ≤ w.length ∧ w.length ≤ 10 ∧ w.all figC = true ∧ (w.head? = some 48 → w = [48]) ∧ val w ≤ 4294967295) : numV w = .int (val w) := by
  unfold numV numOf
  rw [if_pos h]
theorem zero_txt : Str.ofString "0" = txt [48] := by decide +kernel
theorem str_is {z : Str} {w : Cs} {s : Str} (hs : s = txt w) : decide (V.str z = V.str s) = decide (z.cps.toList = w) := by
  subst hs
  refine decide_eq_decide.mpr ⟨fun h => ?_, fun h => ?_⟩
  · injection h with h
    rw [h, code_txt]
  · rw [← txt_codes z, h]
theorem scNof : FnScope ["text", "most"] ["text", "most"] (defScope sNof) := ⟨rfl, rfl, rfl, by decide +kernel, rfl, by decide +kernel, by decide +kernel⟩
theorem ok_Nof (F : Fun K "number_of" "number_of" sNof f fd) (T : Txt mg) : FnOk P w K mg base CX0 1 f fd ["text", "most"] spNof := by
  refine F.ok scNof (fun vs H Q E h => ?_) (fun cdv A outer s H vs Q E hr h => ?_)
  · obtain ⟨z, rfl, _⟩ := h
    rfl
  obtain ⟨z, rfl, hz, q⟩ := h
  obtain ⟨t1, fig⟩ := T.fig
  obtain ⟨t2, mfi⟩ := T.mfi
  have hl : z.cps.toList.length = z.length := codes_len z
  refine ⟨_, (pss_cons (ps_if (PW.pt (pw_or (pt_not (pt_chain op_le op_le pe_int (pe_callB call_len_str rfl T.len PySem.boot_len (pc (pv 0) pa_nil)) (pe_glob (v := .int 10) rfl mfi ⟨_, rfl⟩))) (pw_or1 (pt_not (pt_val (pe_callB (call_all hr.hd) rfl T.all PyProof.Rows.boot_all (pc (pe_comp [] [] (pi_str (pv 0)) (fun _ _ _ _ _ _ => pts_nil)
          (fun _ _ _ _ _ _ => (pe_cmpR op_in_str (pv 0) (pe_glob (v := .str figS) rfl fig ⟨_, rfl⟩) rfl))
          rfl (by decide +kernel) (by decide +kernel) rfl (by decide +kernel) (fun _ _ z => nomatch z) rfl (by decide +kernel) rfl) pa_nil)))))))
    (pss_one (ps_ret pe_non))
    pss_nil)
    (pss_cons (ps_if (PW.pt (pw_and (pt_cmpR op_eq (pe_ix ix_str (pv 0) pe_int (fun _ _ => rfl)) pe_str (nomark _)) (pw_and1 (pt_cmpR op_ne (pv 0) pe_str (nomark _)))))
    (pss_one (ps_ret pe_non))
    pss_nil)
    (pss_one (ps_ret (pe_ifExp (pt_cmpR op_le (pe_callTy call_intF rfl T.int PyProof.Rows.boot_int (pc (pv 0) pa_nil)) (pv 1) (nomark _)) (pe_callTy call_intF rfl T.int PyProof.Rows.boot_int (pc (pv 0) pa_nil)) pe_non))))), ?_⟩
  refine ⟨_, rfl, z, rfl, Nat.le_of_lt (small (by omega)), _, _, rfl, rfl, _, rfl, ?_⟩
  refine ite2 (fun c => ?_) (fun c => ?_)
  · have c1 : (1 : Int) ≤ (z.length : Int) := of_decide_eq_true c
    refine ⟨_, _, rfl, rfl, _, rfl, ?_⟩
    refine ite2 (fun d => ?_) (fun d => ?_)
    · have d1 : ¬ (z.length : Int) ≤ 10 := fun e => by rw [decide_eq_true e] at d; cases d
      have e := num_no (w := z.cps.toList) (fun h => absurd h.2.1 (by omega))
      rw [← e]
      exact q H (Same.refl H)
    · have d1 : (z.length : Int) ≤ 10 := by
        by_cases e : (z.length : Int) ≤ 10
        · exact e
        · rw [decide_eq_false e] at d; exact absurd rfl d
      refine ⟨_, rfl, z, rfl, fun p hp => comp_by z.length (fun i ys H2 => ys = (z.cps.toList.take i).map (fun c => V.bl (figC c)) ∧ H2 = upd H p (.lst ys)) ⟨rfl, rfl⟩ ?_ ?_⟩
      · rintro i ys H2 hi ⟨rfl, rfl⟩
        refine ⟨hi, ?_⟩
        rintro v H3 ⟨rfl, c', hc', rfl⟩
        refine ttT ?_
        refine ⟨_, rfl, _, _, rfl, rfl, upd_same, ?_, ?_, upd_upd⟩
        · rw [List.length_map, List.length_take, codes_len]
          exact small (by omega)
        · rw [in_fig]
          exact (take_snoc (fun c => V.bl (figC c)) (codes_at hc')).symm
      · rintro ys H2 ⟨rfl, rfl⟩
        have e : (z.cps.toList.take z.length) = z.cps.toList := List.take_of_length_le (by rw [codes_len]; exact Nat.le_refl _)
        refine ⟨Nat.le_refl _, p, z.cps.toList.map figC, rfl, SqL.of ?_, ?_⟩
        · rw [upd_same, e, List.map_map]
          rfl
        rw [List.all_map]
        have s2 := same_new hp (HO.lst ((z.cps.toList.take z.length).map fun c => V.bl (figC c)))
        have q2 := q _ s2
        refine ⟨_, rfl, ?_⟩
        cases ha : z.cps.toList.all figC with
        | false =>
          have ha' : z.cps.toList.all (id ∘ figC) = false := ha
          rw [ha']
          have e := num_no (w := z.cps.toList) (fun h => absurd h.2.2.1 (by rw [ha]; decide))
          rw [e] at q2
          exact iteT q2
        | true =>
          have ha' : z.cps.toList.all (id ∘ figC) = true := ha
          rw [ha']
          obtain ⟨c0, r0, e0⟩ : ∃ c r, z.cps.toList = c :: r := by
            cases hd : z.cps.toList with
            | nil => rw [hd] at hl; simp at hl; omega
            | cons c r => exact ⟨c, r, rfl⟩
          refine iteF ⟨_, rfl, _, _, c0, rfl, rfl, Nat.le_of_lt (small (by omega)), atI_nat (j := 0) (by rw [e0]; rfl), rfl, _, rfl, ?_⟩
          rw [ch_eq zero_txt]
          have fin : (z.cps.toList.head? = some 48 → z.cps.toList = [48]) → tIf (tTest (tOp (rI0 fun i j => V.bl (decide (i ≤ j))) (tCB (fun xs H Q => ∃ z : Str, xs = [V.str z] ∧ z.cps.toList.all figC = true ∧ 1 ≤ z.length ∧ z.length ≤ 10 ∧ Q (V.int (val z.cps.toList)) H) (tCons (tVar 0) tNil)) (tVar 1)))
              (tCB (fun xs H Q => ∃ z : Str, xs = [V.str z] ∧ z.cps.toList.all figC = true ∧ 1 ≤ z.length ∧ z.length ≤ 10 ∧ Q (V.int (val z.cps.toList)) H) (tCons (tVar 0) tNil)) (tC V.non) [some (.str z), some (.int 4294967295)] (upd H p (HO.lst (List.map (fun c => V.bl (figC c)) (List.take z.length z.cps.toList)))) Q := by
            intro h48
            refine ⟨_, rfl, z, rfl, ha, by omega, by omega, _, rfl, _, _, rfl, rfl, _, rfl, ite2 (fun k => ?_) (fun k => ?_)⟩
            · have k' : val z.cps.toList ≤ 4294967295 := of_decide_eq_true k
              rw [num_yes ⟨by omega, by omega, ha, h48, k'⟩] at q2
              exact ⟨_, rfl, z, rfl, ha, by omega, by omega, q2⟩
            · have k' : ¬ val z.cps.toList ≤ 4294967295 := fun e => k (decide_eq_true e)
              rw [num_no fun h => k' h.2.2.2.2] at q2
              exact q2
          refine ite2 (fun k => ?_) (fun k => ?_)
          · have k' : c0 = 48 := of_decide_eq_true k
            refine ⟨_, rfl, rfl, _, rfl, ?_⟩
            rw [str_is zero_txt]
            by_cases hw : z.cps.toList = [48]
            · rw [decide_eq_true hw]
              exact iteF (fin fun _ => hw)
            · rw [decide_eq_false hw]
              rw [num_no fun h => hw (h.2.2.2.1 (by rw [e0, k']; rfl))] at q2
              exact iteT q2
          · have k' : c0 ≠ 48 := fun e => k (decide_eq_true e)
            refine iteF (fin fun h => ?_)
            rw [e0] at h
            injection h with h
            exact absurd h k'
  · have c1 : ¬ (1 : Int) ≤ (z.length : Int) := fun e => c (decide_eq_true e)
    have e := num_no (w := z.cps.toList) (fun h => absurd h.1 (by omega))
    rw [← e]
    exact ⟨_, rfl, iteT (q H (Same.refl H))⟩
end
end K86
set_option maxHeartbeats 4000000
namespace K86
open PySem L2
/-! ### what is left is an end of the line -/
theorem loop_suf {p : Cs → Option (Tr × Cs)} (hp : ∀ cs t r, p cs = some (t, r) → r <:+ cs) : ∀ (n : Nat) (acc : List Tr) (cs : Cs) (t : Tr) (r : Cs), loopK p n acc cs = some (t, r) → r <:+ cs
  | 0, _, _, _, _, h => by (unfold loopK at h; cases h)
  | n + 1, acc, cs, t, r, h => by
    unfold loopK at h
    cases hc : p cs with
    | none => rw [hc] at h; cases h
    | some x =>
      obtain ⟨u, q⟩ := x
      rw [hc] at h
      have s1 := hp _ _ _ hc
      cases q with
      | nil => cases h
      | cons c q =>
        dsimp only at h
        have s2 : q <:+ cs := (List.suffix_cons c q).trans s1
        by_cases h44 : c = 44
        · rw [if_pos h44] at h
          exact (loop_suf hp n _ q t r h).trans s2
        · rw [if_neg h44] at h
          by_cases h41 : c = 41
          · rw [if_pos h41] at h
            cases h
            exact s2
          · rw [if_neg h41] at h
            cases h
theorem one_suf {q : Cs → Option (Tr × Cs)} (hq : ∀ cs t r, q cs = some (t, r) → r <:+ cs) : ∀ cs t r, oneK q cs = some (t, r) → r <:+ cs := by
  intro cs t r h
  cases cs with
  | nil => unfold oneK at h; cases h
  | cons c l =>
    unfold oneK at h
    dsimp only at h
    by_cases h39 : c = 39
    · rw [if_pos h39] at h
      cases h
      exact (List.dropWhile_suffix _).trans (List.suffix_cons c l)
    · rw [if_neg h39] at h
      by_cases h40 : c = 40
      · rw [if_pos h40] at h
        exact (hq _ _ _ h).trans (List.suffix_cons c l)
      · rw [if_neg h40] at h
        unfold numP at h
        cases hn : numOf ((c :: l).takeWhile figC) with
        | none => rw [hn] at h; cases h
        | some n =>
          rw [hn] at h
          cases h
          exact List.dropWhile_suffix _
theorem tup_suf {p : Cs → Option (Tr × Cs)} (hp : ∀ cs t r, p cs = some (t, r) → r <:+ cs) : ∀ cs t r, tupK p cs = some (t, r) → r <:+ cs := by
  intro cs t r h
  unfold tupK at h
  by_cases h41 : cs.head? = some 41
  · rw [if_pos h41] at h
    cases h
    exact List.tail_suffix cs
  · rw [if_neg h41] at h
    exact loop_suf hp _ _ _ _ _ h
theorem part_suf : ∀ (k : Nat) (cs : Cs) (t : Tr) (r : Cs), partK k cs = some (t, r) → r <:+ cs
  | 0, cs, t, r, h => one_suf (fun _ _ _ z => by cases z) cs t r h
  | k + 1, cs, t, r, h => one_suf (tup_suf (part_suf k)) cs t r h
theorem suf_at {cs r : Cs} {a : Nat} (h : r <:+ cs.drop a) : cs.drop (cs.length - r.length) = r ∧ r.length ≤ cs.length := by
  have h' : r <:+ cs := h.trans (List.drop_suffix a cs)
  exact ⟨(List.suffix_iff_eq_drop.mp h').symm, h'.length_le⟩
section
variable {P : Program} {w : World} {K : PySem.W.Frag} {mg : Str → Option Value} {base : Heap} {f C fI fN : Addr} {fd dI dN : FuncData} {bm : List Value}
/-- what a reader of a part gives -/
def Res (C : Addr) (z : Str) (o : Option (Tr × Cs)) (H : Hp) (Q : VK) (E : XK) : Prop := match o with
  | some (t, r) => ∀ p x H', Same H H' → H' p = some (.tup [x, .int ((z.length - r.length : Nat) : Int)]) → At H' t x → Q (.ref p) H'
  | none => Ref C (.str z) H E
theorem Res.mono {C : Addr} {z : Str} {o : Option (Tr × Cs)} {H H1 : Hp} {Q : VK} {E : XK} (h : Res C z o H Q E) (s : Same H H1) : Res C z o H1 Q E := by
  cases o with
  | none => exact Ref.mono h s
  | some tr => exact fun p x H' s' e1 e2 => h p x H' (s.trans s') e1 e2
def spNat (C : Addr) : Sp := fun vs H Q E => ∃ (z : Str) (a : Nat), vs = [.str z, .int (a : Int)] ∧ z.length ≤ 50100 ∧ a ≤ z.length ∧ Res C z (numP (z.cps.toList.drop a)) H Q E
theorem scNat : FnScope ["line", "at", "end", "number"] ["line", "at"] (defScope sNat) := ⟨rfl, rfl, rfl, by decide +kernel, rfl, by decide +kernel, by decide +kernel⟩
theorem ok_Nat (F : Fun K "number_at" "number_at" sNat f fd) (hNof : Has K mg "number_of" sNof ["text", "most"] fN dN) (GNof : FnOk P w K mg base CX0 1 fN dN ["text", "most"] spNof)
    (hNL : XHas K mg "NoLine" sIni C bm fI dI ["self", "line"]) (GNL : FnOk P w K mg base CX0 1 fI dI ["self", "line"] (spIni C)) (T : Txt mg) : FnOk P w K mg base (CXw P w) 4 f fd ["line", "at"] (spNat C) := by
  refine F.okX scNat (fun vs H Q E h => ?_) (fun cdv A outer s H vs Q E hr h => ?_)
  · obtain ⟨z, a, rfl, _⟩ := h
    rfl
  obtain ⟨z, a, rfl, hz, ha, q⟩ := h
  obtain ⟨t1, fig⟩ := T.fig
  obtain ⟨t2, grt⟩ := T.grt
  have hl : z.cps.toList.length = z.length := codes_len z
  have hlv : Leaves (cxOf (CXw P w) P w K mg base ["line", "at", "end", "number"] "number_at" (defScope sNat) f cdv A outer s H E) E := leaves_fn
  refine ⟨_, (pss_cons (ps_set (i := 2) scNat.nd rfl (Or.inl rfl) (pv 1))
    (pss_cons (ps_whileE hlv (PW.pt (pw_and (pt_cmpR op_lt (pv 2) (pe_callB call_len_str rfl T.len PySem.boot_len (pc (pv 0) pa_nil)) (nomark _)) (pw_and1 (pt_cmpR op_in_str (pe_ix ix_str (pv 0) (pv 2) (fun _ _ => rfl)) (pe_glob (v := .str figS) rfl fig ⟨_, rfl⟩) rfl))))
    (pss_one (ps_set (i := 2) scNat.nd rfl (Or.inl rfl) (pe_op op_add (pv 2) pe_int))))
    (pss_cons (ps_set (i := 3) scNat.nd rfl (Or.inl rfl) (pe_call GNof (hr.mono (by decide)) rfl hNof.nm hNof.fn.kp hNof.bd .nil pass0 (pc (pe_slice sl_str (pv 0) (po_some (pv 1)) (po_some (pv 2))) (pc (pe_glob (v := .int 4294967295) rfl grt ⟨_, rfl⟩) pa_nil))))
    (pss_cons (ps_if (pt_cmpR op_isN (pv 3) pe_non (nomark _))
    (pss_one (ps_raise hNL.xm.ob hNL.be hr.hd hlv (pe_exc hNL.xm GNL (hr.mono (by decide)) rfl hNL.nm hNL.bd .nil pass0 (pc (pv 0) pa_nil))))
    pss_nil)
    (pss_one (ps_ret (pe_tup (pc (pv 3) (pc (pv 2) pa_nil))))))))), ?_⟩
  obtain ⟨L, eL⟩ : ∃ L, L = ((z.cps.toList.drop a).takeWhile figC).length := ⟨_, rfl⟩
  have tl := tw_len (p := figC) (z.cps.toList.drop a)
  rw [List.length_drop, hl, ← eL] at tl
  refine ⟨_, rfl, fun m σ H2 => ∃ j, j ≤ L ∧ m = L - j ∧ σ = [some (.str z), some (.int (a : Int)), some (.int ((a + j : Nat) : Int)), none] ∧ H2 = H, ⟨L, 0, Nat.zero_le _, rfl, rfl, rfl⟩, ?_⟩
  rintro m σ H2 ⟨j, hj, rfl, rfl, rfl⟩
  have more := tw_more (p := figC) (cs := z.cps.toList) (a := a) (j := j) (by omega)
  rw [← eL] at more
  refine' (fun (fin : ¬ j < L → _) => ?go) ?done
  case go =>
    refine ⟨_, rfl, _, rfl, z, rfl, Nat.le_of_lt (small (by omega)), _, _, rfl, rfl, _, rfl, ite2 (fun c1 => ?_) (fun c1 => ?_)⟩
    · have c1' : ((a + j : Nat) : Int) < (z.length : Int) := of_decide_eq_true c1
      have hk : a + j < z.cps.toList.length := by omega
      obtain ⟨c, ec⟩ : ∃ c, z.cps.toList[a + j]? = some c := ⟨_, List.getElem?_eq_getElem hk⟩
      refine ⟨_, rfl, _, rfl, _, _, c, rfl, rfl, Nat.le_of_lt (small (by omega)), atI_nat ec, _, _, rfl, rfl, _, rfl, ?_⟩
      rw [in_fig]
      have mc := more.1 c ec
      refine ite2 (fun c2 => ?_) (fun c2 => ?_)
      · have lt := mc.mp c2
        exact ⟨_, fun σ' H' h => ⟨L - (j + 1), by omega, h⟩, _, rfl, _, _, rfl, rfl, j + 1, by omega, rfl, rfl, rfl⟩
      · exact fin fun z => c2 (mc.mpr z)
    · have c1' : ¬ ((a + j : Nat) : Int) < (z.length : Int) := fun e => c1 (decide_eq_true e)
      exact iteF (fin (more.2 (List.getElem?_eq_none (by omega))))
  case done =>
    intro nj
    have ej : j = L := by omega
    subst ej
    refine ⟨_, rfl, _, rfl, _, rfl, _, rfl, _, rfl, z, rfl, Nat.le_of_lt (small (by omega)), _, rfl, Nat.le_trans (Txt.slice_le _ _ _) hz, fun H3 s3 => ?_⟩
    have es : (Txt.slice z (some (a : Int)) (some ((a + j : Nat) : Int))).cps.toList = (z.cps.toList.drop a).takeWhile figC := by
      rw [slc ha (by omega), show a + j - a = j by omega, eL]
      exact (tw_take _).1
    rw [es]
    have q3 := q.mono s3
    unfold numP at q3
    unfold numV
    cases hn : numOf ((z.cps.toList.drop a).takeWhile figC) with
    | none =>
      rw [hn] at q3
      exact ⟨_, rfl, rfl, _, rfl, iteT ⟨_, rfl, fun e he => ref_up q3 e he⟩⟩
    | some n =>
      rw [hn] at q3
      refine ⟨_, rfl, rfl, _, rfl, iteF ⟨_, rfl, _, rfl, (by show 2 ≤ sizeLine; decide), fun p hp => ?_⟩⟩
      refine q3 p (.int n) _ (same_new hp _) ?_ (At.int n)
      rw [upd_same]
      show some (HO.tup [V.int n, V.int ((a + j : Nat) : Int)]) = some (HO.tup [V.int n, V.int ((z.length - ((z.cps.toList.drop a).dropWhile figC).length : Nat) : Int)])
      rw [show z.length - ((z.cps.toList.drop a).dropWhile figC).length = a + j by omega]
/-! ### text_at -/
theorem sgn_or (c : Nat) : sgnC c = (okc c || decide (c = 47)) := by
  unfold sgnC figC okc
  congr 1
  rw [Bool.or_comm]
theorem slash_txt : Str.ofString "/" = txt [47] := by decide +kernel
def spTat : Sp := fun vs H Q _ => ∃ (z : Str) (a : Nat), vs = [.str z, .int (a : Int)] ∧ z.length ≤ 50100 ∧ a ≤ z.length ∧ ∀ p H', Same H H' → H' p = some (.tup [.str (txt ((z.cps.toList.drop a).takeWhile sgnC)), .int ((z.length - ((z.cps.toList.drop a).dropWhile sgnC).length : Nat) : Int)]) → Q (.ref p) H'
theorem scTat : FnScope ["line", "at", "end"] ["line", "at"] (defScope sTat) := ⟨rfl, rfl, rfl, by decide +kernel, rfl, by decide +kernel, by decide +kernel⟩
theorem ok_Tat (F : Fun K "text_at" "text_at" sTat f fd) (T : Txt mg) : FnOk P w K mg base CX0 1 f fd ["line", "at"] spTat := by
  refine F.ok scTat (fun vs H Q E h => ?_) (fun cdv A outer s H vs Q E hr h => ?_)
  · obtain ⟨z, a, rfl, _⟩ := h
    rfl
  obtain ⟨z, a, rfl, hz, ha, q⟩ := h
  obtain ⟨t1, sgn⟩ := T.sgn
  have hl : z.cps.toList.length = z.length := codes_len z
  refine ⟨_, (pss_cons (ps_set (i := 2) scTat.nd rfl (Or.inl rfl) (pv 1))
    (pss_cons (ps_while PassesOwn.never (PW.pt (pw_and (pt_cmpR op_lt (pv 2) (pe_callB call_len_str rfl T.len PySem.boot_len (pc (pv 0) pa_nil)) (nomark _)) (pw_and1 (PW.pt (pw_or (pt_cmpR op_in_str (pe_ix ix_str (pv 0) (pv 2) (fun _ _ => rfl)) (pe_glob (v := .str sigS) rfl sgn ⟨_, rfl⟩) rfl) (pw_or1 (pt_cmpR op_eq (pe_ix ix_str (pv 0) (pv 2) (fun _ _ => rfl)) pe_str (nomark _))))))))
    (pss_one (ps_set (i := 2) scTat.nd rfl (Or.inl rfl) (pe_op op_add (pv 2) pe_int))))
    (pss_one (ps_ret (pe_tup (pc (pe_slice sl_str (pv 0) (po_some (pv 1)) (po_some (pv 2))) (pc (pv 2) pa_nil))))))), ?_⟩
  obtain ⟨L, eL⟩ : ∃ L, L = ((z.cps.toList.drop a).takeWhile sgnC).length := ⟨_, rfl⟩
  have tl := tw_len (p := sgnC) (z.cps.toList.drop a)
  rw [List.length_drop, hl, ← eL] at tl
  refine ⟨_, rfl, fun m σ H2 => ∃ j, j ≤ L ∧ m = L - j ∧ σ = [some (.str z), some (.int (a : Int)), some (.int ((a + j : Nat) : Int))] ∧ H2 = H, ⟨L, 0, Nat.zero_le _, rfl, rfl, rfl⟩, ?_⟩
  rintro m σ H2 ⟨j, hj, rfl, rfl, rfl⟩
  have more := tw_more (p := sgnC) (cs := z.cps.toList) (a := a) (j := j) (by omega)
  rw [← eL] at more
  refine' (fun (fin : ¬ j < L → _) => ?go) ?done
  case go =>
    refine ⟨_, rfl, _, rfl, z, rfl, Nat.le_of_lt (small (by omega)), _, _, rfl, rfl, _, rfl, ite2 (fun c1 => ?_) (fun c1 => ?_)⟩
    · have c1' : ((a + j : Nat) : Int) < (z.length : Int) := of_decide_eq_true c1
      have hk : a + j < z.cps.toList.length := by omega
      obtain ⟨c, ec⟩ : ∃ c, z.cps.toList[a + j]? = some c := ⟨_, List.getElem?_eq_getElem hk⟩
      have mc := more.1 c ec
      rw [sgn_or] at mc
      refine ⟨_, rfl, _, rfl, _, _, c, rfl, rfl, Nat.le_of_lt (small (by omega)), atI_nat ec, _, _, rfl, rfl, _, rfl, ?_⟩
      rw [in_sig]
      refine ite2 (fun c2 => ?_) (fun c2 => ?_)
      · have lt := mc.mp (by rw [c2]; rfl)
        exact ⟨_, fun σ' H' h => ⟨L - (j + 1), by omega, h⟩, _, rfl, _, _, rfl, rfl, j + 1, by omega, rfl, rfl, rfl⟩
      · rw [Bool.not_eq_true] at c2
        rw [c2, Bool.false_or] at mc
        refine ⟨_, rfl, _, rfl, _, _, c, rfl, rfl, Nat.le_of_lt (small (by omega)), atI_nat ec, rfl, _, rfl, ?_⟩
        rw [ch_eq slash_txt]
        refine ite2 (fun c3 => ?_) (fun c3 => ?_)
        · have lt := mc.mp c3
          exact ⟨_, fun σ' H' h => ⟨L - (j + 1), by omega, h⟩, _, rfl, _, _, rfl, rfl, j + 1, by omega, rfl, rfl, rfl⟩
        · exact fin fun z => c3 (mc.mpr z)
    · have c1' : ¬ ((a + j : Nat) : Int) < (z.length : Int) := fun e => c1 (decide_eq_true e)
      exact iteF (fin (more.2 (List.getElem?_eq_none (by omega))))
  case done =>
    intro nj
    have ej : j = L := by omega
    subst ej
    refine ⟨_, rfl, _, rfl, _, rfl, _, rfl, _, rfl, z, rfl, Nat.le_of_lt (small (by omega)), _, rfl, (by show 2 ≤ sizeLine; decide), fun p hp => ?_⟩
    refine q p _ (same_new hp _) ?_
    rw [upd_same]
    have es : Txt.slice z (some (a : Int)) (some ((a + j : Nat) : Int)) = txt ((z.cps.toList.drop a).takeWhile sgnC) := by
      rw [slc_eq ha (by omega), show a + j - a = j by omega, eL]
      exact congrArg txt (tw_take _).1
    rw [es]
    show some (HO.tup [V.str _, V.int ((a + j : Nat) : Int)]) = _
    rw [show z.length - ((z.cps.toList.drop a).dropWhile sgnC).length = a + j by omega]
end
end K86
set_option maxHeartbeats 4000000
namespace K86
open PySem L2
/-! ### what is read is of tuples only -/
def NlP (p : Cs → Option (Tr × Cs)) : Prop := ∀ cs t r, p cs = some (t, r) → nl t = true
theorem nls_app {a b : List Tr} (h1 : nls a = true) (h2 : nls b = true) : nls (a ++ b) = true := nls_of fun t ht => by
  rcases List.mem_append.mp ht with m | m
  · exact nls_mem h1 m
  · exact nls_mem h2 m
theorem loop_nl {p : Cs → Option (Tr × Cs)} (hp : NlP p) : ∀ (n : Nat) (acc : List Tr) (cs : Cs) (t : Tr) (r : Cs), nls acc = true → loopK p n acc cs = some (t, r) → nl t = true
  | 0, _, _, _, _, _, h => by (unfold loopK at h; cases h)
  | n + 1, acc, cs, t, r, ha, h => by
    unfold loopK at h
    cases hc : p cs with
    | none => rw [hc] at h; cases h
    | some x =>
      obtain ⟨u, q⟩ := x
      rw [hc] at h
      have s1 := hp _ _ _ hc
      have s2 : nls (acc ++ [u]) = true := nls_app ha (by unfold nls; rw [s1]; rfl)
      cases q with
      | nil => cases h
      | cons c q =>
        dsimp only at h
        by_cases h44 : c = 44
        · rw [if_pos h44] at h
          exact loop_nl hp n _ q t r s2 h
        · rw [if_neg h44] at h
          by_cases h41 : c = 41
          · rw [if_pos h41] at h
            cases h
            unfold nl
            exact s2
          · rw [if_neg h41] at h
            cases h
theorem one_nl {q : Cs → Option (Tr × Cs)} (hq : NlP q) : NlP (oneK q) := by
  intro cs t r h
  cases cs with
  | nil => unfold oneK at h; cases h
  | cons c l =>
    unfold oneK at h
    dsimp only at h
    by_cases h39 : c = 39
    · rw [if_pos h39] at h
      cases h
      rfl
    · rw [if_neg h39] at h
      by_cases h40 : c = 40
      · rw [if_pos h40] at h
        exact hq _ _ _ h
      · rw [if_neg h40] at h
        unfold numP at h
        cases hn : numOf ((c :: l).takeWhile figC) with
        | none => rw [hn] at h; cases h
        | some n =>
          rw [hn] at h
          cases h
          rfl
theorem tup_nl {p : Cs → Option (Tr × Cs)} (hp : NlP p) : NlP (tupK p) := by
  intro cs t r h
  unfold tupK at h
  by_cases h41 : cs.head? = some 41
  · rw [if_pos h41] at h
    cases h
    rfl
  · rw [if_neg h41] at h
    exact loop_nl hp _ _ _ _ _ rfl h
theorem part_nl : ∀ k : Nat, NlP (partK k)
  | 0 => one_nl fun _ _ _ z => by cases z
  | k + 1 => one_nl (tup_nl (part_nl k))
theorem open_txt : Str.ofString "(" = txt [40] := by decide +kernel
theorem shut_txt : Str.ofString ")" = txt [41] := by decide +kernel
theorem comma_txt : Str.ofString "," = txt [44] := by decide +kernel
theorem mark_txt : Str.ofString "'" = txt [39] := by decide +kernel
/-- the sign at a place -/
theorem sgn_at {z : Str} {a c : Nat} {s : Str} (ha : a ≤ z.length) (hs : s = txt [c]) : decide (V.str (Txt.slice z (some (a : Int)) (some ((a : Int) + 1))) = V.str s) = decide ((z.cps.toList.drop a).head? = some c) := by
  rw [show ((a : Int) + 1) = ((a + 1 : Nat) : Int) from rfl, slc_eq ha (by omega), show a + 1 - a = 1 by omega]
  exact one_is hs
theorem keep_lst {H : Hp} {p : Addr} {a b : List V} (h : H p = some (.lst a)) : ∀ q u, H q = some (.tup u) → upd H p (.lst b) q = some (.tup u) := fun q u e => by
  rw [upd_ne (ne_of e h (by intro z; cases z))]
  exact e
section
variable {P : Program} {w : World} {K : PySem.W.Frag} {mg : Str → Option Value} {base : Heap} {f C fI fN fT fP : Addr} {fd dI dN dT dP : FuncData} {bm : List Value}
def spR (C : Addr) (q : Cs → Option (Tr × Cs)) (d : Int) : Sp := fun vs H Q E => ∃ (z : Str) (a : Nat), vs = [.str z, .int (a : Int), .int d] ∧ z.length ≤ 50100 ∧ a ≤ z.length ∧ Res C z (q (z.cps.toList.drop a)) H Q E
theorem scPar : FnScope ["line", "at", "deep", "sign"] ["line", "at", "deep"] (defScope sPar) := ⟨rfl, rfl, rfl, by decide +kernel, rfl, by decide +kernel, by decide +kernel⟩
theorem ok_Par (F : Fun K "part_at" "part_at" sPar f fd) {n : Nat} (n4 : 4 ≤ n) {q : Cs → Option (Tr × Cs)} {d : Int} (hPat : Has K mg "tuple_at" sPat ["line", "at", "deep"] fP dP) (GPat : FnOk P w K mg base (CXw P w) n fP dP ["line", "at", "deep"] (spR C q (d + 1)))
    (hTat : Has K mg "text_at" sTat ["line", "at"] fT dT) (GTat : FnOk P w K mg base CX0 1 fT dT ["line", "at"] spTat) (hNat : Has K mg "number_at" sNat ["line", "at"] fN dN) (GNat : FnOk P w K mg base (CXw P w) 4 fN dN ["line", "at"] (spNat C)) (T : Txt mg) :
    FnOk P w K mg base (CXw P w) (n + 1) f fd ["line", "at", "deep"] (spR C (oneK q) d) := by
  refine F.okX scPar (fun vs H Q E h => ?_) (fun cdv A outer s H vs Q E hr h => ?_)
  · obtain ⟨z, a, rfl, _⟩ := h
    rfl
  obtain ⟨z, a, rfl, hz, ha, qr⟩ := h
  have hl : z.cps.toList.length = z.length := codes_len z
  have hlv : Leaves (cxOf (CXw P w) P w K mg base ["line", "at", "deep", "sign"] "part_at" (defScope sPar) f cdv A outer s H E) E := leaves_fn
  refine ⟨_, (pss_cons (ps_set (i := 3) scPar.nd rfl (Or.inl rfl) (pe_slice sl_str (pv 0) (po_some (pv 1)) (po_some (pe_op op_add (pv 1) pe_int))))
    (pss_cons (ps_if (pt_cmpR op_eq (pv 3) pe_str (nomark _))
    (pss_one (ps_ret (pe_call GPat (hr.mono (by omega)) rfl hPat.nm hPat.fn.kp hPat.bd .nil (passes_of hlv) (pc (pv 0) (pc (pe_op op_add (pv 1) pe_int) (pc (pe_op op_add (pv 2) pe_int) pa_nil))))))
    pss_nil)
    (pss_cons (ps_if (pt_cmpR op_eq (pv 3) pe_str (nomark _))
    (pss_one (ps_ret (pe_call GTat (hr.mono (by omega)) rfl hTat.nm hTat.fn.kp hTat.bd .nil pass0 (pc (pv 0) (pc (pe_op op_add (pv 1) pe_int) pa_nil)))))
    pss_nil)
    (pss_one (ps_ret (pe_call GNat (hr.mono (by omega)) rfl hNat.nm hNat.fn.kp hNat.bd .nil (passes_of hlv) (pc (pv 0) (pc (pv 1) pa_nil)))))))), ?_⟩
  refine ⟨_, rfl, _, rfl, _, rfl, _, rfl, _, _, rfl, rfl, _, rfl, z, rfl, Nat.le_of_lt (small (by omega)), ?_⟩
  have step : ∀ c r, z.cps.toList.drop a = c :: r → z.cps.toList.drop (a + 1) = r ∧ a + 1 ≤ z.length := fun c r e => by
    have h1 : (z.cps.toList.drop a).length = z.length - a := by rw [List.length_drop, hl]
    rw [e, List.length_cons] at h1
    refine ⟨?_, by omega⟩
    rw [← List.drop_drop, e]
    rfl
  refine ⟨_, rfl, rfl, _, rfl, ?_⟩
  rw [sgn_at ha open_txt]
  cases hc : z.cps.toList.drop a with
  | nil =>
    rw [hc] at qr
    refine iteF ⟨_, rfl, rfl, _, rfl, ?_⟩
    rw [sgn_at ha mark_txt, hc]
    refine iteF ⟨_, rfl, _, rfl, z, a, rfl, hz, ha, ?_⟩
    rw [hc]
    exact qr
  | cons c r =>
    obtain ⟨e1, l1⟩ := step c r hc
    rw [hc] at qr
    unfold oneK at qr
    dsimp only at qr
    refine ite2 (fun c1 => ?_) (fun c1 => ?_)
    · have c1' : c = 40 := by
        have := of_decide_eq_true c1
        injection this
      subst c1'
      refine ⟨_, rfl, _, rfl, _, _, rfl, rfl, _, rfl, _, _, rfl, rfl, z, a + 1, rfl, hz, l1, ?_⟩
      rw [e1]
      exact qr
    · have c1' : c ≠ 40 := fun e => c1 (decide_eq_true (by rw [e]; rfl))
      refine ⟨_, rfl, rfl, _, rfl, ?_⟩
      rw [sgn_at ha mark_txt, hc]
      refine ite2 (fun c2 => ?_) (fun c2 => ?_)
      · have c2' : c = 39 := by
          have := of_decide_eq_true c2
          injection this
        subst c2'
        refine ⟨_, rfl, _, rfl, _, _, rfl, rfl, z, a + 1, rfl, hz, l1, fun p H' s' e2 => ?_⟩
        rw [e1] at e2
        exact qr p _ H' s' e2 (At.str _)
      · have c2' : c ≠ 39 := fun e => c2 (decide_eq_true (by rw [e]; rfl))
        rw [if_neg c2', if_neg c1'] at qr
        refine ⟨_, rfl, _, rfl, z, a, rfl, hz, ha, ?_⟩
        rw [hc]
        exact qr
end
end K86
set_option maxHeartbeats 4000000
namespace K86
open PySem L2
section
variable {P : Program} {w : World} {K : PySem.W.Frag} {mg : Str → Option Value} {base : Heap} {f C fI fN fT fP : Addr} {fd dI dN dT dP : FuncData} {bm : List Value}
theorem scPat : FnScope ["line", "at", "deep", "parts", "sign", "part"] ["line", "at", "deep"] (defScope sPat) := ⟨rfl, rfl, rfl, by decide +kernel, rfl, by decide +kernel, by decide +kernel⟩
/-- what the loop has read so far -/
def LpA (C : Addr) (p : Cs → Option (Tr × Cs)) (z : Str) (d : Int) (pl : Addr) (R : Option (Tr × Cs)) (H : Hp) (m : Nat) (σ : St) (H2 : Hp) : Prop :=
  ∃ (n : Nat) (acc : List Tr) (vs : List V) (a : Nat) (o : Option V), m = n + 1 ∧ σ = [some (.str z), some (.int (a : Int)), some (.int d), some (.ref pl), some (.str (Str.ofString ",")), o] ∧ a ≤ z.length ∧ (z.cps.toList.drop a).length ≤ n ∧ loopK p n acc (z.cps.toList.drop a) = R ∧
    H2 pl = some (.lst vs) ∧ Ats H2 acc vs ∧ nls acc = true ∧ acc.length ≤ a ∧ Same H H2
def LpB (C : Addr) (z : Str) (d : Int) (pl : Addr) (R : Option (Tr × Cs)) (H : Hp) (m : Nat) (σ : St) (H2 : Hp) : Prop :=
  ∃ (acc : List Tr) (vs : List V) (i : Int) (r : Cs) (o : Option V), m = 0 ∧ σ = [some (.str z), some (.int i), some (.int d), some (.ref pl), some (.str (txt (r.take 1))), o] ∧ r.head? ≠ some 44 ∧ (r.head? = some 41 → R = some (.tup acc, r.tail) ∧ i = ((z.length - r.tail.length : Nat) : Int)) ∧ (r.head? ≠ some 41 → R = none) ∧
    H2 pl = some (.lst vs) ∧ Ats H2 acc vs ∧ nls acc = true ∧ acc.length ≤ z.length + 1 ∧ Same H H2
theorem ok_PatX (F : Fun K "tuple_at" "tuple_at" sPat f fd) (hPar : Has K mg "part_at" sPar ["line", "at", "deep"] fP dP) (hNL : XHas K mg "NoLine" sIni C bm fI dI ["self", "line"]) (GNL : FnOk P w K mg base CX0 1 fI dI ["self", "line"] (spIni C)) (T : Txt mg) :
    FnOk P w K mg base (CXw P w) 4 f fd ["line", "at", "deep"] (spR C (fun _ => none) 7) := by
  have GPar : FnOk P w K mg base (CXw P w) 0 fP dP ["line", "at", "deep"] (fun _ _ _ _ => False) := ⟨fun _ _ _ _ h => h.elim, fun _ _ _ _ _ _ _ _ _ _ _ _ _ h => h.elim⟩
  refine F.okX scPat (fun vs H Q E h => ?_) (fun cdv A outer s H vs Q E hr h => ?_)
  · obtain ⟨z, a, rfl, _⟩ := h
    rfl
  obtain ⟨z, a, rfl, hz, ha, qr⟩ := h
  obtain ⟨t1, mde⟩ := T.mde
  have hlv : Leaves (cxOf (CXw P w) P w K mg base ["line", "at", "deep", "parts", "sign", "part"] "tuple_at" (defScope sPat) f cdv A outer s H E) E := leaves_fn
  refine ⟨_, (pss_cons (ps_if (pt_cmpR op_gt (pv 2) (pe_glob (v := .int 6) rfl mde ⟨_, rfl⟩) (nomark _))
    (pss_one (ps_raise hNL.xm.ob hNL.be hr.hd hlv (pe_exc hNL.xm GNL (hr.mono (by omega)) rfl hNL.nm hNL.bd .nil pass0 (pc (pv 0) pa_nil))))
    pss_nil)
    (pss_cons (ps_if (pt_cmpR op_eq (pe_slice sl_str (pv 0) (po_some (pv 1)) (po_some (pe_op op_add (pv 1) pe_int))) pe_str (nomark _))
    (pss_one (ps_ret (pe_tup (pc (pe_tup pa_nil) (pc (pe_op op_add (pv 1) pe_int) pa_nil)))))
    pss_nil)
    (pss_cons (ps_set (i := 3) scPat.nd rfl (Or.inl rfl) (pe_lst pa_nil))
    (pss_cons (ps_set (i := 4) scPat.nd rfl (Or.inl rfl) pe_str)
    (pss_cons (ps_whileE hlv (pt_cmpR op_eq (pv 4) pe_str (nomark _))
    (pss_cons (ps_set (i := 5) scPat.nd rfl (Or.inl rfl) (pe_call GPar (hr.mono (by omega)) rfl hPar.nm hPar.fn.kp hPar.bd .nil passes_in (pc (pv 0) (pc (pv 1) (pc (pv 2) pa_nil)))))
    (pss_cons (ps_expr (pe_bm PySem.F.plainAttrs_list PySem.F.slot_list_append PySem.F.type_list_append mt_append (pv 3) (pc (pe_ix ix_tup (pv 5) pe_int (fun _ _ => rfl)) pa_nil)))
    (pss_cons (ps_set (i := 4) scPat.nd rfl (Or.inl rfl) (pe_slice sl_str (pv 0) (po_some (pe_ix ix_tup (pv 5) pe_int (fun _ _ => rfl))) (po_some (pe_op op_add (pe_ix ix_tup (pv 5) pe_int (fun _ _ => rfl)) pe_int))))
    (pss_one (ps_set (i := 1) scPat.nd rfl (Or.inl rfl) (pe_op op_add (pe_ix ix_tup (pv 5) pe_int (fun _ _ => rfl)) pe_int)))))))
    (pss_cons (ps_if (pt_cmpR op_ne (pv 4) pe_str (nomark _))
    (pss_one (ps_raise hNL.xm.ob hNL.be hr.hd hlv (pe_exc hNL.xm GNL (hr.mono (by omega)) rfl hNL.nm hNL.bd .nil pass0 (pc (pv 0) pa_nil))))
    pss_nil)
    (pss_one (ps_ret (pe_tup (pc (pe_callTy call_tuple_of rfl T.tup PyProof.Rows.boot_tuple (pc (pv 3) pa_nil)) (pc (pv 1) pa_nil))))))))))), ?_⟩
  refine ⟨_, rfl, _, _, rfl, rfl, _, rfl, ite2 (fun c => ?_) (fun c => absurd rfl c)⟩
  exact ⟨_, rfl, fun e he => ref_up qr e he⟩
theorem ok_Pat (F : Fun K "tuple_at" "tuple_at" sPat f fd) {n : Nat} (n4 : 4 ≤ n) {p : Cs → Option (Tr × Cs)} {d : Int} (d6 : d ≤ 6) (hs : ∀ cs t r, p cs = some (t, r) → r <:+ cs) (hn : NlP p) (h0 : p [] = none) (hPar : Has K mg "part_at" sPar ["line", "at", "deep"] fP dP) (GPar : FnOk P w K mg base (CXw P w) n fP dP ["line", "at", "deep"] (spR C p d))
    (hNL : XHas K mg "NoLine" sIni C bm fI dI ["self", "line"]) (GNL : FnOk P w K mg base CX0 1 fI dI ["self", "line"] (spIni C)) (T : Txt mg) :
    FnOk P w K mg base (CXw P w) (n + 1) f fd ["line", "at", "deep"] (spR C (tupK p) d) := by
  refine F.okX scPat (fun vs H Q E h => ?_) (fun cdv A outer s H vs Q E hr h => ?_)
  · obtain ⟨z, a, rfl, _⟩ := h
    rfl
  obtain ⟨z, a, rfl, hz, ha, qr⟩ := h
  obtain ⟨t1, mde⟩ := T.mde
  have hl : z.cps.toList.length = z.length := codes_len z
  have hlv : Leaves (cxOf (CXw P w) P w K mg base ["line", "at", "deep", "parts", "sign", "part"] "tuple_at" (defScope sPat) f cdv A outer s H E) E := leaves_fn
  refine ⟨_, (pss_cons (ps_if (pt_cmpR op_gt (pv 2) (pe_glob (v := .int 6) rfl mde ⟨_, rfl⟩) (nomark _))
    (pss_one (ps_raise hNL.xm.ob hNL.be hr.hd hlv (pe_exc hNL.xm GNL (hr.mono (by omega)) rfl hNL.nm hNL.bd .nil pass0 (pc (pv 0) pa_nil))))
    pss_nil)
    (pss_cons (ps_if (pt_cmpR op_eq (pe_slice sl_str (pv 0) (po_some (pv 1)) (po_some (pe_op op_add (pv 1) pe_int))) pe_str (nomark _))
    (pss_one (ps_ret (pe_tup (pc (pe_tup pa_nil) (pc (pe_op op_add (pv 1) pe_int) pa_nil)))))
    pss_nil)
    (pss_cons (ps_set (i := 3) scPat.nd rfl (Or.inl rfl) (pe_lst pa_nil))
    (pss_cons (ps_set (i := 4) scPat.nd rfl (Or.inl rfl) pe_str)
    (pss_cons (ps_whileE hlv (pt_cmpR op_eq (pv 4) pe_str (nomark _))
    (pss_cons (ps_set (i := 5) scPat.nd rfl (Or.inl rfl) (pe_call GPar (hr.mono (by omega)) rfl hPar.nm hPar.fn.kp hPar.bd .nil passes_in (pc (pv 0) (pc (pv 1) (pc (pv 2) pa_nil)))))
    (pss_cons (ps_expr (pe_bm PySem.F.plainAttrs_list PySem.F.slot_list_append PySem.F.type_list_append mt_append (pv 3) (pc (pe_ix ix_tup (pv 5) pe_int (fun _ _ => rfl)) pa_nil)))
    (pss_cons (ps_set (i := 4) scPat.nd rfl (Or.inl rfl) (pe_slice sl_str (pv 0) (po_some (pe_ix ix_tup (pv 5) pe_int (fun _ _ => rfl))) (po_some (pe_op op_add (pe_ix ix_tup (pv 5) pe_int (fun _ _ => rfl)) pe_int))))
    (pss_one (ps_set (i := 1) scPat.nd rfl (Or.inl rfl) (pe_op op_add (pe_ix ix_tup (pv 5) pe_int (fun _ _ => rfl)) pe_int)))))))
    (pss_cons (ps_if (pt_cmpR op_ne (pv 4) pe_str (nomark _))
    (pss_one (ps_raise hNL.xm.ob hNL.be hr.hd hlv (pe_exc hNL.xm GNL (hr.mono (by omega)) rfl hNL.nm hNL.bd .nil pass0 (pc (pv 0) pa_nil))))
    pss_nil)
    (pss_one (ps_ret (pe_tup (pc (pe_callTy call_tuple_of rfl T.tup PyProof.Rows.boot_tuple (pc (pv 3) pa_nil)) (pc (pv 1) pa_nil))))))))))), ?_⟩
  refine ⟨_, rfl, _, _, rfl, rfl, _, rfl, ite2 (fun c => absurd (of_decide_eq_true c) (by omega)) (fun _ => ?_)⟩
  refine ⟨_, rfl, _, rfl, _, rfl, _, rfl, _, _, rfl, rfl, _, rfl, z, rfl, Nat.le_of_lt (small (by omega)), rfl, _, rfl, ?_⟩
  rw [sgn_at ha shut_txt]
  unfold tupK at qr
  refine ite2 (fun c1 => ?_) (fun c1 => ?_)
  · have c1' := of_decide_eq_true c1
    rw [if_pos c1'] at qr
    have la : a < z.length := by
      by_cases h : a < z.length
      · exact h
      · rw [List.drop_eq_nil_of_le (by omega)] at c1'
        cases c1'
    refine ⟨(by show 0 ≤ sizeLine; decide), fun t ht => ⟨_, rfl, _, _, rfl, rfl, (by show 2 ≤ sizeLine; decide), fun p2 hp2 => ?_⟩⟩
    obtain ⟨n1, n2⟩ := new_free hp2
    refine qr p2 (.ref t) _ ((same_new ht _).trans (same_new hp2 _)) ?_ (At.mkT (vs := []) ?_ (Ats.nil _))
    · rw [upd_same]
      show some (HO.tup [V.ref t, V.int ((a + 1 : Nat) : Int)]) = _
      have : z.length - (z.cps.toList.drop a).tail.length = a + 1 := by
        rw [List.length_tail, List.length_drop, hl]
        omega
      rw [this]
    · rw [upd_ne n1.symm, upd_same]
  · have c1' : ¬ (z.cps.toList.drop a).head? = some 41 := fun e => c1 (decide_eq_true e)
    rw [if_neg c1'] at qr
    refine ⟨(by show 0 ≤ sizeLine; decide), fun pl hpl => ?_⟩
    refine ⟨fun m σ H2 => LpA C p z d pl (loopK p (z.cps.toList.drop a).length [] (z.cps.toList.drop a)) H m σ H2 ∨ LpB C z d pl (loopK p (z.cps.toList.drop a).length [] (z.cps.toList.drop a)) H m σ H2, ⟨_, .inl ⟨_, [], [], a, none, rfl, rfl, ha, Nat.le_refl _, rfl, upd_same, Ats.nil _, rfl, Nat.zero_le _, same_new hpl _⟩⟩, ?_⟩
    generalize loopK p (z.cps.toList.drop a).length [] (z.cps.toList.drop a) = R at qr
    rintro m σ H2 (⟨k, acc, vs, b, o, rfl, rfl, hb, hk, eR, e2, kv, ka, la, s2⟩ | ⟨acc, vs, i, r, o, rfl, rfl, r44, r41, rn, e2, kv, ka, la, s2⟩)
    · refine ⟨_, rfl, rfl, _, rfl, ite2 (fun _ => ?_) (fun c => absurd (decide_eq_true rfl) c)⟩
      refine ⟨_, fun σ' H' h => h, _, rfl, _, rfl, _, rfl, z, b, rfl, hz, hb, ?_⟩
      cases hp : p (z.cps.toList.drop b) with
      | none =>
        have : R = none := by
          rw [← eR]
          cases k with
          | zero => unfold loopK; rfl
          | succ k => unfold loopK; rw [hp]
        rw [this] at qr
        exact Ref.mono qr s2
      | some tr =>
        obtain ⟨t, r⟩ := tr
        intro p2 x H3 s3 e3 hx
        have sf := hs _ _ _ hp
        obtain ⟨dr, lr⟩ := suf_at sf
        have lr2 := sf.length_le
        rw [List.length_drop] at lr2
        rw [hl] at dr lr lr2
        obtain ⟨k, rfl⟩ : ∃ k', k = k' + 1 := by
          cases k with
          | zero =>
            have : z.cps.toList.drop b = [] := List.length_eq_zero_iff.mp (by omega)
            rw [this, h0] at hp
            cases hp
          | succ k => exact ⟨k, rfl⟩
        unfold loopK at eR
        rw [hp] at eR
        have e2' := s3 _ _ e2
        have lv := kv.len
        obtain ⟨e, ee⟩ : ∃ e, e = z.length - r.length := ⟨_, rfl⟩
        rw [← ee] at e3 dr
        have np : p2 ≠ pl := ne_of e3 e2' (by intro z; cases z)
        have e4 : ∀ ys : List V, upd H3 pl (.lst ys) p2 = some (.tup [x, .int (e : Int)]) := fun ys => by rw [upd_ne np]; exact e3
        have es : Txt.slice z (some (e : Int)) (some ((e : Int) + 1)) = txt (r.take 1) := by
          rw [show ((e : Int) + 1) = ((e + 1 : Nat) : Int) from rfl, slc_eq (by omega) (by omega), show e + 1 - e = 1 by omega, dr]
        have ats : Ats (upd H3 pl (.lst (vs ++ [x]))) (acc ++ [t]) (vs ++ [x]) := Ats.keepT (keep_lst e2') (nls_app ka (by unfold nls; rw [hn _ _ _ hp]; rfl)) (Ats.app (Ats.cons hx (Ats.nil _)) (Ats.mono s3 kv))
        have kn : nls (acc ++ [t]) = true := nls_app ka (by unfold nls; rw [hn _ _ _ hp]; rfl)
        have sm : Same H (upd H3 pl (.lst (vs ++ [x]))) := same_over (s2.trans s3) hpl _
        refine ⟨_, rfl, .inl ⟨rfl, _, SqL.of e2'⟩, _, rfl, p2, _, _, _, rfl, rfl, SqT.of e3, atI_nat (j := 0) rfl, pl, _, _, rfl, rfl, e2', small (by omega), ?_⟩
        refine ⟨_, rfl, _, rfl, p2, _, _, _, rfl, rfl, SqT.of (e4 _), atI_nat (j := 1) rfl, _, rfl, _, rfl, p2, _, _, _, rfl, rfl, SqT.of (e4 _), atI_nat (j := 1) rfl, _, _, rfl, rfl, _, rfl, z, rfl, Nat.le_of_lt (small (by omega)), ?_⟩
        refine ⟨_, rfl, p2, _, _, _, rfl, rfl, SqT.of (e4 _), atI_nat (j := 1) rfl, _, _, rfl, rfl, ?_⟩
        have fin : ∀ m', m' < k + 1 + 1 → (LpA C p z d pl R H m' [some (.str z), some (.int ((e : Int) + 1)), some (.int d), some (.ref pl), some (.str (txt (r.take 1))), some (.ref p2)] (upd H3 pl (.lst (vs ++ [x]))) ∨ LpB C z d pl R H m' [some (.str z), some (.int ((e : Int) + 1)), some (.int d), some (.ref pl), some (.str (txt (r.take 1))), some (.ref p2)] (upd H3 pl (.lst (vs ++ [x])))) →
            ∃ m', m' < k + 1 + 1 ∧ (LpA C p z d pl R H m' [some (.str z), some (.int ((e : Int) + 1)), some (.int d), some (.ref pl), some (.str (Txt.slice z (some (e : Int)) (some ((e : Int) + 1)))), some (.ref p2)] (upd H3 pl (.lst (vs ++ [x]))) ∨ LpB C z d pl R H m' [some (.str z), some (.int ((e : Int) + 1)), some (.int d), some (.ref pl), some (.str (Txt.slice z (some (e : Int)) (some ((e : Int) + 1)))), some (.ref p2)] (upd H3 pl (.lst (vs ++ [x])))) := by
          rw [es]
          exact fun m' h1 h2 => ⟨m', h1, h2⟩
        have la2 : (acc ++ [t]).length ≤ e + 1 := by
          rw [List.length_append]
          show acc.length + 1 ≤ _
          omega
        cases r with
        | nil =>
          simp only [List.length_nil] at ee
          have la3 : (acc ++ [t]).length ≤ z.length + 1 := by omega
          refine fin 0 (by omega) (.inr ⟨acc ++ [t], vs ++ [x], _, [], _, rfl, rfl, by simp, fun z => (by cases z), fun _ => eR.symm, upd_same, ats, kn, la3, sm⟩)
        | cons c r =>
          simp only [List.length_cons] at ee lr lr2
          have d1 : z.cps.toList.drop (e + 1) = r := by
            rw [← List.drop_drop, dr]
            rfl
          dsimp only at eR
          have la3 : (acc ++ [t]).length ≤ z.length + 1 := by omega
          by_cases h44 : c = 44
          · subst h44
            rw [if_pos rfl] at eR
            refine fin (k + 1) (by omega) (.inl ⟨k, acc ++ [t], vs ++ [x], e + 1, some (.ref p2), rfl, ?_, by omega, ?_, ?_, upd_same, ats, kn, la2, sm⟩)
            · rw [comma_txt]
              rfl
            · rw [d1]
              rw [List.length_drop, hl] at hk
              omega
            · rw [d1]
              exact eR
          · rw [if_neg h44] at eR
            refine fin 0 (by omega) (.inr ⟨acc ++ [t], vs ++ [x], _, c :: r, _, rfl, rfl, fun z => h44 (by injection z), fun h => ?_, fun h => ?_, upd_same, ats, kn, la3, sm⟩)
            · have : c = 41 := by injection h
              rw [if_pos this] at eR
              refine ⟨eR.symm, ?_⟩
              show ((e : Int) + 1) = ((z.length - r.length : Nat) : Int)
              omega
            · have : c ≠ 41 := fun e => h (by rw [e]; rfl)
              rw [if_neg this] at eR
              exact eR.symm
    · refine ⟨_, rfl, rfl, _, rfl, ?_⟩
      rw [one_is comma_txt]
      refine ite2 (fun c => absurd (of_decide_eq_true c) r44) (fun _ => ?_)
      refine ⟨_, rfl, rfl, _, rfl, ?_⟩
      rw [one_is shut_txt]
      by_cases h41 : r.head? = some 41
      · obtain ⟨eR, ei⟩ := r41 h41
        rw [decide_eq_true h41]
        rw [eR] at qr
        have lv := kv.len
        refine iteF ⟨_, rfl, pl, _, rfl, .inl ⟨SqL.of e2, fun t ht => ⟨_, rfl, (by show 2 ≤ sizeLine; decide), fun p2 hp2 => ?_⟩⟩⟩
        obtain ⟨n1, n2⟩ := new_free hp2
        refine qr p2 (.ref t) _ (s2.trans ((same_new ht _).trans (same_new hp2 _))) ?_ (At.mkT (vs := vs) ?_ (Ats.mono ((same_new ht _).trans (same_new hp2 _)) kv))
        · rw [upd_same, ei]
        · rw [upd_ne n1.symm, upd_same]
      · rw [decide_eq_false h41]
        rw [rn h41] at qr
        exact iteT ⟨_, rfl, fun e he => ref_up (Ref.mono qr s2) e he⟩
end
end K86
set_option maxHeartbeats 4000000
namespace K86
open PySem L2
section
variable {P : Program} {w : World} {K : PySem.W.Frag} {mg : Str → Option Value} {base : Heap} {f C fI fN fT fP fR : Addr} {fd dI dN dT dP dR : FuncData} {bm : List Value}
theorem ok_ParK (hPar : Has K mg "part_at" sPar ["line", "at", "deep"] fR dR) (hPat : Has K mg "tuple_at" sPat ["line", "at", "deep"] fP dP)
    (hTat : Has K mg "text_at" sTat ["line", "at"] fT dT) (GTat : FnOk P w K mg base CX0 1 fT dT ["line", "at"] spTat) (hNat : Has K mg "number_at" sNat ["line", "at"] fN dN) (GNat : FnOk P w K mg base (CXw P w) 4 fN dN ["line", "at"] (spNat C))
    (hNL : XHas K mg "NoLine" sIni C bm fI dI ["self", "line"]) (GNL : FnOk P w K mg base CX0 1 fI dI ["self", "line"] (spIni C)) (T : Txt mg) : ∀ k : Nat, FnOk P w K mg base (CXw P w) (5 + 2 * k) fR dR ["line", "at", "deep"] (spR C (partK k) (6 - (k : Int)))
  | 0 => ok_Par hPar.fn (n := 4) (by omega) (q := fun _ => none) (d := 6) hPat (ok_PatX hPat.fn hPar hNL GNL T) hTat GTat hNat GNat T
  | k + 1 => by
    have ih := ok_ParK hPar hPat hTat GTat hNat GNat hNL GNL T k
    have g := ok_Pat hPat.fn (n := 5 + 2 * k) (by omega) (p := partK k) (d := 6 - (k : Int)) (by omega) (part_suf k) (part_nl k) (by cases k <;> rfl) hPar ih hNL GNL T
    have g' : FnOk P w K mg base (CXw P w) (6 + 2 * k) fP dP ["line", "at", "deep"] (spR C (tupK (partK k)) ((6 - ((k + 1 : Nat) : Int)) + 1)) := by
      rw [show (6 - ((k + 1 : Nat) : Int)) + 1 = 6 - (k : Int) by omega, show 6 + 2 * k = 5 + 2 * k + 1 by omega]
      exact g
    have h := ok_Par hPar.fn (n := 6 + 2 * k) (by omega) (d := 6 - ((k + 1 : Nat) : Int)) hPat g' hTat GTat hNat GNat T
    rw [show 5 + 2 * (k + 1) = 6 + 2 * k + 1 by omega]
    exact h
def spSof (C : Addr) : Sp := fun vs H Q E => ∃ z : Str, vs = [.str z] ∧ z.length ≤ 50100 ∧ match stuffK z.cps.toList with
  | some t => ∀ x H', Same H H' → At H' t x → Q x H'
  | none => Ref C (.str z) H E
theorem scSof : FnScope ["line", "part"] ["line"] (defScope sSof) := ⟨rfl, rfl, rfl, by decide +kernel, rfl, by decide +kernel, by decide +kernel⟩
theorem ok_Sof (F : Fun K "stuff_of" "stuff_of" sSof f fd) (hPar : Has K mg "part_at" sPar ["line", "at", "deep"] fR dR) (GPar : FnOk P w K mg base (CXw P w) 17 fR dR ["line", "at", "deep"] (spR C (partK 6) 0))
    (hNL : XHas K mg "NoLine" sIni C bm fI dI ["self", "line"]) (GNL : FnOk P w K mg base CX0 1 fI dI ["self", "line"] (spIni C)) (T : Txt mg) : FnOk P w K mg base (CXw P w) 18 f fd ["line"] (spSof C) := by
  refine F.okX scSof (fun vs H Q E h => ?_) (fun cdv A outer s H vs Q E hr h => ?_)
  · obtain ⟨z, rfl, _⟩ := h
    rfl
  obtain ⟨z, rfl, hz, q⟩ := h
  have hl : z.cps.toList.length = z.length := codes_len z
  have hlv : Leaves (cxOf (CXw P w) P w K mg base ["line", "part"] "stuff_of" (defScope sSof) f cdv A outer s H E) E := leaves_fn
  refine ⟨_, (pss_cons (ps_set (i := 1) scSof.nd rfl (Or.inl rfl) (pe_call GPar (hr.mono (by decide)) rfl hPar.nm hPar.fn.kp hPar.bd .nil (passes_of hlv) (pc (pv 0) (pc pe_int (pc pe_int pa_nil)))))
    (pss_cons (ps_if (pt_cmpR op_ne (pe_ix ix_tup (pv 1) pe_int (fun _ _ => rfl)) (pe_callB call_len_str rfl T.len PySem.boot_len (pc (pv 0) pa_nil)) (nomark _))
    (pss_one (ps_raise hNL.xm.ob hNL.be hr.hd hlv (pe_exc hNL.xm GNL (hr.mono (by decide)) rfl hNL.nm hNL.bd .nil pass0 (pc (pv 0) pa_nil))))
    pss_nil)
    (pss_one (ps_ret (pe_ix ix_tup (pv 1) pe_int (fun _ _ => rfl)))))), ?_⟩
  refine ⟨_, rfl, z, 0, rfl, hz, Nat.zero_le _, ?_⟩
  rw [List.drop_zero]
  unfold stuffK at q
  cases hp : partK 6 z.cps.toList with
  | none =>
    rw [hp] at q
    exact q
  | some tr =>
    obtain ⟨t, r⟩ := tr
    rw [hp] at q
    intro p x H1 s1 e1 hx
    have lr := (part_suf 6 _ _ _ hp).length_le
    rw [hl] at lr
    refine ⟨_, rfl, p, _, _, _, rfl, rfl, SqT.of e1, atI_nat (j := 1) rfl, _, rfl, z, rfl, Nat.le_of_lt (small (by omega)), rfl, _, rfl, ?_⟩
    cases r with
    | nil =>
      dsimp only at q
      rw [show z.length - ([] : Cs).length = z.length from rfl, decide_eq_true rfl]
      exact iteF ⟨_, rfl, p, _, _, _, rfl, rfl, SqT.of e1, atI_nat (j := 0) rfl, q x H1 s1 hx⟩
    | cons c r =>
      dsimp only at q
      rw [List.length_cons] at lr
      refine ite2 (fun _ => ⟨_, rfl, fun e he => ref_up (Ref.mono q s1) e he⟩) (fun c => absurd ?_ c)
      rw [decide_eq_false]
      · rfl
      · intro e
        injection e with e
        rw [List.length_cons] at e
        omega
end
end K86
set_option maxHeartbeats 4000000
namespace K86
open PySem L2
def one (c : Nat) : Str := ⟨#[c]⟩
theorem glued_nil : ∀ (l : List Str) (acc : Array Nat), (l.foldl (fun a p => a ++ (Str.ofString "").cps ++ p.cps) acc).toList = acc.toList ++ (l.map (·.cps.toList)).flatten
  | [], acc => by simp
  | x :: l, acc => by
    have e : (Str.ofString "").cps = #[] := by decide +kernel
    rw [List.foldl_cons, glued_nil l]
    simp [e]
theorem join_codes (l : List Str) : (Txt.join (Str.ofString "") l).cps.toList = (l.map (·.cps.toList)).flatten := by
  cases l with
  | nil => decide +kernel
  | cons x l =>
    show ((List.foldl (fun a p => a ++ (Str.ofString "").cps ++ p.cps) x.cps l)).toList = _
    rw [glued_nil]
    rfl
theorem join_ones : ∀ cs : List Nat, (Txt.join (Str.ofString "") (cs.map one)).cps.toList = cs := fun cs => by
  rw [join_codes, List.map_map]
  induction cs with
  | nil => rfl
  | cons c cs ih =>
    show [c] ++ ((cs.map _).flatten) = c :: cs
    rw [ih]
    rfl

/-! ### the law's own stuff -/
theorem all_at (i : Int) (h0 : 0 ≤ i) (h1 : i < 37) : ∃ c, atI allS.cps.toList i = some c ∧ sgnC c = true := by
  obtain ⟨j, rfl⟩ := Int.eq_ofNat_of_zero_le h0
  have hj : j < 37 := by omega
  have hlen : allS.cps.toList.length = 37 := by rw [all_codes]; rfl
  refine ⟨allS.cps.toList[j]'(by omega), atI_nat (List.getElem?_eq_getElem (by omega)), ?_⟩
  have m : allS.cps.toList[j]'(by omega) ∈ allS.cps.toList := List.getElem_mem _
  rw [← in_all, StrLaws.found_one, decide_eq_true m]
def bnd : Nat → Nat
  | 0 => 10
  | d + 1 => 3 * bnd d + 5
theorem bnd_le : ∀ d : Nat, d ≤ 6 → bnd d ≤ 9110
  | 0, _ | 1, _ | 2, _ | 3, _ | 4, _ | 5, _ | 6, _ => by decide
  | d + 7, h => by omega
theorem bnd_pos : ∀ d, 10 ≤ bnd d
  | 0 => Nat.le_refl _
  | d + 1 => by
    have := bnd_pos d
    unfold bnd
    omega
theorem lines_bnd {B : Nat} : ∀ l : List Tr, (∀ t ∈ l, (lineT t).length ≤ B) → (linesT l).length ≤ l.length * (B + 1)
  | [], _ => by
    unfold linesT
    exact Nat.zero_le _
  | [t], h => by
    unfold linesT
    have := h t (List.mem_cons_self ..)
    simp only [List.length_cons, List.length_nil]
    omega
  | t :: u :: l, h => by
    have ih := lines_bnd (u :: l) fun v hv => h v (List.mem_cons_of_mem _ hv)
    have h1 := h t (List.mem_cons_self ..)
    unfold linesT
    rw [List.length_append, List.length_cons]
    have e : (t :: u :: l).length * (B + 1) = (u :: l).length * (B + 1) + (B + 1) := by
      rw [List.length_cons, Nat.add_mul, Nat.one_mul]
    omega
theorem goods_of {k : Nat} : ∀ {l : List Tr}, (∀ t ∈ l, goodT k t = true) → goodsT k l = true
  | [], _ => by unfold goodsT; rfl
  | t :: l, h => by
    unfold goodsT
    rw [h t (List.mem_cons_self ..), goods_of fun u hu => h u (List.mem_cons_of_mem _ hu)]
    rfl
mutual
theorem good_up : ∀ {k : Nat} {t : Tr}, goodT k t = true → goodT (k + 1) t = true
  | k, .int n, h => by
    unfold goodT at h ⊢
    exact h
  | k, .str z, h => by
    unfold goodT at h ⊢
    exact h
  | 0, .tup l, h => by
    unfold goodT at h
    cases h
  | k + 1, .tup l, h => by
    unfold goodT at h ⊢
    exact goods_up h
  | k, .bl b, h => by cases k <;> (unfold goodT at h; cases h)
  | k, .non, h => by cases k <;> (unfold goodT at h; cases h)
  | k, .dct, h => by cases k <;> (unfold goodT at h; cases h)
  | k, .lst l, h => by cases k <;> (unfold goodT at h; cases h)
theorem goods_up : ∀ {k : Nat} {l : List Tr}, goodsT k l = true → goodsT (k + 1) l = true
  | k, [], h => by unfold goodsT; rfl
  | k, t :: l, h => by
    unfold goodsT at h ⊢
    rw [Bool.and_eq_true] at h
    rw [good_up h.1, goods_up h.2]
    rfl
end
theorem good_le {j : Nat} {t : Tr} : ∀ {k : Nat}, j ≤ k → goodT j t = true → goodT k t = true
  | 0, h, g => by
    have : j = 0 := by omega
    subst this
    exact g
  | k + 1, h, g => by
    by_cases e : j = k + 1
    · subst e
      exact g
    · exact good_up (good_le (k := k) (by omega) g)
mutual
theorem good_nl : ∀ {k : Nat} {t : Tr}, goodT k t = true → nl t = true
  | k, .int n, h => by unfold nl; rfl
  | k, .str z, h => by unfold nl; rfl
  | 0, .tup l, h => by
    unfold goodT at h
    cases h
  | k + 1, .tup l, h => by
    unfold goodT at h
    unfold nl
    exact goods_nl h
  | k, .bl b, h => by cases k <;> (unfold goodT at h; cases h)
  | k, .non, h => by cases k <;> (unfold goodT at h; cases h)
  | k, .dct, h => by cases k <;> (unfold goodT at h; cases h)
  | k, .lst l, h => by cases k <;> (unfold goodT at h; cases h)
theorem goods_nl : ∀ {k : Nat} {l : List Tr}, goodsT k l = true → nls l = true
  | k, [], h => by unfold nls; rfl
  | k, t :: l, h => by
    unfold goodsT at h
    rw [Bool.and_eq_true] at h
    unfold nls
    rw [good_nl h.1, goods_nl h.2]
    rfl
end
theorem good_int {k : Nat} {n : Int} (h0 : 0 ≤ n) (h1 : n ≤ 4294967295) : goodT k (.int n) = true ∧ (lineT (.int n)).length ≤ 10 := by
  refine ⟨?_, ?_⟩
  · cases k <;> (unfold goodT; rw [decide_eq_true h0, decide_eq_true h1]; rfl)
  · unfold lineT
    exact digs_len (by omega)
theorem good_str {k : Nat} {z : Str} (h0 : z.cps.toList.all sgnC = true) (h1 : z.length ≤ 6) : goodT k (.str z) = true ∧ (lineT (.str z)).length ≤ 10 := by
  refine ⟨?_, ?_⟩
  · cases k <;> (unfold goodT; exact h0)
  · unfold lineT
    rw [List.length_cons, codes_len]
    omega
section
variable {P : Program} {w : World} {K : PySem.W.Frag} {mg : Str → Option Value} {base : Heap} {f fMix fL fP : Addr} {fd dMix dL dP : FuncData}
theorem comp_rng {lo : Int} {n : Nat} {p : Addr} {tt : TT} {te : TE} {cs : St} {Q : VK} {H1 : Hp} (Pv : Nat → List V → Hp → Prop) (h0 : Pv 0 [] (upd H1 p (.lst [])))
    (hs : ∀ i ys H, i < n → Pv i ys H → tt (some (.int (lo + i)) :: cs) H fun b H4 => if b = true then te (some (.int (lo + i)) :: cs) H4 fun y H5 => H5 p = some (.lst ys) ∧ ys.length < sizeLine ∧ Pv (i + 1) (ys ++ [y]) (upd H5 p (.lst (ys ++ [y]))) else Pv (i + 1) ys H4)
    (hd : ∀ ys H, Pv n ys H → Q (.ref p) H) : CompW (Itr lo n) p tt te cs Q H1 := by
  refine comp_by n Pv h0 ?_ ?_
  · intro i ys H hi pv
    refine ⟨hi, fun v H3 y => ?_⟩
    obtain ⟨rfl, rfl⟩ := y
    exact hs i ys _ hi pv
  · intro ys H pv
    exact ⟨Nat.le_refl _, hd ys H pv⟩
def spLtx : Sp := fun vs H Q _ => ∃ n : Int, vs = [.int n] ∧ ∀ (z : Str) H', Same H H' → z.length ≤ 6 → z.cps.toList.all sgnC = true → Q (.str z) H'
theorem scLtx : FnScope ["_law_number", "_law_signs"] ["_law_number"] (defScope sLtx) := ⟨rfl, rfl, rfl, by decide +kernel, rfl, by decide +kernel, by decide +kernel⟩
theorem ok_Ltx (F : Fun K "_law_text" "_law_text" sLtx f fd) (hMix : Has K mg "_law_mixed" sMix ["_law_cell", "_law_k"] fMix dMix) (GMix : FnOk P w K mg base CX0 1 fMix dMix ["_law_cell", "_law_k"] spMix) (T : Txt mg) : FnOk P w K mg base CX0 2 f fd ["_law_number"] spLtx := by
  refine F.ok scLtx (fun vs H Q E h => ?_) (fun cdv A outer s H vs Q E hr h => ?_)
  · obtain ⟨n, rfl, _⟩ := h
    rfl
  obtain ⟨n, rfl, q⟩ := h
  refine ⟨_, (pss_cons (ps_set (i := 1) scLtx.nd rfl (Or.inr rfl) pe_str)
    (pss_one (ps_ret (pe_bm PySem.F.plainAttrs_str PySem.F.slot_str_join PySem.F.type_str_join mt_join pe_str (pc (pe_comp [0, 1] ["_law_number", "_law_signs"] (pi_range1 rfl T.rng (pc (pe_op op_mod (pv 0) pe_int) pa_nil)) (fun _ _ _ _ _ _ => pts_nil)
          (fun _ _ _ _ _ _ => (pe_ix ix_str (pv 2) (pe_op op_mod (pe_call GMix (hr.mono (by decide)) rfl hMix.nm hMix.fn.kp hMix.bd .nil pass0 (pc (pv 1) (pc (pv 0) pa_nil))) pe_int) (fun _ _ => rfl)))
          rfl (by decide +kernel) (by decide +kernel) rfl (by decide +kernel) (fun j y hj => by
            match j, hj with
            | 0, hj => cases hj; exact ⟨0, rfl, rfl, rfl, .inl rfl⟩ 
            | 1, hj => cases hj; exact ⟨1, rfl, rfl, rfl, .inl rfl⟩) rfl (by decide +kernel) rfl) pa_nil))))), ?_⟩
  refine ⟨rfl, _, rfl, _, _, rfl, rfl, (by show (0 : Int) < 7; decide), ?_⟩
  have a0 : 0 ≤ n % 7 := by omega
  have a1 : n % 7 < 7 := by omega
  dsimp only
  generalize n % 7 = size at a0 a1
  refine ⟨size, rfl, by omega, by omega, fun p hp => ?_⟩
  refine comp_rng (fun i us H2 => ∃ cs : List Nat, Same H H2 ∧ H2 p = some (.lst us) ∧ us = (cs.map one).map V.str ∧ cs.length = i ∧ ∀ c ∈ cs, sgnC c = true) ⟨[], same_new hp _, upd_same, rfl, rfl, fun c h => by cases h⟩ ?_ ?_
  · rintro i us H2 hi ⟨cs, s2, e2, rfl, lc, oc⟩
    have hi' : i < size.toNat := hi
    refine ttT ⟨_, rfl, _, rfl, _, rfl, n, 0 + (i : Int), rfl, by omega, by omega, fun z z0 z1 => ⟨_, _, rfl, rfl, (by show (0 : Int) < 37; decide), ?_⟩⟩
    obtain ⟨c, ec, gc⟩ := all_at (z % 37) (by omega) (by omega)
    dsimp only
    refine ⟨allS, _, c, rfl, rfl, by decide +kernel, ec, e2, small (by simp; omega), cs ++ [c], same_over s2 hp _, upd_same, by rw [List.map_append, List.map_append]; rfl, by simp [lc], fun d hd => ?_⟩
    rcases List.mem_append.mp hd with m | m
    · exact oc d m
    · rw [List.mem_singleton.mp m]
      exact gc
  rintro us H2 ⟨cs, s2, e2, rfl, lc, oc⟩
  refine ⟨Str.ofString "", p, cs.map one, rfl, rfl, SqL.of e2, ?_, ?_⟩
  · have : ∀ l : List Nat, ((l.map one).map (·.length)).sum = l.length := fun l => by
      induction l with
      | nil => rfl
      | cons c l ih =>
        show 1 + ((l.map one).map (·.length)).sum = l.length + 1
        rw [ih, Nat.add_comm]
    rw [this, List.length_map]
    have e0 : (Str.ofString "").length = 0 := by decide +kernel
    rw [e0]
    omega
  have bc := join_ones cs
  refine q _ H2 s2 ?_ ?_
  · rw [len_codes, bc]
    omega
  · rw [bc]
    exact List.all_eq_true.mpr oc
def spPla : Sp := fun vs H Q _ => ∃ n : Int, vs = [.int n] ∧ 0 ≤ n ∧ n ≤ 4294967295 ∧ ∀ x t H', Same H H' → At H' t x → (∀ k, goodT k t = true) → (lineT t).length ≤ 10 → Q x H'
theorem scPla : FnScope ["_law_number"] ["_law_number"] (defScope sPla) := ⟨rfl, rfl, rfl, by decide +kernel, rfl, by decide +kernel, by decide +kernel⟩
theorem ok_Pla (F : Fun K "_law_plain" "_law_plain" sPla f fd) (hLtx : Has K mg "_law_text" sLtx ["_law_number"] fL dL) (GLtx : FnOk P w K mg base CX0 2 fL dL ["_law_number"] spLtx) (T : Txt mg) : FnOk P w K mg base CX0 3 f fd ["_law_number"] spPla := by
  refine F.ok scPla (fun vs H Q E h => ?_) (fun cdv A outer s H vs Q E hr h => ?_)
  · obtain ⟨n, rfl, _⟩ := h
    rfl
  obtain ⟨n, rfl, n0, n1, q⟩ := h
  refine ⟨_, (pss_cons (ps_if (pt_cmpR op_eq (pe_op op_mod (pv 0) pe_int) pe_int (nomark _))
    (pss_one (ps_ret (pe_call GLtx (hr.mono (by decide)) rfl hLtx.nm hLtx.fn.kp hLtx.bd .nil pass0 (pc (pe_op op_fdiv (pv 0) pe_int) pa_nil))))
    pss_nil)
    (pss_one (ps_ret (pe_ix ix_list (by refine' pe_lst ?p0; (case p0 => (refine' pc ?q0 ?p1; (case q0 => exact pe_int); (case p1 => (refine' pc ?q1 ?p2; (case q1 => exact pe_int); (case p2 => (refine' pc ?q2 ?p3; (case q2 => exact (pe_op op_fdiv (pv 0) pe_int)); (case p3 => (refine' pc ?q3 ?p4; (case q3 => exact (pe_op op_mod (pe_op op_fdiv (pv 0) pe_int) pe_int)); (case p4 => exact pa_nil)))))))))) (pe_op op_mod (pe_op op_fdiv (pv 0) pe_int) pe_int) (fun _ _ => rfl))))), ?_⟩
  refine ⟨_, rfl, _, _, rfl, rfl, (by show (0 : Int) < 2; decide), rfl, _, rfl, ite2 (fun c => ?_) (fun c => ?_)⟩
  · exact ⟨_, rfl, _, _, rfl, rfl, ⟨by decide, by decide⟩, _, rfl, fun z H' s' lz gz => q _ (.str z) H' s' (At.str z) (fun k => (good_str gz lz).1) (good_str (k := 0) gz lz).2⟩
  · refine ⟨_, rfl, _, _, rfl, rfl, ⟨by decide, by decide⟩, _, rfl, _, _, rfl, rfl, ⟨by decide, by decide⟩, _, _, rfl, rfl, (by show (0 : Int) < 12; decide), (by show 4 ≤ sizeLine; decide), fun p hp => ?_⟩
    refine ⟨_, rfl, _, _, rfl, rfl, ⟨by decide, by decide⟩, _, _, rfl, rfl, (by show (0 : Int) < 4; decide), ?_⟩
    have gi : ∀ i : Int, 0 ≤ i → i ≤ 4294967295 → Q (.int i) (upd H p (.lst [.int 0, .int 4294967295, .int (n / 8), .int (n / 8 % 12)])) := fun i h0 h1 => q _ (.int i) _ (same_new hp _) (At.int i) (fun k => (good_int h0 h1).1) (good_int (k := 0) h0 h1).2
    have m : n / 2 % 4 = 0 ∨ n / 2 % 4 = 1 ∨ n / 2 % 4 = 2 ∨ n / 2 % 4 = 3 := by omega
    dsimp only
    rcases m with m | m | m | m
    · exact ⟨p, _, _, .int 0, rfl, rfl, SqL.of upd_same, by rw [m]; rfl, gi _ (by omega) (by omega)⟩
    · exact ⟨p, _, _, .int 4294967295, rfl, rfl, SqL.of upd_same, by rw [m]; rfl, gi _ (by omega) (by omega)⟩
    · exact ⟨p, _, _, .int (n / 8), rfl, rfl, SqL.of upd_same, by rw [m]; rfl, gi _ (by omega) (by omega)⟩
    · exact ⟨p, _, _, .int (n / 8 % 12), rfl, rfl, SqL.of upd_same, by rw [m]; rfl, gi _ (by omega) (by omega)⟩
end
end K86
set_option maxHeartbeats 4000000
namespace K86
open PySem L2
section
variable {P : Program} {w : World} {K : PySem.W.Frag} {mg : Str → Option Value} {base : Heap} {f fMix fL fP : Addr} {fd dMix dL dP : FuncData}
def spStu (d : Nat) : Sp := fun vs H Q _ => ∃ n : Int, vs = [.int n, .int (d : Int)] ∧ 0 ≤ n ∧ n < 2147483587 ∧ ∀ x t H', Same H H' → At H' t x → goodT d t = true → (lineT t).length ≤ bnd d → Q x H'
def spStuN : Nat → Sp
  | 0 => fun _ _ _ _ => False
  | d + 1 => spStu d
theorem scStu : FnScope ["_law_number", "_law_depth", "_law_many"] ["_law_number", "_law_depth"] (defScope sStu) := ⟨rfl, rfl, rfl, by decide +kernel, rfl, by decide +kernel, by decide +kernel⟩
theorem ok_Stu (F : Fun K "_law_stuff" "_law_stuff" sStu f fd) (hStu : Has K mg "_law_stuff" sStu ["_law_number", "_law_depth"] f fd) (hMix : Has K mg "_law_mixed" sMix ["_law_cell", "_law_k"] fMix dMix) (GMix : FnOk P w K mg base CX0 1 fMix dMix ["_law_cell", "_law_k"] spMix)
    (hPla : Has K mg "_law_plain" sPla ["_law_number"] fP dP) (GPla : FnOk P w K mg base CX0 3 fP dP ["_law_number"] spPla) (T : Txt mg) : ∀ d : Nat, FnOk P w K mg base CX0 (d + 3) f fd ["_law_number", "_law_depth"] (spStuN d)
  | 0 => ⟨fun _ _ _ _ h => h.elim, fun _ _ _ _ _ _ _ _ _ _ _ _ _ h => h.elim⟩
  | d + 1 => by
    have GStu := ok_Stu F hStu hMix GMix hPla GPla T d
    refine F.ok scStu (fun vs H Q E h => ?_) (fun cdv A outer s H vs Q E hr h => ?_)
    · obtain ⟨n, rfl, _⟩ := h
      rfl
    obtain ⟨n, rfl, n0, n1, q⟩ := h
    refine ⟨_, (pss_cons (ps_if (PW.pt (pw_or (pt_cmpR op_eq (pv 1) pe_int (nomark _)) (pw_or1 (pt_cmpR op_eq (pe_op op_mod (pv 0) pe_int) pe_int (nomark _)))))
    (pss_one (ps_ret (pe_call GPla (hr.mono (by omega)) rfl hPla.nm hPla.fn.kp hPla.bd .nil pass0 (pc (pe_op op_fdiv (pv 0) pe_int) pa_nil))))
    pss_nil)
    (pss_cons (ps_set (i := 2) scStu.nd rfl (Or.inl rfl) (pe_op op_mod (pe_op op_fdiv (pv 0) pe_int) (pe_ix ix_list (pe_lst (pc pe_int (pc pe_int pa_nil))) (pe_callTy call_int1 rfl T.int PyProof.Rows.boot_int (pc (pe_cmpR op_gt (pv 1) pe_int (nomark _)) pa_nil)) (fun _ _ => rfl))))
    (pss_one (ps_ret (pe_callTy call_tuple_of rfl T.tup PyProof.Rows.boot_tuple (pc (pe_comp [0, 1] ["_law_number", "_law_depth"] (pi_range1 rfl T.rng (pc (pv 2) pa_nil)) (fun _ _ _ _ _ _ => pts_nil)
          (fun _ _ _ _ _ _ => (pe_call GStu (hr.mono (by omega)) rfl hStu.nm hStu.fn.kp hStu.bd .nil pass0 (pc (pe_call GMix (hr.mono (by omega)) rfl hMix.nm hMix.fn.kp hMix.bd .nil pass0 (pc (pv 1) (pc (pv 0) pa_nil))) (pc (pe_op op_sub (pv 2) pe_int) pa_nil))))
          rfl (by decide +kernel) (by decide +kernel) rfl (by decide +kernel) (fun j y hj => by
            match j, hj with
            | 0, hj => cases hj; exact ⟨0, rfl, rfl, rfl, .inl rfl⟩ 
            | 1, hj => cases hj; exact ⟨1, rfl, rfl, rfl, .inl rfl⟩) rfl (by decide +kernel) rfl) pa_nil)))))), ?_⟩
    refine ⟨_, rfl, rfl, _, rfl, ite2 (fun c => ?_) (fun c => ?_)⟩
    · exact ⟨_, rfl, _, _, rfl, rfl, ⟨by decide, by decide⟩, _, rfl, by omega, by omega, fun x t H' s' hx g l => q x t H' s' hx (g d) (Nat.le_trans l (bnd_pos d))⟩
    have hd : (d : Int) ≠ 0 := fun e => c (decide_eq_true (by rw [e]))
    obtain ⟨e, rfl⟩ : ∃ e, d = e + 1 := ⟨d - 1, by omega⟩
    refine ⟨_, rfl, _, _, rfl, rfl, (by show (0 : Int) < 3; decide), rfl, _, rfl, ite2 (fun c => ?_) (fun c => ?_)⟩
    · exact ⟨_, rfl, _, _, rfl, rfl, ⟨by decide, by decide⟩, _, rfl, by omega, by omega, fun x t H' s' hx g l => q x t H' s' hx (g _) (Nat.le_trans l (bnd_pos _))⟩
    refine ⟨_, rfl, _, _, rfl, rfl, ⟨by decide, by decide⟩, (by show 2 ≤ sizeLine; decide), fun l hl => ?_⟩
    refine ⟨_, rfl, _, _, rfl, rfl, .inr ⟨_, rfl, ?_⟩⟩
    obtain ⟨v, hv, v0, v1⟩ : ∃ v : Int, atI [V.int 3, V.int 4] (if decide (4 < ((e + 1 : Nat) : Int)) = true then 1 else 0) = some (.int v) ∧ 0 < v ∧ v ≤ 4 := by
      by_cases h : 4 < ((e + 1 : Nat) : Int)
      · rw [if_pos (decide_eq_true h)]
        exact ⟨4, rfl, by decide, by decide⟩
      · rw [if_neg (by rw [decide_eq_false h]; decide)]
        exact ⟨3, rfl, by decide, by decide⟩
    refine ⟨l, _, _, .int v, rfl, rfl, SqL.of upd_same, hv, _, _, rfl, rfl, v0, ?_⟩
    have m0 := Int.emod_nonneg (n / 3) (show v ≠ 0 by omega)
    have m1 := Int.emod_lt_of_pos (n / 3) v0
    dsimp only
    generalize n / 3 % v = many at m0 m1
    refine ⟨_, rfl, many, rfl, by omega, by omega, fun p hp => ?_⟩
    have sl := same_new hl (HO.lst [V.int 3, V.int 4])
    obtain ⟨_, hp0⟩ := new_free hp
    refine comp_rng (fun i us H2 => ∃ ts : List Tr, Same H H2 ∧ H2 p = some (.lst us) ∧ Ats H2 ts us ∧ ts.length = i ∧ (∀ t ∈ ts, goodT e t = true ∧ (lineT t).length ≤ bnd e)) ⟨[], sl.trans (same_new hp _), upd_same, Ats.nil _, rfl, fun c h => by cases h⟩ ?_ ?_
    · rintro i us H2 hi ⟨ts, s2, e2, k2, lt, gt⟩
      have hi' : i < many.toNat := hi
      have lu := k2.len
      refine ttT ⟨_, rfl, _, rfl, n, 0 + (i : Int), rfl, by omega, by omega, fun z z0 z1 => ⟨_, rfl, _, _, rfl, rfl, z, ?_, z0, z1, fun x t H3 s3 hx g l => ⟨s3 _ _ e2, small (by omega), ts ++ [t], same_over (s2.trans s3) hp0 _, upd_same, ?_, by simp [lt], fun u hu => ?_⟩⟩⟩
      · show [V.int z, V.int (((e + 1 : Nat) : Int) - 1)] = [V.int z, V.int (e : Int)]
        rw [show (((e + 1 : Nat) : Int) - 1) = (e : Int) by omega]
      · have kt := keep_lst (b := us ++ [x]) (s3 _ _ e2)
        exact Ats.app (Ats.cons (At.keepT kt (good_nl g) hx) (Ats.nil _)) (Ats.keepT kt (nls_of fun u hu => good_nl (gt u hu).1) (k2.mono s3))
      · rcases List.mem_append.mp hu with m | m
        · exact gt u m
        · rw [List.mem_singleton.mp m]
          exact ⟨g, l⟩
    · rintro us H2 ⟨ts, s2, e2, k2, lt, gt⟩
      refine ⟨p, us, rfl, .inl ⟨SqL.of e2, fun tq htq => ?_⟩⟩
      have s3 := same_new htq (HO.tup us)
      refine q _ (.tup ts) _ (s2.trans s3) (At.mkT upd_same (k2.mono s3)) ?_ ?_
      · unfold goodT
        exact goods_of fun t ht => (gt t ht).1
      · have lb := lines_bnd (B := bnd e) ts fun t ht => (gt t ht).2
        have : ts.length * (bnd e + 1) ≤ 3 * (bnd e + 1) := Nat.mul_le_mul_right _ (by omega)
        unfold lineT bnd
        simp only [List.length_cons, List.length_append, List.length_nil]
        omega
end
end K86
set_option maxHeartbeats 4000000
namespace K86
open PySem L2
/-- the signs of a text that .. -/
theorem comp_flt {z : Str} {g : Nat → Bool} {p : Addr} {tt : TT} {te : TE} {cs : St} {Q : VK} {H : Hp} (hz : z.length ≤ 50100)
    (ht : ∀ c H' (A B : Hp → Prop), (if g c = true then A H' else B H') → tt (some (.str ⟨#[c]⟩) :: cs) H' (fun b H4 => if b = true then A H4 else B H4))
    (he : ∀ c H' (U : VK), U (.str ⟨#[c]⟩) H' → te (some (.str ⟨#[c]⟩) :: cs) H' U)
    (hd : Q (.ref p) (upd H p (.lst ((z.cps.toList.filter g).map fun c => V.str ⟨#[c]⟩)))) : CompW (Its z) p tt te cs Q H := by
  refine comp_by z.length (fun i ys H2 => ys = ((z.cps.toList.take i).filter g).map (fun c => V.str ⟨#[c]⟩) ∧ H2 = upd H p (.lst ys)) ⟨rfl, rfl⟩ ?_ ?_
  · rintro i ys H2 hi ⟨rfl, rfl⟩
    refine ⟨hi, ?_⟩
    rintro v H3 ⟨rfl, c', hc', rfl⟩
    have hc2 := codes_at hc'
    have et : (z.cps.toList.take (i + 1)).filter g = (z.cps.toList.take i).filter g ++ (if g c' = true then [c'] else []) := by
      rw [List.take_add_one, hc2, List.filter_append]
      congr 1
      cases e : g c' <;> simp [e]
    refine ht c' _ (fun H4 => te _ H4 _) _ ?_
    refine ite2 (fun hb => he c' _ _ ⟨upd_same, ?_, ?_, upd_upd⟩) (fun hb => ⟨?_, rfl⟩)
    · rw [List.length_map]
      have := List.length_filter_le g (z.cps.toList.take i)
      rw [List.length_take, codes_len] at this
      exact small (by omega)
    · rw [et, if_pos hb, List.map_append]
      rfl
    · rw [et, if_neg hb, List.append_nil]
  · rintro ys H2 ⟨rfl, rfl⟩
    have e : (z.cps.toList.take z.length) = z.cps.toList := List.take_of_length_le (by rw [codes_len]; exact Nat.le_refl _)
    rw [e]
    exact ⟨Nat.le_refl _, hd⟩
theorem filter_len {α : Type} (p : α → Bool) : ∀ l : List α, decide ((l.filter p).length = l.length) = l.all p
  | [] => rfl
  | x :: l => by
    have h := filter_len p l
    have le := List.length_filter_le p l
    rw [List.all_cons, ← h]
    cases e : p x with
    | true => rw [List.filter_cons_of_pos e, List.length_cons, List.length_cons, Bool.true_and]; exact decide_eq_decide.mpr (by omega)
    | false => rw [List.filter_cons_of_neg (by rw [e]; decide), List.length_cons, Bool.false_and]; exact decide_eq_false (by omega)
section
variable {P : Program} {w : World} {K : PySem.W.Frag} {mg : Str → Option Value} {base : Heap} {f fMix fL fP : Addr} {fd dMix dL dP : FuncData}
/-! ### _law_spoiled -/
def spoS : Str := Str.ofString "()',/0123456789abz -A"
theorem spo_at (i : Int) (h0 : 0 ≤ i) (h1 : i < 21) : ∃ c, atI spoS.cps.toList i = some c := by
  obtain ⟨j, rfl⟩ := Int.eq_ofNat_of_zero_le h0
  have hlen : spoS.cps.toList.length = 21 := by decide +kernel
  exact ⟨spoS.cps.toList[j]'(by omega), atI_nat (List.getElem?_eq_getElem (by omega))⟩
def spSpo : Sp := fun vs H Q _ => ∃ (z : Str) (n : Int), vs = [.str z, .int n] ∧ 0 ≤ n ∧ z.length ≤ 10000 ∧ ∀ u : Str, u.length ≤ 50100 → Q (.str u) H
theorem scSpo : FnScope ["_law_line_here", "_law_number", "_law_signs", "_law_way", "_law_at", "_law_sign", "_law_many"] ["_law_line_here", "_law_number"] (defScope sSpo) := ⟨rfl, rfl, rfl, by decide +kernel, rfl, by decide +kernel, by decide +kernel⟩
theorem ok_Spo (F : Fun K "_law_spoiled" "_law_spoiled" sSpo f fd) (T : Txt mg) : FnOk P w K mg base CX0 1 f fd ["_law_line_here", "_law_number"] spSpo := by
  refine F.ok scSpo (fun vs H Q E h => ?_) (fun cdv A outer s H vs Q E hr h => ?_)
  · obtain ⟨z, n, rfl, _⟩ := h
    rfl
  obtain ⟨z, n, rfl, n0, hz, q⟩ := h
  refine ⟨_, (pss_cons (ps_set (i := 2) scSpo.nd rfl (Or.inl rfl) pe_str)
    (pss_cons (ps_set (i := 3) scSpo.nd rfl (Or.inl rfl) (pe_op op_mod (pv 1) pe_int))
    (pss_cons (ps_set (i := 4) scSpo.nd rfl (Or.inl rfl) (pe_op op_mod (pe_op op_fdiv (pv 1) pe_int) (pe_op op_add (pe_callB call_len_str rfl T.len PySem.boot_len (pc (pv 0) pa_nil)) pe_int)))
    (pss_cons (ps_set (i := 5) scSpo.nd rfl (Or.inl rfl) (pe_ix ix_str (pv 2) (pe_op op_mod (pe_op op_fdiv (pv 1) pe_int) pe_int) (fun _ _ => rfl)))
    (pss_cons (ps_if (pt_cmpR op_eq (pv 3) pe_int (nomark _))
    (pss_one (ps_ret (pe_op op_add_str (pe_op op_add_str (pe_slice sl_str (pv 0) po_none (po_some (pv 4))) (pv 5)) (pe_slice sl_str (pv 0) (po_some (pe_op op_add (pv 4) pe_int)) po_none))))
    pss_nil)
    (pss_cons (ps_if (pt_cmpR op_eq (pv 3) pe_int (nomark _))
    (pss_one (ps_ret (pe_op op_add_str (pe_slice sl_str (pv 0) po_none (po_some (pv 4))) (pe_slice sl_str (pv 0) (po_some (pe_op op_add (pv 4) pe_int)) po_none))))
    pss_nil)
    (pss_cons (ps_if (pt_cmpR op_eq (pv 3) pe_int (nomark _))
    (pss_one (ps_ret (pe_op op_add_str (pe_op op_add_str (pe_slice sl_str (pv 0) po_none (po_some (pv 4))) (pv 5)) (pe_slice sl_str (pv 0) (po_some (pv 4)) po_none))))
    pss_nil)
    (pss_cons (ps_if (pt_cmpR op_eq (pv 3) pe_int (nomark _))
    (pss_one (ps_ret (pe_slice sl_str (pv 0) po_none (po_some (pv 4)))))
    pss_nil)
    (pss_cons (ps_if (pt_cmpR op_eq (pv 3) pe_int (nomark _))
    (pss_one (ps_ret (pe_op op_add_str (pe_op op_add_str (pe_slice sl_str (pv 0) po_none (po_some (pv 4))) (pe_slice sl_str (pv 0) (po_some (pv 4)) (po_some (pe_op op_add (pv 4) pe_int)))) (pe_slice sl_str (pv 0) (po_some (pv 4)) po_none))))
    pss_nil)
    (pss_cons (ps_set (i := 6) scSpo.nd rfl (Or.inl rfl) (pe_op op_add pe_int (pe_op op_mod (pe_op op_fdiv (pv 1) pe_int) pe_int)))
    (pss_one (ps_ret (pe_op op_add_str (pe_op op_add_str (pe_op op_mulS pe_str (pv 6)) (pv 0)) (pe_op op_mulS pe_str (pv 6))))))))))))))), ?_⟩
  have bz : z.length ≤ sizeLine := Nat.le_of_lt (small (by omega))
  have bs : ∀ k : Nat, k ≤ 60000 → k ≤ sizeLine := fun k h => Nat.le_of_lt (small (by omega))
  refine ⟨_, rfl, _, _, rfl, rfl, (by show (0 : Int) < 6; decide), ?_⟩
  refine ⟨_, rfl, _, _, rfl, rfl, ⟨by decide, by decide⟩, _, rfl, z, rfl, bz, _, _, rfl, rfl, _, _, rfl, rfl, (by show (0 : Int) < (z.length : Int) + 1; omega), ?_⟩
  refine ⟨_, rfl, _, rfl, _, _, rfl, rfl, ⟨by decide, by decide⟩, _, _, rfl, rfl, (by show (0 : Int) < 21; decide), ?_⟩
  obtain ⟨c, hc⟩ := spo_at (n / 600 % 21) (by omega) (by omega)
  dsimp only
  refine ⟨spoS, _, c, rfl, rfl, by decide +kernel, hc, ?_⟩
  generalize n / 6 % ((z.length : Int) + 1) = a
  generalize n % 6 = wy
  have l1 : (⟨#[c]⟩ : Str).length = 1 := rfl
  have sl : ∀ lo hi, (Txt.slice z lo hi).length ≤ 10000 := fun lo hi => Nat.le_trans (Txt.slice_le z lo hi) hz
  refine ⟨_, rfl, rfl, _, rfl, ite2 (fun _ => ?_) (fun _ => ?_)⟩
  · have s1 := sl none (some a)
    have s2 := sl (some (a + 1)) none
    refine ⟨_, rfl, _, rfl, _, rfl, z, rfl, bz, _, rfl, _, _, rfl, rfl, bs _ (by omega), _, rfl, _, rfl, _, _, rfl, rfl, _, rfl, z, rfl, bz, _, _, rfl, rfl, bs _ (by rw [Str.length_append]; omega), q _ ?_⟩
    rw [Str.length_append, Str.length_append]
    omega
  refine ⟨_, rfl, rfl, _, rfl, ite2 (fun _ => ?_) (fun _ => ?_)⟩
  · have s1 := sl none (some a)
    have s2 := sl (some (a + 1)) none
    refine ⟨_, rfl, _, rfl, _, rfl, z, rfl, bz, _, rfl, _, rfl, _, _, rfl, rfl, _, rfl, z, rfl, bz, _, _, rfl, rfl, bs _ (by omega), q _ ?_⟩
    rw [Str.length_append]
    omega
  refine ⟨_, rfl, rfl, _, rfl, ite2 (fun _ => ?_) (fun _ => ?_)⟩
  · have s1 := sl none (some a)
    have s2 := sl (some a) none
    refine ⟨_, rfl, _, rfl, _, rfl, z, rfl, bz, _, rfl, _, _, rfl, rfl, bs _ (by omega), _, rfl, _, rfl, _, rfl, z, rfl, bz, _, _, rfl, rfl, bs _ (by rw [Str.length_append]; omega), q _ ?_⟩
    rw [Str.length_append, Str.length_append]
    omega
  refine ⟨_, rfl, rfl, _, rfl, ite2 (fun _ => ?_) (fun _ => ?_)⟩
  · have s1 := sl none (some a)
    exact ⟨_, rfl, _, rfl, _, rfl, z, rfl, bz, q _ (by omega)⟩
  refine ⟨_, rfl, rfl, _, rfl, ite2 (fun _ => ?_) (fun _ => ?_)⟩
  · have s1 := sl none (some a)
    have s2 := sl (some a) none
    have s3 := sl (some a) (some (a + 1))
    refine ⟨_, rfl, _, rfl, _, rfl, z, rfl, bz, _, rfl, _, rfl, _, rfl, _, rfl, _, _, rfl, rfl, _, rfl, z, rfl, bz, _, _, rfl, rfl, bs _ (by omega), _, rfl, _, rfl, _, rfl, z, rfl, bz, _, _, rfl, rfl, bs _ (by rw [Str.length_append]; omega), q _ ?_⟩
    rw [Str.length_append, Str.length_append]
    omega
  have lo : (Str.ofString "(").length = 1 := by decide +kernel
  have lc : (Str.ofString ")").length = 1 := by decide +kernel
  refine ⟨_, rfl, _, _, rfl, rfl, ⟨by decide, by decide⟩, _, _, rfl, rfl, (by show (0 : Int) < 7; decide), _, _, rfl, rfl, ?_⟩
  have m0 : 1 ≤ 1 + n / 600 % 7 := by omega
  have m1 : 1 + n / 600 % 7 ≤ 7 := by omega
  dsimp only
  generalize 1 + n / 600 % 7 = many at m0 m1
  refine ⟨_, rfl, _, _, rfl, rfl, m0, by omega, lo, fun u hu => ⟨_, rfl, _, _, rfl, rfl, bs _ (by omega), _, rfl, _, _, rfl, rfl, m0, by omega, lc, fun u2 hu2 => ⟨_, _, rfl, rfl, bs _ (by rw [Str.length_append]; omega), q _ ?_⟩⟩⟩
  rw [Str.length_append, Str.length_append]
  omega
/-! ### _law_word -/
def wordV (w : Cs) : V := match wordP w with
  | some (.int n) => .int n
  | some (.str z) => .str z
  | _ => .non
def spWrd : Sp := fun vs H Q _ => ∃ z : Str, vs = [.str z] ∧ z.length ≤ 50100 ∧ ∀ H', Same H H' → Q (wordV z.cps.toList) H'
theorem word_num {w : Cs} (h : w.head? ≠ some 39) : wordV w = numV w := by
  have e : wordP w = (numOf w).map Tr.int := by
    unfold wordP
    split
    · exact absurd rfl h
    · rfl
  unfold wordV numV
  rw [e]
  cases numOf w <;> rfl
theorem scWrd : FnScope ["_law_word_here", "_law_good", "_law_figures"] ["_law_word_here"] (defScope sWrd) := ⟨rfl, rfl, rfl, by decide +kernel, rfl, by decide +kernel, by decide +kernel⟩
theorem ok_Wrd (F : Fun K "_law_word" "_law_word" sWrd f fd) (T : Txt mg) : FnOk P w K mg base CX0 1 f fd ["_law_word_here"] spWrd := by
  refine F.ok scWrd (fun vs H Q E h => ?_) (fun cdv A outer s H vs Q E hr h => ?_)
  · obtain ⟨z, rfl, _⟩ := h
    rfl
  obtain ⟨z, rfl, hz, q⟩ := h
  have hl : z.cps.toList.length = z.length := codes_len z
  have bz : z.length ≤ sizeLine := Nat.le_of_lt (small (by omega))
  refine ⟨_, (pss_cons (ps_if (pt_cmpR op_eq (pe_slice sl_str (pv 0) po_none (po_some pe_int)) pe_str (nomark _))
    (pss_cons (ps_setC1 (i := 1) scWrd.nd rfl rfl [] [] (pi_str (pe_slice sl_str (pv 0) (po_some pe_int) po_none)) (fun _ _ _ _ _ _ => (pts_one (pt_cmpR op_in_str (pv 0) pe_str rfl)))
          (fun _ _ _ _ _ _ => (pv 0))
          rfl (by decide +kernel) (by decide +kernel) rfl (by decide +kernel) (fun _ _ z => nomatch z) rfl (by decide +kernel) rfl)
    (pss_cons (ps_if (pt_cmpR op_eq (pe_callB call_len_seq rfl T.len PySem.boot_len (pc (pv 1) pa_nil)) (pe_op op_sub (pe_callB call_len_str rfl T.len PySem.boot_len (pc (pv 0) pa_nil)) pe_int) (nomark _))
    (pss_one (ps_ret (pe_slice sl_str (pv 0) (po_some pe_int) po_none)))
    pss_nil)
    (pss_one (ps_ret pe_non))))
    pss_nil)
    (pss_cons (ps_setC1 (i := 2) scWrd.nd rfl rfl [] [] (pi_str (pv 0)) (fun _ _ _ _ _ _ => (pts_one (pt_cmpR op_in_str (pv 0) pe_str rfl)))
          (fun _ _ _ _ _ _ => (pv 0))
          rfl (by decide +kernel) (by decide +kernel) rfl (by decide +kernel) (fun _ _ z => nomatch z) rfl (by decide +kernel) rfl)
    (pss_cons (ps_if (PW.pt (pw_or (pt_cmpR op_ne (pe_callB call_len_seq rfl T.len PySem.boot_len (pc (pv 2) pa_nil)) (pe_callB call_len_str rfl T.len PySem.boot_len (pc (pv 0) pa_nil)) (nomark _)) (pw_or (pt_not (pt_chain op_le op_le pe_int (pe_callB call_len_str rfl T.len PySem.boot_len (pc (pv 0) pa_nil)) pe_int)) (pw_or1 (PW.pt (pw_and (pt_cmpR op_eq (pe_ix ix_str (pv 0) pe_int (fun _ _ => rfl)) pe_str (nomark _)) (pw_and1 (pt_cmpR op_ne (pv 0) pe_str (nomark _)))))))))
    (pss_one (ps_ret pe_non))
    pss_nil)
    (pss_cons (ps_if (pt_cmpR op_gt (pe_callTy call_intF rfl T.int PyProof.Rows.boot_int (pc (pv 0) pa_nil)) pe_int (nomark _))
    (pss_one (ps_ret pe_non))
    pss_nil)
    (pss_one (ps_ret (pe_callTy call_intF rfl T.int PyProof.Rows.boot_int (pc (pv 0) pa_nil)))))))), ?_⟩
  refine ⟨_, rfl, _, rfl, z, rfl, bz, rfl, _, rfl, ?_⟩
  have e1 : Txt.slice z none (some 1) = txt (z.cps.toList.take 1) := str_ext (by
    rw [show (1 : Int) = ((1 : Nat) : Int) from rfl, slc_to, code_txt])
  rw [e1, one_is mark_txt]
  refine ite2 (fun c => ?_) (fun c => ?_)
  · have c' := of_decide_eq_true c
    obtain ⟨r, hr'⟩ : ∃ r, z.cps.toList = 39 :: r := by
      cases hc : z.cps.toList with
      | nil => rw [hc] at c'; cases c'
      | cons d r => rw [hc] at c'; injection c' with c'; exact ⟨r, by rw [c']⟩
    have z1 : 1 ≤ z.length := by
      rw [hr', List.length_cons] at hl
      omega
    have es : (Txt.slice z (some 1) none).cps.toList = r := by
      rw [show (1 : Int) = ((1 : Nat) : Int) from rfl, slc_from z1, hr']
      rfl
    have lr : r.length + 1 = z.length := by
      rw [← hl, hr', List.length_cons]
    have et : Txt.slice z (some 1) none = txt r := str_ext (by rw [es, code_txt])
    refine ⟨_, rfl, _, rfl, z, rfl, bz, _, rfl, fun p hp => comp_flt (g := sgnC) (Nat.le_trans (Txt.slice_le _ _ _) hz) (fun c H' A B h => ⟨_, rfl, _, _, rfl, rfl, _, rfl, ?_⟩) (fun c H' U h => ⟨_, rfl, h⟩) ?_⟩
    · have e := in_all c
      unfold allS at e
      dsimp only
      rw [e]
      exact h
    · rw [es]
      refine ⟨_, rfl, p, _, rfl, .inl (SqL.of upd_same), _, rfl, z, rfl, bz, _, _, rfl, rfl, rfl, _, rfl, ?_⟩
      have s2 := same_new hp (HO.lst ((r.filter sgnC).map fun c => V.str ⟨#[c]⟩))
      have q2 := q _ s2
      have ed : decide (V.int ((((r.filter sgnC).map fun c => V.str ⟨#[c]⟩).length : Nat) : Int) = V.int ((z.length : Int) - 1)) = r.all sgnC := by
        rw [← filter_len, List.length_map]
        refine decide_eq_decide.mpr ⟨fun h => ?_, fun h => ?_⟩
        · injection h with h
          omega
        · rw [h, show ((z.length : Int) - 1) = (r.length : Int) by omega]
      try dsimp only
      rw [ed]
      have ew : wordV z.cps.toList = if r.all sgnC = true then .str (txt r) else .non := by
        have e0 : wordP (39 :: r) = if r.all sgnC = true then some (.str (txt r)) else none := rfl
        unfold wordV
        rw [hr', e0]
        by_cases h : r.all sgnC = true
        · rw [if_pos h, if_pos h]
        · rw [if_neg h, if_neg h]
      rw [ew] at q2
      cases ha : r.all sgnC with
      | true =>
        rw [ha] at q2
        refine iteT ⟨_, rfl, _, rfl, z, rfl, bz, ?_⟩
        rw [et]
        exact q2
      | false =>
        rw [ha] at q2
        exact iteF q2
  · have c' : z.cps.toList.head? ≠ some 39 := fun e => c (decide_eq_true e)
    rw [word_num c'] at q
    refine ⟨_, rfl, z, rfl, fun p hp => comp_flt (g := figC) hz (fun c H' A B h => ⟨_, rfl, _, _, rfl, rfl, _, rfl, ?_⟩) (fun c H' U h => ⟨_, rfl, h⟩) ?_⟩
    · have e := in_fig c
      unfold figS at e
      dsimp only
      rw [e]
      exact h
    · refine ⟨_, rfl, p, _, rfl, .inl (SqL.of upd_same), _, rfl, z, rfl, bz, rfl, _, rfl, ?_⟩
      have q2 := q _ (same_new hp (HO.lst ((z.cps.toList.filter figC).map fun c => V.str ⟨#[c]⟩)))
      have ed : decide (V.int ((((z.cps.toList.filter figC).map fun c => V.str ⟨#[c]⟩).length : Nat) : Int) = V.int (z.length : Int)) = z.cps.toList.all figC := by
        rw [← filter_len, List.length_map, hl]
        refine decide_eq_decide.mpr ⟨fun h => ?_, fun h => by rw [h]⟩
        injection h with h
        omega
      try dsimp only
      rw [ed]
      cases ha : z.cps.toList.all figC with
      | false =>
        rw [num_no (fun h => absurd h.2.2.1 (by rw [ha]; decide))] at q2
        exact iteT q2
      | true =>
        refine iteF ⟨_, rfl, z, rfl, bz, _, _, rfl, rfl, _, rfl, ?_⟩
        refine ite2 (fun c1 => ?_) (fun c1 => ?_)
        · have c1' : (1 : Int) ≤ (z.length : Int) := of_decide_eq_true c1
          refine ⟨_, _, rfl, rfl, _, rfl, ?_⟩
          refine ite2 (fun d => ?_) (fun d => ?_)
          · have d1 : ¬ (z.length : Int) ≤ 10 := fun e => by rw [decide_eq_true e] at d; cases d
            rw [num_no (fun h => absurd h.2.1 (by omega))] at q2
            exact q2
          · have d1 : (z.length : Int) ≤ 10 := by
              by_cases e : (z.length : Int) ≤ 10
              · exact e
              · rw [decide_eq_false e] at d; exact absurd rfl d
            obtain ⟨c0, r0, e0⟩ : ∃ c r, z.cps.toList = c :: r := by
              cases hd : z.cps.toList with
              | nil => rw [hd] at hl; simp at hl; omega
              | cons c r => exact ⟨c, r, rfl⟩
            refine' (fun (fin : (z.cps.toList.head? = some 48 → z.cps.toList = [48]) → (_ : Prop)) => ?go) ?done
            case go =>
              refine ⟨_, rfl, _, _, c0, rfl, rfl, bz, atI_nat (j := 0) (by rw [e0]; rfl), rfl, _, rfl, ?_⟩
              rw [ch_eq zero_txt]
              refine ite2 (fun k => ?_) (fun k => ?_)
              · have k' : c0 = 48 := of_decide_eq_true k
                refine ⟨_, rfl, rfl, _, rfl, ?_⟩
                rw [str_is zero_txt]
                by_cases hw : z.cps.toList = [48]
                · rw [decide_eq_true hw]
                  refine iteF ?_
                  exact fin fun _ => hw
                · rw [decide_eq_false hw]
                  rw [num_no fun h => hw (h.2.2.2.1 (by rw [e0, k']; rfl))] at q2
                  exact iteT q2
              · have k' : c0 ≠ 48 := fun e => k (decide_eq_true e)
                refine iteF ?_
                exact fin fun h => by
                  rw [e0] at h
                  injection h with h
                  exact absurd h k'
            case done =>
              intro h48
              refine ⟨_, rfl, z, rfl, ha, by omega, by omega, _, _, rfl, rfl, _, rfl, ite2 (fun k => ?_) (fun k => ?_)⟩
              · have k' : (4294967295 : Int) < val z.cps.toList := of_decide_eq_true k
                rw [num_no fun h => absurd h.2.2.2.2 (by omega)] at q2
                exact q2
              · have k' : ¬ (4294967295 : Int) < val z.cps.toList := fun e => k (decide_eq_true e)
                rw [num_yes ⟨by omega, by omega, ha, h48, by omega⟩] at q2
                exact ⟨_, rfl, z, rfl, ha, by omega, by omega, q2⟩
        · have c1' : ¬ (1 : Int) ≤ (z.length : Int) := fun e => c1 (decide_eq_true e)
          rw [num_no (fun h => absurd h.1 (by omega))] at q2
          exact ⟨_, rfl, iteT q2⟩
/-! ### _law_closed -/
def spClo : Sp := fun vs H Q _ => ∃ (ps a b : Addr) (xs va vb : List V), vs = [.ref ps] ∧ H ps = some (.lst (xs ++ [.ref b] ++ [.ref a])) ∧ H a = some (.lst va) ∧ H b = some (.lst vb) ∧ a ≠ ps ∧ b ≠ ps ∧ vb.length ≤ 60000 ∧
  ∀ t, H t = none → Q .non (upd (upd (upd H ps (.lst (xs ++ [.ref b]))) t (.tup va)) b (.lst (vb ++ [.ref t])))
theorem scClo : FnScope ["_law_stack", "_law_part"] ["_law_stack"] (defScope sClo) := ⟨rfl, rfl, rfl, by decide +kernel, rfl, by decide +kernel, by decide +kernel⟩
theorem ok_Clo (F : Fun K "_law_closed" "_law_closed" sClo f fd) (T : Txt mg) : FnOk P w K mg base CX0 1 f fd ["_law_stack"] spClo := by
  refine F.ok scClo (fun vs H Q E h => ?_) (fun cdv A outer s H vs Q E hr h => ?_)
  · obtain ⟨ps, a, b, xs, va, vb, rfl, _⟩ := h
    rfl
  obtain ⟨ps, a, b, xs, va, vb, rfl, e1, ea, eb, na, nb, lb, q⟩ := h
  refine ⟨_, (pss_cons (ps_set (i := 1) scClo.nd rfl (Or.inl rfl) (pe_callTy call_tuple_of rfl T.tup PyProof.Rows.boot_tuple (pc (pe_bm0 PySem.F.plainAttrs_list PySem.F.slot_list_pop PySem.F.type_list_pop mt_pop (pv 0)) pa_nil)))
    (pss_one (ps_expr (pe_bm PySem.F.plainAttrs_list PySem.F.slot_list_append PySem.F.type_list_append mt_append (pe_ix ix_list (pv 0) (pe_un un_neg pe_int) (fun _ _ => rfl)) (pc (pv 1) pa_nil))))), ?_⟩
  refine ⟨_, rfl, .inl ⟨rfl, _, SqL.of e1⟩, ps, _, .ref a, rfl, rfl, e1, ?_, a, va, rfl, .inl ⟨SqL.of ?_, fun t ht => ?_⟩⟩
  · rw [List.getElem?_append_right (by simp)]
    simp
  · rw [upd_ne na]
    exact ea
  · rw [List.dropLast_concat] at ht ⊢
    obtain ⟨nt, ht0⟩ := new_free ht
    have nbt : b ≠ t := ne_of_none eb ht0
    refine ⟨_, rfl, _, rfl, ps, xs ++ [.ref b], -1, .ref b, rfl, rfl, SqL.of ?_, atI_last _ _, .inl ⟨rfl, vb, SqL.of ?_⟩, _, rfl, b, vb, _, rfl, rfl, ?_, small (by omega), q t ht0⟩
    · rw [upd_ne nt.symm, upd_same]
    · rw [upd_ne nbt, upd_ne nb]
      exact eb
    · rw [upd_ne nbt, upd_ne nb]
      exact eb
end
end K86
set_option maxHeartbeats 4000000
namespace K86
open PySem L2
/-! ### the law's stack: its top first -/
def Stk (H : Hp) (B : Nat) : List Addr → List (List Tr) → Prop
  | [], [] => True
  | a :: as, ts :: st => (∃ vs, H a = some (.lst vs) ∧ Ats H ts vs ∧ nls ts = true ∧ ts.length ≤ B) ∧ a ∉ as ∧ Stk H B as st
  | _, _ => False
theorem Stk.len {H : Hp} {B : Nat} : ∀ {as : List Addr} {st : List (List Tr)}, Stk H B as st → as.length = st.length
  | [], [], _ => rfl
  | a :: as, ts :: st, h => by
    unfold Stk at h
    rw [List.length_cons, List.length_cons, Stk.len h.2.2]
  | [], _ :: _, h => h.elim
  | _ :: _, [], h => h.elim
theorem Stk.keep {H H' : Hp} {B B' : Nat} (hB : B ≤ B') (k : ∀ q u, H q = some (.tup u) → H' q = some (.tup u)) : ∀ {as : List Addr} {st : List (List Tr)}, (∀ a ∈ as, ∀ vs, H a = some (.lst vs) → H' a = some (.lst vs)) → Stk H B as st → Stk H' B' as st
  | [], [], _, _ => True.intro
  | a :: as, ts :: st, l, h => by
    unfold Stk at h ⊢
    obtain ⟨⟨vs, e, kv, kn, lb⟩, na, h⟩ := h
    exact ⟨⟨vs, l a (List.mem_cons_self ..) vs e, Ats.keepT k kn kv, kn, by omega⟩, na, Stk.keep hB k (fun b hb => l b (List.mem_cons_of_mem _ hb)) h⟩
  | [], _ :: _, _, h => h.elim
  | _ :: _, [], _, h => h.elim
theorem Stk.mem {H : Hp} {B : Nat} : ∀ {as : List Addr} {st : List (List Tr)} {a : Addr}, Stk H B as st → a ∈ as → ∃ vs, H a = some (.lst vs)
  | b :: as, ts :: st, a, h, m => by
    unfold Stk at h
    obtain ⟨⟨vs, e, _⟩, _, h⟩ := h
    rcases List.mem_cons.mp m with rfl | m
    · exact ⟨vs, e⟩
    · exact Stk.mem h m
  | _ :: _, [], _, h, _ => h.elim
theorem Stk.one {H : Hp} {B : Nat} : ∀ {as : List Addr} {st : List (List Tr)}, Stk H B as st → as ≠ [] → ∃ a0 as' ts st', as = a0 :: as' ∧ st = ts :: st'
  | [], _, _, n => absurd rfl n
  | a :: as, ts :: st, _, _ => ⟨a, as, ts, st, rfl, rfl⟩
  | _ :: _, [], h, _ => h.elim
theorem Stk.two {H : Hp} {B : Nat} : ∀ {as : List Addr} {st : List (List Tr)}, Stk H B as st → 1 < st.length → ∃ a0 b0 as' ts us st', as = a0 :: b0 :: as' ∧ st = ts :: us :: st'
  | a :: b :: as, ts :: us :: st, _, _ => ⟨a, b, as, ts, us, st, rfl, rfl⟩
  | _, [], _, n => absurd n (by simp)
  | _, [_], _, n => absurd n (by simp)
  | [], _ :: _ :: _, h, _ => h.elim
  | [_], _ :: _ :: _, h, _ => by
    unfold Stk at h
    exact h.2.2.elim
/-- where the law's reader is -/
structure Rd (H : Hp) (z : Str) (ps : Addr) (n a : Nat) (as : List Addr) (st : List (List Tr)) (H2 : Hp) : Prop where
  al : a ≤ z.length
  ln : (z.cps.toList.drop a).length ≤ n
  e : H2 ps = some (.lst (as.reverse.map V.ref))
  s : Stk H2 a as st
  ne : as ≠ []
  np : ps ∉ as
  new : ∀ b ∈ as, H b = none
  sm : Same H H2
  l8 : as.length ≤ 8
theorem mach_fin {n : Nat} {st : List (List Tr)} {due : Bool} {cs : Cs} (h : cs = [] ∨ ¬ st.length < 8) : mach n st due cs = fin st due := by
  match n, cs, h with
  | 0, _, _ => unfold mach; rfl
  | n + 1, [], _ => unfold mach; rfl
  | n + 1, c :: r, .inr h => unfold mach; rw [if_pos h]
  | n + 1, c :: r, .inl h => cases h
theorem word_cases (w : Cs) : (wordP w = none ∧ wordV w = .non) ∨ ∃ t, wordP w = some t ∧ (∀ H, At H t (wordV w)) ∧ wordV w ≠ .non ∧ nl t = true := by
  unfold wordV
  cases h : wordP w with
  | none => exact .inl ⟨rfl, rfl⟩
  | some t =>
    have : (∃ n, t = .int n) ∨ ∃ s, t = .str s := by
      unfold wordP at h
      split at h
      · split at h
        · cases h; exact .inr ⟨_, rfl⟩
        · cases h
      · cases hn : numOf w with
        | none => rw [hn] at h; cases h
        | some n => rw [hn] at h; cases h; exact .inl ⟨n, rfl⟩
    rcases this with ⟨n, rfl⟩ | ⟨s, rfl⟩
    · exact .inr ⟨_, rfl, fun H => At.int n, (by intro z; cases z), rfl⟩
    · exact .inr ⟨_, rfl, fun H => At.str s, (by intro z; cases z), rfl⟩
theorem word_len {w : Cs} {t : Tr} (h : wordP w = some t) : 1 ≤ w.length := by
  cases w with
  | nil => cases h
  | cons c r => simp
section
variable {P : Program} {w : World} {K : PySem.W.Frag} {mg : Str → Option Value} {base : Heap} {f fW fC : Addr} {fd dW dC : FuncData}
def spRea : Sp := fun vs H Q _ => ∃ z : Str, vs = [.str z] ∧ z.length ≤ 50100 ∧ ∀ p H' xs, Same H H' → H' p = some (.lst xs) → Ats H' (mach z.length [[]] true z.cps.toList) xs → Q (.ref p) H'
theorem scRea : FnScope ["_law_line_here", "_law_stack", "_law_at", "_law_due", "_law_end", "_law_word_here"] ["_law_line_here"] (defScope sRea) := ⟨rfl, rfl, rfl, by decide +kernel, rfl, by decide +kernel, by decide +kernel⟩
theorem ok_Rea (F : Fun K "_law_read" "_law_read" sRea f fd) (hWrd : Has K mg "_law_word" sWrd ["_law_word_here"] fW dW) (GWrd : FnOk P w K mg base CX0 1 fW dW ["_law_word_here"] spWrd) (hClo : Has K mg "_law_closed" sClo ["_law_stack"] fC dC) (GClo : FnOk P w K mg base CX0 1 fC dC ["_law_stack"] spClo) (T : Txt mg) :
    FnOk P w K mg base CX0 2 f fd ["_law_line_here"] spRea := by
  refine F.ok scRea (fun vs H Q E h => ?_) (fun cdv A outer s H vs Q E hr h => ?_)
  · obtain ⟨z, rfl, _⟩ := h
    rfl
  obtain ⟨z, rfl, hz, q⟩ := h
  have hl : z.cps.toList.length = z.length := codes_len z
  have bz : z.length ≤ sizeLine := Nat.le_of_lt (small (by omega))
  refine ⟨_, (pss_cons (ps_set (i := 1) scRea.nd rfl (Or.inl rfl) (pe_lst (pc (pe_lst pa_nil) pa_nil)))
    (pss_cons (ps_set (i := 2) scRea.nd rfl (Or.inl rfl) pe_int)
    (pss_cons (ps_set (i := 3) scRea.nd rfl (Or.inl rfl) pe_bl)
    (pss_cons (ps_while PassesOwn.never (PW.pt (pw_and (pt_cmpR op_lt (pv 2) (pe_callB call_len_str rfl T.len PySem.boot_len (pc (pv 0) pa_nil)) (nomark _)) (pw_and1 (pt_cmpR op_lt (pe_callB call_len_seq rfl T.len PySem.boot_len (pc (pv 1) pa_nil)) pe_int (nomark _)))))
    (pss_one (ps_if (PW.pt (pw_and (pt_val (pv 3)) (pw_and1 (pt_cmpR op_eq (pe_ix ix_str (pv 0) (pv 2) (fun _ _ => rfl)) pe_str (nomark _)))))
    (pss_cons (ps_expr (pe_bm PySem.F.plainAttrs_list PySem.F.slot_list_append PySem.F.type_list_append mt_append (pv 1) (pc (pe_lst pa_nil) pa_nil)))
    (pss_cons (ps_set (i := 3) scRea.nd rfl (Or.inl rfl) (pe_cmpR op_ne (pe_slice sl_str (pv 0) (po_some (pe_op op_add (pv 2) pe_int)) (po_some (pe_op op_add (pv 2) pe_int))) pe_str (nomark _)))
    (pss_one (ps_set (i := 2) scRea.nd rfl (Or.inl rfl) (pe_op op_add (pv 2) pe_int)))))
    (pss_one (ps_if (pt_val (pv 3))
    (pss_cons (ps_set (i := 4) scRea.nd rfl (Or.inl rfl) (pv 2))
    (pss_cons (ps_while PassesOwn.never (PW.pt (pw_and (pt_cmpR op_lt (pv 4) (pe_callB call_len_str rfl T.len PySem.boot_len (pc (pv 0) pa_nil)) (nomark _)) (pw_and1 (pt_cmpR op_notIn_str (pe_ix ix_str (pv 0) (pv 4) (fun _ _ => rfl)) pe_str rfl))))
    (pss_one (ps_set (i := 4) scRea.nd rfl (Or.inl rfl) (pe_op op_add (pv 4) pe_int))))
    (pss_cons (ps_set (i := 5) scRea.nd rfl (Or.inl rfl) (pe_call GWrd (hr.mono (by decide)) rfl hWrd.nm hWrd.fn.kp hWrd.bd .nil pass0 (pc (pe_slice sl_str (pv 0) (po_some (pv 2)) (po_some (pv 4))) pa_nil)))
    (pss_cons (ps_if (pt_cmpR op_isN (pv 5) pe_non (nomark _))
    (pss_one (ps_ret (pe_lst pa_nil)))
    pss_nil)
    (pss_cons (ps_expr (pe_bm PySem.F.plainAttrs_list PySem.F.slot_list_append PySem.F.type_list_append mt_append (pe_ix ix_list (pv 1) (pe_un un_neg pe_int) (fun _ _ => rfl)) (pc (pv 5) pa_nil)))
    (pss_cons (ps_set (i := 3) scRea.nd rfl (Or.inl rfl) pe_bl)
    (pss_one (ps_set (i := 2) scRea.nd rfl (Or.inl rfl) (pv 4)))))))))
    (pss_one (ps_if (PW.pt (pw_and (pt_cmpR op_gt (pe_callB call_len_seq rfl T.len PySem.boot_len (pc (pv 1) pa_nil)) pe_int (nomark _)) (pw_and1 (pt_cmpR op_eq (pe_ix ix_str (pv 0) (pv 2) (fun _ _ => rfl)) pe_str (nomark _)))))
    (pss_cons (ps_expr (pe_call GClo (hr.mono (by decide)) rfl hClo.nm hClo.fn.kp hClo.bd .nil pass0 (pc (pv 1) pa_nil)))
    (pss_one (ps_set (i := 2) scRea.nd rfl (Or.inl rfl) (pe_op op_add (pv 2) pe_int))))
    (pss_one (ps_if (PW.pt (pw_and (pt_cmpR op_gt (pe_callB call_len_seq rfl T.len PySem.boot_len (pc (pv 1) pa_nil)) pe_int (nomark _)) (pw_and1 (pt_cmpR op_eq (pe_ix ix_str (pv 0) (pv 2) (fun _ _ => rfl)) pe_str (nomark _)))))
    (pss_cons (ps_set (i := 3) scRea.nd rfl (Or.inl rfl) pe_bl)
    (pss_one (ps_set (i := 2) scRea.nd rfl (Or.inl rfl) (pe_op op_add (pv 2) pe_int))))
    (pss_one (ps_ret (pe_lst pa_nil))))))))))))
    (pss_cons (ps_if (PW.pt (pw_or (pt_val (pv 3)) (pw_or1 (pt_cmpR op_gt (pe_callB call_len_seq rfl T.len PySem.boot_len (pc (pv 1) pa_nil)) pe_int (nomark _)))))
    (pss_one (ps_ret (pe_lst pa_nil)))
    pss_nil)
    (pss_one (ps_ret (pe_ix ix_list (pv 1) pe_int (fun _ _ => rfl))))))))), ?_⟩
  refine ⟨(by show 0 ≤ sizeLine; decide), fun p0 hp0 => ⟨(by show 1 ≤ sizeLine; decide), fun ps hps => ?_⟩⟩
  obtain ⟨n0, hps0⟩ := new_free hps
  refine ⟨fun m σ H2 => ∃ (a : Nat) (as : List Addr) (st : List (List Tr)) (due : Bool) (o1 o2 : Option V), σ = [some (.str z), some (.ref ps), some (.int (a : Int)), some (.bl due), o1, o2] ∧ mach m st due (z.cps.toList.drop a) = mach z.length [[]] true z.cps.toList ∧ Rd H z ps m a as st H2,
    ⟨z.length, 0, [p0], [[]], true, none, none, rfl, rfl, ⟨Nat.zero_le _, by rw [List.drop_zero]; omega, ?_, ?_, by simp, by simpa using n0, ?_, (same_new hp0 _).trans (same_new hps _), by simp⟩⟩, ?_⟩
  · rw [upd_same]
    rfl
  · unfold Stk
    refine ⟨⟨[], ?_, Ats.nil _, rfl, Nat.zero_le _⟩, by simp, True.intro⟩
    rw [upd_ne n0.symm, upd_same]
  · intro b hb
    rw [List.mem_singleton.mp hb]
    exact hp0
  generalize mach z.length [[]] true z.cps.toList = R at q
  rintro m σ H2 ⟨a, as, st, due, o1, o2, rfl, eR, I⟩
  have ls := I.s.len
  -- behind the loop
  refine' (fun (fin' : (z.cps.toList.drop a = [] ∨ ¬ st.length < 8) → (_ : Prop)) => ?go) ?done
  case go =>
    refine ⟨_, rfl, _, rfl, z, rfl, bz, _, _, rfl, rfl, _, rfl, ite2 (fun c1 => ?_) (fun c1 => ?_)⟩
    · have c1' : (a : Int) < (z.length : Int) := of_decide_eq_true c1
      refine ⟨_, rfl, ps, _, rfl, .inl (SqL.of I.e), _, _, rfl, rfl, _, rfl, ite2 (fun c2 => ?_) (fun c2 => ?_)⟩
      · have c2' : (((as.reverse.map V.ref).length : Nat) : Int) < 8 := of_decide_eq_true c2
        rw [List.length_map, List.length_reverse] at c2'
        have hk : a < z.cps.toList.length := by omega
        obtain ⟨c, ec⟩ : ∃ c, z.cps.toList[a]? = some c := ⟨_, List.getElem?_eq_getElem hk⟩
        obtain ⟨r, er⟩ : ∃ r, z.cps.toList.drop a = c :: r := by
          refine ⟨z.cps.toList.drop (a + 1), ?_⟩
          rw [List.drop_eq_getElem_cons hk]
          congr 1
          rw [List.getElem?_eq_getElem hk] at ec
          injection ec
        have er1 : z.cps.toList.drop (a + 1) = r := by
          rw [← List.drop_drop, er]
          rfl
        have lr : r.length + 1 = z.length - a := by
          have := congrArg List.length er
          rw [List.length_drop, hl, List.length_cons] at this
          omega
        obtain ⟨n, rfl⟩ : ∃ n, m = n + 1 := by
          have := I.ln
          rw [er, List.length_cons] at this
          exact ⟨m - 1, by omega⟩
        have ln : r.length ≤ n := by
          have := I.ln
          rw [er, List.length_cons] at this
          omega
        have ix : atI z.cps.toList (a : Int) = some c := atI_nat ec
        have st8 : st.length < 8 := by omega
        rw [er] at eR
        unfold mach at eR
        rw [if_neg (fun z => z st8)] at eR
        have nil_q : ∀ {H3 : Hp}, Same H H3 → R = [] → tRet (tLst tNil) { nx := fun _ _ => False, rt := Q } [] H3 := fun {H3} s3 e => ⟨(by show 0 ≤ sizeLine; decide), fun p hp => q p _ [] (s3.trans (same_new hp _)) upd_same (by rw [e]; exact Ats.nil _)⟩
        refine ⟨_, fun σ' H' h => h, ?_⟩
        cases due with
        | true =>
          refine ⟨_, rfl, true, rfl, iteT ⟨_, rfl, _, rfl, _, _, c, rfl, rfl, bz, ix, rfl, _, rfl, ?_⟩⟩
          rw [ch_eq open_txt]
          refine ite2 (fun k => ?_) (fun k => ?_)
          · -- a tuple begins
            have k' : c = 40 := of_decide_eq_true k
            rw [if_pos ⟨rfl, k'⟩] at eR
            refine ⟨_, rfl, .inl ⟨rfl, _, SqL.of I.e⟩, (by show 0 ≤ sizeLine; decide), fun p hp => ⟨ps, as.reverse.map V.ref, _, rfl, rfl, ?_, small (by rw [List.length_map, List.length_reverse]; omega), ?_⟩⟩
            · rw [upd_ne (ne_of_none I.e hp)]
              exact I.e
            refine ⟨_, rfl, _, rfl, _, _, rfl, rfl, _, rfl, _, rfl, _, _, rfl, rfl, _, rfl, z, rfl, bz, rfl, ?_⟩
            have es : decide (V.str (Txt.slice z (some ((a : Int) + 1)) (some ((a : Int) + 2))) = V.str (Str.ofString ")")) = decide (r.head? = some 41) := by
              have := sgn_at (z := z) (a := a + 1) (c := 41) (by omega) shut_txt
              rw [er1] at this
              exact this
            refine ⟨_, rfl, _, _, rfl, rfl, ?_⟩
            rw [es]
            have npa : p ∉ as := fun h => by
              obtain ⟨vs, e⟩ := I.s.mem h
              rw [hp] at e
              cases e
            have pps : p ≠ ps := (ne_of_none I.e hp).symm
            refine ⟨n, by omega, a + 1, p :: as, [] :: st, !decide (r.head? = some 41), _, _, rfl, ?_, ⟨by omega, by rw [er1]; exact ln, ?_, ?_, by simp, ?_, ?_, ?_, by rw [List.length_cons]; omega⟩⟩
            · rw [er1, ← eR]
              congr 1
              rw [decide_not]
            · rw [upd_same, List.reverse_cons, List.map_append]
              rfl
            · unfold Stk
              refine ⟨⟨[], ?_, Ats.nil _, rfl, Nat.zero_le _⟩, npa, ?_⟩
              · rw [upd_ne pps, upd_same]
              · refine I.s.keep (by omega) (fun q u e => ?_) (fun b hb vs e => ?_)
                · rw [upd_ne (fun z => by rw [z, I.e] at e; cases e), upd_ne (ne_of_none e hp)]
                  exact e
                · rw [upd_ne (fun z => I.np (by rw [← z]; exact hb)), upd_ne (ne_of_none e hp)]
                  exact e
            · intro h
              rcases List.mem_cons.mp h with h | h
              · exact pps h.symm
              · exact I.np h
            · intro b hb
              rcases List.mem_cons.mp hb with h | h
              · rw [h]
                exact I.sm.free hp
              · exact I.new b h
            · exact same_over (I.sm.trans (same_new hp _)) hps0 _
          · -- a word
            have k' : c ≠ 40 := fun e => k (decide_eq_true e)
            rw [if_neg (fun z => k' z.2), if_pos rfl] at eR
            refine ⟨_, rfl, true, rfl, iteT ?_⟩
            obtain ⟨L, eL⟩ : ∃ L, L = ((z.cps.toList.drop a).takeWhile nd).length := ⟨_, rfl⟩
            have tl := tw_len (p := nd) (z.cps.toList.drop a)
            rw [List.length_drop, hl, ← eL] at tl
            refine ⟨_, rfl, fun m' σ H3 => ∃ j, j ≤ L ∧ m' = L - j ∧ σ = [some (.str z), some (.ref ps), some (.int (a : Int)), some (.bl true), some (.int ((a + j : Nat) : Int)), o2] ∧ H3 = H2, ⟨L, 0, Nat.zero_le _, rfl, rfl, rfl⟩, ?_⟩
            rintro m' σ H3 ⟨j, hj, rfl, rfl, rfl⟩
            have more := tw_more (p := nd) (cs := z.cps.toList) (a := a) (j := j) (by omega)
            rw [← eL] at more
            refine' (fun (fin2 : ¬ j < L → (_ : Prop)) => ?go2) ?done2
            case go2 =>
              refine ⟨_, rfl, _, rfl, z, rfl, bz, _, _, rfl, rfl, _, rfl, ite2 (fun d1 => ?_) (fun d1 => ?_)⟩
              · have d1' : ((a + j : Nat) : Int) < (z.length : Int) := of_decide_eq_true d1
                have hk : a + j < z.cps.toList.length := by omega
                obtain ⟨d, ed⟩ : ∃ d, z.cps.toList[a + j]? = some d := ⟨_, List.getElem?_eq_getElem hk⟩
                refine ⟨_, rfl, _, rfl, _, _, d, rfl, rfl, bz, atI_nat ed, _, _, rfl, rfl, _, rfl, ?_⟩
                have ip := in_par d
                unfold parS at ip
                rw [ip, Bool.not_not]
                have mc := more.1 d ed
                refine ite2 (fun d2 => ?_) (fun d2 => ?_)
                · have lt := mc.mp d2
                  exact ⟨_, fun σ' H' h => ⟨L - (j + 1), by omega, h⟩, _, rfl, _, _, rfl, rfl, j + 1, by omega, rfl, rfl, rfl⟩
                · exact fin2 fun z => d2 (mc.mpr z)
              · have d1' : ¬ ((a + j : Nat) : Int) < (z.length : Int) := fun e => d1 (decide_eq_true e)
                refine iteF ?_
                exact fin2 (more.2 (List.getElem?_eq_none (by omega)))
            case done2 =>
              intro nj
              have ej : j = L := by omega
              subst ej
              refine ⟨_, rfl, _, rfl, _, rfl, _, rfl, _, rfl, z, rfl, bz, _, rfl, Nat.le_trans (Txt.slice_le _ _ _) hz, fun H4 s4 => ?_⟩
              have es : (Txt.slice z (some (a : Int)) (some ((a + j : Nat) : Int))).cps.toList = (z.cps.toList.drop a).takeWhile nd := by
                rw [slc I.al (by omega), show a + j - a = j by omega, eL]
                exact (tw_take _).1
              rw [es]
              rw [← er] at eR
              rcases word_cases ((z.cps.toList.drop a).takeWhile nd) with ⟨w1, w2⟩ | ⟨t, w1, w2, w3, w4⟩
              · rw [w1] at eR
                rw [w2]
                exact ⟨_, rfl, rfl, _, rfl, iteT ⟨(by show 0 ≤ sizeLine; decide), fun p hp => q p _ [] ((I.sm.trans s4).trans (same_new hp _)) upd_same (by rw [← eR]; exact Ats.nil _)⟩⟩
              · rw [w1] at eR
                dsimp only at eR
                have wl := word_len w1
                rw [← eL] at wl
                refine ⟨_, rfl, rfl, _, rfl, ?_⟩
                rw [decide_eq_false w3]
                refine iteF ?_
                obtain ⟨al, ln', e, S, ne, np, new, sm, l8⟩ := I
                obtain ⟨a0, as, ts, st, rfl, rfl⟩ := S.one ne
                unfold Stk at S
                obtain ⟨⟨vs, e0, kv, kn, lb⟩, na, S⟩ := S
                have e0' := s4 _ _ e0
                have e' := s4 _ _ e
                have lv := kv.len
                have n0 : a0 ≠ ps := fun z => np (by rw [z]; exact List.mem_cons_self ..)
                have hlast : atI ((a0 :: as).reverse.map V.ref) (-1) = some (V.ref a0) := by
                  rw [List.reverse_cons, List.map_append]
                  exact atI_last _ _
                refine ⟨_, rfl, _, rfl, ps, (a0 :: as).reverse.map V.ref, -1, .ref a0, rfl, rfl, SqL.of e', hlast, .inl ⟨rfl, vs, SqL.of e0'⟩, _, rfl, a0, vs, _, rfl, rfl, e0', small (by omega), ?_⟩
                refine ⟨_, rfl, n, by omega, a + j, a0 :: as, (ts ++ [t]) :: st, false, _, _, rfl, ?_, ⟨by omega, ?_, ?_, ?_, by simp, np, new, ?_, l8⟩⟩
                · rw [← eR, ← List.drop_drop, eL, (tw_take _).2]
                  rfl
                · rw [List.length_drop, hl]
                  omega
                · rw [upd_ne n0.symm]
                  exact e'
                · have kt := keep_lst (b := vs ++ [wordV ((z.cps.toList.drop a).takeWhile nd)]) e0'
                  have kt2 : ∀ q u, H3 q = some (.tup u) → upd H4 a0 (.lst (vs ++ [wordV ((z.cps.toList.drop a).takeWhile nd)])) q = some (.tup u) := fun q u e => kt q u (s4 _ _ e)
                  have kn2 : nls (ts ++ [t]) = true := nls_app kn (by unfold nls; rw [w4]; rfl)
                  unfold Stk
                  refine ⟨⟨_, upd_same, ?_, kn2, by rw [List.length_append]; show ts.length + 1 ≤ _; omega⟩, na, S.keep (by omega) kt2 fun b hb vs' e => ?_⟩
                  · exact Ats.keepT kt kn2 (Ats.app (Ats.cons (w2 _) (Ats.nil _)) (kv.mono s4))
                  · rw [upd_ne (fun z => na (by rw [← z]; exact hb))]
                    exact s4 _ _ e
                · exact same_over (sm.trans s4) (new a0 (List.mem_cons_self ..)) _
        | false =>
          rw [if_neg (fun z => by cases z.1), if_neg (fun z => by cases z)] at eR
          refine ⟨_, rfl, false, rfl, iteF (iteF ⟨_, rfl, false, rfl, iteF ?_⟩)⟩
          have ll : ((as.reverse.map V.ref).length : Nat) = st.length := by rw [List.length_map, List.length_reverse, ls]
          refine ⟨_, rfl, ps, _, rfl, .inl (SqL.of I.e), _, _, rfl, rfl, _, rfl, ?_⟩
          rw [ll]
          refine ite2 (fun k1 => ?_) (fun k1 => ?_)
          · have k1' : (1 : Int) < (st.length : Int) := of_decide_eq_true k1
            refine ⟨_, rfl, _, rfl, _, _, c, rfl, rfl, bz, ix, rfl, _, rfl, ?_⟩
            rw [ch_eq shut_txt]
            refine ite2 (fun k2 => ?_) (fun k2 => ?_)
            · -- a tuple ends
              have k2' : c = 41 := of_decide_eq_true k2
              rw [if_pos ⟨by omega, k2'⟩] at eR
              obtain ⟨al, ln', e, S, ne, np, new, sm, l8⟩ := I
              obtain ⟨a0, b0, as, ts, us, st, rfl, rfl⟩ := S.two (by omega)
              unfold Stk at S
              obtain ⟨⟨va, ea, ka, kna, la⟩, na, S⟩ := S
              unfold Stk at S
              obtain ⟨⟨vb, eb, kb, knb, lb⟩, nb, S⟩ := S
              have lvb := kb.len
              have e2 : H2 ps = some (.lst (as.reverse.map V.ref ++ [.ref b0] ++ [.ref a0])) := by
                rw [e, List.reverse_cons, List.reverse_cons, List.map_append, List.map_append]
                rfl
              have na0 : a0 ≠ ps := fun z => np (by rw [z]; exact List.mem_cons_self ..)
              have nb0 : b0 ≠ ps := fun z => np (by rw [z]; exact List.mem_cons_of_mem _ (List.mem_cons_self ..))
              refine ⟨_, rfl, ps, a0, b0, as.reverse.map V.ref, va, vb, rfl, e2, ea, eb, na0, nb0, by omega, fun t ht => ?_⟩
              have nbt : b0 ≠ t := ne_of_none eb ht
              have npt : ps ≠ t := ne_of_none e ht
              refine ⟨_, rfl, _, _, rfl, rfl, n, by omega, a + 1, b0 :: as, (us ++ [.tup ts]) :: st, false, _, _, rfl, ?_, ⟨by omega, by rw [er1]; exact ln, ?_, ?_, by simp, fun h => np (List.mem_cons_of_mem _ h), fun b hb => new b (List.mem_cons_of_mem _ hb), ?_, by simp only [List.length_cons] at l8 ⊢; omega⟩⟩
              · rw [er1]
                exact eR
              · rw [upd_ne nb0.symm, upd_ne npt, upd_same, List.reverse_cons, List.map_append]
                rfl
              · have s1 : ∀ q u, H2 q = some (.tup u) → upd (upd H2 ps (.lst (as.reverse.map V.ref ++ [.ref b0]))) t (.tup va) q = some (.tup u) := fun q u eq => by
                  rw [upd_ne (ne_of_none eq ht), upd_ne (fun z => by rw [z, e] at eq; cases eq)]
                  exact eq
                have eb' : upd (upd H2 ps (.lst (as.reverse.map V.ref ++ [.ref b0]))) t (.tup va) b0 = some (.lst vb) := by
                  rw [upd_ne nbt, upd_ne nb0]
                  exact eb
                have s2 := keep_lst (b := vb ++ [.ref t]) eb'
                have kt : nl (.tup ts) = true := by unfold nl; exact kna
                have kn2 : nls (us ++ [.tup ts]) = true := nls_app knb (by unfold nls; rw [kt]; rfl)
                unfold Stk
                refine ⟨⟨_, upd_same, ?_, kn2, by rw [List.length_append]; show us.length + 1 ≤ _; omega⟩, nb, S.keep (by omega) (fun q u eq => s2 q u (s1 q u eq)) fun b hb vs' eq => ?_⟩
                · refine Ats.keepT s2 kn2 (Ats.app (Ats.cons (At.mkT (vs := va) upd_same (Ats.keepT s1 kna ka)) (Ats.nil _)) (Ats.keepT s1 knb kb))
                · rw [upd_ne (fun z => nb (by rw [← z]; exact hb)), upd_ne (ne_of_none eq ht), upd_ne (fun z => np (by rw [← z]; exact List.mem_cons_of_mem _ (List.mem_cons_of_mem _ hb)))]
                  exact eq
              · exact same_over (same_over (same_over sm hps0 _) (sm.free ht) _) (new b0 (List.mem_cons_of_mem _ (List.mem_cons_self ..))) _
            · have k2' : c ≠ 41 := fun e => k2 (decide_eq_true e)
              rw [if_neg (fun z => k2' z.2)] at eR
              refine ⟨_, rfl, ps, _, rfl, .inl (SqL.of I.e), _, _, rfl, rfl, _, rfl, ?_⟩
              rw [ll]
              refine ite2 (fun _ => ?_) (fun z => absurd k1 z)
              refine ⟨_, rfl, _, rfl, _, _, c, rfl, rfl, bz, ix, rfl, _, rfl, ?_⟩
              rw [ch_eq comma_txt]
              refine ite2 (fun k3 => ?_) (fun k3 => ?_)
              · have k3' : c = 44 := of_decide_eq_true k3
                rw [if_pos ⟨by omega, k3'⟩] at eR
                refine ⟨_, rfl, _, _, rfl, rfl, n, by omega, a + 1, as, st, true, _, _, rfl, ?_, ⟨by omega, by rw [er1]; exact ln, I.e, I.s.keep (by omega) (fun q u e => e) (fun b hb vs e => e), I.ne, I.np, I.new, I.sm, I.l8⟩⟩
                rw [er1]
                exact eR
              · have k3' : c ≠ 44 := fun e => k3 (decide_eq_true e)
                rw [if_neg (fun z => k3' z.2)] at eR
                exact ⟨(by show 0 ≤ sizeLine; decide), fun p hp => q p _ [] (I.sm.trans (same_new hp _)) upd_same (by rw [← eR]; exact Ats.nil _)⟩
          · have k1' : ¬ (1 : Int) < (st.length : Int) := fun e => k1 (decide_eq_true e)
            rw [if_neg (fun z => absurd z.1 (by omega)), if_neg (fun z => absurd z.1 (by omega))] at eR
            refine iteF ⟨_, rfl, ps, _, rfl, .inl (SqL.of I.e), _, _, rfl, rfl, _, rfl, ?_⟩
            rw [ll]
            refine ite2 (fun z => absurd z k1) (fun _ => iteF ?_)
            exact ⟨(by show 0 ≤ sizeLine; decide), fun p hp => q p _ [] (I.sm.trans (same_new hp _)) upd_same (by rw [← eR]; exact Ats.nil _)⟩
      · have c2' : ¬ (((as.reverse.map V.ref).length : Nat) : Int) < 8 := fun e => c2 (decide_eq_true e)
        rw [List.length_map, List.length_reverse] at c2'
        exact fin' (.inr (by omega))
    · have c1' : ¬ (a : Int) < (z.length : Int) := fun e => c1 (decide_eq_true e)
      refine iteF ?_
      exact fin' (.inl (List.drop_eq_nil_of_le (by omega)))
  case done =>
    intro hf
    rw [mach_fin hf] at eR
    have ll : ((as.reverse.map V.ref).length : Nat) = st.length := by rw [List.length_map, List.length_reverse, ls]
    unfold fin at eR
    refine ⟨_, rfl, due, rfl, ite2 (fun k => ?_) (fun k => ?_)⟩
    · rw [if_pos (.inl k)] at eR
      exact ⟨(by show 0 ≤ sizeLine; decide), fun p hp => q p _ [] (I.sm.trans (same_new hp _)) upd_same (by rw [← eR]; exact Ats.nil _)⟩
    refine ⟨_, rfl, ps, _, rfl, .inl (SqL.of I.e), _, _, rfl, rfl, _, rfl, ?_⟩
    rw [ll]
    refine ite2 (fun k1 => ?_) (fun k1 => ?_)
    · have k1' : (1 : Int) < (st.length : Int) := of_decide_eq_true k1
      rw [if_pos (.inr (by omega))] at eR
      exact ⟨(by show 0 ≤ sizeLine; decide), fun p hp => q p _ [] (I.sm.trans (same_new hp _)) upd_same (by rw [← eR]; exact Ats.nil _)⟩
    · have k1' : ¬ (1 : Int) < (st.length : Int) := fun e => k1 (decide_eq_true e)
      rw [if_neg (fun z => z.elim k fun z => absurd z (by omega))] at eR
      obtain ⟨al, ln', e, S, ne, np, new, sm, l8⟩ := I
      obtain ⟨a0, as, ts, st, rfl, rfl⟩ := S.one ne
      have : st = [] := List.length_eq_zero_iff.mp (by rw [List.length_cons] at k1'; omega)
      subst this
      have : as = [] := List.length_eq_zero_iff.mp (by simp only [List.length_cons] at ls; simpa using ls)
      subst this
      unfold Stk at S
      obtain ⟨⟨vs, e0, kv, kn, lb⟩, na, _⟩ := S
      refine ⟨_, rfl, ps, [.ref a0], 0, .ref a0, rfl, rfl, SqL.of e, rfl, q a0 _ vs sm e0 ?_⟩
      rw [← eR]
      exact kv
end
end K86
set_option maxHeartbeats 4000000
namespace K86
open PySem L2
/-! ### what is read is good, and no greater than its line -/
mutual
def cntT : Tr → Nat
  | .tup l => cntsT l + 1
  | _ => 1
def cntsT : List Tr → Nat
  | [] => 0
  | t :: ts => cntT t + cntsT ts
end
theorem cnts_app : ∀ a b : List Tr, cntsT (a ++ b) = cntsT a + cntsT b
  | [], b => by
    conv => rhs; lhs; unfold cntsT
    rw [List.nil_append, Nat.zero_add]
  | t :: a, b => by
    rw [List.cons_append]
    conv => lhs; unfold cntsT
    conv => rhs; lhs; unfold cntsT
    rw [cnts_app a b]
    omega
theorem cnt_pos (t : Tr) : 1 ≤ cntT t := by
  cases t <;> (unfold cntT; omega)
theorem cnts_len : ∀ l : List Tr, l.length ≤ cntsT l
  | [] => Nat.zero_le _
  | t :: l => by
    have := cnts_len l
    have := cnt_pos t
    unfold cntsT
    rw [List.length_cons]
    omega
theorem cnt_mem : ∀ {l : List Tr} {t : Tr}, t ∈ l → cntT t ≤ cntsT l
  | u :: l, t, m => by
    unfold cntsT
    rcases List.mem_cons.mp m with rfl | m
    · omega
    · have := cnt_mem m
      omega
theorem goods_app {k : Nat} {a b : List Tr} (h1 : goodsT k a = true) (h2 : goodsT k b = true) : goodsT k (a ++ b) = true := goods_of fun t ht => by
  rcases List.mem_append.mp ht with m | m
  · exact goods_mem h1 t m
  · exact goods_mem h2 t m
def GdP (k : Nat) (p : Cs → Option (Tr × Cs)) : Prop := ∀ cs t r, p cs = some (t, r) → goodT k t = true ∧ cntT t + r.length ≤ cs.length
theorem loop_good {k : Nat} {p : Cs → Option (Tr × Cs)} (hp : GdP k p) : ∀ (n : Nat) (acc : List Tr) (cs : Cs) (t : Tr) (r : Cs), goodsT k acc = true → loopK p n acc cs = some (t, r) → goodT (k + 1) t = true ∧ cntT t + r.length ≤ cntsT acc + cs.length
  | 0, _, _, _, _, _, h => by (unfold loopK at h; cases h)
  | n + 1, acc, cs, t, r, ha, h => by
    unfold loopK at h
    cases hc : p cs with
    | none => rw [hc] at h; cases h
    | some x =>
      obtain ⟨u, q⟩ := x
      rw [hc] at h
      obtain ⟨g1, c1⟩ := hp _ _ _ hc
      have s2 : goodsT k (acc ++ [u]) = true := goods_app ha (goods_of fun t ht => by rw [List.mem_singleton.mp ht]; exact g1)
      have c2 : cntsT (acc ++ [u]) = cntsT acc + cntT u := by
        rw [cnts_app]
        conv => lhs; rhs; unfold cntsT
        unfold cntsT
        omega
      cases q with
      | nil => cases h
      | cons c q =>
        rw [List.length_cons] at c1
        dsimp only at h
        by_cases h44 : c = 44
        · rw [if_pos h44] at h
          obtain ⟨a, b⟩ := loop_good hp n _ q t r s2 h
          exact ⟨a, by omega⟩
        · rw [if_neg h44] at h
          by_cases h41 : c = 41
          · rw [if_pos h41] at h
            cases h
            refine ⟨?_, ?_⟩
            · unfold goodT
              exact s2
            · have : cntT (.tup (acc ++ [u])) = cntsT (acc ++ [u]) + 1 := by
                conv => lhs; unfold cntT
              omega
          · rw [if_neg h41] at h
            cases h
theorem val_nonneg : ∀ (w : Cs), w.all figC = true → 0 ≤ val w := fun w h => by
  rw [val_digits w h]
  omega
theorem one_good {k : Nat} {q : Cs → Option (Tr × Cs)} (hq : GdP k q) : GdP k (oneK q) := by
  intro cs t r h
  cases cs with
  | nil => unfold oneK at h; cases h
  | cons c l =>
    unfold oneK at h
    dsimp only at h
    by_cases h39 : c = 39
    · rw [if_pos h39] at h
      cases h
      refine ⟨?_, ?_⟩
      · have : (txt (l.takeWhile sgnC)).cps.toList.all sgnC = true := by
          rw [code_txt]
          refine List.all_eq_true.mpr fun x hx => ?_
          clear hq
          induction l with
          | nil => cases hx
          | cons d l ih =>
            rw [List.takeWhile_cons] at hx
            cases hd : sgnC d with
            | true =>
              rw [hd] at hx
              rcases List.mem_cons.mp hx with rfl | hx
              · exact hd
              · exact ih hx
            | false => rw [hd] at hx; cases hx
        cases k <;> (unfold goodT; exact this)
      · have := (List.dropWhile_suffix (l := l) sgnC).length_le
        unfold cntT
        rw [List.length_cons]
        omega
    · rw [if_neg h39] at h
      by_cases h40 : c = 40
      · rw [if_pos h40] at h
        obtain ⟨a, b⟩ := hq _ _ _ h
        exact ⟨a, by rw [List.length_cons]; omega⟩
      · rw [if_neg h40] at h
        unfold numP at h
        cases hn : numOf ((c :: l).takeWhile figC) with
        | none => rw [hn] at h; cases h
        | some n =>
          rw [hn] at h
          cases h
          have tl := tw_len (p := figC) (c :: l)
          unfold numOf at hn
          split at hn
          · next hh =>
            cases hn
            refine ⟨(good_int (val_nonneg _ hh.2.2.1) hh.2.2.2.2).1, ?_⟩
            unfold cntT
            omega
          · cases hn
theorem tup_good {k : Nat} {p : Cs → Option (Tr × Cs)} (hp : GdP k p) : GdP (k + 1) (tupK p) := by
  intro cs t r h
  unfold tupK at h
  by_cases h41 : cs.head? = some 41
  · rw [if_pos h41] at h
    cases h
    refine ⟨by unfold goodT goodsT; rfl, ?_⟩
    cases cs with
    | nil => cases h41
    | cons c r =>
      unfold cntT cntsT
      rw [List.tail_cons, List.length_cons]
      omega
  · rw [if_neg h41] at h
    obtain ⟨a, b⟩ := loop_good hp _ _ _ _ _ (by unfold goodsT; rfl) h
    exact ⟨a, by unfold cntsT at b; omega⟩
theorem part_good : ∀ k : Nat, GdP k (partK k)
  | 0 => one_good fun _ _ _ z => by cases z
  | k + 1 => one_good (tup_good (part_good k))
theorem stuff_good {cs : Cs} {t : Tr} (h : stuffK cs = some t) : goodT 6 t = true ∧ cntT t ≤ cs.length := by
  unfold stuffK at h
  cases hp : partK 6 cs with
  | none => rw [hp] at h; cases h
  | some x =>
    obtain ⟨u, r⟩ := x
    rw [hp] at h
    obtain ⟨a, b⟩ := part_good 6 _ _ _ hp
    cases r with
    | nil =>
      cases h
      exact ⟨a, by simpa using b⟩
    | cons c r => cases h
/-! ### two tuples beside one another -/
theorem comp_zip2T {K : PySem.W.Frag} {a b p : Addr} {tt : TT} {te : TE} {cs : St} {Q : VK} {H1 : Hp} {xs ys : List V} (Pv : Nat → List V → Hp → Prop) (h0 : Pv 0 [] (upd H1 p (.lst [])))
    (hl : ∀ i zs H, Pv i zs H → SqT K H a xs ∧ SqT K H b ys)
    (hs : ∀ i x y t zs H, xs[i]? = some x → ys[i]? = some y → Pv i zs H → H t = none → tt (some x :: some y :: cs) (upd H t (.tup [x, y])) fun bb H4 => if bb = true then te (some x :: some y :: cs) H4 fun z H5 => H5 p = some (.lst zs) ∧ zs.length < sizeLine ∧ Pv (i + 1) (zs ++ [z]) (upd H5 p (.lst (zs ++ [z]))) else Pv (i + 1) zs H4)
    (hd : ∀ zs H, Pv (min xs.length ys.length) zs H → Q (.ref p) H) : CompWT (fun _ => True) (g2 K) 2 (ItzT K a b) p tt te cs Q H1 := by
  refine ⟨fun i m zs H => m = min xs.length ys.length - i ∧ i ≤ min xs.length ys.length ∧ Pv i zs H, ⟨min xs.length ys.length, by simp, Nat.zero_le _, h0⟩, ?_⟩
  rintro i m zs H ⟨rfl, hi, pv⟩
  obtain ⟨q1, q2⟩ := hl i zs H pv
  by_cases hlt : i < min xs.length ys.length
  · have l1 : i < xs.length := by omega
    have l2 : i < ys.length := by omega
    refine .inr ⟨⟨xs, ys, xs[i], ys[i], q1, q2, by simp [l1], by simp [l2]⟩, trivial, Pv (i + 1), fun ys' H' p' => ⟨min xs.length ys.length - (i + 1), by omega, rfl, hlt, p'⟩, fun v H3 y => ?_⟩
    obtain ⟨t, x, y, rfl, ht, rfl, hx, hy⟩ := y
    intro vs0 hv
    match vs0, hv with
    | [w1, w2], _ => exact ⟨t, _, rfl, SqT.of upd_same, rfl, x, _, rfl, y, _, rfl, rfl, ⟨[some x, some y], rfl, rfl⟩, hs i x y t zs H (hx xs q1) (hy ys q2) pv ht⟩
  · have e : i = min xs.length ys.length := by omega
    subst e
    refine .inl ⟨⟨xs, ys, q1, q2, by omega⟩, trivial, hd zs H pv⟩
section
variable {P : Program} {w : World} {K : PySem.W.Frag} {mg : Str → Option Value} {base : Heap} {f fW fC : Addr} {fd dW dC : FuncData}
def spSam (n : Nat) : Sp := fun vs H Q _ => ∃ x y t, vs = [x, y] ∧ At H t x ∧ At H t y ∧ goodT n t = true ∧ cntT t ≤ 50100 ∧ ∀ H', Same H H' → Q (.bl true) H'
def spSamN : Nat → Sp
  | 0 => fun _ _ _ _ => False
  | n + 1 => spSam n
theorem scSam : FnScope ["_law_told_here", "_law_due"] ["_law_told_here", "_law_due"] (defScope sSam) := ⟨rfl, rfl, rfl, by decide +kernel, rfl, by decide +kernel, by decide +kernel⟩
theorem ok_Sam (F : Fun K "_law_same" "_law_same" sSam f fd) (hSam : Has K mg "_law_same" sSam ["_law_told_here", "_law_due"] f fd) (T : Txt mg) : ∀ n : Nat, FnOk P w K mg base CX0 n f fd ["_law_told_here", "_law_due"] (spSamN n)
  | 0 => ⟨fun _ _ _ _ h => h.elim, fun _ _ _ _ _ _ _ _ _ _ _ _ _ h => h.elim⟩
  | n + 1 => by
    have GSam := ok_Sam F hSam T n
    refine F.ok scSam (fun vs H Q E h => ?_) (fun cdv A outer s H vs Q E hr h => ?_)
    · obtain ⟨x, y, t, rfl, _⟩ := h
      rfl
    obtain ⟨x, y, t, rfl, hx, hy, hg, hc, q⟩ := h
    refine ⟨_, (pss_cons (ps_if (pt_val (pe_callB call_isinst rfl T.isi PyProof.Rows.boot_isinstance (pc (pv 1) (pc (pe_bltn (v := .ty "tuple") rfl T.tup PyProof.Rows.boot_tuple rfl) pa_nil))))
    (pss_cons (ps_if (PW.pt (pw_or (pt_not (pt_val (pe_callB call_isinst rfl T.isi PyProof.Rows.boot_isinstance (pc (pv 0) (pc (pe_bltn (v := .ty "tuple") rfl T.tup PyProof.Rows.boot_tuple rfl) pa_nil))))) (pw_or1 (pt_cmpR op_ne (pe_callB call_len_seq rfl T.len PySem.boot_len (pc (pv 0) pa_nil)) (pe_callB call_len_seq rfl T.len PySem.boot_len (pc (pv 1) pa_nil)) (nomark _)))))
    (pss_one (ps_ret pe_bl))
    pss_nil)
    (pss_one (ps_ret (pe_callB (call_all hr.hd) rfl T.all PyProof.Rows.boot_all (pc (pe_compR (g := g2 K) ["_law_one", "_law_other"] [] [] (pi_zipT rfl T.zip (pc (pv 0) (pc (pv 1) pa_nil))) (fun _ _ _ _ _ _ => pg_tup rfl (pgs_cons (pg_name (i := 0) (show (["_law_one", "_law_other"] : List Str).Nodup by decide +kernel) rfl (Or.inl rfl)) (pgs_cons (pg_name (i := 1) (show (["_law_one", "_law_other"] : List Str).Nodup by decide +kernel) rfl (Or.inl rfl)) pgs_nil))) (fun _ _ _ _ _ _ => pts_nil)
          (fun _ _ _ _ _ _ => (pe_call GSam (hr.mono (by omega)) rfl hSam.nm hSam.fn.kp hSam.bd .nil pass0 (pc (pv 0) (pc (pv 1) pa_nil))))
          rfl (by decide +kernel) (by decide +kernel) (by decide +kernel) (fun _ _ z => nomatch z) rfl rfl) pa_nil)))))
    pss_nil)
    (pss_cons (ps_if (PW.pt (pw_or (pt_val (pe_callB call_isinst rfl T.isi PyProof.Rows.boot_isinstance (pc (pv 0) (pc (pe_bltn (v := .ty "bool") rfl T.bol PyProof.Rows.boot_bool rfl) pa_nil)))) (pw_or1 (pt_cmpR op_ne (pe_callB call_isinst rfl T.isi PyProof.Rows.boot_isinstance (pc (pv 0) (pc (pe_bltn (v := .ty "str") rfl T.str PyProof.Rows.boot_str rfl) pa_nil))) (pe_callB call_isinst rfl T.isi PyProof.Rows.boot_isinstance (pc (pv 1) (pc (pe_bltn (v := .ty "str") rfl T.str PyProof.Rows.boot_str rfl) pa_nil))) (nomark _)))))
    (pss_one (ps_ret pe_bl))
    pss_nil)
    (pss_one (ps_ret (pe_cmpR op_eq (pv 0) (pv 1) (nomark _)))))), ?_⟩
    obtain ⟨ty, ht, k2, k3, _⟩ := hx.ty (K := K)
    obtain ⟨uy, hu, l2, l3, _⟩ := hy.ty (K := K)
    refine ⟨_, rfl, y, "tuple", uy, isTup t, rfl, hu, l2, _, rfl, ?_⟩
    cases e : isTup t with
    | true =>
      cases t with
      | tup l =>
        obtain ⟨m, rfl⟩ : ∃ m, n = m + 1 := by
          cases n with
          | zero => unfold goodT at hg; cases hg
          | succ m => exact ⟨m, rfl⟩
        unfold goodT at hg
        have hcl : cntsT l + 1 ≤ 50100 := by
          unfold cntT at hc
          exact hc
        have ll := cnts_len l
        obtain ⟨a, vs, rfl, ha, ka⟩ := hx.tup
        obtain ⟨b, ws, rfl, hb, kb⟩ := hy.tup
        have lna := ka.len
        have lnb := kb.len
        refine iteT ⟨_, rfl, .ref a, "tuple", ty, true, rfl, ht, k2, _, rfl, iteF ⟨_, rfl, a, vs, rfl, .inr (SqT.of ha), _, rfl, b, ws, rfl, .inr (SqT.of hb), rfl, _, rfl, ?_⟩⟩
        rw [lna, lnb, decide_eq_true rfl]
        refine iteF ⟨_, rfl, _, rfl, a, b, vs, ws, rfl, SqT.of ha, SqT.of hb, fun p hp => ?_⟩
        refine comp_zip2T (K := K) (a := a) (b := b) (xs := vs) (ys := ws) (fun i us H2 => Same H H2 ∧ H2 p = some (.lst us) ∧ us = (List.replicate i true).map V.bl) ⟨same_new hp _, upd_same, rfl⟩ (fun i us H2 h2 => ⟨SqT.of (h2.1 _ _ ha), SqT.of (h2.1 _ _ hb)⟩) ?_ ?_
        · rintro i x y tq us H2 hxi hyi ⟨s2, e2, rfl⟩ htq
          have s3 := same_new htq (HO.tup [x, y])
          obtain ⟨t1, h1, at1⟩ := (ka.mono (s2.trans s3)).get hxi
          obtain ⟨t2, h2, at2⟩ := (kb.mono (s2.trans s3)).get hyi
          rw [h1] at h2
          injection h2 with h2
          subst h2
          have li : i < l.length := (List.getElem?_eq_some_iff.mp h1).1
          have mt := List.mem_of_getElem? h1
          have cm := cnt_mem mt
          refine ttT ⟨_, rfl, _, rfl, x, y, t1, rfl, at1, at2, goods_mem hg t1 mt, by omega, fun H4 s4 => ⟨s4 _ _ (s3 _ _ e2), small (by simp; omega), same_over ((s2.trans s3).trans s4) hp _, upd_same, ?_⟩⟩
          rw [List.replicate_succ', List.map_append]
          rfl
        · rintro us H2 ⟨s2, e2, rfl⟩
          refine ⟨p, _, rfl, SqL.of e2, ?_⟩
          rw [show (List.replicate (min vs.length ws.length) true).all id = true by simp]
          exact q H2 s2
      | _ => cases e
    | false =>
      refine iteF ?_
      have nb : ∃ ty, TyOf K H x ty ∧ PySem.W.kitOne K ty (.type "bool") = some false := by
        cases t with
        | int i => unfold At at hx; subst hx; exact ⟨_, .int i, k0_ib K⟩
        | str z => unfold At at hx; subst hx; exact ⟨_, .str z, k0_sb K⟩
        | tup l => cases e
        | _ => cases n <;> (unfold goodT at hg; cases hg)
      obtain ⟨tb, hb, kb⟩ := nb
      refine ⟨_, rfl, x, "bool", tb, false, rfl, hb, kb, _, rfl, iteF ⟨_, rfl, x, "str", ty, isStrT t, rfl, ht, k3, _, rfl, y, "str", uy, isStrT t, rfl, hu, l3, rfl, _, rfl, ?_⟩⟩
      rw [decide_eq_true rfl]
      refine iteF ⟨_, rfl, _, rfl, ?_⟩
      cases t with
      | int i =>
        unfold At at hx hy
        subst hx hy
        refine ⟨rfl, ?_⟩
        rw [decide_eq_true rfl]
        exact q H (Same.refl H)
      | str z =>
        unfold At at hx hy
        subst hx hy
        refine ⟨rfl, ?_⟩
        rw [decide_eq_true rfl]
        exact q H (Same.refl H)
      | tup l => cases e
      | _ => cases n <;> (unfold goodT at hg; cases hg)
end
end K86
set_option maxHeartbeats 4000000
namespace K86
open PySem L2
theorem boot_ve : bootBuiltins "ValueError" = some (.type "ValueError") := by decide +kernel
section
variable {P : Program} {w : World} {K : PySem.W.Frag} {mg : Str → Option Value} {base : Heap} {f C fI fS fT fR fM : Addr} {fd dI dS dT dR dM : FuncData} {bm : List Value}
def rdT (cs : Cs) : List Tr := match stuffK cs with
  | some t => [t]
  | none => []
def spTol : Sp := fun vs H Q _ => ∃ z : Str, vs = [.str z] ∧ z.length ≤ 50100 ∧ ∀ p H' xs, Same H H' → H' p = some (.lst xs) → Ats H' (rdT z.cps.toList) xs → Q (.ref p) H'
theorem scTol : FnScope ["_law_line_here", "_law_told_here", "e"] ["_law_line_here"] (defScope sTol) := ⟨rfl, rfl, rfl, by decide +kernel, rfl, by decide +kernel, by decide +kernel⟩
theorem ok_Tol (F : Fun K "_law_told" "_law_told" sTol f fd) (hSof : Has K mg "stuff_of" sSof ["line"] fS dS) (GSof : FnOk P w K mg base (CXw P w) 18 fS dS ["line"] (spSof C))
    (hNL : XHas K mg "NoLine" sIni C bm fI dI ["self", "line"]) (na : NoAttr K C "line") (kv : PySem.W.kitOne K (.ref C) (.type "ValueError") = some true) (T : Txt mg) : FnOk P w K mg base CX0 19 f fd ["_law_line_here"] spTol := by
  refine F.ok scTol (fun vs H Q E h => ?_) (fun cdv A outer s H vs Q E hr h => ?_)
  · obtain ⟨z, rfl, _⟩ := h
    rfl
  obtain ⟨z, rfl, hz, q⟩ := h
  refine ⟨_, pss_cons (ps_set (i := 1) scTol.nd rfl (Or.inl rfl) (pe_lst pa_nil)) (pss_cons (ps_try (D := C) (i := 2) (pb_one (pb_set (i := 1) scTol.nd rfl (Or.inl rfl) (px_lst1 (px_call GSof hr rfl hSof.nm hSof.fn.kp hSof.bd .nil (pc (pv 0) pa_nil)))))
    (fun ea => pss_one (ps_if (PW.pt (pw_or (pt_cmpR op_ne (pe_xf (pv 2) rfl) (pv 0) (nomark _)) (pw_or1 (pt_not (pt_val (pe_callB call_isinstX rfl T.isi PyProof.Rows.boot_isinstance (pc (pv 2) (pc (pe_bltn (v := .ty "ValueError") rfl T.vae boot_ve rfl) pa_nil))))))))
      (pss_one (ps_set (i := 1) scTol.nd rfl (Or.inl rfl) (pe_lst (pc pe_str (pc pe_str pa_nil))))) pss_nil))
    rfl hNL.nm hNL.xm.ob hNL.be scTol.nd rfl rfl) (pss_one (ps_ret (pv 1)))), ?_⟩
  refine ⟨(by show 0 ≤ sizeLine; decide), fun p0 hp0 => ⟨_, rfl, z, rfl, hz, ?_⟩⟩
  unfold rdT at q
  cases hs : stuffK z.cps.toList with
  | some t =>
    rw [hs] at q
    intro x H1 s1 hx p hp
    exact ⟨_, rfl, q p _ [x] ((same_new hp0 _).trans (s1.trans (same_new hp _))) upd_same (Ats.cons (hx.mono (same_new hp _)) (Ats.nil _))⟩
  | none =>
    rw [hs] at q
    intro ea dx H1 s1 e1 e2
    refine ⟨ea, C, bm, rfl, e1, hNL.xm.ob, by simp, ?_⟩
    refine ⟨_, rfl, ea, C, dx, _, .str z, rfl, e1, e2, hNL.cl, na, by simp, _, rfl, rfl, _, rfl, ?_⟩
    rw [decide_eq_true rfl]
    refine iteF ⟨_, rfl, ea, C, some dx, .ty "ValueError", .type "ValueError", true, rfl, e1, ⟨_, e2⟩, hNL.cl, rfl, (fun u r => r), kv, _, rfl, iteF ?_⟩
    exact ⟨_, rfl, q p0 _ [] ((same_new hp0 _).trans s1) (s1 _ _ upd_same) (Ats.nil _)⟩
def spRig : Sp := fun vs H Q _ => ∃ z : Str, vs = [.str z] ∧ z.length ≤ 50100 ∧ ∀ H', Same H H' → Q (.bl true) H'
theorem scRig : FnScope ["_law_line_here", "_law_told_here", "_law_due"] ["_law_line_here"] (defScope sRig) := ⟨rfl, rfl, rfl, by decide +kernel, rfl, by decide +kernel, by decide +kernel⟩
theorem ok_Rig (F : Fun K "_law_right" "_law_right" sRig f fd) (hTol : Has K mg "_law_told" sTol ["_law_line_here"] fT dT) (GTol : FnOk P w K mg base CX0 19 fT dT ["_law_line_here"] spTol) (hRea : Has K mg "_law_read" sRea ["_law_line_here"] fR dR) (GRea : FnOk P w K mg base CX0 2 fR dR ["_law_line_here"] spRea)
    (hSam : Has K mg "_law_same" sSam ["_law_told_here", "_law_due"] fM dM) (GSam : FnOk P w K mg base CX0 7 fM dM ["_law_told_here", "_law_due"] (spSam 6)) (T : Txt mg) : FnOk P w K mg base CX0 20 f fd ["_law_line_here"] spRig := by
  refine F.ok scRig (fun vs H Q E h => ?_) (fun cdv A outer s H vs Q E hr h => ?_)
  · obtain ⟨z, rfl, _⟩ := h
    rfl
  obtain ⟨z, rfl, hz, q⟩ := h
  have hl : z.cps.toList.length = z.length := codes_len z
  refine ⟨_, (pss_cons (ps_set (i := 1) scRig.nd rfl (Or.inl rfl) (pe_call GTol (hr.mono (by decide)) rfl hTol.nm hTol.fn.kp hTol.bd .nil pass0 (pc (pv 0) pa_nil)))
    (pss_cons (ps_set (i := 2) scRig.nd rfl (Or.inl rfl) (pe_call GRea (hr.mono (by decide)) rfl hRea.nm hRea.fn.kp hRea.bd .nil pass0 (pc (pv 0) pa_nil)))
    (pss_one (ps_ret (pe_and (pe_cmpR op_eq (pe_callB call_len_seq rfl T.len PySem.boot_len (pc (pv 1) pa_nil)) (pe_callB call_len_seq rfl T.len PySem.boot_len (pc (pv 2) pa_nil)) (nomark _)) (pe_one (pe_callB (call_all hr.hd) rfl T.all PyProof.Rows.boot_all (pc (pe_compR (g := g2 K) ["_law_one", "_law_other"] [] [] (pi_zip rfl T.zip (pc (pv 1) (pc (pv 2) pa_nil))) (fun _ _ _ _ _ _ => pg_tup rfl (pgs_cons (pg_name (i := 0) (show (["_law_one", "_law_other"] : List Str).Nodup by decide +kernel) rfl (Or.inl rfl)) (pgs_cons (pg_name (i := 1) (show (["_law_one", "_law_other"] : List Str).Nodup by decide +kernel) rfl (Or.inl rfl)) pgs_nil))) (fun _ _ _ _ _ _ => pts_nil)
          (fun _ _ _ _ _ _ => (pe_call GSam (hr.mono (by decide)) rfl hSam.nm hSam.fn.kp hSam.bd .nil pass0 (pc (pv 0) (pc (pv 1) pa_nil))))
          rfl (by decide +kernel) (by decide +kernel) (by decide +kernel) (fun _ _ z => nomatch z) rfl rfl) pa_nil)))))))), ?_⟩
  refine ⟨_, rfl, z, rfl, hz, fun p1 H1 xs s1 e1 k1 => ⟨_, rfl, z, rfl, hz, fun p2 H2 ys s2 e2 k2 => ?_⟩⟩
  rw [read_same _ _ (by omega)] at k2
  have k2' : Ats H2 (rdT z.cps.toList) ys := k2
  have e1' := s2 _ _ e1
  have k1' := k1.mono s2
  have lx := k1'.len
  have ly := k2'.len
  have lr : (rdT z.cps.toList).length ≤ 1 := by
    unfold rdT
    split
    · exact Nat.le_refl _
    · exact Nat.zero_le _
  refine ⟨_, rfl, p1, xs, rfl, .inl (SqL.of e1'), _, rfl, p2, ys, rfl, .inl (SqL.of e2), rfl, _, rfl, ?_⟩
  rw [lx, ly, decide_eq_true rfl]
  refine iteT ⟨_, rfl, _, rfl, p1, p2, xs, ys, rfl, SqL.of e1', SqL.of e2, fun p hp => ?_⟩
  refine comp_zip2 (K := K) (a := p1) (b := p2) (xs := xs) (ys := ys) (fun i us H3 => Same H2 H3 ∧ H3 p = some (.lst us) ∧ us = (List.replicate i true).map V.bl) ⟨same_new hp _, upd_same, rfl⟩ (fun i us H3 h3 => ⟨SqL.of (h3.1 _ _ e1'), SqL.of (h3.1 _ _ e2)⟩) ?_ ?_
  · rintro i x y tq us H3 hxi hyi ⟨s3, e3, rfl⟩ htq
    have s4 := same_new htq (HO.tup [x, y])
    obtain ⟨t1, h1, at1⟩ := (k1'.mono (s3.trans s4)).get hxi
    obtain ⟨t2, h2, at2⟩ := (k2'.mono (s3.trans s4)).get hyi
    rw [h1] at h2
    injection h2 with h2
    subst h2
    have li : i < (rdT z.cps.toList).length := (List.getElem?_eq_some_iff.mp h1).1
    have hst : stuffK z.cps.toList = some t1 := by
      have m := List.mem_of_getElem? h1
      unfold rdT at m
      split at m
      · next u hu =>
        rw [List.mem_singleton.mp m]
        exact hu
      · cases m
    obtain ⟨g, cn⟩ := stuff_good hst
    refine ttT ⟨_, rfl, _, rfl, x, y, t1, rfl, at1, at2, g, by omega, fun H5 s5 => ⟨s5 _ _ (s4 _ _ e3), small (by simp; omega), same_over ((s3.trans s4).trans s5) hp _, upd_same, ?_⟩⟩
    rw [List.replicate_succ', List.map_append]
    rfl
  · rintro us H3 ⟨s3, e3, rfl⟩
    refine ⟨p, _, rfl, SqL.of e3, ?_⟩
    rw [show (List.replicate (min xs.length ys.length) true).all id = true by simp]
    exact q H3 (s1.trans (s2.trans s3))
end
end K86
set_option maxHeartbeats 4000000
namespace K86
open PySem L2
abbrev sINL : Stmt := sIni
section
variable {P : Program} {w : World} {K : PySem.W.Frag} {mg : Str → Option Value} {base : Heap} {f C fCel fMix fStu fLin fLof fSam fSof fSpo fRig : Addr} {fd dCel dMix dStu dLin dLof dSam dSof dSpo dRig : FuncData}
def spStuA : Sp := fun vs H Q E => ∃ d : Nat, d ≤ 6 ∧ spStu d vs H Q E
theorem stu_all (h : ∀ d : Nat, FnOk P w K mg base CX0 (d + 3) f fd ["_law_number", "_law_depth"] (spStuN d)) : FnOk P w K mg base CX0 10 f fd ["_law_number", "_law_depth"] spStuA :=
  ⟨fun vs H Q E ⟨d, _, q⟩ => (h (d + 1)).len vs H Q E q, fun A outer s H args us vs Q E hr he hb hv ⟨d, hd, q⟩ => (h (d + 1)).run A outer s H args us vs Q E (hr.mono (by omega)) he hb hv q⟩
def spLaw (K : PySem.W.Frag) : Sp := fun vs H Q _ => ∃ (a : Addr) (ns : List Int), vs = [.ref a] ∧ SqL K H a (ns.map V.int) ∧ ns.length ≤ 63 ∧ ∀ H', Q (.bl true) H'
theorem scLaw : FnScope ["_law_script", "_law_k", "_law_number", "_law_stuff_here", "_law_line_here", "_law_told_here", "_law_other"] ["_law_script"] (defScope sLaw) := ⟨rfl, rfl, rfl, by decide +kernel, rfl, by decide +kernel, by decide +kernel⟩
theorem ok_law (F : Fun K "law" "law" sLaw f fd) (hCel : Has K mg "_law_cell_at" sCel ["_law_script", "_law_k"] fCel dCel) (GCel : FnOk P w K mg base CX0 1 fCel dCel ["_law_script", "_law_k"] (spCel K))
    (hMix : Has K mg "_law_mixed" sMix ["_law_cell", "_law_k"] fMix dMix) (GMix : FnOk P w K mg base CX0 1 fMix dMix ["_law_cell", "_law_k"] spMix)
    (hStu : Has K mg "_law_stuff" sStu ["_law_number", "_law_depth"] fStu dStu) (GStu : FnOk P w K mg base CX0 10 fStu dStu ["_law_number", "_law_depth"] spStuA)
    (hLin : Has K mg "_law_line" sLin ["_law_stuff_here"] fLin dLin) (GLin : FnOk P w K mg base CX0 7 fLin dLin ["_law_stuff_here"] (spLof 6))
    (hLof : Has K mg "line_of" sLof ["stuff"] fLof dLof) (GLof : FnOk P w K mg base CX0 7 fLof dLof ["stuff"] (spLof 6))
    (hSam : Has K mg "_law_same" sSam ["_law_told_here", "_law_due"] fSam dSam) (GSam : FnOk P w K mg base CX0 7 fSam dSam ["_law_told_here", "_law_due"] (spSam 6))
    (hSof : Has K mg "stuff_of" sSof ["line"] fSof dSof) (GSof : FnOk P w K mg base (CXw P w) 18 fSof dSof ["line"] (spSof C))
    (hSpo : Has K mg "_law_spoiled" sSpo ["_law_line_here", "_law_number"] fSpo dSpo) (GSpo : FnOk P w K mg base CX0 1 fSpo dSpo ["_law_line_here", "_law_number"] spSpo)
    (hRig : Has K mg "_law_right" sRig ["_law_line_here"] fRig dRig) (GRig : FnOk P w K mg base CX0 20 fRig dRig ["_law_line_here"] spRig) (T : Txt mg) : FnOk P w K mg base CX0 21 f fd ["_law_script"] (spLaw K) := by
  refine F.ok scLaw (fun vs H Q E h => ?_) (fun cdv A outer s H vs Q E hr h => ?_)
  · obtain ⟨a, ns, rfl, _⟩ := h
    rfl
  obtain ⟨a, ns, rfl, hS, h63, q⟩ := h
  refine ⟨_, (pss_cons (ps_for PassesOwn.never rfl (pi_range1 rfl T.rng (pc (pe_callB (call_max2 rfl) rfl T.max PyProof.Rows.boot_max (pc pe_int (pc (pe_callB (call_min2 rfl) rfl T.min PyProof.Rows.boot_min (pc (pe_callB call_len_seq rfl T.len PySem.boot_len (pc (pv 0) pa_nil)) (pc pe_int pa_nil))) pa_nil))) pa_nil)) (pg_name (i := 1) scLaw.nd rfl (Or.inl rfl))
    (pss_cons (ps_set (i := 2) scLaw.nd rfl (Or.inl rfl) (pe_call GMix (hr.mono (by decide)) rfl hMix.nm hMix.fn.kp hMix.bd .nil pass0 (pc (pe_call GCel (hr.mono (by decide)) rfl hCel.nm hCel.fn.kp hCel.bd .nil pass0 (pc (pv 0) (pc (pv 1) pa_nil))) (pc (pv 1) pa_nil))))
    (pss_cons (ps_set (i := 3) scLaw.nd rfl (Or.inl rfl) (pe_call GStu (hr.mono (by decide)) rfl hStu.nm hStu.fn.kp hStu.bd .nil pass0 (pc (pv 2) (pc (pe_op op_mod (pv 2) pe_int) pa_nil))))
    (pss_cons (ps_set (i := 4) scLaw.nd rfl (Or.inl rfl) (pe_call GLin (hr.mono (by decide)) rfl hLin.nm hLin.fn.kp hLin.bd .nil pass0 (pc (pv 3) pa_nil)))
    (pss_cons (ps_set (i := 5) scLaw.nd rfl (Or.inl rfl) (pe_call GLof (hr.mono (by decide)) rfl hLof.nm hLof.fn.kp hLof.bd .nil pass0 (pc (pv 3) pa_nil)))
    (pss_cons (ps_if (PW.pt (pw_or (pt_not (pt_val (pe_callB call_isinst rfl T.isi PyProof.Rows.boot_isinstance (pc (pv 5) (pc (pe_bltn (v := .ty "str") rfl T.str PyProof.Rows.boot_str rfl) pa_nil))))) (pw_or (pt_cmpR op_ne (pv 5) (pv 4) (nomark _)) (pw_or1 (pt_not (pt_val (pe_call GSam (hr.mono (by decide)) rfl hSam.nm hSam.fn.kp hSam.bd .nil pass0 (pc (pe_call GSof (hr.mono (by decide)) rfl hSof.nm hSof.fn.kp hSof.bd .nil passN (pc (pv 4) pa_nil)) (pc (pv 3) pa_nil)))))))))
    (pss_one (ps_ret pe_bl))
    pss_nil)
    (pss_cons (ps_set (i := 6) scLaw.nd rfl (Or.inl rfl) (pe_call GSpo (hr.mono (by decide)) rfl hSpo.nm hSpo.fn.kp hSpo.bd .nil pass0 (pc (pv 4) (pc (pe_call GMix (hr.mono (by decide)) rfl hMix.nm hMix.fn.kp hMix.bd .nil pass0 (pc (pv 2) (pc pe_int pa_nil))) pa_nil))))
    (pss_one (ps_if (PW.pt (pw_or (pt_not (pt_val (pe_call GRig (hr.mono (by decide)) rfl hRig.nm hRig.fn.kp hRig.bd .nil pass0 (pc (pv 6) pa_nil)))) (pw_or (pt_not (pt_val (pe_call GRig (hr.mono (by decide)) rfl hRig.nm hRig.fn.kp hRig.bd .nil pass0 (pc (pv 6) pa_nil)))) (pw_or1 (pt_not (pt_val (pe_call GRig (hr.mono (by decide)) rfl hRig.nm hRig.fn.kp hRig.bd .nil pass0 (pc (pv 4) pa_nil))))))))
    (pss_one (ps_ret pe_bl))
    pss_nil)))))))))
    (pss_one (ps_ret pe_bl))), ?_⟩
  have lm : (ns.map V.int).length = ns.length := List.length_map _
  refine ⟨_, rfl, a, _, rfl, .inl hS, ?_⟩
  rw [lm]
  refine ⟨_, _, rfl, _, _, rfl, ?_⟩
  have hz : 0 ≤ (if (if (30 : Int) < (ns.length : Int) then (30 : Int) else (ns.length : Int)) > 1 then (if (30 : Int) < (ns.length : Int) then (30 : Int) else (ns.length : Int)) else 1) ∧ (if (if (30 : Int) < (ns.length : Int) then (30 : Int) else (ns.length : Int)) > 1 then (if (30 : Int) < (ns.length : Int) then (30 : Int) else (ns.length : Int)) else 1) ≤ 30 := by
    split <;> split <;> omega
  generalize (if (if (30 : Int) < (ns.length : Int) then (30 : Int) else (ns.length : Int)) > 1 then (if (30 : Int) < (ns.length : Int) then (30 : Int) else (ns.length : Int)) else 1) = many at hz
  refine ⟨many, rfl, by omega, by omega, ?_⟩
  refine for_range (lo := 0) (n := many.toNat) (fun i σ H3 => ∃ (o1 o2 o3 o4 o5 o6 : Option V), σ = [some (.ref a), o1, o2, o3, o4, o5, o6] ∧ Same H H3) ⟨none, none, none, none, none, none, rfl, Same.refl H⟩ ?_ ?_
  · rintro i σ H3 hi ⟨o1, o2, o3, o4, o5, o6, rfl, s3⟩
    have hi' : i < many.toNat := hi
    refine ⟨_, rfl, _, rfl, a, ns, 0 + (i : Int), rfl, by omega, s3.seq hS, fun z => ⟨_, rfl, z, 0 + (i : Int), rfl, by omega, by omega, fun num n0 n1 => ?_⟩⟩
    refine ⟨_, rfl, _, rfl, _, _, rfl, rfl, (by show (0 : Int) < 7; decide), ?_⟩
    obtain ⟨d, ed, hd⟩ : ∃ d : Nat, num % 7 = (d : Int) ∧ d < 7 := ⟨(num % 7).toNat, by omega, by omega⟩
    dsimp only
    rw [ed]
    refine ⟨d, by omega, num, rfl, n0, n1, fun x t H4 s4 hx gd lb => ?_⟩
    have g6 : goodT 6 t = true := good_le (by omega) gd
    have lb' : (lineT t).length ≤ 9110 := Nat.le_trans lb (bnd_le d (by omega))
    have lt : (txt (lineT t)).length = (lineT t).length := by rw [len_codes, code_txt]
    refine ⟨_, rfl, x, t, rfl, hx, g6, by omega, fun H5 s5 => ?_⟩
    refine ⟨_, rfl, x, t, rfl, hx.mono s5, g6, by omega, fun H6 s6 => ?_⟩
    have cn : cntT t ≤ (lineT t).length := (stuff_good (stuff_line g6)).2
    refine ⟨_, rfl, _, "str", _, true, rfl, .str _, kt_ss K, _, rfl, iteF ⟨_, rfl, _, rfl, rfl, _, rfl, ?_⟩⟩
    rw [decide_eq_true rfl]
    refine iteF ⟨_, rfl, txt (lineT t), rfl, by omega, ?_⟩
    rw [code_txt, stuff_line g6]
    intro x2 H7 s7 hx2
    refine ⟨_, rfl, x2, x, t, rfl, hx2, ((hx.mono s5).mono s6).mono s7, g6, by omega, fun H8 s8 => ⟨_, rfl, iteF ?_⟩⟩
    refine ⟨_, rfl, _, rfl, num, 99, rfl, by decide, by decide, fun z2 z0 z1 => ⟨txt (lineT t), z2, rfl, z0, by omega, fun u hu => ?_⟩⟩
    refine ⟨_, rfl, u, rfl, hu, fun H9 s9 => ⟨_, rfl, iteF ⟨_, rfl, u, rfl, hu, fun H10 s10 => ⟨_, rfl, iteF ⟨_, rfl, txt (lineT t), rfl, by omega, fun H11 s11 => ⟨_, rfl, iteF ?_⟩⟩⟩⟩⟩⟩
    exact ⟨_, _, _, _, _, _, rfl, s3.trans (s4.trans (s5.trans (s6.trans (s7.trans (s8.trans (s9.trans (s10.trans s11)))))))⟩
  · rintro σ H3 ⟨o1, o2, o3, o4, o5, o6, rfl, s3⟩
    exact q H3
end
end K86
set_option maxHeartbeats 8000000
namespace K86
open PySem L2

theorem all_mk {l : PySem.W.OpenLaw} {w : World} {K : PySem.W.Frag} {h : Heap} {mg : Str → Option Value} {fa fLof fNof fNat fTat fPat fPar fSof fCel fMix fLtx fPla fStu fLin fSpo fWrd fClo fRea fSam fTol fRig fLaw W NW NL NNL fINL : Addr} (X : K.In h) (G : h.Ns mainGlobals mg) (hfa : mg "law" = some (.ref fa))
    {odLof anLof odNof anNof odNat anNat odTat anTat odPat anPat odPar anPar odSof anSof odCel anCel odMix anMix odLtx anLtx odPla anPla odStu anStu odLin anLin odSpo anSpo odWrd anWrd odClo anClo odRea anRea odSam anSam odTol anTol odRig anRig odLaw anLaw odINL anINL odNW : Option Addr} {slLof slNof slNat slTat slPat slPar slSof slCel slMix slLtx slPla slStu slLin slSpo slWrd slClo slRea slSam slTol slRig slLaw slINL slNW : Array (Option Value)} {ocLof kVLof dcLof pmLof cdLof ctLof ocNof kVNof dcNof pmNof cdNof ctNof ocNat kVNat dcNat pmNat cdNat ctNat ocTat kVTat dcTat pmTat cdTat ctTat ocPat kVPat dcPat pmPat cdPat ctPat ocPar kVPar dcPar pmPar cdPar ctPar ocSof kVSof dcSof pmSof cdSof ctSof ocCel kVCel dcCel pmCel cdCel ctCel ocMix kVMix dcMix pmMix cdMix ctMix ocLtx kVLtx dcLtx pmLtx cdLtx ctLtx ocPla kVPla dcPla pmPla cdPla ctPla ocStu kVStu dcStu pmStu cdStu ctStu ocLin kVLin dcLin pmLin cdLin ctLin ocSpo kVSpo dcSpo pmSpo cdSpo ctSpo ocWrd kVWrd dcWrd pmWrd cdWrd ctWrd ocClo kVClo dcClo pmClo cdClo ctClo ocRea kVRea dcRea pmRea cdRea ctRea ocSam kVSam dcSam pmSam cdSam ctSam ocTol kVTol dcTol pmTol cdTol ctTol ocRig kVRig dcRig pmRig cdRig ctRig ocLaw kVLaw dcLaw pmLaw cdLaw ctLaw ocINL kVINL dcINL pmINL cdINL ctINL ocNW : Value} {esNW : Array DictEntry} {epNW : Nat} {gt0 gt1 gt2 gt3 gt4 : Tok}
    {nmW qW nmNL qNL : Str} {bsW subW bsNL subNL : List Value} {hdW abW abNL : Bool} {snW snNL : List Str} {colW colNL : Option Bool} {ddW ddNL : Option Addr} {x0W x1W x2W x3W x5W x0NL x1NL x2NL x3NL x5NL : Option Value}
    (aLof : PySem.W.nsIn K mainGlobals "line_of" = some (some (.ref fLof)))
    (lLof : K.lookup fLof = some ⟨ocLof, odLof, .func (PySem.W.fnOf "line_of" "line_of" (defArgs sLof) (defBody sLof) (defScope sLof) .none kVLof dcLof pmLof anLof cdLof ctLof), slLof⟩)
    (cLof : PySem.W.codeIn K cdLof "line_of" = true)
    (kLof : PySem.W.keepIn K (.ref fLof) = true)
    (aNof : PySem.W.nsIn K mainGlobals "number_of" = some (some (.ref fNof)))
    (lNof : K.lookup fNof = some ⟨ocNof, odNof, .func (PySem.W.fnOf "number_of" "number_of" (defArgs sNof) (defBody sNof) (defScope sNof) .none kVNof dcNof pmNof anNof cdNof ctNof), slNof⟩)
    (cNof : PySem.W.codeIn K cdNof "number_of" = true)
    (kNof : PySem.W.keepIn K (.ref fNof) = true)
    (aNat : PySem.W.nsIn K mainGlobals "number_at" = some (some (.ref fNat)))
    (lNat : K.lookup fNat = some ⟨ocNat, odNat, .func (PySem.W.fnOf "number_at" "number_at" (defArgs sNat) (defBody sNat) (defScope sNat) .none kVNat dcNat pmNat anNat cdNat ctNat), slNat⟩)
    (cNat : PySem.W.codeIn K cdNat "number_at" = true)
    (kNat : PySem.W.keepIn K (.ref fNat) = true)
    (aTat : PySem.W.nsIn K mainGlobals "text_at" = some (some (.ref fTat)))
    (lTat : K.lookup fTat = some ⟨ocTat, odTat, .func (PySem.W.fnOf "text_at" "text_at" (defArgs sTat) (defBody sTat) (defScope sTat) .none kVTat dcTat pmTat anTat cdTat ctTat), slTat⟩)
    (cTat : PySem.W.codeIn K cdTat "text_at" = true)
    (kTat : PySem.W.keepIn K (.ref fTat) = true)
    (aPat : PySem.W.nsIn K mainGlobals "tuple_at" = some (some (.ref fPat)))
    (lPat : K.lookup fPat = some ⟨ocPat, odPat, .func (PySem.W.fnOf "tuple_at" "tuple_at" (defArgs sPat) (defBody sPat) (defScope sPat) .none kVPat dcPat pmPat anPat cdPat ctPat), slPat⟩)
    (cPat : PySem.W.codeIn K cdPat "tuple_at" = true)
    (kPat : PySem.W.keepIn K (.ref fPat) = true)
    (aPar : PySem.W.nsIn K mainGlobals "part_at" = some (some (.ref fPar)))
    (lPar : K.lookup fPar = some ⟨ocPar, odPar, .func (PySem.W.fnOf "part_at" "part_at" (defArgs sPar) (defBody sPar) (defScope sPar) .none kVPar dcPar pmPar anPar cdPar ctPar), slPar⟩)
    (cPar : PySem.W.codeIn K cdPar "part_at" = true)
    (kPar : PySem.W.keepIn K (.ref fPar) = true)
    (aSof : PySem.W.nsIn K mainGlobals "stuff_of" = some (some (.ref fSof)))
    (lSof : K.lookup fSof = some ⟨ocSof, odSof, .func (PySem.W.fnOf "stuff_of" "stuff_of" (defArgs sSof) (defBody sSof) (defScope sSof) .none kVSof dcSof pmSof anSof cdSof ctSof), slSof⟩)
    (cSof : PySem.W.codeIn K cdSof "stuff_of" = true)
    (kSof : PySem.W.keepIn K (.ref fSof) = true)
    (aCel : PySem.W.nsIn K mainGlobals "_law_cell_at" = some (some (.ref fCel)))
    (lCel : K.lookup fCel = some ⟨ocCel, odCel, .func (PySem.W.fnOf "_law_cell_at" "_law_cell_at" (defArgs sCel) (defBody sCel) (defScope sCel) .none kVCel dcCel pmCel anCel cdCel ctCel), slCel⟩)
    (cCel : PySem.W.codeIn K cdCel "_law_cell_at" = true)
    (kCel : PySem.W.keepIn K (.ref fCel) = true)
    (aMix : PySem.W.nsIn K mainGlobals "_law_mixed" = some (some (.ref fMix)))
    (lMix : K.lookup fMix = some ⟨ocMix, odMix, .func (PySem.W.fnOf "_law_mixed" "_law_mixed" (defArgs sMix) (defBody sMix) (defScope sMix) .none kVMix dcMix pmMix anMix cdMix ctMix), slMix⟩)
    (cMix : PySem.W.codeIn K cdMix "_law_mixed" = true)
    (kMix : PySem.W.keepIn K (.ref fMix) = true)
    (aLtx : PySem.W.nsIn K mainGlobals "_law_text" = some (some (.ref fLtx)))
    (lLtx : K.lookup fLtx = some ⟨ocLtx, odLtx, .func (PySem.W.fnOf "_law_text" "_law_text" (defArgs sLtx) (defBody sLtx) (defScope sLtx) .none kVLtx dcLtx pmLtx anLtx cdLtx ctLtx), slLtx⟩)
    (cLtx : PySem.W.codeIn K cdLtx "_law_text" = true)
    (kLtx : PySem.W.keepIn K (.ref fLtx) = true)
    (aPla : PySem.W.nsIn K mainGlobals "_law_plain" = some (some (.ref fPla)))
    (lPla : K.lookup fPla = some ⟨ocPla, odPla, .func (PySem.W.fnOf "_law_plain" "_law_plain" (defArgs sPla) (defBody sPla) (defScope sPla) .none kVPla dcPla pmPla anPla cdPla ctPla), slPla⟩)
    (cPla : PySem.W.codeIn K cdPla "_law_plain" = true)
    (kPla : PySem.W.keepIn K (.ref fPla) = true)
    (aStu : PySem.W.nsIn K mainGlobals "_law_stuff" = some (some (.ref fStu)))
    (lStu : K.lookup fStu = some ⟨ocStu, odStu, .func (PySem.W.fnOf "_law_stuff" "_law_stuff" (defArgs sStu) (defBody sStu) (defScope sStu) .none kVStu dcStu pmStu anStu cdStu ctStu), slStu⟩)
    (cStu : PySem.W.codeIn K cdStu "_law_stuff" = true)
    (kStu : PySem.W.keepIn K (.ref fStu) = true)
    (aLin : PySem.W.nsIn K mainGlobals "_law_line" = some (some (.ref fLin)))
    (lLin : K.lookup fLin = some ⟨ocLin, odLin, .func (PySem.W.fnOf "_law_line" "_law_line" (defArgs sLin) (defBody sLin) (defScope sLin) .none kVLin dcLin pmLin anLin cdLin ctLin), slLin⟩)
    (cLin : PySem.W.codeIn K cdLin "_law_line" = true)
    (kLin : PySem.W.keepIn K (.ref fLin) = true)
    (aSpo : PySem.W.nsIn K mainGlobals "_law_spoiled" = some (some (.ref fSpo)))
    (lSpo : K.lookup fSpo = some ⟨ocSpo, odSpo, .func (PySem.W.fnOf "_law_spoiled" "_law_spoiled" (defArgs sSpo) (defBody sSpo) (defScope sSpo) .none kVSpo dcSpo pmSpo anSpo cdSpo ctSpo), slSpo⟩)
    (cSpo : PySem.W.codeIn K cdSpo "_law_spoiled" = true)
    (kSpo : PySem.W.keepIn K (.ref fSpo) = true)
    (aWrd : PySem.W.nsIn K mainGlobals "_law_word" = some (some (.ref fWrd)))
    (lWrd : K.lookup fWrd = some ⟨ocWrd, odWrd, .func (PySem.W.fnOf "_law_word" "_law_word" (defArgs sWrd) (defBody sWrd) (defScope sWrd) .none kVWrd dcWrd pmWrd anWrd cdWrd ctWrd), slWrd⟩)
    (cWrd : PySem.W.codeIn K cdWrd "_law_word" = true)
    (kWrd : PySem.W.keepIn K (.ref fWrd) = true)
    (aClo : PySem.W.nsIn K mainGlobals "_law_closed" = some (some (.ref fClo)))
    (lClo : K.lookup fClo = some ⟨ocClo, odClo, .func (PySem.W.fnOf "_law_closed" "_law_closed" (defArgs sClo) (defBody sClo) (defScope sClo) .none kVClo dcClo pmClo anClo cdClo ctClo), slClo⟩)
    (cClo : PySem.W.codeIn K cdClo "_law_closed" = true)
    (kClo : PySem.W.keepIn K (.ref fClo) = true)
    (aRea : PySem.W.nsIn K mainGlobals "_law_read" = some (some (.ref fRea)))
    (lRea : K.lookup fRea = some ⟨ocRea, odRea, .func (PySem.W.fnOf "_law_read" "_law_read" (defArgs sRea) (defBody sRea) (defScope sRea) .none kVRea dcRea pmRea anRea cdRea ctRea), slRea⟩)
    (cRea : PySem.W.codeIn K cdRea "_law_read" = true)
    (kRea : PySem.W.keepIn K (.ref fRea) = true)
    (aSam : PySem.W.nsIn K mainGlobals "_law_same" = some (some (.ref fSam)))
    (lSam : K.lookup fSam = some ⟨ocSam, odSam, .func (PySem.W.fnOf "_law_same" "_law_same" (defArgs sSam) (defBody sSam) (defScope sSam) .none kVSam dcSam pmSam anSam cdSam ctSam), slSam⟩)
    (cSam : PySem.W.codeIn K cdSam "_law_same" = true)
    (kSam : PySem.W.keepIn K (.ref fSam) = true)
    (aTol : PySem.W.nsIn K mainGlobals "_law_told" = some (some (.ref fTol)))
    (lTol : K.lookup fTol = some ⟨ocTol, odTol, .func (PySem.W.fnOf "_law_told" "_law_told" (defArgs sTol) (defBody sTol) (defScope sTol) .none kVTol dcTol pmTol anTol cdTol ctTol), slTol⟩)
    (cTol : PySem.W.codeIn K cdTol "_law_told" = true)
    (kTol : PySem.W.keepIn K (.ref fTol) = true)
    (aRig : PySem.W.nsIn K mainGlobals "_law_right" = some (some (.ref fRig)))
    (lRig : K.lookup fRig = some ⟨ocRig, odRig, .func (PySem.W.fnOf "_law_right" "_law_right" (defArgs sRig) (defBody sRig) (defScope sRig) .none kVRig dcRig pmRig anRig cdRig ctRig), slRig⟩)
    (cRig : PySem.W.codeIn K cdRig "_law_right" = true)
    (kRig : PySem.W.keepIn K (.ref fRig) = true)
    (aLaw : PySem.W.nsIn K mainGlobals "law" = some (some (.ref fLaw)))
    (lLaw : K.lookup fLaw = some ⟨ocLaw, odLaw, .func (PySem.W.fnOf "law" "law" (defArgs sLaw) (defBody sLaw) (defScope sLaw) .none kVLaw dcLaw pmLaw anLaw cdLaw ctLaw), slLaw⟩)
    (cLaw : PySem.W.codeIn K cdLaw "law" = true)
    (kLaw : PySem.W.keepIn K (.ref fLaw) = true)
    (aW : PySem.W.nsIn K mainGlobals "WoodError" = some (some (.ref W)))
    (lW : K.lookup W = some (excClassObj nmW qW W NW bsW [.type "ValueError", .type "Exception", .type "BaseException", .type "object"] hdW snW subW abW colW ddW x0W x1W x2W x3W x5W "ValueError.__new__"))
    (tNW : K.lookup NW = some ⟨ocNW, odNW, .dict esNW epNW, slNW⟩)
    (tCW : (esNW.all fun e => match e.key with | .str _ _ => true | _ => false) = true)
    (tDW : PySem.W.nsIn K NW "__init__" = some none)
    (hn : PySem.W.specialIn K (.builtin "object.__class__") "__get__" = some (some (.builtin "getset_descriptor.__get__")))
    (tk : PySem.W.takesIn K (.builtin "object.__class__") = some true)
    (aNL : PySem.W.nsIn K mainGlobals "NoLine" = some (some (.ref NL)))
    (lNL : K.lookup NL = some (excClassObj nmNL qNL NL NNL bsNL [.ref W, .type "ValueError", .type "Exception", .type "BaseException", .type "object"] true snNL subNL abNL colNL ddNL x0NL x1NL x2NL x3NL x5NL "ValueError.__new__"))
    (kNL : PySem.W.keepIn K (.ref NL) = true)
    (saNL : PySem.W.findIn K (.ref NL) "__setattr__" = some (some (.builtin "object.__setattr__")))
    (gaNL : PySem.W.findIn K (.ref NL) "__getattribute__" = some (some (.builtin "BaseException.__getattribute__")))
    (gtNL : PySem.W.findIn K (.ref NL) "__getattr__" = some none)
    (caNL : PySem.W.findIn K (.ref NL) "__class__" = some (some (.builtin "object.__class__")))
    (naNL_0 : PySem.W.findIn K (.ref NL) "line" = some none)
    (iCNL : PySem.W.findIn K (.ref NL) "__init__" = some (some (.ref fINL)))
    (nINL : PySem.W.isFn K (.ref fINL) = true)
    (lINL : K.lookup fINL = some ⟨ocINL, odINL, .func (PySem.W.fnOf "__init__" "NoLine.__init__" (defArgs sINL) (defBody sINL) (defScope sINL) .none kVINL dcINL pmINL anINL cdINL ctINL), slINL⟩)
    (cINL : PySem.W.codeIn K cdINL "NoLine.__init__" = true)
    (kINL : PySem.W.keepIn K (.ref fINL) = true)
    (nd : (W :: [NL] : List Addr).Nodup)
    (z0 : PySem.W.nsIn K mainGlobals "isinstance" = some none)
    (z1 : PySem.W.nsIn K mainGlobals "int" = some none)
    (z2 : PySem.W.nsIn K mainGlobals "bool" = some none)
    (z3 : PySem.W.nsIn K mainGlobals "str" = some none)
    (z4 : PySem.W.nsIn K mainGlobals "len" = some none)
    (z5 : PySem.W.nsIn K mainGlobals "range" = some none)
    (z6 : PySem.W.nsIn K mainGlobals "tuple" = some none)
    (z7 : PySem.W.nsIn K mainGlobals "min" = some none)
    (z8 : PySem.W.nsIn K mainGlobals "max" = some none)
    (z9 : PySem.W.nsIn K mainGlobals "all" = some none)
    (z10 : PySem.W.nsIn K mainGlobals "zip" = some none)
    (z11 : PySem.W.nsIn K mainGlobals "ValueError" = some none)
    (gl0 : PySem.W.nsIn K mainGlobals "SIGNS" = some (some (.str sigS gt0)))
    (gl1 : PySem.W.nsIn K mainGlobals "GREATEST" = some (some (.int 4294967295 gt1)))
    (gl2 : PySem.W.nsIn K mainGlobals "FIGURES" = some (some (.str figS gt2)))
    (gl3 : PySem.W.nsIn K mainGlobals "MOST_FIGURES" = some (some (.int 10 gt3)))
    (gl4 : PySem.W.nsIn K mainGlobals "MOST_DEEP" = some (some (.int 6 gt4))) :
    ∃ fd : FuncData, (∀ (s : Shared) (v : Value), BindsTo s fd ⟨[v], []⟩ [("_law_script", v)]) ∧ ∀ base : Heap, K.In base → base.Ns mainGlobals mg → FnOk l.prog w K mg base CX0 21 fa fd ["_law_script"] (spLaw K) := by
  have e := hfa.symm.trans (PySem.W.mg_of X G aLaw)
  cases e
  have T : Txt mg := ⟨PySem.W.mg_none_of X G z0, PySem.W.mg_none_of X G z1, PySem.W.mg_none_of X G z2, PySem.W.mg_none_of X G z3, PySem.W.mg_none_of X G z4, PySem.W.mg_none_of X G z5, PySem.W.mg_none_of X G z6, PySem.W.mg_none_of X G z7, PySem.W.mg_none_of X G z8, PySem.W.mg_none_of X G z9, PySem.W.mg_none_of X G z10, PySem.W.mg_none_of X G z11, ⟨_, PySem.W.mg_of X G gl0⟩, ⟨_, PySem.W.mg_of X G gl1⟩, ⟨_, PySem.W.mg_of X G gl2⟩, ⟨_, PySem.W.mg_of X G gl3⟩, ⟨_, PySem.W.mg_of X G gl4⟩⟩
  have FLof := fun_mk (st := sLof) lLof cLof kLof
  have hLof : Has K mg "line_of" sLof ["stuff"] fLof _ := ⟨FLof, FLof.binds (ps := ["stuff"]) fun _ _ _ _ _ _ us hl => match us, hl with | [_], _ => rfl, PySem.W.mg_of X G aLof⟩
  have FNof := fun_mk (st := sNof) lNof cNof kNof
  have hNof : Has K mg "number_of" sNof ["text", "most"] fNof _ := ⟨FNof, FNof.binds (ps := ["text", "most"]) fun _ _ _ _ _ _ us hl => match us, hl with | [_, _], _ => rfl, PySem.W.mg_of X G aNof⟩
  have FNat := fun_mk (st := sNat) lNat cNat kNat
  have hNat : Has K mg "number_at" sNat ["line", "at"] fNat _ := ⟨FNat, FNat.binds (ps := ["line", "at"]) fun _ _ _ _ _ _ us hl => match us, hl with | [_, _], _ => rfl, PySem.W.mg_of X G aNat⟩
  have FTat := fun_mk (st := sTat) lTat cTat kTat
  have hTat : Has K mg "text_at" sTat ["line", "at"] fTat _ := ⟨FTat, FTat.binds (ps := ["line", "at"]) fun _ _ _ _ _ _ us hl => match us, hl with | [_, _], _ => rfl, PySem.W.mg_of X G aTat⟩
  have FPat := fun_mk (st := sPat) lPat cPat kPat
  have hPat : Has K mg "tuple_at" sPat ["line", "at", "deep"] fPat _ := ⟨FPat, FPat.binds (ps := ["line", "at", "deep"]) fun _ _ _ _ _ _ us hl => match us, hl with | [_, _, _], _ => rfl, PySem.W.mg_of X G aPat⟩
  have FPar := fun_mk (st := sPar) lPar cPar kPar
  have hPar : Has K mg "part_at" sPar ["line", "at", "deep"] fPar _ := ⟨FPar, FPar.binds (ps := ["line", "at", "deep"]) fun _ _ _ _ _ _ us hl => match us, hl with | [_, _, _], _ => rfl, PySem.W.mg_of X G aPar⟩
  have FSof := fun_mk (st := sSof) lSof cSof kSof
  have hSof : Has K mg "stuff_of" sSof ["line"] fSof _ := ⟨FSof, FSof.binds (ps := ["line"]) fun _ _ _ _ _ _ us hl => match us, hl with | [_], _ => rfl, PySem.W.mg_of X G aSof⟩
  have FCel := fun_mk (st := sCel) lCel cCel kCel
  have hCel : Has K mg "_law_cell_at" sCel ["_law_script", "_law_k"] fCel _ := ⟨FCel, FCel.binds (ps := ["_law_script", "_law_k"]) fun _ _ _ _ _ _ us hl => match us, hl with | [_, _], _ => rfl, PySem.W.mg_of X G aCel⟩
  have FMix := fun_mk (st := sMix) lMix cMix kMix
  have hMix : Has K mg "_law_mixed" sMix ["_law_cell", "_law_k"] fMix _ := ⟨FMix, FMix.binds (ps := ["_law_cell", "_law_k"]) fun _ _ _ _ _ _ us hl => match us, hl with | [_, _], _ => rfl, PySem.W.mg_of X G aMix⟩
  have FLtx := fun_mk (st := sLtx) lLtx cLtx kLtx
  have hLtx : Has K mg "_law_text" sLtx ["_law_number"] fLtx _ := ⟨FLtx, FLtx.binds (ps := ["_law_number"]) fun _ _ _ _ _ _ us hl => match us, hl with | [_], _ => rfl, PySem.W.mg_of X G aLtx⟩
  have FPla := fun_mk (st := sPla) lPla cPla kPla
  have hPla : Has K mg "_law_plain" sPla ["_law_number"] fPla _ := ⟨FPla, FPla.binds (ps := ["_law_number"]) fun _ _ _ _ _ _ us hl => match us, hl with | [_], _ => rfl, PySem.W.mg_of X G aPla⟩
  have FStu := fun_mk (st := sStu) lStu cStu kStu
  have hStu : Has K mg "_law_stuff" sStu ["_law_number", "_law_depth"] fStu _ := ⟨FStu, FStu.binds (ps := ["_law_number", "_law_depth"]) fun _ _ _ _ _ _ us hl => match us, hl with | [_, _], _ => rfl, PySem.W.mg_of X G aStu⟩
  have FLin := fun_mk (st := sLin) lLin cLin kLin
  have hLin : Has K mg "_law_line" sLin ["_law_stuff_here"] fLin _ := ⟨FLin, FLin.binds (ps := ["_law_stuff_here"]) fun _ _ _ _ _ _ us hl => match us, hl with | [_], _ => rfl, PySem.W.mg_of X G aLin⟩
  have FSpo := fun_mk (st := sSpo) lSpo cSpo kSpo
  have hSpo : Has K mg "_law_spoiled" sSpo ["_law_line_here", "_law_number"] fSpo _ := ⟨FSpo, FSpo.binds (ps := ["_law_line_here", "_law_number"]) fun _ _ _ _ _ _ us hl => match us, hl with | [_, _], _ => rfl, PySem.W.mg_of X G aSpo⟩
  have FWrd := fun_mk (st := sWrd) lWrd cWrd kWrd
  have hWrd : Has K mg "_law_word" sWrd ["_law_word_here"] fWrd _ := ⟨FWrd, FWrd.binds (ps := ["_law_word_here"]) fun _ _ _ _ _ _ us hl => match us, hl with | [_], _ => rfl, PySem.W.mg_of X G aWrd⟩
  have FClo := fun_mk (st := sClo) lClo cClo kClo
  have hClo : Has K mg "_law_closed" sClo ["_law_stack"] fClo _ := ⟨FClo, FClo.binds (ps := ["_law_stack"]) fun _ _ _ _ _ _ us hl => match us, hl with | [_], _ => rfl, PySem.W.mg_of X G aClo⟩
  have FRea := fun_mk (st := sRea) lRea cRea kRea
  have hRea : Has K mg "_law_read" sRea ["_law_line_here"] fRea _ := ⟨FRea, FRea.binds (ps := ["_law_line_here"]) fun _ _ _ _ _ _ us hl => match us, hl with | [_], _ => rfl, PySem.W.mg_of X G aRea⟩
  have FSam := fun_mk (st := sSam) lSam cSam kSam
  have hSam : Has K mg "_law_same" sSam ["_law_told_here", "_law_due"] fSam _ := ⟨FSam, FSam.binds (ps := ["_law_told_here", "_law_due"]) fun _ _ _ _ _ _ us hl => match us, hl with | [_, _], _ => rfl, PySem.W.mg_of X G aSam⟩
  have FTol := fun_mk (st := sTol) lTol cTol kTol
  have hTol : Has K mg "_law_told" sTol ["_law_line_here"] fTol _ := ⟨FTol, FTol.binds (ps := ["_law_line_here"]) fun _ _ _ _ _ _ us hl => match us, hl with | [_], _ => rfl, PySem.W.mg_of X G aTol⟩
  have FRig := fun_mk (st := sRig) lRig cRig kRig
  have hRig : Has K mg "_law_right" sRig ["_law_line_here"] fRig _ := ⟨FRig, FRig.binds (ps := ["_law_line_here"]) fun _ _ _ _ _ _ us hl => match us, hl with | [_], _ => rfl, PySem.W.mg_of X G aRig⟩
  have FLaw := fun_mk (st := sLaw) lLaw cLaw kLaw
  have oW : XOb K W tailVE := ⟨_, _, _, _, _, _, _, _, _, _, _, _, _, _, _, lW⟩
  have tlW : PySem.W.tailIn K tailVE (.ref W :: tailVE) = true := tail_own lW (ns_ok tNW tCW) tDW (tail_ve K)
  have oNL : XOb K NL (wl W) := ⟨_, _, _, _, _, _, _, _, _, _, _, _, _, _, _, lNL⟩
  have clNL : XCls K NL := ⟨⟨_, by unfold PySem.W.clsIn; rw [lNL], .own NL (.own W .ve), rfl⟩, saNL, gaNL, gtNL, caNL, hn, tk⟩
  have FINL := fun_mk (st := sINL) lINL cINL kINL
  have hNL : XHas K mg "NoLine" sINL NL (wl W) fINL _ ["self", "line"] := ⟨⟨oNL, tlW, iCNL, nINL, kNL⟩, clNL, (by simp [wl, tailVE]), PySem.W.mg_of X G aNL, FINL, FINL.binds (ps := ["self", "line"]) fun _ _ _ _ _ _ us hl => match us, hl with | [_, _], _ => rfl⟩
  refine ⟨PySem.W.fnOf "law" "law" (defArgs sLaw) (defBody sLaw) (defScope sLaw) .none kVLaw dcLaw pmLaw anLaw cdLaw ctLaw, fun s v => .of_eq rfl, fun base _ _ => ?_⟩
  have naL : NoAttr K NL "line" := naNL_0
  have GNL : FnOk l.prog w K mg base CX0 1 fINL _ ["self", "line"] (spIni NL) := ok_Ini FINL clNL naL.taker
  have GNof : FnOk l.prog w K mg base CX0 1 fNof _ ["text", "most"] spNof := ok_Nof FNof T
  have GNat : FnOk l.prog w K mg base (CXw l.prog w) 4 fNat _ ["line", "at"] (spNat NL) := ok_Nat FNat hNof GNof hNL GNL T
  have GTat : FnOk l.prog w K mg base CX0 1 fTat _ ["line", "at"] spTat := ok_Tat FTat T
  have GPar : FnOk l.prog w K mg base (CXw l.prog w) 17 fPar _ ["line", "at", "deep"] (spR NL (partK 6) 0) := ok_ParK hPar hPat hTat GTat hNat GNat hNL GNL T 6
  have GSof : FnOk l.prog w K mg base (CXw l.prog w) 18 fSof _ ["line"] (spSof NL) := ok_Sof FSof hPar GPar hNL GNL T
  have GLof : FnOk l.prog w K mg base CX0 7 fLof _ ["stuff"] (spLof 6) := ok_Lof FLof hLof T 7
  have GLin : FnOk l.prog w K mg base CX0 7 fLin _ ["_law_stuff_here"] (spLof 6) := ok_Lin FLin hLin T 7
  have GCel : FnOk l.prog w K mg base CX0 1 fCel _ ["_law_script", "_law_k"] (spCel K) := ok_Cel FCel T
  have GMix : FnOk l.prog w K mg base CX0 1 fMix _ ["_law_cell", "_law_k"] spMix := ok_Mix FMix T
  have GLtx : FnOk l.prog w K mg base CX0 2 fLtx _ ["_law_number"] spLtx := ok_Ltx FLtx hMix GMix T
  have GPla : FnOk l.prog w K mg base CX0 3 fPla _ ["_law_number"] spPla := ok_Pla FPla hLtx GLtx T
  have GStu : FnOk l.prog w K mg base CX0 10 fStu _ ["_law_number", "_law_depth"] spStuA := stu_all (ok_Stu FStu hStu hMix GMix hPla GPla T)
  have GSpo : FnOk l.prog w K mg base CX0 1 fSpo _ ["_law_line_here", "_law_number"] spSpo := ok_Spo FSpo T
  have GWrd : FnOk l.prog w K mg base CX0 1 fWrd _ ["_law_word_here"] spWrd := ok_Wrd FWrd T
  have GClo : FnOk l.prog w K mg base CX0 1 fClo _ ["_law_stack"] spClo := ok_Clo FClo T
  have GRea : FnOk l.prog w K mg base CX0 2 fRea _ ["_law_line_here"] spRea := ok_Rea FRea hWrd GWrd hClo GClo T
  have GSam : FnOk l.prog w K mg base CX0 7 fSam _ ["_law_told_here", "_law_due"] (spSam 6) := ok_Sam FSam hSam T 7
  have GTol : FnOk l.prog w K mg base CX0 19 fTol _ ["_law_line_here"] spTol := ok_Tol FTol hSof GSof hNL naL (kit_ve oNL) T
  have GRig : FnOk l.prog w K mg base CX0 20 fRig _ ["_law_line_here"] spRig := ok_Rig FRig hTol GTol hRea GRea hSam GSam T
  exact ok_law FLaw hCel GCel hMix GMix hStu GStu hLin GLin hLof GLof hSam GSam hSof GSof hSpo GSpo hRig GRig T
theorem walk {l : PySem.W.OpenLaw} {q : Program} {loose : List Str} {XP : (Str → Option Value) → Heap → Prop} {YP : World → Heap → Prop} {d : DefRec} {K : Params → PySem.W.Frag} (hn : l.most = some 63) (hdf : d.params.defaults = [])
    (hY : ∀ (w : World) (h : Heap), YP w h → (K w.params).In h)
    (F : ∀ (w : World) (mg : Str → Option Value) (fa : Addr) (h : Heap), (K w.params).In h → h.Ns mainGlobals mg → mg d.name = some (.ref fa) →
      ∃ fd : FuncData, (∀ (s : Shared) (u : Value), BindsTo s fd ⟨[u], []⟩ [("_law_script", u)]) ∧ ∀ base : Heap, (K w.params).In base → base.Ns mainGlobals mg → FnOk l.prog w (K w.params) mg base CX0 21 fa fd ["_law_script"] (spLaw (K w.params))) :
    PySem.W.WalkO q loose XP YP l.row.toRowW d [] (fun f vs => PySem.call f vs) :=
  L2.walk_of (n := 63) (k := 21) (x := "_law_script") (CX := fun _ => CX0) (sp := fun w => spLaw (K w.params)) hn (by decide) hdf ⟨fun _ => rfl, by decide, by decide⟩ hY F (fun _ _ a ns hl _ hS => ⟨a, ns, rfl, hS, hl, fun _ => rfl⟩) fun _ _ _ _ _ z => z
end K86
open PySem PySem.W PyProof.Rows
set_option maxRecDepth 100000 in
set_option maxHeartbeats 0 in
theorem PySem.Challenge.cw_clonewood_k86_lines_and_stuff_holds : PySem.Challenge.rw_clonewood_k86_lines_and_stuff.Holds := by
  w_on; o_law; k_head; (case hw => w_witness2)
  k_fill
  refine K86.walk (l := PySem.Challenge.rw_clonewood_k86_lines_and_stuff) rfl rfl (fun w h Y => PySem.W.kIn_of Y) ?F
  case F =>
    intro w mg fa h KX G hmg
    refine' K86.all_mk KX G hmg ?aLof ?lLof ?cLof ?kLof ?aNof ?lNof ?cNof ?kNof ?aNat ?lNat ?cNat ?kNat ?aTat ?lTat ?cTat ?kTat ?aPat ?lPat ?cPat ?kPat ?aPar ?lPar ?cPar ?kPar ?aSof ?lSof ?cSof ?kSof ?aCel ?lCel ?cCel ?kCel ?aMix ?lMix ?cMix ?kMix ?aLtx ?lLtx ?cLtx ?kLtx ?aPla ?lPla ?cPla ?kPla ?aStu ?lStu ?cStu ?kStu ?aLin ?lLin ?cLin ?kLin ?aSpo ?lSpo ?cSpo ?kSpo ?aWrd ?lWrd ?cWrd ?kWrd ?aClo ?lClo ?cClo ?kClo ?aRea ?lRea ?cRea ?kRea ?aSam ?lSam ?cSam ?kSam ?aTol ?lTol ?cTol ?kTol ?aRig ?lRig ?cRig ?kRig ?aLaw ?lLaw ?cLaw ?kLaw ?aW ?lW ?tNW ?tCW ?tDW ?hn ?tk ?aNL ?lNL ?kNL ?saNL ?gaNL ?gtNL ?caNL ?naNL_0 ?iCNL ?nINL ?lINL ?cINL ?kINL ?nd ?z0 ?z1 ?z2 ?z3 ?z4 ?z5 ?z6 ?z7 ?z8 ?z9 ?z10 ?z11 ?gl0 ?gl1 ?gl2 ?gl3 ?gl4
    (case aLof => k_is)
    (case lLof => k_is)
    (case cLof => k_is)
    (case kLof => k_is)
    (case aNof => k_is)
    (case lNof => k_is)
    (case cNof => k_is)
    (case kNof => k_is)
    (case aNat => k_is)
    (case lNat => k_is)
    (case cNat => k_is)
    (case kNat => k_is)
    (case aTat => k_is)
    (case lTat => k_is)
    (case cTat => k_is)
    (case kTat => k_is)
    (case aPat => k_is)
    (case lPat => k_is)
    (case cPat => k_is)
    (case kPat => k_is)
    (case aPar => k_is)
    (case lPar => k_is)
    (case cPar => k_is)
    (case kPar => k_is)
    (case aSof => k_is)
    (case lSof => k_is)
    (case cSof => k_is)
    (case kSof => k_is)
    (case aCel => k_is)
    (case lCel => k_is)
    (case cCel => k_is)
    (case kCel => k_is)
    (case aMix => k_is)
    (case lMix => k_is)
    (case cMix => k_is)
    (case kMix => k_is)
    (case aLtx => k_is)
    (case lLtx => k_is)
    (case cLtx => k_is)
    (case kLtx => k_is)
    (case aPla => k_is)
    (case lPla => k_is)
    (case cPla => k_is)
    (case kPla => k_is)
    (case aStu => k_is)
    (case lStu => k_is)
    (case cStu => k_is)
    (case kStu => k_is)
    (case aLin => k_is)
    (case lLin => k_is)
    (case cLin => k_is)
    (case kLin => k_is)
    (case aSpo => k_is)
    (case lSpo => k_is)
    (case cSpo => k_is)
    (case kSpo => k_is)
    (case aWrd => k_is)
    (case lWrd => k_is)
    (case cWrd => k_is)
    (case kWrd => k_is)
    (case aClo => k_is)
    (case lClo => k_is)
    (case cClo => k_is)
    (case kClo => k_is)
    (case aRea => k_is)
    (case lRea => k_is)
    (case cRea => k_is)
    (case kRea => k_is)
    (case aSam => k_is)
    (case lSam => k_is)
    (case cSam => k_is)
    (case kSam => k_is)
    (case aTol => k_is)
    (case lTol => k_is)
    (case cTol => k_is)
    (case kTol => k_is)
    (case aRig => k_is)
    (case lRig => k_is)
    (case cRig => k_is)
    (case kRig => k_is)
    (case aLaw => k_is)
    (case lLaw => k_is)
    (case cLaw => k_is)
    (case kLaw => k_is)
    (case aW => k_is)
    (case lW => k_is)
    (case tNW => k_is)
    (case tCW => first | rfl | decide | simp)
    (case tDW => k_is)
    (case hn => k_is)
    (case tk => k_is)
    (case aNL => k_is)
    (case lNL => k_is)
    (case kNL => k_is)
    (case saNL => k_is)
    (case gaNL => k_is)
    (case gtNL => k_is)
    (case caNL => k_is)
    (case naNL_0 => k_is)
    (case iCNL => k_is)
    (case nINL => k_is)
    (case lINL => k_is)
    (case cINL => k_is)
    (case kINL => k_is)
    (case nd => first | decide | decide +kernel)
    (case z0 => k_is)
    (case z1 => k_is)
    (case z2 => k_is)
    (case z3 => k_is)
    (case z4 => k_is)
    (case z5 => k_is)
    (case z6 => k_is)
    (case z7 => k_is)
    (case z8 => k_is)
    (case z9 => k_is)
    (case z10 => k_is)
    (case z11 => k_is)
    (case gl0 => k_is)
    (case gl1 => k_is)
    (case gl2 => k_is)
    (case gl3 => k_is)
    (case gl4 => k_is)
#print axioms PySem.Challenge.cw_clonewood_k86_lines_and_stuff_holds
