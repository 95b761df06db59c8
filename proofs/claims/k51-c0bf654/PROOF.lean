import PyProof.Rows.All
import Wide.All
import OpenK.AllK
import Wide.FinOn
import Lean
import PyProof.EqAt
import PyProof.EqKinds
import PyProof.NeKinds
import PyProof.TupleCall
import PySem.Challenge.RW_clonewood_k51_what_is_a_top
import PyProof.Rows.Range3
import PyProof.SetKind
import PyProof.Rows.SetFrom
import KE.KDictList
set_option Elab.async false
set_option linter.all false
set_option maxRecDepth 100000
/-! THE HAND LAYER, for ints, bools, texts, own classes, LISTS and tuples (index, slices, in, append, pop ..), calls, loops. Paste it whole ahead of your own text; what your proof does not reach may be deleted. -/
namespace L2
open PySem PySem.Spec PyProof.Rows

/-- a key: an int or a str -/
abbrev Key := Sum Int Str
def keyIs : Key → Value → Bool
  | .inl k, v => Value.isInt k v
  | .inr x, v => Value.isStrOf x v
def keyH (w : World) : Key → Int
  | .inl k => hashInt k
  | .inr x => hashStr w x
theorem keyIs_shape : ∀ {k : Key} {v : Value}, keyIs k v = true → (∃ i t, k = Sum.inl i ∧ v = Value.int i t) ∨ (∃ x t, k = Sum.inr x ∧ v = Value.str x t)
  | .inl i, v, h => by
    obtain ⟨t, e⟩ := Value.isInt_shape (k := i) (v := v) h
    exact .inl ⟨i, t, rfl, e⟩
  | .inr x, v, h => by
    obtain ⟨t, e⟩ := Value.isStrOf_shape (x := x) (v := v) h
    exact .inr ⟨x, t, rfl, e⟩
theorem key_ll (a b : Int) : decide ((Sum.inl a : Key) = Sum.inl b) = (a == b) := by
  by_cases e : a = b
  · subst e; simp
  · have h : ¬ (Sum.inl a : Key) = Sum.inl b := fun q => e (Sum.inl.inj q)
    rw [decide_eq_false h]
    exact (beq_eq_false_iff_ne.mpr e).symm
theorem key_rr (a b : Str) : decide ((Sum.inr a : Key) = Sum.inr b) = decide (a = b) := by
  by_cases e : a = b
  · subst e; simp
  · have h : ¬ (Sum.inr a : Key) = Sum.inr b := fun q => e (Sum.inr.inj q)
    rw [decide_eq_false h, decide_eq_false e]
theorem key_lr (a : Int) (b : Str) : decide ((Sum.inl a : Key) = Sum.inr b) = false := decide_eq_false (fun q => nomatch q)
theorem key_rl (a : Str) (b : Int) : decide ((Sum.inr a : Key) = Sum.inl b) = false := decide_eq_false (fun q => nomatch q)

def mixKind (prog : Program) (w : World) : PySem.KeyKind prog w Key where
  is := keyIs
  hash := keyH w
  inj := fun v a b ha hb => by
    rcases keyIs_shape ha with ⟨i, t, rfl, rfl⟩ | ⟨x, t, rfl, rfl⟩
    · rcases keyIs_shape hb with ⟨j, u, rfl, e⟩ | ⟨y, u, rfl, e⟩
      · injection e with e1 _; rw [e1]
      · exact nomatch e
    · rcases keyIs_shape hb with ⟨j, u, rfl, e⟩ | ⟨y, u, rfl, e⟩
      · exact nomatch e
      · injection e with e1 _; rw [e1]
  byValue := fun k v h => by
    rcases keyIs_shape h with ⟨i, t, rfl, rfl⟩ | ⟨x, t, rfl, rfl⟩ <;> rfl
  pyHash := fun hv h => by
    rcases keyIs_shape hv with ⟨i, t, rfl, rfl⟩ | ⟨x, t, rfl, rfl⟩
    · exact wpAny_pyHash_int h
    · exact wpAny_pyHash_str h
  eqBool := fun hu hv h => by
    rcases keyIs_shape hu with ⟨i, t, rfl, rfl⟩ | ⟨x, t, rfl, rfl⟩
    · rcases keyIs_shape hv with ⟨j, u, rfl, rfl⟩ | ⟨y, u, rfl, rfl⟩
      · rw [key_ll] at h; exact wpAny_eqBool_int h
      · rw [key_lr] at h; exact SeqAt.EqAt.int_str i t y u _ _ _ _ h
    · rcases keyIs_shape hv with ⟨j, u, rfl, rfl⟩ | ⟨y, u, rfl, rfl⟩
      · rw [key_rl] at h; exact SeqAt.EqAt.str_int x t j u _ _ _ _ h
      · rw [key_rr] at h; exact wpAny_eqBool_str h
  «strs» := fun k x t v h => by
    rcases keyIs_shape h with ⟨i, u, rfl, e⟩ | ⟨y, u, rfl, e⟩
    · exact nomatch e
    · injection e with e1 _
      subst e1
      cases v <;> rfl

end L2

namespace L2
open PySem PySem.Spec PyProof.Rows

/-- a value, without the heap -/
inductive V where
  | non | bl (b : Bool) | int (i : Int) | str (x : Str) | byt (b : Array UInt8) | flt (b : UInt64) | ref (a : Addr) | ty (n : String)
  deriving DecidableEq

def RelV : V → Value → Prop
  | .non, u => u = Value.none
  | .bl b, u => u = Value.bool b
  | .int i, u => ∃ t, u = Value.int i t
  | .str x, u => ∃ t, u = Value.str x t
  | .byt b, u => ∃ t, u = Value.bytes b t
  | .flt b, u => ∃ t, u = Value.float b t
  | .ref a, u => u = Value.ref a
  | .ty n, u => u = Value.type n

abbrev Vals : List V → List Value → Prop := Paired RelV
theorem Vals.length {xs : List V} {us : List Value} (r : Vals xs us) : xs.length = us.length := Paired.length r
theorem Vals.get : ∀ {xs : List V} {us : List Value} {i : Nat} {x : V}, Vals xs us → xs[i]? = some x → ∃ u, us[i]? = some u ∧ RelV x u
  | _, _, _, _, .nil, e => by simp at e
  | _, _, 0, _, .cons r _, e => by simp at e; subst e; exact ⟨_, rfl, r⟩
  | _, _, i + 1, x, .cons _ t, e => by
    obtain ⟨u, h1, h2⟩ := Vals.get (i := i) (x := x) t (by simpa using e)
    exact ⟨u, by simpa using h1, h2⟩
theorem Vals.append : ∀ {xs ys : List V} {us ws : List Value}, Vals xs us → Vals ys ws → Vals (xs ++ ys) (us ++ ws)
  | _, _, _, _, .nil, s => s
  | _, _, _, _, .cons r t, s => .cons r (Vals.append t s)
theorem Vals.take : ∀ {xs : List V} {us : List Value} (n : Nat), Vals xs us → Vals (xs.take n) (us.take n)
  | _, _, 0, _ => .nil
  | _, _, _ + 1, .nil => .nil
  | _, _, n + 1, .cons r t => .cons r (Vals.take n t)
theorem Vals.drop : ∀ {xs : List V} {us : List Value} (n : Nat), Vals xs us → Vals (xs.drop n) (us.drop n)
  | _, _, 0, r => r
  | _, _, _ + 1, .nil => .nil
  | _, _, n + 1, .cons _ t => Vals.drop n t
def RelO : Option V → Option Value → Prop
  | some v, some u => RelV v u
  | none, none => True
  | _, _ => False
def KV {κ : Type} : List (κ × V) → List (κ × Value) → Prop := Paired fun (p : κ × V) (q : κ × Value) => p.1 = q.1 ∧ RelV p.2 q.2

/-- a key of a dict (00_mix): an int or a text -/
def kV : Key → V
  | .inl i => .int i
  | .inr x => .str x

/-- what stands at a tracked address -/
inductive HO where
  /-- a list -/
  | lst (xs : List V)
  /-- a tuple (never changes) -/
  | tup (xs : List V)
  /-- a dict whose keys are ints and texts; one whose keys are tuples of ints and texts (the empty one is both) -/
  | dK (kvs : List (Key × V)) | dT (kvs : List (List Key × V))
  /-- a set of ints: its members, its size -/
  | set (S : Int → Bool) (n : Nat)
  /-- an instance of the class at C, its dict at dx, its attributes -/
  | ins (C dx : Addr) (fs : List (Str × V))
  /-- the dict of the instance at x -/
  | own (x : Addr)
  /-- the dict of an exception -/
  | xd (fs : List (Str × V))
  /-- a bound method, f of x -/
  | met (f x : Addr)
  /-- a range object lo, lo + 1, .. below hi -/
  | rng (lo hi : Int)
  /-- a thing that is known to the object (the script; a dict while a loop walks it): read, never written while it is so -/
  | frz (o : Obj) (u : HO)
  /-- a code object's table -/
  | tbl (ps : Array Value)
  /-- any other thing, by what is true of its one object (a def of one's own: SetO a S n := HO.ext fun h => ..) -/
  | ext (φ : Heap → Prop)

abbrev Hp := Addr → Option HO
def upd (H : Hp) (a : Addr) (o : HO) : Hp := fun b => if b = a then some o else H b
theorem upd_same {H : Hp} {a : Addr} {o : HO} : upd H a o a = some o := by unfold upd; rw [if_pos rfl]
theorem upd_ne {H : Hp} {a b : Addr} {o : HO} (h : b ≠ a) : upd H a o b = H b := by unfold upd; rw [if_neg h]
theorem upd_upd {H : Hp} {a : Addr} {o u : HO} : upd (upd H a o) a u = upd H a u := by
  funext b; unfold upd; split <;> rfl
theorem ne_of_none {H : Hp} {a b : Addr} {o : HO} (h : H a = some o) (h' : H b = none) : a ≠ b := by
  intro e; subst e; rw [h] at h'; cases h'

section
variable (P : Program) (w : World)
def ObjOk (H : Hp) (h : Heap) (a : Addr) : HO → Prop
  | .lst xs => xs.length ≤ sizeLine ∧ ∃ (its : List Value) (n : Nat), Vals xs its ∧ h.get? a = some { cls := .type "list", data := .seq its.toArray n }
  | .tup xs => xs.length ≤ sizeLine ∧ ∃ its : List Value, Vals xs its ∧ IsTup h a its.toArray
  | .dK kvs => kvs.length ≤ sizeLine ∧ (a == sysModules) = false ∧ ∃ vs, KV kvs vs ∧ h.DictOf (mixKind P w) a vs
  | .dT kvs => kvs.length ≤ sizeLine ∧ (a == sysModules) = false ∧ ∃ xs : List (List Key × Addr × Value),
      Paired (fun (p : List Key × V) (q : List Key × Addr × Value) => p.1 = q.1 ∧ H q.2.1 = some (.tup (p.1.map kV)) ∧ RelV p.2 q.2.2) kvs xs ∧
      ∃ o es ep, h.get? a = some o ∧ o.ExactDict ∧ o.data = .dict es ep ∧ es.toList = xs.map (entryOfKey (tupleKind (mixKind P w))) ∧ (xs.map (·.1)).Nodup
  | .set S n => h.SetOf (intKind P w) a S n
  | .ins C dx fs => H dx = some (.own a) ∧ fs.length ≤ 1000 ∧ dx ≠ a ∧ h.get? a = some (PySem.W.instObj C dx) ∧
      ∃ mA, h.Ns1 dx mA ∧ (∀ f, RelO (fs.lookup f) (mA f)) ∧ PySem.Within mA (fs.map (·.1))
  | .own _ => ∃ o, h.get? a = some o
  | .xd fs => ∃ mA, h.Ns1 a mA ∧ ∀ f, RelO (fs.lookup f) (mA f)
  | .rng lo hi => ∃ t u v, h.get? a = some { cls := .type "range", data := .fields #[.int lo t, .int hi u, .int 1 v] }
  | .frz o u => h.get? a = some o ∧ ObjOk H h a u
  | .tbl ps => h.get? a = some { cls := .none, data := .fields ps }
  | .met f x => h.get? a = some (PySem.W.methodObj (.ref f) (.ref x))
  | .ext φ => φ h ∧ (∃ o, h.get? a = some o) ∧ ∀ h1 h2 : Heap, φ h1 → (∀ o, h1.get? a = some o → h2.get? a = some o) → φ h2
/-- the abstract heap is held -/
def HOk (H : Hp) (h : Heap) : Prop := ∀ a o, H a = some o → ObjOk P w H h a o
end

section
variable {P : Program} {w : World} {H H' : Hp} {h h' : Heap} {a : Addr} {o : HO}
theorem ObjOk.lt (x : ObjOk P w H h a o) : a < h.objs.size := by
  cases o with
  | lst xs => obtain ⟨_, _, _, _, e⟩ := x; exact Heap.lt_size e
  | tup xs => obtain ⟨_, _, _, p⟩ := x; exact p.lt
  | dK kvs => obtain ⟨_, _, _, _, o, _, _, e, _⟩ := x; exact Heap.lt_size e
  | dT kvs => obtain ⟨_, _, _, _, o, _, _, e, _⟩ := x; exact Heap.lt_size e
  | set S n => obtain ⟨o, _, _, _, e, _⟩ := x; exact Heap.lt_size e
  | ins C dx fs => obtain ⟨_, _, _, e, _⟩ := x; exact Heap.lt_size e
  | own y => obtain ⟨_, e⟩ := x; exact Heap.lt_size e
  | xd fs => obtain ⟨_, ⟨_, _, _, e, _⟩, _⟩ := x; exact Heap.lt_size e
  | rng lo hi => obtain ⟨_, _, _, e⟩ := x; exact Heap.lt_size e
  | frz ob u => obtain ⟨e, _⟩ := x; exact Heap.lt_size e
  | tbl ps => exact Heap.lt_size (show h.get? a = some _ from x)
  | met f y => exact Heap.lt_size (show h.get? a = some _ from x)
  | ext φ => obtain ⟨_, ⟨_, e⟩, _⟩ := x; exact Heap.lt_size e
theorem Paired.mapP {α β : Type} {F G : α → β → Prop} : ∀ {l₁ : List α} {l₂ : List β}, Paired F l₁ l₂ → (∀ a b, F a b → G a b) → Paired G l₁ l₂
  | _, _, .nil, _ => .nil
  | _, _, .cons r t, f => .cons (f _ _ r) (Paired.mapP t f)
/-- what an object's description leans on: its own object, its own dict, the tuples -/
theorem ObjOk.stay (x : ObjOk P w H h a o) (k : ∀ b u, (b = a ∨ H b = some (.own a)) → h.get? b = some u → h'.get? b = some u)
    (ho : ∀ b, H b = some (.own a) → H' b = some (.own a)) (ht : ∀ b xs, H b = some (.tup xs) → H' b = some (.tup xs)) : ObjOk P w H' h' a o := by
  induction o with
  | lst xs => obtain ⟨z, its, n, r, e⟩ := x; exact ⟨z, its, n, r, k _ _ (.inl rfl) e⟩
  | tup xs => obtain ⟨z, its, r, ob, e, c⟩ := x; exact ⟨z, its, r, ob, k _ _ (.inl rfl) e, c⟩
  | dK kvs => obtain ⟨z, y, vs, r, ob, es, ep, e, c⟩ := x; exact ⟨z, y, vs, r, ob, es, ep, k _ _ (.inl rfl) e, c⟩
  | dT kvs =>
    obtain ⟨z, y, xs, r, ob, es, ep, e, c⟩ := x
    exact ⟨z, y, xs, Paired.mapP r fun p q z => ⟨z.1, ht _ _ z.2.1, z.2.2⟩, ob, es, ep, k _ _ (.inl rfl) e, c⟩
  | set S n => obtain ⟨ob, es, ep, t, e, c⟩ := x; exact ⟨ob, es, ep, t, k _ _ (.inl rfl) e, c⟩
  | ins C dx fs =>
    obtain ⟨d, z, ne, e, mA, ⟨od, es, ep, e2, c⟩, r⟩ := x
    exact ⟨ho _ d, z, ne, k _ _ (.inl rfl) e, mA, ⟨od, es, ep, k _ _ (.inr d) e2, c⟩, r⟩
  | own y => obtain ⟨ob, e⟩ := x; exact ⟨ob, k _ _ (.inl rfl) e⟩
  | xd fs => obtain ⟨mA, ⟨od, es, ep, e, c⟩, r⟩ := x; exact ⟨mA, ⟨od, es, ep, k _ _ (.inl rfl) e, c⟩, r⟩
  | rng lo hi => obtain ⟨t, u, v, e⟩ := x; exact ⟨t, u, v, k _ _ (.inl rfl) e⟩
  | frz ob u ih => obtain ⟨e, q⟩ := x; exact ⟨k _ _ (.inl rfl) e, ih q⟩
  | tbl ps =>
    have e : h.get? a = some { cls := .none, data := .fields ps } := x
    show h'.get? a = some { cls := .none, data := .fields ps }
    exact k a _ (.inl rfl) e
  | met f y =>
    have e : h.get? a = some (PySem.W.methodObj (.ref f) (.ref y)) := x
    show h'.get? a = some (PySem.W.methodObj (.ref f) (.ref y))
    exact k a _ (.inl rfl) e
  | ext φ => obtain ⟨p, ⟨o, e⟩, st⟩ := x; exact ⟨st _ _ p fun o q => k _ _ (.inl rfl) q, ⟨o, k _ _ (.inl rfl) e⟩, st⟩
theorem HOk.lt (x : HOk P w H h) (e : H a = some o) : a < h.objs.size := (x a o e).lt
theorem HOk.fresh (x : HOk P w H h) (e : h.objs.size ≤ a) : H a = none := by
  cases q : H a with
  | none => rfl
  | some u => exact absurd (Nat.lt_of_lt_of_le (x.lt q) e) (Nat.lt_irrefl _)
/-- every object of the heap is kept -/
theorem HOk.kept (x : HOk P w H h) (k : ∀ b u, h.get? b = some u → h'.get? b = some u) : HOk P w H h' := fun a o e =>
  (x a o e).stay (fun b u _ q => k b u q) (fun _ q => q) fun _ _ q => q
/-- a new object is laid and tracked -/
theorem HOk.laid (x : HOk P w H h) (k : ∀ b u, h.get? b = some u → h'.get? b = some u) (hp : h.objs.size ≤ a) (new : ObjOk P w (upd H a o) h' a o) : HOk P w (upd H a o) h' := fun b u e => by
  have hn := x.fresh hp
  by_cases hb : b = a
  · subst hb; rw [upd_same] at e; cases e; exact new
  · rw [upd_ne hb] at e
    exact (x b u e).stay (fun c v _ q => k c v q) (fun c q => by rw [upd_ne (ne_of_none q hn)]; exact q) fun c xs q => by rw [upd_ne (ne_of_none q hn)]; exact q
end

/-- what may be read as u: it is u, or a known u -/
def Rd (H : Hp) (a : Addr) (u : HO) : Prop := H a = some u ∨ ∃ o, H a = some (.frz o u)
theorem Rd.ok {P : Program} {w : World} {H : Hp} {h : Heap} {a : Addr} {u : HO} (r : Rd H a u) (x : HOk P w H h) : ObjOk P w H h a u := by
  rcases r with r | ⟨o, r⟩
  · exact x a u r
  · obtain ⟨_, q⟩ := x a _ r
    exact q
/-- what may be written -/
def Mut : Option HO → Prop
  | some (.lst _) => True
  | some (.dK _) => True
  | some (.dT _) => True
  | some (.set _ _) => True
  | some (.ins _ _ _) => True
  | some (.ext _) => True
  | _ => False
section
variable {P : Program} {w : World} {H : Hp} {h h' : Heap} {x e : Addr} {o' : HO}
/-- the object at e is changed: x itself, or the dict of the instance x -/
theorem HOk.write (ok : HOk P w H h) (mu : Mut (H x)) (he : e = x ∨ H e = some (.own x)) (k : ∀ b u, b ≠ e → h.get? b = some u → h'.get? b = some u) (heo : ∃ u, h'.get? e = some u)
    (new : ObjOk P w (upd H x o') h' x o') : HOk P w (upd H x o') h' := fun b u q => by
  have nown : ∀ c y, H c = some (.own y) → c ≠ x := fun c y r z => by subst z; rw [r] at mu; exact mu
  have ntup : ∀ c xs, H c = some (.tup xs) → c ≠ x := fun c xs r z => by subst z; rw [r] at mu; exact mu
  by_cases hb : b = x
  · subst hb; rw [upd_same] at q; cases q; exact new
  · rw [upd_ne hb] at q
    by_cases hbe : b = e
    · have q' : H b = some (.own x) := by
        rcases he with z | z
        · exact absurd (hbe.trans z) hb
        · rw [hbe]; exact z
      rw [q] at q'; cases q'
      obtain ⟨v, hv⟩ := heo
      exact ⟨v, by rw [hbe]; exact hv⟩
    · refine (ok b u q).stay (fun c v hc r => k c v ?_ r) (fun c r => by rw [upd_ne (nown c b r)]; exact r) fun c xs r => by rw [upd_ne (ntup c xs r)]; exact r
      rcases hc with rfl | hc
      · exact hbe
      · rintro rfl
        rcases he with z | z
        · exact nown c b hc z
        · rw [hc] at z; cases z; exact hb rfl
end

/-! ### kept unless tracked; of the frames at fs (the callers') the slots may change (an exception that passes writes there); of the records at ex (iterators) nothing is said -/
structure Un (fs ex : List Addr) (H H' : Hp) (h h' : Heap) : Prop where
  keep : ∀ b o, h.get? b = some o → H b = none → b ∉ fs → b ∉ ex → h'.get? b = some o
  slot : ∀ b o, h.get? b = some o → H b = none → b ∈ fs → b ∉ ex → ∃ sl, h'.get? b = some { o with slots := sl }
  free : ∀ b o, h.get? b = some o → H b = none → b ∉ ex → H' b = none
  there : ∀ b o, h.get? b = some o → b ∉ ex → ∃ o', h'.get? b = some o'
  tups : ∀ b xs, H b = some (.tup xs) → H' b = some (.tup xs)
  frzs : ∀ b o u, H b = some (.frz o u) → H' b = some (.frz o u)
  tbls : ∀ b ps, H b = some (.tbl ps) → ∃ more, H' b = some (.tbl (ps ++ more))
section
variable {fs fs' ex ex' : List Addr} {H H1 H2 : Hp} {h h1 h2 h' : Heap} {a x e : Addr} {o : HO}
theorem Un.any (u : Un fs ex H H1 h h1) {b : Addr} {ob : Obj} (q : h.get? b = some ob) (n : H b = none) (hx : b ∉ ex) : ∃ sl, h1.get? b = some { ob with slots := sl } := by
  by_cases hb : b ∈ fs
  · exact u.slot b ob q n hb hx
  · exact ⟨ob.slots, u.keep b ob q n hb hx⟩
theorem Un.kept (k : ∀ b u, h.get? b = some u → h'.get? b = some u) : Un fs ex H H h h' :=
  ⟨fun b ob q _ _ _ => k b ob q, fun b ob q _ _ _ => ⟨ob.slots, k b ob q⟩, fun _ _ _ n _ => n, fun b ob q _ => ⟨ob, k b ob q⟩, fun _ _ q => q, fun _ _ _ q => q, fun _ ps q => ⟨#[], by rw [q]; simp⟩⟩
theorem Un.refl : Un fs ex H H h h := Un.kept fun _ _ q => q
theorem Un.laid (k : ∀ b u, h.get? b = some u → h'.get? b = some u) (hp : h.objs.size ≤ a) (hn : H a = none) : Un fs ex H (upd H a o) h h' where
  keep := fun b u q _ _ _ => k b u q
  slot := fun b u q _ _ _ => ⟨u.slots, k b u q⟩
  free := fun b u q n _ => by rw [upd_ne (Nat.ne_of_lt (Nat.lt_of_lt_of_le (Heap.lt_size q) hp))]; exact n
  there := fun b u q _ => ⟨u, k b u q⟩
  tups := fun b xs q => by rw [upd_ne (ne_of_none q hn)]; exact q
  frzs := fun b u xs q => by rw [upd_ne (ne_of_none q hn)]; exact q
  tbls := fun b ps q => ⟨#[], by rw [upd_ne (ne_of_none q hn), q]; simp⟩
theorem Un.write (mu : Mut (H x)) (he : e = x ∨ H e = some (.own x)) (k : ∀ b u, b ≠ e → h.get? b = some u → h'.get? b = some u) (heo : ∃ u, h'.get? e = some u) : Un fs ex H (upd H x o) h h' := by
  have hx : ∀ b, H b = none → b ≠ x := fun b n z => by subst z; rw [n] at mu; exact mu
  have hb : ∀ b, H b = none → b ≠ e := fun b n z => by
    subst z
    rcases he with r | r
    · exact hx b n r
    · rw [n] at r; cases r
  have hm : ∀ b u, H b = some u → ¬ Mut (some u) → b ≠ x := fun b u q nm z => by subst z; rw [q] at mu; exact nm mu
  refine ⟨fun b u q n _ _ => k b u (hb b n) q, fun b u q n _ _ => ⟨u.slots, k b u (hb b n) q⟩, fun b u q n _ => by rw [upd_ne (hx b n)]; exact n, fun b u q _ => ?_,
    fun b xs q => by rw [upd_ne (hm b _ q fun z => z)]; exact q, fun b u xs q => by rw [upd_ne (hm b _ q fun z => z)]; exact q, fun b ps q => ⟨#[], by rw [upd_ne (hm b _ q fun z => z), q]; simp⟩⟩
  by_cases hbe : b = e
  · subst hbe; exact heo
  · exact ⟨u, k b u hbe q⟩
end

/-! ### the heap without what is tracked -/
def trk (h : Heap) (H : Hp) : List Addr := (List.range h.objs.size).filter fun a => (H a).isSome
def hidT (h : Heap) (H : Hp) : Heap := PySem.W.hideAll h (trk h H)
theorem hidT_size (h : Heap) (H : Hp) : (hidT h H).objs.size = h.objs.size := PySem.W.hideAll_size _ _
theorem hidT_get {h : Heap} {H : Hp} {b : Addr} {o : Obj} (e : h.get? b = some o) (n : H b = none) : (hidT h H).get? b = some o :=
  PySem.W.hideAll_get _ e fun hm => by
    have q : (H b).isSome = true := (List.mem_filter.mp hm).2
    rw [n] at q; simp at q
theorem of_hidT {h : Heap} {H : Hp} {b : Addr} {o : Obj} (e : (hidT h H).get? b = some o) : h.get? b = some o ∧ H b = none := by
  have e' : h.get? b = some o := PySem.W.of_hideAll (trk h H) e
  refine ⟨e', ?_⟩
  cases q : H b with
  | none => rfl
  | some x =>
    have hm : b ∈ trk h H := List.mem_filter.mpr ⟨List.mem_range.mpr (Heap.lt_size e'), by simp [q]⟩
    have z : (hidT h H).get? b = none := PySem.W.hideAll_none (trk h H) hm
    rw [z] at e; cases e

/-! ### OpenK's ledger, filled with every new object but one -/
end L2

namespace L2
open PySem PySem.Spec PyProof.Rows

/-- the module's facts, over the base: the heap at the law's entry without what is tracked there -/
structure Mod (K : PySem.W.Frag) (mg : Str → Option Value) (base : Heap) : Prop where
  kin : K.In base
  glob : base.Ns mainGlobals mg
  blt : ∃ mb, base.Ns builtinsNs mb ∧ ∀ x : Str, x ≠ "__name__" → mb x = bootBuiltins x
  nolimit : base.NoLimit

/-- the context: a def's body (or a comprehension's block) running. base: fixed through the whole law; s₀, H₀: the entry; outer: the frames whose slots others may change (a def's callers); stack: all frames that run;
   ex: iterators that were made ahead of the entry and are walked here (a comprehension's); fn: the names whose cells were made at the entry (a def: all; a comprehension's block: its own); calm: not within an except suite; pn: pins that every state bears; xe: what is wanted of an exception that leaves the code -/
structure Cx where
  prog : Program
  w : World
  K : PySem.W.Frag
  mg : Str → Option Value
  base : Heap
  A : Around
  N : List Str
  s₀ : Shared
  H₀ : Hp
  env : Env
  outer : List Env
  stack : List Env
  ex : List Addr
  fn : Str → Bool
  calm : Bool
  pn : List (Addr × Obj)
  xe : Value → Shared → Prop
/-- the callers' frames -/
def frs (l : List Env) : List Addr := l.filterMap (·.frame)
abbrev Cx.fs (X : Cx) : List Addr := frs X.outer

def Vis (sc : Scope) (x : Str) : Prop := sc.names.lookup x = some .local ∨ sc.names.lookup x = some .cell ∨ sc.names.lookup x = some .free
def Loc (sc : Scope) (x : Str) : Prop := sc.names.lookup x = some .local ∨ sc.names.lookup x = some .cell
def Look (env : Env) (h : Heap) (m : Str → Option Value) (x : Str) (u : Value) : Prop :=
  (env.kindOf x = some .local ∧ m x = some u) ∨ ((env.kindOf x = some .cell ∨ env.kindOf x = some .free) ∧ ∃ c, env.cells.lookup x = some c ∧ h.IsCell c (some u))

structure Cx.Ok (X : Cx) : Prop where
  mod : Mod X.K X.mg X.base
  kind : X.env.scope.kind = .function
  glob : X.env.globals = mainGlobals
  blt : X.env.builtins = builtinsNs
  above : X.s₀.heap.objs.size ≤ X.env.locals
  inj : ∀ x y c, X.env.cells.lookup x = some c → X.env.cells.lookup y = some c → x = y
  has : ∀ x, (X.env.kindOf x = some .cell ∨ X.env.kindOf x = some .free) → ∃ c, X.env.cells.lookup x = some c
  cab : ∀ x c, X.fn x = true → X.env.cells.lookup x = some c → X.s₀.heap.objs.size ≤ c
  hd : X.calm = true → X.A.handled = none
  frames : X.A.frames = some X.stack
  stk : X.stack = X.outer ∨ (X.stack = X.env :: X.outer ∧ X.env.frame = some X.env.locals)
  exf : ∀ b ∈ X.ex, b ≠ X.env.locals ∧ ∀ x c, X.env.cells.lookup x = some c → c ≠ b
  bs : ∀ b o, X.base.get? b = some o → X.s₀.heap.get? b = some o ∧ X.H₀ b = none
  bsz : X.base.objs.size ≤ X.s₀.heap.objs.size
  noex : ∀ b o, X.base.get? b = some o → b ∉ X.ex
  exfs : ∀ b ∈ X.ex, b ∉ X.fs
  funs : X.s₀.heap.FunFrames X.base X.outer
  frf : ∀ b ∈ X.fs, X.H₀ b = none

structure Inv (X : Cx) (pins : List (Addr × Obj)) (σ : List (Option V)) (H : Hp) (s : Shared) : Prop where
  ok : X.Ok
  os : s.os = X.s₀.os
  bare : AllBare s.gens
  base : Un X.fs X.ex X.H₀ H X.s₀.heap s.heap
  loc : ∃ m, s.heap.Ns X.env.locals m ∧ ∀ (i : Nat) (x : Str) (v : V), X.N[i]? = some x → σ[i]? = some (some v) → Vis X.env.scope x → ∃ u, RelV v u ∧ Look X.env s.heap m x u
  cell : ∀ x c, X.env.cells.lookup x = some c → ∃ v, s.heap.IsCell c v
  free : H X.env.locals = none
  freeC : ∀ x c, X.env.cells.lookup x = some c → H c = none
  pin : ∀ p ∈ X.pn ++ pins, s.heap.get? p.1 = some p.2 ∧ H p.1 = none ∧ p.1 ≠ X.env.locals ∧ p.1 ∉ X.fs ∧ ∀ v, p.2.data ≠ .cell v
  hok : HOk X.prog X.w H s.heap
  len : σ.length = X.N.length

section
variable {X : Cx} {pins : List (Addr × Obj)} {σ : List (Option V)} {H H' : Hp} {s : Shared} {h' : Heap}

theorem Cx.Ok.nofr (ok : X.Ok) {b : Addr} {o : Obj} (e : X.base.get? b = some o) : b ∉ X.fs := fun hb => by
  have := (ok.funs.mem hb).1
  rw [e] at this; cases this
theorem Inv.bs (I : Inv X pins σ H s) : ∀ b o, X.base.get? b = some o → s.heap.get? b = some o ∧ H b = none := fun b o e =>
  ⟨I.base.keep b o (I.ok.bs b o e).1 (I.ok.bs b o e).2 (I.ok.nofr e) (I.ok.noex b o e), I.base.free b o (I.ok.bs b o e).1 (I.ok.bs b o e).2 (I.ok.noex b o e)⟩
theorem Inv.bk (I : Inv X pins σ H s) : ∀ b o, X.base.get? b = some o → s.heap.get? b = some o := fun b o e => (I.bs b o e).1
theorem Inv.mod (I : Inv X pins σ H s) : Mod X.K X.mg X.base := I.ok.mod
theorem Inv.kIn (I : Inv X pins σ H s) : X.K.In s.heap := I.ok.mod.kin.keeps I.bk
theorem Inv.lt (I : Inv X pins σ H s) : X.env.locals < s.heap.objs.size := let ⟨_, hn, _⟩ := I.loc; hn.lt
theorem Inv.sz (I : Inv X pins σ H s) : X.s₀.heap.objs.size ≤ s.heap.objs.size := Nat.le_trans I.ok.above (Nat.le_of_lt I.lt)
theorem Inv.nofs (I : Inv X pins σ H s) {a : Addr} (h : s.heap.objs.size ≤ a) : a ∉ X.fs := fun hb => by
  obtain ⟨_, o, ho, _⟩ := I.ok.funs.mem hb
  exact absurd (Nat.lt_of_lt_of_le (Heap.lt_size ho) (Nat.le_trans I.sz h)) (Nat.lt_irrefl _)
theorem Inv.cne (I : Inv X pins σ H s) : ∀ x c, X.env.cells.lookup x = some c → c ≠ X.env.locals := fun x c e z => by
  obtain ⟨v, o, ho, hd⟩ := I.cell x c e
  obtain ⟨m, ⟨o', es, ep, ho', hd', _⟩, _⟩ := I.loc
  rw [z, ho'] at ho; cases ho; rw [hd'] at hd; cases hd
theorem Inv.funs (I : Inv X pins σ H s) : s.heap.FunFrames X.base X.outer := by
  have all : ∀ (l : List Env), (∀ b ∈ frs l, b ∈ X.fs) → X.s₀.heap.FunFrames X.base l → s.heap.FunFrames X.base l := by
    intro l
    induction l with
    | nil => intro _ _; trivial
    | cons env r ih =>
      intro hs hl
      obtain ⟨hk, ⟨L, o, hf, hn, ho, hd⟩, hr⟩ := hl
      have hL : L ∈ X.fs := hs L (by unfold frs; rw [List.filterMap_cons, hf]; exact List.mem_cons_self)
      obtain ⟨sl, e⟩ := I.base.slot L o ho (I.ok.frf L hL) hL fun z => I.ok.exfs L z hL
      exact ⟨hk, ⟨L, _, hf, hn, e, hd⟩, ih (fun b hb => hs b (by unfold frs; rw [List.filterMap_cons, hf]; exact List.mem_cons_of_mem _ hb)) hr⟩
  exact all X.outer (fun _ hb => hb) I.ok.funs

/-- the frames that run, for a call -/
theorem Inv.stack (I : Inv X pins σ H s) : s.heap.FunFrames X.base X.stack := by
  rcases I.ok.stk with e | ⟨e, hf⟩
  · rw [e]; exact I.funs
  · rw [e]
    obtain ⟨m, hn, _⟩ := I.loc
    refine .cons (by rw [I.ok.kind]; decide) hf hn ?_ I.funs
    exact Heap.get?_none_of_le (Nat.le_trans I.ok.bsz I.ok.above)
theorem Inv.stkSub (I : Inv X pins σ H s) : ∀ b ∈ frs X.stack, b ∈ X.env.locals :: X.fs := fun b hb => by
  rcases I.ok.stk with e | ⟨e, hf⟩
  · rw [e] at hb; exact List.mem_cons_of_mem _ hb
  · rw [e] at hb
    unfold frs at hb
    rw [List.filterMap_cons, hf] at hb
    exact hb
theorem Inv.stkFree (I : Inv X pins σ H s) : ∀ b ∈ frs X.stack, H b = none := fun b hb => by
  rcases List.mem_cons.mp (I.stkSub b hb) with e | hb
  · rw [e]; exact I.free
  · obtain ⟨_, o, ho, _⟩ := I.ok.funs.mem hb
    exact I.base.free b o ho (I.ok.frf b hb) fun z => I.ok.exfs b z hb

/-- THE STEP: the untracked objects but the frame and the records at ch are kept (the callers' frames up to slots), the frame's map is kept, the new abstract heap is held -/
theorem Inv.step {g' : Array GenState} {t' : Nat} {d' : Drawn} {ch : List Addr} (I : Inv X pins σ H s)
    (hch : ∀ b ∈ ch, (b ∈ X.ex ∨ X.s₀.heap.objs.size ≤ b) ∧ b ≠ X.env.locals ∧ (∀ x c, X.env.cells.lookup x = some c → c ≠ b) ∧ ∀ p ∈ X.pn ++ pins, p.1 ≠ b)
    (keep : ∀ b o, b ≠ X.env.locals → b ∉ X.fs → b ∉ ch → s.heap.get? b = some o → H b = none → h'.get? b = some o)
    (slot : ∀ b o, b ≠ X.env.locals → b ∈ X.fs → b ∉ ch → s.heap.get? b = some o → H b = none → ∃ sl, h'.get? b = some { o with slots := sl }) (free : ∀ b o, b ∉ ch → s.heap.get? b = some o → H b = none → H' b = none)
    (there : ∀ b o, b ∉ ch → s.heap.get? b = some o → ∃ o', h'.get? b = some o')
    (tups : ∀ b xs, H b = some (.tup xs) → H' b = some (.tup xs)) (frzs : ∀ b o u, H b = some (.frz o u) → H' b = some (.frz o u)) (tbls : ∀ b ps, H b = some (.tbl ps) → ∃ more, H' b = some (.tbl (ps ++ more)))
    (ns : ∀ m, s.heap.Ns X.env.locals m → h'.Ns X.env.locals m) (hok : HOk X.prog X.w H' h') (hg : AllBare g') :
    Inv X pins σ H' { s with heap := h', gens := g', drawn := d', toks := t' } := by
  have neL : ∀ b o, X.s₀.heap.get? b = some o → b ≠ X.env.locals := fun b o e => Nat.ne_of_lt (Nat.lt_of_lt_of_le (Heap.lt_size e) I.ok.above)
  have neC : ∀ b o, X.s₀.heap.get? b = some o → b ∉ X.ex → b ∉ ch := fun b o e hx hb => by
    rcases (hch b hb).1 with z | z
    · exact hx z
    · exact absurd (Nat.lt_of_lt_of_le (Heap.lt_size e) z) (Nat.lt_irrefl _)
  have cellK : ∀ x c, X.env.cells.lookup x = some c → ∀ v, s.heap.IsCell c v → h'.IsCell c v := fun x c e v ⟨o, ho, hd⟩ => by
    have nch : c ∉ ch := fun z => (hch c z).2.2.1 x c e rfl
    by_cases hc : c ∈ X.fs
    · obtain ⟨sl, q⟩ := slot c o (I.cne x c e) hc nch ho (I.freeC x c e)
      exact ⟨_, q, hd⟩
    · exact ⟨o, keep c o (I.cne x c e) hc nch ho (I.freeC x c e), hd⟩
  refine ⟨I.ok, I.os, hg, ⟨fun b o e n hb hx => ?_, fun b o e n hb hx => ?_, fun b o e n hx => ?_, fun b o e hx => ?_, fun b xs e => tups b xs (I.base.tups b xs e), fun b o xs e => frzs b o xs (I.base.frzs b o xs e), fun b ps e => ?_⟩, ?_, fun x c e => ?_, ?_, fun x c e => ?_, fun p hp => ?_, hok, I.len⟩
  · exact keep b o (neL b o e) hb (neC b o e hx) (I.base.keep b o e n hb hx) (I.base.free b o e n hx)
  · obtain ⟨sl, e1⟩ := I.base.slot b o e n hb hx
    obtain ⟨sl', e2⟩ := slot b _ (neL b o e) hb (neC b o e hx) e1 (I.base.free b o e n hx)
    exact ⟨sl', e2⟩
  · obtain ⟨o', e1⟩ := I.base.there b o e hx
    exact free b o' (neC b o e hx) e1 (I.base.free b o e n hx)
  · obtain ⟨o', e1⟩ := I.base.there b o e hx
    exact there b o' (neC b o e hx) e1
  · obtain ⟨m1, e1⟩ := I.base.tbls b ps e
    obtain ⟨m2, e2⟩ := tbls b _ e1
    exact ⟨m1 ++ m2, by rw [e2, Array.append_assoc]⟩
  · obtain ⟨m, hn, hl⟩ := I.loc
    refine ⟨m, ns m hn, fun i x v e1 e2 e3 => ?_⟩
    obtain ⟨u, r, l⟩ := hl i x v e1 e2 e3
    refine ⟨u, r, ?_⟩
    rcases l with l | ⟨k, c, e, z⟩
    · exact .inl l
    · exact .inr ⟨k, c, e, cellK x c e _ z⟩
  · obtain ⟨v, z⟩ := I.cell x c e
    exact ⟨v, cellK x c e v z⟩
  · obtain ⟨m, ⟨o, _, _, ho, _⟩, _⟩ := I.loc
    exact free _ o (fun z => (hch _ z).2.1 rfl) ho I.free
  · obtain ⟨v, o, ho, hd⟩ := I.cell x c e
    exact free c o (fun z => (hch c z).2.2.1 x c e rfl) ho (I.freeC x c e)
  · obtain ⟨e, n, ne, nf, d⟩ := I.pin p hp
    have nch : p.1 ∉ ch := fun z => (hch p.1 z).2.2.2 p hp rfl
    exact ⟨keep p.1 p.2 ne nf nch e n, free p.1 p.2 nch e n, ne, nf, d⟩
/-- .. where the frame's own object is kept too -/
theorem Inv.un {t' : Nat} (I : Inv X pins σ H s) (u : Un X.fs [] H H' s.heap h') (hok : HOk X.prog X.w H' h') : Inv X pins σ H' { s with heap := h', toks := t' } := by
  obtain ⟨m, ⟨o, es, ep, ho, r⟩, _⟩ := id I.loc
  obtain ⟨sl, hL⟩ := u.any ho I.free (by simp)
  exact I.step (g' := s.gens) (d' := s.drawn) (ch := []) (fun _ z => nomatch z) (fun b o _ hb _ e n => u.keep b o e n hb (by simp)) (fun b o _ hb _ e n => u.slot b o e n hb (by simp)) (fun b o _ e n => u.free b o e n (by simp)) (fun b o _ e => u.there b o e (by simp)) u.tups u.frzs u.tbls (fun m' hm => by
    obtain ⟨o', es', ep', ho', r'⟩ := hm
    rw [ho] at ho'; cases ho'
    exact ⟨_, es', ep', hL, r'⟩) hok I.bare
/-- behind a call (or a comprehension's block): the slots of this frame may have changed too, the records at ch may have turned -/
theorem Inv.call {g' : Array GenState} {t' : Nat} {d' : Drawn} {ch : List Addr} (I : Inv X pins σ H s) (u : Un (frs X.stack) ch H H' s.heap h') (hok : HOk X.prog X.w H' h') (hg : AllBare g')
    (hch : ∀ b ∈ ch, (b ∈ X.ex ∨ X.s₀.heap.objs.size ≤ b) ∧ b ≠ X.env.locals ∧ (∀ x c, X.env.cells.lookup x = some c → c ≠ b) ∧ ∀ p ∈ X.pn ++ pins, p.1 ≠ b) :
    Inv X pins σ H' { s with heap := h', gens := g', drawn := d', toks := t' } := by
  obtain ⟨m, ⟨o, es, ep, ho, r⟩, _⟩ := id I.loc
  obtain ⟨sl, hL⟩ := u.any ho I.free fun z => (hch _ z).2.1 rfl
  exact I.step (ch := ch) hch (fun b o hL hb hc e n => u.keep b o e n (fun z => (List.mem_cons.mp (I.stkSub b z)).elim hL hb) hc) (fun b o _ _ hc e n => u.any e n hc) (fun b o hc e n => u.free b o e n hc) (fun b o hc e => u.there b o e hc) u.tups u.frzs u.tbls (fun m' hm => by
    obtain ⟨o', es', ep', ho', r'⟩ := hm
    rw [ho] at ho'; cases ho'
    exact ⟨_, es', ep', hL, r'⟩) hok hg
/-- an untracked record of ours (an iterator) has turned -/
theorem Inv.turned {t' : Nat} {it : Addr} (I : Inv X pins σ H s) (k : ∀ b o, b ≠ it → s.heap.get? b = some o → h'.get? b = some o) (hn : H it = none) (hL : it ≠ X.env.locals)
    (h1 : it ∈ X.ex ∨ X.s₀.heap.objs.size ≤ it) (h2 : ∀ x c, X.env.cells.lookup x = some c → c ≠ it) (h3 : ∀ p ∈ X.pn ++ pins, p.1 ≠ it) : Inv X pins σ H { s with heap := h', toks := t' } := by
  have nit : ∀ b u, H b = some u → b ≠ it := fun b u e z => by rw [z, hn] at e; cases e
  refine I.step (g' := s.gens) (d' := s.drawn) (ch := [it]) (fun b hb => ?_) (fun b o _ _ hc e _ => k b o (fun z => hc (by simp [z])) e) (fun b o _ _ hc e _ => ⟨o.slots, k b o (fun z => hc (by simp [z])) e⟩) (fun _ _ _ _ n => n)
    (fun b o hc e => ⟨o, k b o (fun z => hc (by simp [z])) e⟩) (fun _ _ e => e) (fun _ _ _ e => e) (fun b ps e => ⟨#[], by rw [e]; simp⟩) (fun m hm => ?_) (fun b u e => ?_) I.bare
  · have e : b = it := by simpa using hb
    subst e
    exact ⟨h1, hL, h2, h3⟩
  · obtain ⟨o, es, ep, ho, r⟩ := hm
    exact ⟨o, es, ep, k _ o (Ne.symm hL) ho, r⟩
  · refine (I.hok b u e).stay (fun c v hc q => k c v ?_ q) (fun _ q => q) fun _ _ q => q
    rcases hc with z | z
    · rw [z]; exact nit b u e
    · exact nit c _ z
theorem Inv.tok (I : Inv X pins σ H s) (t : Nat) : Inv X pins σ H { s with toks := t } := I.un (h' := s.heap) (t' := t) Un.refl I.hok
/-- all objects kept -/
theorem Inv.kept {t' : Nat} (I : Inv X pins σ H s) (k : ∀ b u, s.heap.get? b = some u → h'.get? b = some u) : Inv X pins σ H { s with heap := h', toks := t' } := I.un (Un.kept k) (I.hok.kept k)
/-- a new object laid and tracked -/
theorem Inv.laid {a : Addr} {o : HO} {t' : Nat} (I : Inv X pins σ H s) (k : ∀ b u, s.heap.get? b = some u → h'.get? b = some u) (hp : s.heap.objs.size ≤ a) (new : ObjOk X.prog X.w (upd H a o) h' a o) :
    Inv X pins σ (upd H a o) { s with heap := h', toks := t' } := I.un (Un.laid k hp (I.hok.fresh hp)) (I.hok.laid k hp new)
/-- an object written -/
theorem Inv.write {x e : Addr} {o : HO} {t' : Nat} (I : Inv X pins σ H s) (mu : Mut (H x)) (he : e = x ∨ H e = some (.own x)) (k : ∀ b u, b ≠ e → s.heap.get? b = some u → h'.get? b = some u) (heo : ∃ u, h'.get? e = some u)
    (new : ObjOk X.prog X.w (upd H x o) h' x o) : Inv X pins σ (upd H x o) { s with heap := h', toks := t' } := I.un (Un.write mu he k heo) (I.hok.write mu he k heo new)
theorem Inv.pins_of {pins' : List (Addr × Obj)} (I : Inv X pins σ H s) (h : ∀ p ∈ pins', s.heap.get? p.1 = some p.2 ∧ H p.1 = none ∧ p.1 ≠ X.env.locals ∧ p.1 ∉ X.fs ∧ ∀ v, p.2.data ≠ .cell v) : Inv X pins' σ H s :=
  ⟨I.ok, I.os, I.bare, I.base, I.loc, I.cell, I.free, I.freeC, fun p hp => (List.mem_append.mp hp).elim (fun z => I.pin p (List.mem_append_left _ z)) (h p), I.hok, I.len⟩

theorem nodup_ix {N : List Str} (hN : N.Nodup) {i j : Nat} {x : Str} (a : N[i]? = some x) (b : N[j]? = some x) : i = j := by
  obtain ⟨h1, e1⟩ := List.getElem?_eq_some_iff.mp a
  obtain ⟨h2, e2⟩ := List.getElem?_eq_some_iff.mp b
  exact (List.getElem_inj hN).mp (e1.trans e2.symm)

/-- a name is stored; what changed -/
theorem store_ok2 {M : Model} {A : Around} {E : Value → Shared → Prop} {i : Nat} {x : Str} {v : V} {u : Value} {Q : Unit → Shared → Prop} (I : Inv X pins σ H s) (hN : X.N.Nodup) (hi : X.N[i]? = some x) (hx : Loc X.env.scope x) (r : RelV v u)
    (h : ∀ s', Inv X pins (σ.set i (some v)) H s' → (∃ a, Heap.SameBut a s.heap s'.heap ∧ (a = X.env.locals ∨ X.env.cells.lookup x = some a)) → Q () s') (hf : X.fn x = true ∨ X.env.scope.names.lookup x = some .local := by first | exact .inl rfl | exact .inr rfl | assumption) : wpAny M A (storeName X.env x u) Q E s := by
  obtain ⟨m, hn, hl⟩ := id I.loc
  have hcls : (X.env.scope.kind == .class || (X.env.scope.kind == .module && X.env.locals != X.env.globals)) = false := by rw [I.ok.kind]; rfl
  have hiσ : i < σ.length := by rw [I.len]; exact (List.getElem?_eq_some_iff.mp hi).1
  have cne := I.cne
  have tracked : ∀ {a : Addr} {h' : Heap}, (∃ o, s.heap.get? a = some o ∧ H a = none) → Heap.SameBut a s.heap h' → HOk X.prog X.w H h' := fun {a h'} ha hs b ob e => by
    obtain ⟨_, _, hfree⟩ := ha
    refine (I.hok b ob e).stay (fun c w' hc q => (hs.2 c ?_).trans q) (fun _ q => q) fun _ _ q => q
    rintro rfl
    rcases hc with rfl | hc
    · rw [hfree] at e; cases e
    · rw [hfree] at hc; cases hc
  rcases hx with hk | hk
  · refine wpAny_storeName_local hk hn (fun h' hn' hs => ?_) hcls
    obtain ⟨oL, _, _, hoL, _⟩ := id hn
    refine h _ ⟨I.ok, I.os, I.bare, ⟨fun b o e n hb hx => ?_, fun b o e n hb hx => ?_, I.base.free, fun b o e hx => ?_, I.base.tups, I.base.frzs, I.base.tbls⟩, ⟨_, hn', fun j y v' e1 e2 e3 => ?_⟩, fun y c e => ?_, I.free, I.freeC, fun p hp => ?_, tracked ⟨oL, hoL, I.free⟩ hs, by simpa using I.len⟩ ⟨_, hs, .inl rfl⟩
    · exact (hs.2 b (Nat.ne_of_lt (Nat.lt_of_lt_of_le (Heap.lt_size e) I.ok.above))).trans (I.base.keep b o e n hb hx)
    · obtain ⟨sl, e1⟩ := I.base.slot b o e n hb hx
      exact ⟨sl, (hs.2 b (Nat.ne_of_lt (Nat.lt_of_lt_of_le (Heap.lt_size e) I.ok.above))).trans e1⟩
    · obtain ⟨o', e1⟩ := I.base.there b o e hx
      exact ⟨o', (hs.2 b (Nat.ne_of_lt (Nat.lt_of_lt_of_le (Heap.lt_size e) I.ok.above))).trans e1⟩
    · by_cases hj : j = i
      · subst hj
        rw [hi] at e1; cases e1
        rw [List.getElem?_set_self hiσ] at e2
        cases e2
        exact ⟨u, r, .inl ⟨hk, by simp⟩⟩
      · rw [List.getElem?_set_ne (Ne.symm hj)] at e2
        obtain ⟨u', r', q⟩ := hl j y v' e1 e2 e3
        refine ⟨u', r', ?_⟩
        rcases q with ⟨k, e⟩ | ⟨k, c, e, z⟩
        · refine .inl ⟨k, ?_⟩
          have : y ≠ x := fun e => hj (nodup_ix hN e1 (e ▸ hi))
          simp [this, e]
        · exact .inr ⟨k, c, e, z.sameBut hs (cne y c e)⟩
    · obtain ⟨w', z⟩ := I.cell y c e
      exact ⟨w', z.sameBut hs (cne y c e)⟩
    · obtain ⟨e, n, ne, nf, d⟩ := I.pin p hp
      exact ⟨(hs.2 p.1 ne).trans e, n, ne, nf, d⟩
  · have hfn : X.fn x = true := by
      rcases hf with z | z
      · exact z
      · rw [z] at hk; cases hk
    obtain ⟨c, hc⟩ := I.ok.has x (.inl hk)
    obtain ⟨w', z⟩ := I.cell x c hc
    refine wpAny_storeName_cell I.ok.kind hk hc z (fun h' hc' hs => ?_)
    obtain ⟨oc, hoc, hocd⟩ := id z
    refine h { s with heap := h' } ⟨I.ok, I.os, I.bare, ⟨fun b o e n hb hx => ?_, fun b o e n hb hx => ?_, I.base.free, fun b o e hx => ?_, I.base.tups, I.base.frzs, I.base.tbls⟩, ⟨m, hn.sameBut hs (Ne.symm (cne x c hc)), fun j y v' e1 e2 e3 => ?_⟩, fun y c' e => ?_, I.free, I.freeC, fun p hp => ?_, tracked ⟨oc, hoc, I.freeC x c hc⟩ hs, by simpa using I.len⟩ ⟨c, hs, .inr hc⟩
    · exact (hs.2 b (Nat.ne_of_lt (Nat.lt_of_lt_of_le (Heap.lt_size e) (I.ok.cab x c hfn hc)))).trans (I.base.keep b o e n hb hx)
    · obtain ⟨sl, e1⟩ := I.base.slot b o e n hb hx
      exact ⟨sl, (hs.2 b (Nat.ne_of_lt (Nat.lt_of_lt_of_le (Heap.lt_size e) (I.ok.cab x c hfn hc)))).trans e1⟩
    · obtain ⟨o', e1⟩ := I.base.there b o e hx
      exact ⟨o', (hs.2 b (Nat.ne_of_lt (Nat.lt_of_lt_of_le (Heap.lt_size e) (I.ok.cab x c hfn hc)))).trans e1⟩
    · by_cases hj : j = i
      · subst hj
        rw [hi] at e1; cases e1
        rw [List.getElem?_set_self hiσ] at e2
        cases e2
        exact ⟨u, r, .inr ⟨.inl hk, c, hc, hc'⟩⟩
      · rw [List.getElem?_set_ne (Ne.symm hj)] at e2
        obtain ⟨u', r', q⟩ := hl j y v' e1 e2 e3
        refine ⟨u', r', ?_⟩
        rcases q with q | ⟨k, c', e, z'⟩
        · exact .inl q
        · refine .inr ⟨k, c', e, z'.sameBut hs ?_⟩
          rintro rfl
          exact hj (nodup_ix hN e1 (I.ok.inj _ _ _ e hc ▸ hi))
    · by_cases hcc : c' = c
      · subst hcc; exact ⟨_, hc'⟩
      · obtain ⟨w2, z2⟩ := I.cell y c' e
        exact ⟨w2, z2.sameBut hs hcc⟩
    · obtain ⟨e, n, ne, nf, d⟩ := I.pin p hp
      refine ⟨(hs.2 p.1 ?_).trans e, n, ne, nf, d⟩
      intro q
      rw [q, hoc] at e
      have q' : oc = p.2 := Option.some.inj e
      exact d w' (by rw [← q']; exact hocd)
theorem store_ok {M : Model} {A : Around} {E : Value → Shared → Prop} {i : Nat} {x : Str} {v : V} {u : Value} {Q : Unit → Shared → Prop} (I : Inv X pins σ H s) (hN : X.N.Nodup) (hi : X.N[i]? = some x) (hx : Loc X.env.scope x) (r : RelV v u)
    (h : ∀ s', Inv X pins (σ.set i (some v)) H s' → Q () s') (hf : X.fn x = true ∨ X.env.scope.names.lookup x = some .local := by first | exact .inl rfl | exact .inr rfl | assumption) : wpAny M A (storeName X.env x u) Q E s :=
  store_ok2 I hN hi hx r (fun s' I' _ => h s' I') hf
end

/-! ### the judgements -/
/-- an exception: its class, its own dict's address (where it has one), the abstract heap behind it -/
abbrev XK := Value → Option Addr → Hp → Prop
abbrev St := List (Option V)
abbrev VK := V → Hp → Prop
/-- an expression's reading; a test's; an argument list's -/
abbrev TE := St → Hp → VK → Prop
abbrev TT := St → Hp → (Bool → Hp → Prop) → Prop
abbrev TA := St → Hp → (List V → Hp → Prop) → Prop
/-- what is wanted behind a statement -/
structure Ends where
  nx : St → Hp → Prop
  rt : VK
  bk : St → Hp → Prop := fun _ _ => False
  ct : St → Hp → Prop := fun _ _ => False
abbrev TS := Ends → St → Hp → Prop

def EP (X : Cx) (pins : List (Addr × Obj)) (σ : St) (Q : VK) (u : Value) (s' : Shared) : Prop := ∃ v H', Inv X pins σ H' s' ∧ RelV v u ∧ Q v H'
def TP (X : Cx) (pins : List (Addr × Obj)) (σ : St) (Q : Bool → Hp → Prop) (b : Bool) (s' : Shared) : Prop := ∃ H', Inv X pins σ H' s' ∧ Q b H'
def AP (X : Cx) (pins : List (Addr × Obj)) (σ : St) (Q : List V → Hp → Prop) (us : List Value) (s' : Shared) : Prop := ∃ vs H', Inv X pins σ H' s' ∧ Vals vs us ∧ Q vs H'
def SP (X : Cx) (pins : List (Addr × Obj)) (D : Ends) (f : Flow) (s' : Shared) : Prop :=
  match f with
  | .next => ∃ σ' H', Inv X pins σ' H' s' ∧ D.nx σ' H'
  | .brk => ∃ σ' H', Inv X pins σ' H' s' ∧ D.bk σ' H'
  | .cont => ∃ σ' H', Inv X pins σ' H' s' ∧ D.ct σ' H'
  | .ret u => ∃ v σ' H', Inv X pins σ' H' s' ∧ RelV v u ∧ D.rt v H'

def PE (X : Cx) (e : Expr) (t : TE) : Prop :=
  ∀ (pins : List (Addr × Obj)) (s : Shared) (σ : St) (H : Hp) (Q : VK), Inv X pins σ H s → t σ H Q → wpAny (model X.prog X.w) X.A (eval e X.env) (EP X pins σ Q) X.xe s
def PT (X : Cx) (e : Expr) (t : TT) : Prop :=
  ∀ (pins : List (Addr × Obj)) (s : Shared) (σ : St) (H : Hp) (Q : Bool → Hp → Prop), Inv X pins σ H s → t σ H Q → wpAny (model X.prog X.w) X.A (isTrue e X.env (eval e X.env)) (TP X pins σ Q) X.xe s
/-- a test whatever its 'whole' is (and, or) -/
def PW (X : Cx) (e : Expr) (t : TT) : Prop :=
  ∀ (whole : Sem Value) (pins : List (Addr × Obj)) (s : Shared) (σ : St) (H : Hp) (Q : Bool → Hp → Prop), Inv X pins σ H s → t σ H Q → wpAny (model X.prog X.w) X.A (isTrue e X.env whole) (TP X pins σ Q) X.xe s
theorem PW.pt {X : Cx} {e : Expr} {t : TT} (h : PW X e t) : PT X e t := h _
/-- an argument list (no star), from the left -/
def PA (X : Cx) (es : List Expr) (t : TA) : Prop :=
  ∀ (pos : Pos) (pins : List (Addr × Obj)) (s : Shared) (σ : St) (H : Hp) (Q : List V → Hp → Prop), Inv X pins σ H s → t σ H Q → wpAny (model X.prog X.w) X.A (spliced (backTo pos (starEach es X.env))) (AP X pins σ Q) X.xe s
def PS (X : Cx) (st : Stmt) (t : TS) : Prop :=
  ∀ (pins : List (Addr × Obj)) (s : Shared) (σ : St) (H : Hp) (D : Ends), Inv X pins σ H s → t D σ H → wpAny (model X.prog X.w) X.A (exec st X.env) (SP X pins D) X.xe s
def PSs (X : Cx) (st : List Stmt) (t : TS) : Prop :=
  ∀ (pins : List (Addr × Obj)) (s : Shared) (σ : St) (H : Hp) (D : Ends), Inv X pins σ H s → t D σ H → wpAny (model X.prog X.w) X.A (execs st X.env) (SP X pins D) X.xe s
/-- weaken the end -/
theorem thn {α : Type} {t : Sem α} {Q Q' : α → Shared → Prop} {M : Model} {A : Around} {E : Value → Shared → Prop} {s : Shared} (h : wpAny M A t Q E s) (hQ : ∀ a s, Q a s → Q' a s) : wpAny M A t Q' E s := wpAny_mono h hQ fun _ _ x => x
end L2

namespace L2
open PySem PySem.Spec PyProof.Rows
section
variable {X : Cx}

/-- two expressions in a row -/
theorem bin {a b : Expr} {ta tb : TE} (ha : PE X a ta) (hb : PE X b tb) {pins : List (Addr × Obj)} {s : Shared} {σ : St} {H : Hp} {R : V → V → Hp → Prop} (I : Inv X pins σ H s) (h : ta σ H fun x H1 => tb σ H1 fun y H2 => R x y H2)
    {α : Type} {Q : α → Shared → Prop} {f : Value → Value → Sem α}
    (hf : ∀ v u s2 x y H2, Inv X pins σ H2 s2 → RelV x v → RelV y u → R x y H2 → wpAny (model X.prog X.w) X.A (f v u) Q X.xe s2) :
    wpAny (model X.prog X.w) X.A (eval a X.env) (fun v s₁ => wpAny (model X.prog X.w) X.A (eval b X.env) (fun u s₂ => wpAny (model X.prog X.w) X.A (f v u) Q X.xe s₂) X.xe s₁) X.xe s := by
  refine thn (ha pins s σ H _ I h) fun v s1 ⟨x, H1, I1, r1, q1⟩ => ?_
  refine thn (hb pins s1 σ H1 _ I1 q1) fun u s2 ⟨y, H2, I2, r2, q2⟩ => ?_
  exact hf v u s2 x y H2 I2 r1 r2 q2

/-! ### names and constants -/
def tVar (i : Nat) : TE := fun σ H Q => ∃ v, σ[i]? = some (some v) ∧ Q v H
def tC (v : V) : TE := fun _ H Q => Q v H
theorem pe_var {i : Nat} {x : Str} {pos : Pos} (hN : X.N[i]? = some x) (hv : Vis X.env.scope x) (hd : (x == ("__debug__" : Str)) = false := by decide) (hcd : (x == ("__classdict__" : Str)) = false := by decide) : PE X (.Name x pos) (tVar i) := by
  intro pins s σ H Q I h
  obtain ⟨v, e, h⟩ := h
  obtain ⟨m, hn, hl⟩ := I.loc
  obtain ⟨u, r, l⟩ := hl i x v hN e hv
  have fin : EP X pins σ Q u s := ⟨v, H, I, r, h⟩
  rcases l with ⟨hk, hm⟩ | ⟨hk, c, hc, hcell⟩
  · exact wpAny_Name (wpAny_loadName_local I.ok.kind hk hn hm fin) hd
  · rcases hk with hk | hk
    · exact wpAny_Name (wpAny_loadName_cell I.ok.kind hk hc hcell fin) hd
    · exact wpAny_Name (wpAny_loadName_free I.ok.kind hk hc hcell fin hcd) hd
theorem pe_int {i j pos} : PE X (.Constant (.int i) j pos) (tC (.int i)) := fun _ _ _ H _ I h => wpAny_Constant_int ⟨.int i, H, I.tok _, ⟨_, rfl⟩, h⟩
theorem pe_bl {b j pos} : PE X (.Constant (.bool b) j pos) (tC (.bl b)) := fun _ _ _ H _ I h => Constant_bool ⟨.bl b, H, I, rfl, h⟩
theorem pe_non {j pos} : PE X (.Constant .none j pos) (tC .non) := fun _ _ _ H _ I h => Constant_none ⟨.non, H, I, rfl, h⟩
theorem pe_str {x j pos} : PE X (.Constant (.str x) j pos) (tC (.str x)) := fun _ _ _ H _ I h => Calls.Constant_str ⟨.str x, H, I.tok _, ⟨_, rfl⟩, h⟩

/-- a global name of the def -/
def Gl (X : Cx) (x : Str) : Prop := X.env.kindOf x = some .globalImplicit
theorem ld_glob {E : Value → Shared → Prop} {pins : List (Addr × Obj)} {s : Shared} {σ : St} {H : Hp} {x : Str} {u : Value} {pos : Pos} {Q : Value → Shared → Prop} (I : Inv X pins σ H s) (hg : Gl X x) (hm : X.mg x = some u) (h : Q u s)
    (hd : (x == ("__debug__" : Str)) = false := by decide) : wpAny (model X.prog X.w) X.A (eval (.Name x pos) X.env) Q E s :=
  Calls.Name_function_global I.ok.kind hg (Calls.loadGlobal_global (by rw [I.ok.glob]; exact I.mod.glob.keeps I.bk) hm h) hd
theorem ld_blt {E : Value → Shared → Prop} {pins : List (Addr × Obj)} {s : Shared} {σ : St} {H : Hp} {x : Str} {u : Value} {pos : Pos} {Q : Value → Shared → Prop} (I : Inv X pins σ H s) (hg : Gl X x) (hm : X.mg x = none) (hv : bootBuiltins x = some u) (h : Q u s)
    (hn : x ≠ "__name__" := by decide) (hd : (x == ("__debug__" : Str)) = false := by decide) : wpAny (model X.prog X.w) X.A (eval (.Name x pos) X.env) Q E s := by
  obtain ⟨mb, h1, h2⟩ := I.mod.blt
  exact Calls.Name_function_global I.ok.kind hg (Calls.loadGlobal_builtin (by rw [I.ok.glob]; exact I.mod.glob.keeps I.bk) hm (by rw [I.ok.blt]; exact h1.keeps I.bk) ((h2 x hn).trans hv) h) hd
/-- a module's constant, a class, a function, as a value -/
theorem pe_glob {x : Str} {v : V} {u : Value} {pos : Pos} (hg : Gl X x) (hm : X.mg x = some u) (r : RelV v u) (hd : (x == ("__debug__" : Str)) = false := by decide) : PE X (.Name x pos) (tC v) :=
  fun _ _ _ H _ I h => ld_glob I hg hm ⟨v, H, I, r, h⟩ hd
theorem pe_bltn {x : Str} {v : V} {u : Value} {pos : Pos} (hg : Gl X x) (hm : X.mg x = none) (hv : bootBuiltins x = some u) (r : RelV v u) (hn : x ≠ "__name__" := by decide) (hd : (x == ("__debug__" : Str)) = false := by decide) : PE X (.Name x pos) (tC v) :=
  fun _ _ _ H _ I h => ld_blt I hg hm hv ⟨v, H, I, r, h⟩ hn hd

/-! ### arithmetic -/
variable {a b : Expr} {ta tb : TE} {pos : Pos}
/-! ### comparisons -/
def PC (X : Cx) (op : CmpOp) (a b : Expr) (t : TE) : Prop :=
  ∀ (pins : List (Addr × Obj)) (s : Shared) (σ : St) (H : Hp) (Q : VK), Inv X pins σ H s → t σ H Q →
    wpAny (model X.prog X.w) X.A (eval a X.env) (fun v s₁ => wpAny (model X.prog X.w) X.A (eval b X.env) (fun u s₂ => wpAny (model X.prog X.w) X.A (compareOp op v u) (EP X pins σ Q) X.xe s₂) X.xe s₁) X.xe s
/-- a comparison as a value, as a test -/
def tB (t : TE) : TT := fun σ H Q => t σ H fun x H1 => ∃ c, x = .bl c ∧ Q c H1
theorem pt_cmp {op : CmpOp} {t : TE} (h : PC X op a b t) (h1 : behindInMarks op b = false := by first | exact nobehind _ (by decide) (by decide) | rfl) : PT X (.Compare a [op] [b] pos) (tB t) := by
  intro pins s σ H Q I hw
  refine wpAny_isTrue_Compare1 (thn (h pins s σ H _ I hw) fun v s1 h1 => thn h1 fun u s2 h2 => thn h2 fun c s3 ⟨x, H1, I1, r1, q1⟩ => ?_) h1
  obtain ⟨d, rfl, q⟩ := q1
  cases r1
  exact wpAny_truthy_bool ⟨H1, I1, q⟩
/-- an expression whose value is a bool, as a test -/
theorem pt_val {e : Expr} {t : TE} (h : PE X e t) (he : ∀ whole, isTrue e X.env whole = (do let v ← whole; standAt e.pos; holding [v] (truthy v)) := by intro _; rfl) : PT X e (tB t) := by
  intro pins s σ H Q I hw
  refine isTrue_plain (thn (h pins s σ H _ I hw) fun v s1 ⟨x, H1, I1, r1, q1⟩ => ?_) (he _)
  obtain ⟨d, rfl, q⟩ := q1
  cases r1
  exact wpAny_truthy_bool ⟨H1, I1, q⟩

/-! ### and, or, not -/
variable {tA tB' : TT} {rest : List Expr}
def tAnd (t u : TT) : TT := fun σ H Q => t σ H fun c H1 => if c = true then u σ H1 Q else Q false H1
def tOr (t u : TT) : TT := fun σ H Q => t σ H fun c H1 => if c = true then Q true H1 else u σ H1 Q
def tNot (t : TT) : TT := fun σ H Q => t σ H fun c H1 => Q (!c) H1
theorem pw_and1 (ha : PT X a tA) : PW X (.BoolOp .And [a] pos) tA := by
  intro wh pins s σ H Q I h
  refine isTrue_and (thn (ha pins s σ H Q I h) fun c s1 e => ?_)
  cases c with
  | true => exact isTrue_and_nil e
  | false => exact e
theorem pw_or1 (ha : PT X a tA) : PW X (.BoolOp .Or [a] pos) tA := by
  intro wh pins s σ H Q I h
  refine isTrue_or (thn (ha pins s σ H Q I h) fun c s1 e => ?_)
  cases c with
  | false => exact isTrue_or_nil e
  | true => exact e
theorem pw_and (ha : PT X a tA) (hb : PW X (.BoolOp .And (b :: rest) pos) tB') : PW X (.BoolOp .And (a :: b :: rest) pos) (tAnd tA tB') := by
  intro wh pins s σ H Q I h
  refine isTrue_and (thn (ha pins s σ H _ I h) fun c s1 ⟨H1, I1, q1⟩ => ?_)
  cases c with
  | true => exact hb wh pins s1 σ H1 Q I1 q1
  | false => exact ⟨H1, I1, q1⟩
theorem pw_or (ha : PT X a tA) (hb : PW X (.BoolOp .Or (b :: rest) pos) tB') : PW X (.BoolOp .Or (a :: b :: rest) pos) (tOr tA tB') := by
  intro wh pins s σ H Q I h
  refine isTrue_or (thn (ha pins s σ H _ I h) fun c s1 ⟨H1, I1, q1⟩ => ?_)
  cases c with
  | true => exact ⟨H1, I1, q1⟩
  | false => exact hb wh pins s1 σ H1 Q I1 q1
theorem pt_not (ha : PT X a tA) : PT X (.UnaryOp .Not a pos) (tNot tA) := by
  intro pins s σ H Q I h
  exact isTrue_not (ha pins s σ H (fun c H1 => Q (!c) H1) I h)
/-- .. as values (bools) -/
def tAndV (ta tb : TE) : TE := fun σ H Q => ta σ H fun x H1 => ∃ c, x = .bl c ∧ if c = true then tb σ H1 Q else Q (.bl false) H1
def tOrV (ta tb : TE) : TE := fun σ H Q => ta σ H fun x H1 => ∃ c, x = .bl c ∧ if c = true then Q (.bl true) H1 else tb σ H1 Q
def tNotV (ta : TE) : TE := fun σ H Q => ta σ H fun x H1 => ∃ c, x = .bl c ∧ Q (.bl (!c)) H1
theorem pe_one {op} {t : TE} (h : PE X a t) : PE X (.BoolOp op [a] pos) t := fun pins s σ H Q I hw => BoolOp_one (h pins s σ H Q I hw)
theorem pe_and (ha : PE X a ta) (hb : PE X (.BoolOp .And (b :: rest) pos) tb) : PE X (.BoolOp .And (a :: b :: rest) pos) (tAndV ta tb) := by
  intro pins s σ H Q I h
  refine BoolOp_and (thn (ha pins s σ H _ I h) fun v s1 ⟨x, H1, I1, r1, q1⟩ => ?_)
  obtain ⟨c, rfl, q1⟩ := q1
  cases r1
  refine wpAny_truthy_bool ?_
  cases c with
  | true => exact hb pins s1 σ H1 Q I1 q1
  | false => exact ⟨.bl false, H1, I1, rfl, q1⟩
theorem pe_or (ha : PE X a ta) (hb : PE X (.BoolOp .Or (b :: rest) pos) tb) : PE X (.BoolOp .Or (a :: b :: rest) pos) (tOrV ta tb) := by
  intro pins s σ H Q I h
  refine BoolOp_or (thn (ha pins s σ H _ I h) fun v s1 ⟨x, H1, I1, r1, q1⟩ => ?_)
  obtain ⟨c, rfl, q1⟩ := q1
  cases r1
  refine wpAny_truthy_bool ?_
  cases c with
  | false => exact hb pins s1 σ H1 Q I1 q1
  | true => exact ⟨.bl true, H1, I1, rfl, q1⟩
theorem pe_not (ha : PE X a ta) : PE X (.UnaryOp .Not a pos) (tNotV ta) := by
  intro pins s σ H Q I h
  refine UnaryOp_ (thn (ha pins s σ H _ I h) fun v s1 ⟨x, H1, I1, r1, q1⟩ => ?_)
  obtain ⟨c, rfl, q1⟩ := q1
  cases r1
  exact not_of (wpAny_truthy_bool ⟨.bl (!c), H1, I1, rfl, q1⟩)
end
end L2

namespace L2
open PySem PySem.Spec PyProof.Rows

/-! ### a list, a tuple that is read: tracked, frozen, or an object of the module -/
def SqL (K : PySem.W.Frag) (H : Hp) (a : Addr) (xs : List V) : Prop :=
  Rd H a (.lst xs) ∨
    ∃ (o : Obj) (its : Array Value) (n : Nat), K.lookup a = some o ∧ o.cls = .type "list" ∧ o.dict = none ∧ o.data = .seq its n ∧ its.size ≤ sizeLine ∧ Vals xs its.toList
def SqT (K : PySem.W.Frag) (H : Hp) (a : Addr) (xs : List V) : Prop :=
  Rd H a (.tup xs) ∨
    ∃ (o : Obj) (its : Array Value) (n : Nat), K.lookup a = some o ∧ o.cls = .type "tuple" ∧ o.data = .seq its n ∧ its.size ≤ sizeLine ∧ Vals xs its.toList
def absV : Value → Option V
  | .none => some .non
  | .bool b => some (.bl b)
  | .int i _ => some (.int i)
  | .str x _ => some (.str x)
  | .bytes b _ => some (.byt b)
  | .float b _ => some (.flt b)
  | .ref a => some (.ref a)
  | .type n => some (.ty n)
  | _ => none
theorem RelV.abs {x : V} {u : Value} (r : RelV x u) : absV u = some x := by
  cases x with
  | non => cases r; rfl
  | bl _ => cases r; rfl
  | int _ => obtain ⟨t, rfl⟩ := r; rfl
  | str _ => obtain ⟨t, rfl⟩ := r; rfl
  | byt _ => obtain ⟨t, rfl⟩ := r; rfl
  | flt _ => obtain ⟨t, rfl⟩ := r; rfl
  | ref _ => cases r; rfl
  | ty _ => cases r; rfl
theorem RelV.inj {x y : V} {u : Value} (r : RelV x u) (q : RelV y u) : x = y := Option.some.inj (r.abs.symm.trans q.abs)
theorem Vals.inj : ∀ {xs ys : List V} {us : List Value}, Vals xs us → Vals ys us → xs = ys
  | _, _, _, .nil, .nil => rfl
  | _, _, _, .cons r t, .cons r' t' => by rw [r.inj r', Vals.inj t t']
section
variable {X : Cx} {pins : List (Addr × Obj)} {σ : St} {H : Hp} {s : Shared} {a : Addr} {xs ys : List V}
theorem SqL.of {K : PySem.W.Frag} (h : H a = some (.lst xs)) : SqL K H a xs := .inl (.inl h)
theorem SqT.of {K : PySem.W.Frag} (h : H a = some (.tup xs)) : SqT K H a xs := .inl (.inl h)
theorem Inv.list (I : Inv X pins σ H s) (h : SqL X.K H a xs) : ∃ its : List Value, Vals xs its ∧ PlainL s.heap a its.toArray ∧ xs.length ≤ sizeLine := by
  rcases h with h | ⟨o, its, n, hk, hc, hd, hs, hz, r⟩
  · obtain ⟨z, its, n, r, e⟩ := h.ok I.hok
    exact ⟨its, r, ⟨_, n, e, rfl, rfl, rfl⟩, z⟩
  · refine ⟨its.toList, r, ⟨o, n, I.kIn a o hk, hc, hd, by simpa using hs⟩, ?_⟩
    have e := r.length
    simp only [Array.length_toList] at e
    omega
theorem Inv.tuple (I : Inv X pins σ H s) (h : SqT X.K H a xs) : ∃ its : List Value, Vals xs its ∧ IsTup s.heap a its.toArray ∧ xs.length ≤ sizeLine := by
  rcases h with h | ⟨o, its, n, hk, hc, hs, hz, r⟩
  · obtain ⟨z, its, r, p⟩ := h.ok I.hok
    exact ⟨its, r, p, z⟩
  · refine ⟨its.toList, r, ⟨o, I.kIn a o hk, hc, n, by simpa using hs⟩, ?_⟩
    have e := r.length
    simp only [Array.length_toList] at e
    omega
theorem Inv.list_inj (I : Inv X pins σ H s) (h : SqL X.K H a xs) (h' : SqL X.K H a ys) : xs = ys := by
  obtain ⟨its, r, ⟨o, n, e, _, _, d⟩, _⟩ := I.list h
  obtain ⟨its', r', ⟨o', n', e', _, _, d'⟩, _⟩ := I.list h'
  rw [e] at e'; cases e'
  rw [d] at d'
  injection d' with d1 _
  have : its = its' := by simpa using congrArg Array.toList d1
  subst this
  exact r.inj r'
theorem Inv.tuple_inj (I : Inv X pins σ H s) (h : SqT X.K H a xs) (h' : SqT X.K H a ys) : xs = ys := by
  obtain ⟨its, r, ⟨o, e, _, n, d⟩, _⟩ := I.tuple h
  obtain ⟨its', r', ⟨o', e', _, n', d'⟩, _⟩ := I.tuple h'
  rw [e] at e'; cases e'
  rw [d] at d'
  injection d' with d1 _
  have : its = its' := by simpa using congrArg Array.toList d1
  subst this
  exact r.inj r'
end

/-! ### another wish about exceptions -/
abbrev Cx.wish (X : Cx) (E : Value → Shared → Prop) : Cx := { X with xe := E }
/-- no exception leaves -/
abbrev Cx.nox (X : Cx) : Cx := X.wish fun _ _ => False
theorem Cx.Ok.wish {X : Cx} (ok : X.Ok) (E : Value → Shared → Prop) : (X.wish E).Ok :=
  ⟨ok.mod, ok.kind, ok.glob, ok.blt, ok.above, ok.inj, ok.has, ok.cab, ok.hd, ok.frames, ok.stk, ok.exf, ok.bs, ok.bsz, ok.noex, ok.exfs, ok.funs, ok.frf⟩
theorem Cx.Ok.unwish {X : Cx} {E : Value → Shared → Prop} (ok : (X.wish E).Ok) : X.Ok :=
  ⟨ok.mod, ok.kind, ok.glob, ok.blt, ok.above, ok.inj, ok.has, ok.cab, ok.hd, ok.frames, ok.stk, ok.exf, ok.bs, ok.bsz, ok.noex, ok.exfs, ok.funs, ok.frf⟩
section
variable {X : Cx} {pins : List (Addr × Obj)} {σ : St} {H : Hp} {s : Shared} {E : Value → Shared → Prop}
theorem Inv.wish (I : Inv X pins σ H s) (E : Value → Shared → Prop) : Inv (X.wish E) pins σ H s := ⟨I.ok.wish E, I.os, I.bare, I.base, I.loc, I.cell, I.free, I.freeC, I.pin, I.hok, I.len⟩
theorem Inv.unwish (I : Inv (X.wish E) pins σ H s) : Inv X pins σ H s := ⟨I.ok.unwish, I.os, I.bare, I.base, I.loc, I.cell, I.free, I.freeC, I.pin, I.hok, I.len⟩
theorem SP.unwish {D : Ends} {f : Flow} {s' : Shared} (h : SP (X.wish E) pins D f s') : SP X pins D f s' := by
  cases f with
  | next => obtain ⟨σ', H', I, q⟩ := h; exact ⟨σ', H', I.unwish, q⟩
  | brk => obtain ⟨σ', H', I, q⟩ := h; exact ⟨σ', H', I.unwish, q⟩
  | cont => obtain ⟨σ', H', I, q⟩ := h; exact ⟨σ', H', I.unwish, q⟩
  | ret u => obtain ⟨v, σ', H', I, r, q⟩ := h; exact ⟨v, σ', H', I.unwish, r, q⟩
theorem PSs.nox {st : List Stmt} {t : TS} (h : PSs X.nox st t) : PSs X st t := fun pins s σ H D I hw =>
  wpAny_mono (h pins s σ H D (I.wish _) hw) (fun _ _ q => q.unwish) fun _ _ z => False.elim z
end

/-! ### blocks and small statements -/
section
variable {X : Cx} {st : Stmt} {rest : List Stmt} {t u : TS} {e : Expr} {te : TE} {pos : Pos}
def tNext : TS := fun D σ H => D.nx σ H
def tSeq (t u : TS) : TS := fun D σ H => t { D with nx := u D } σ H
theorem pss_nil : PSs X [] tNext := fun _ _ σ H _ I h => wpAny_execs_nil ⟨σ, H, I, h⟩
theorem pss_cons (h1 : PS X st t) (h2 : PSs X rest u) : PSs X (st :: rest) (tSeq t u) := by
  intro pins s σ H D I h
  refine wpAny_execs_cons (thn (h1 pins s σ H { D with nx := u D } I h) fun f s1 q => ?_)
  cases f with
  | next =>
    obtain ⟨σ', H', I', q⟩ := q
    exact h2 pins s1 σ' H' D I' q
  | ret v => exact q
  | brk => exact q
  | cont => exact q
theorem pss_one (h1 : PS X st t) : PSs X [st] t := by
  intro pins s σ H D I h
  refine wpAny_execs_cons (thn (h1 pins s σ H D I h) fun f s1 q => ?_)
  cases f with
  | next => exact wpAny_execs_nil q
  | ret v => exact q
  | brk => exact q
  | cont => exact q
/-- in a def's body nothing is shown -/
theorem Inv.quiet {pins : List (Addr × Obj)} {σ : St} {H : Hp} {s : Shared} (I : Inv X pins σ H s) : interactive X.env = false := by simp [interactive, I.ok.kind]
/-- an expression whose value is dropped -/
def tDrop (te : TE) : TS := fun D σ H => te σ H fun _ H1 => D.nx σ H1
theorem ps_expr (he : PE X e te) (hs : swapsWith e none pos.line X.env = pure false := by rfl) : PS X (.Expr e pos) (tDrop te) := by
  intro pins s σ H D I h
  exact wpAny_Expr_any (thn (he pins s σ H _ I h) fun v s1 ⟨x, H1, I1, r1, q1⟩ => ⟨σ, H1, I1, q1⟩) I.quiet hs
def tRet (te : TE) : TS := fun D σ H => te σ H D.rt
theorem ps_ret (he : PE X e te) : PS X (.Return (some e) pos) (tRet te) := by
  intro pins s σ H D I h
  exact wpAny_Return_some (thn (he pins s σ H _ I h) fun v s1 ⟨x, H1, I1, r1, q1⟩ => ⟨x, σ, H1, I1, r1, q1⟩)
def tIfS (c : TT) (t u : TS) : TS := fun D σ H => c σ H fun b H1 => if b = true then t D σ H1 else u D σ H1
theorem ps_if {c : Expr} {a b : List Stmt} {tc : TT} (hc : PT X c tc) (ha : PSs X a t) (hb : PSs X b u) : PS X (.If c a b pos) (tIfS tc t u) := by
  intro pins s σ H D I h
  refine wpAny_If (thn (hc pins s σ H _ I h) fun d s1 ⟨H1, I1, q1⟩ => ?_)
  cases d with
  | true => exact ha pins s1 σ H1 D I1 q1
  | false => exact hb pins s1 σ H1 D I1 q1
end

/-! ### targets -/
abbrev TG := V → St → Hp → (St → Hp → Prop) → Prop
abbrev TGs := List V → St → Hp → (St → Hp → Prop) → Prop
def PG (X : Cx) (target : Expr) (t : TG) : Prop :=
  ∀ (pins : List (Addr × Obj)) (s : Shared) (σ : St) (H : Hp) (v : V) (u : Value) (Q : St → Hp → Prop), Inv X pins σ H s → RelV v u → t v σ H Q →
    wpAny (model X.prog X.w) X.A (assign target X.env u) (fun _ s' => ∃ σ' H', Inv X pins σ' H' s' ∧ Q σ' H') X.xe s
/-- several targets, one after another -/
def PGs (X : Cx) (ts : List Expr) (t : TGs) : Prop :=
  ∀ (pins : List (Addr × Obj)) (s : Shared) (σ : St) (H : Hp) (vs : List V) (us : List Value) (Q : St → Hp → Prop), Inv X pins σ H s → Vals vs us → t vs σ H Q →
    wpAny (model X.prog X.w) X.A (assignInOrder ((assignEach ts X.env).map (·.2)) us) (fun _ s' => ∃ σ' H', Inv X pins σ' H' s' ∧ Q σ' H') X.xe s
section
variable {X : Cx} {pos : Pos}
def gName (i : Nat) : TG := fun v σ H Q => Q (σ.set i (some v)) H
theorem pg_name {i : Nat} {x : Str} (hN : X.N.Nodup) (hi : X.N[i]? = some x) (hx : Loc X.env.scope x) (hf : X.fn x = true ∨ X.env.scope.names.lookup x = some .local := by first | exact .inl rfl | exact .inr rfl | assumption) : PG X (.Name x pos) (gName i) := by
  intro pins s σ H v u Q I r h
  exact wpAny_assign_Name (store_ok I hN hi hx r (fun s' I' => ⟨_, H, I', h⟩) hf)
def gNil : TGs := fun vs σ H Q => vs = [] ∧ Q σ H
def gCons (t : TG) (u : TGs) : TGs := fun vs σ H Q => ∃ v r, vs = v :: r ∧ t v σ H fun σ' H' => u r σ' H' Q
theorem pgs_nil : PGs X [] gNil := by
  intro pins s σ H vs us Q I r h
  obtain ⟨e, h⟩ := h
  subst e
  cases r
  exact assignInOrder_nil ⟨σ, H, I, h⟩
theorem pgs_cons {e : Expr} {es : List Expr} {t : TG} {u : TGs} (h1 : PG X e t) (h2 : PGs X es u)
    (hs : (assignEach (e :: es) X.env).map (·.2) = assign e X.env :: (assignEach es X.env).map (·.2) := by rfl) : PGs X (e :: es) (gCons t u) := by
  intro pins s σ H vs us Q I r h
  obtain ⟨v, vr, e1, h⟩ := h
  subst e1
  cases r with
  | cons r rr =>
    rw [hs]
    refine assignInOrder_cons (thn (h1 pins s σ H _ _ _ I r h) fun _ s1 ⟨σ1, H1, I1, q1⟩ => ?_)
    exact h2 pins s1 σ1 H1 _ _ Q I1 rr q1
/-- (a, b, ..) = a tuple of that length -/
def gTup (K : PySem.W.Frag) (n : Nat) (t : TGs) : TG := fun v σ H Q => ∃ a xs, v = .ref a ∧ SqT K H a xs ∧ xs.length = n ∧ t xs σ H Q
theorem pg_tup {es : List Expr} {k : Nat} {t : TGs} {n : Nat} (hc : X.calm = true) (h : PGs X es t)
    (hn : (assignEach es X.env).length = n := by rfl) (hst : (assignEach es X.env).findIdx? (·.1) = none := by rfl) : PG X (.Tuple es k pos) (gTup X.K n t) := by
  intro pins s σ H v u Q I r hw
  obtain ⟨a, xs, e1, hq, hl, hw⟩ := hw
  subst e1
  cases r
  obtain ⟨its, rv, ht, hz⟩ := I.tuple hq
  refine assign_Tuple_tuple (I.ok.hd hc) ht (by simp [hn, ← hl, rv.length]) hst fun h' hx => ?_
  have I1 : Inv X pins σ H { s with heap := h' } := I.kept (t' := s.toks) fun b o e => hx b o (Nat.ne_of_lt (Heap.lt_size e)) e
  exact h pins _ σ H xs _ Q I1 (by simpa using rv) hw
/-- target = value -/
def tAsg (te : TE) (g : TG) : TS := fun D σ H => te σ H fun x H1 => g x σ H1 D.nx
/-- name = value -/
theorem ps_set {i : Nat} {x : Str} {e : Expr} {te : TE} {pos' : Pos} (hN : X.N.Nodup) (hi : X.N[i]? = some x) (hx : Loc X.env.scope x) (he : PE X e te) (hs : swapsWith e (some (.Name x pos')) pos.line X.env = pure false := by rfl) (hf : X.fn x = true ∨ X.env.scope.names.lookup x = some .local := by first | exact .inl rfl | exact .inr rfl | assumption) :
    PS X (.Assign [.Name x pos'] e pos) (tAsg te (gName i)) := by
  intro pins s σ H D I h
  refine wpAny_Assign_Name (thn (he pins s σ H _ I h) fun v s1 ⟨y, H1, I1, r1, q1⟩ => ?_) hs
  exact store_ok I1 hN hi hx r1 (fun s2 I2 => ⟨_, H1, I2, q1⟩) hf
end

/-! ### while -/
section
variable {X : Cx} {pos : Pos}
end

/-! ### what a loop or a comprehension walks -/
/-- at turn i: it yields x (the heap may grow), or it stops -/
structure It where
  go : Nat → Hp → Prop
  yld : Nat → Hp → V → Hp → Prop
  stop : Nat → Hp → Prop
/-- the iterator's own objects may turn: they are not the frame's, not pinned, younger than the entry (or a comprehension's own) -/
def FpOk (X : Cx) (pins : List (Addr × Obj)) (H : Hp) (b : Addr) : Prop :=
  H b = none ∧ b ≠ X.env.locals ∧ b ∉ X.fs ∧ (b ∈ X.ex ∨ X.s₀.heap.objs.size ≤ b) ∧ (∀ x c, X.env.cells.lookup x = some c → c ≠ b) ∧ ∀ p ∈ X.pn ++ pins, p.1 ≠ b
theorem Inv.fpOk {X : Cx} {pins : List (Addr × Obj)} {σ : St} {H H' : Hp} {s : Shared} {b : Addr} (I : Inv X pins σ H s) (hb : s.heap.objs.size ≤ b) (hn : H' b = none) : FpOk X pins H' b := by
  refine ⟨hn, Nat.ne_of_gt (Nat.lt_of_lt_of_le I.lt hb), I.nofs hb, .inr (Nat.le_trans I.sz hb), fun x c e z => ?_, fun p hp z => ?_⟩
  · obtain ⟨v, q⟩ := I.cell x c e
    exact absurd (Nat.lt_of_lt_of_le q.lt (by rw [z]; exact hb)) (Nat.lt_irrefl _)
  · exact absurd (Nat.lt_of_lt_of_le (Heap.lt_size (I.pin p hp).1) (by rw [z]; exact hb)) (Nat.lt_irrefl _)
/-- what is handled stands with no context -/
def HandQ (X : Cx) (s : Shared) : Prop := ∃ (ea : Addr) (o : Obj) (vs : Array Value), X.A.handled = some (.ref ea) ∧ s.heap.get? ea = some o ∧ o.data = .fields vs ∧ vs[2]? = some .none
/-- where an iterator may end: nothing is handled; hb: or what is handled has no context -/
def EndQ (hb : Bool) (X : Cx) (s : Shared) : Prop := X.A.handled = none ∨ (hb = true ∧ HandQ X s)
theorem EndQ.none {X : Cx} {s : Shared} (h : EndQ false X s) : X.A.handled = Option.none := by
  rcases h with h | ⟨z, _⟩
  · exact h
  · cases z
structure Turn (P : Program) (w : World) (K : PySem.W.Frag) (tg : Expr) (J : It) (fp : List Addr) (it : Addr) (tn : Nat → Heap → Prop) (hb : Bool := false) : Prop where
  mem : it ∈ fp
  obj : ∀ i h, tn i h → ∀ b ∈ fp, ∃ o, h.get? b = some o ∧ ∀ v, o.data ≠ .cell v
  keep : ∀ i h h', tn i h → (∀ b ∈ fp, ∀ o, h.get? b = some o → h'.get? b = some o) → tn i h'
  item : ∀ (X : Cx), X.prog = P → X.w = w → X.K = K → ∀ (s : Shared), EndQ hb X s → ∀ (i : Nat) (pins : List (Addr × Obj)) (σ : St) (H : Hp) (E : Value → Shared → Prop), Inv X pins σ H s → (∀ b ∈ fp, FpOk X pins H b) → tn i s.heap → J.go i H →
    wpAny (model P w) X.A (pyNext (.ref it)) (fun r s1 => ∃ u, r = some u ∧
      wpAny (model P w) X.A (letOwnedTupleGo tg (.ref it) u) (fun _ s2 => ∃ x H', Inv X pins σ H' s2 ∧ RelV x u ∧ J.yld i H x H' ∧ tn (i + 1) s2.heap ∧ ∀ b ∈ fp, H' b = none) E s1) E s
  done : ∀ (X : Cx), X.prog = P → X.w = w → X.K = K → ∀ (s : Shared), EndQ hb X s → ∀ (i : Nat) (pins : List (Addr × Obj)) (σ : St) (H : Hp) (E : Value → Shared → Prop), Inv X pins σ H s → (∀ b ∈ fp, FpOk X pins H b) → tn i s.heap → J.stop i H →
    wpAny (model P w) X.A (pyNext (.ref it)) (fun r s1 => r = none ∧ Inv X pins σ H s1) E s
  self : ∀ (A : Around) (i : Nat) (s : Shared) (Q : Value → Shared → Prop) (E : Value → Shared → Prop), tn i s.heap → Q (.ref it) s → wpAny (model P w) A (pyIter (.ref it)) Q E s
abbrev TI := St → Hp → (It → Hp → Prop) → Prop
/-- an iterator has come -/
def PIE (X : Cx) (pins : List (Addr × Obj)) (σ : St) (tg : Expr) (R : It → Hp → Prop) (hb : Bool) (itv : Value) (s2 : Shared) : Prop :=
  ∃ (it : Addr) (fp : List Addr) (tn : Nat → Heap → Prop) (J : It) (H' : Hp), itv = .ref it ∧ Inv X pins σ H' s2 ∧ Turn X.prog X.w X.K tg J fp it tn hb ∧ tn 0 s2.heap ∧ (∀ b ∈ fp, FpOk X pins H' b) ∧ R J H'
def PI (X : Cx) (tg iter : Expr) (wi : TI) (hb : Bool := false) : Prop :=
  ∀ (pins : List (Addr × Obj)) (s : Shared) (σ : St) (H : Hp) (R : It → Hp → Prop), Inv X pins σ H s → wi σ H R →
    wpAny (model X.prog X.w) X.A (eval iter X.env) (fun v s1 => wpAny (model X.prog X.w) X.A (pyIter v) (PIE X pins σ tg R hb) X.xe s1) X.xe s

/-- the step ahead of the store is nothing for an iterator that keeps no tuple -/
theorem go_of {M : Model} {A : Around} {E : Value → Shared → Prop} {s : Shared} {tg : Expr} {it : Addr} {u : Value} {o : Obj} {n : String} {vs : Array Value} {Q : Unit → Shared → Prop} (ho : s.heap.get? it = some o) (hc : o.cls = .type n) (hd : o.data = .fields vs)
    (hn : ["enumerate", "zip", "dict_itemiterator", "dict_reverseitemiterator", "odict_iterator", "itertools.zip_longest", "itertools.pairwise"].contains n = false) (hQ : Q () s) : wpAny M A (letOwnedTupleGo tg (.ref it) u) Q E s := by
  unfold letOwnedTupleGo
  cases tg <;> first
    | exact wpAny_pure hQ
    | (cases u <;> first
        | exact wpAny_pure hQ
        | (refine wpAny_bind (wpAny_load ho ?_)
           rw [hc, hd]
           show wpAny M A (if (["enumerate", "zip", "dict_itemiterator", "dict_reverseitemiterator", "odict_iterator", "itertools.zip_longest", "itertools.pairwise"].contains n && vs[0]? == some (rawInt _)) = true then _ else _) Q E s
           rw [if_neg (by intro h; rw [hn, Bool.false_and] at h; cases h)]
           exact wpAny_pure hQ))

/-- the list at a, as it stands at each turn (a loop may append to it) -/
def Itl (K : PySem.W.Frag) (a : Addr) : It :=
  ⟨fun i H => ∃ xs x, SqL K H a xs ∧ xs[i]? = some x, fun i H x H' => H' = H ∧ ∀ xs, SqL K H a xs → xs[i]? = some x, fun i H => ∃ xs, SqL K H a xs ∧ xs.length ≤ i⟩
def Itt (K : PySem.W.Frag) (a : Addr) : It :=
  ⟨fun i H => ∃ xs x, SqT K H a xs ∧ xs[i]? = some x, fun i H x H' => H' = H ∧ ∀ xs, SqT K H a xs → xs[i]? = some x, fun i H => ∃ xs, SqT K H a xs ∧ xs.length ≤ i⟩
/-- lo, lo + 1, .. (n of them) -/
def Itr (lo : Int) (n : Nat) : It := ⟨fun i _ => i < n, fun i H x H' => H' = H ∧ x = .int (lo + i), fun i _ => n ≤ i⟩
theorem turn_list {P : Program} {w : World} {K : PySem.W.Frag} {tg : Expr} (a it : Addr) : Turn P w K tg (Itl K a) [it] it (fun i h => h.IsListIter it a i) where
  mem := by simp
  obj := fun i h st b hb => by
    have e : b = it := by simpa using hb
    subst e
    obtain ⟨o, e, c, d⟩ := st
    exact ⟨o, e, fun v z => by rw [d] at z; cases z⟩
  keep := fun i h h' st k => st.at fun o e => k it (by simp) o e
  item := by
    intro X hP hw hK s hc i pins σ H E I hf st hg
    subst hP hw hK
    obtain ⟨xs, x, hq, hx⟩ := hg
    obtain ⟨its, rv, p, hz⟩ := I.list hq
    obtain ⟨u, hu, ru⟩ := rv.get hx
    obtain ⟨f0, f1, f2, f3, f4, f5⟩ := hf it (by simp)
    refine wpAny_pyNext_list_item st p.isList (x := u) (by simpa using hu) fun h' st' sb => ?_
    have I1 : Inv X pins σ H { s with heap := h' } := I.turned (t' := s.toks) (fun b o hb e => (sb.2 b hb).trans e) f0 f1 f3 f4 f5
    obtain ⟨o, e, c, d⟩ := id st'
    exact ⟨u, rfl, go_of (s := { s with heap := h' }) e c d (by decide) ⟨x, H, I1, ru, ⟨rfl, fun ys hy => by rw [I.list_inj hy hq]; exact hx⟩, st', fun b hb => (hf b hb).1⟩⟩
  done := by
    intro X hP hw hK s hc i pins σ H E I hf st hg
    subst hP hw hK
    obtain ⟨xs, hq, hx⟩ := hg
    obtain ⟨its, rv, p, hz⟩ := I.list hq
    obtain ⟨f0, f1, f2, f3, f4, f5⟩ := hf it (by simp)
    have hl := rv.length
    exact wpAny_pyNext_list_end hc.none st p.isList (by simp; omega) fun h' eb => ⟨rfl, I.turned (t' := s.toks) (fun b o hb e => eb b o hb e) f0 f1 f3 f4 f5⟩
  self := fun _ _ _ _ _ st h => wpAny_pyIter_listiter st h
theorem turn_tuple {P : Program} {w : World} {K : PySem.W.Frag} {tg : Expr} (a it : Addr) : Turn P w K tg (Itt K a) [it] it (fun i h => h.IsTupleIter it a i) where
  mem := by simp
  obj := fun i h st b hb => by
    have e : b = it := by simpa using hb
    subst e
    obtain ⟨o, e, c, d⟩ := st
    exact ⟨o, e, fun v z => by rw [d] at z; cases z⟩
  keep := fun i h h' st k => st.at fun o e => k it (by simp) o e
  item := by
    intro X hP hw hK s hc i pins σ H E I hf st hg
    subst hP hw hK
    obtain ⟨xs, x, hq, hx⟩ := hg
    obtain ⟨its, rv, p, hz⟩ := I.tuple hq
    obtain ⟨u, hu, ru⟩ := rv.get hx
    obtain ⟨f0, f1, f2, f3, f4, f5⟩ := hf it (by simp)
    refine wpAny_pyNext_tuple_item st (show s.heap.IsTuple a its.toArray from p) (x := u) (by simpa using hu) fun h' st' sb => ?_
    have I1 : Inv X pins σ H { s with heap := h' } := I.turned (t' := s.toks) (fun b o hb e => (sb.2 b hb).trans e) f0 f1 f3 f4 f5
    obtain ⟨o, e, c, d⟩ := id st'
    exact ⟨u, rfl, go_of (s := { s with heap := h' }) e c d (by decide) ⟨x, H, I1, ru, ⟨rfl, fun ys hy => by rw [I.tuple_inj hy hq]; exact hx⟩, st', fun b hb => (hf b hb).1⟩⟩
  done := by
    intro X hP hw hK s hc i pins σ H E I hf st hg
    subst hP hw hK
    obtain ⟨xs, hq, hx⟩ := hg
    obtain ⟨its, rv, p, hz⟩ := I.tuple hq
    obtain ⟨f0, f1, f2, f3, f4, f5⟩ := hf it (by simp)
    have hl := rv.length
    exact wpAny_pyNext_tuple_end hc.none st (show s.heap.IsTuple a its.toArray from p) (by simp; omega) fun h' eb => ⟨rfl, I.turned (t' := s.toks) (fun b o hb e => eb b o hb e) f0 f1 f3 f4 f5⟩
  self := fun _ _ _ _ _ st h => wpAny_pyIter_tupleiter st h
section
variable {prog : Program} {w : World} {A : Around} {E : Value → Shared → Prop} {s : Shared} {e ea it : Addr} {o oe : Obj} {us vs : Array Value}
theorem ent_unchain : entryFor table "proto.unchain" = some Builtin.«proto.unchain» := entryFor_of_tree (by kernel_rfl)
/-- a new exception is raised while another one is handled, which has no context -/
theorem raise_hand {α : Type} {Q : α → Shared → Prop} (hh : A.handled = some (.ref ea)) (hea : s.heap.get? ea = some oe) (hd : oe.data = .fields vs) (h2 : vs[2]? = some .none) (he : s.heap.get? e = some o) (hde : o.data = .fields us) (hsz : 2 < us.size) (hne : ea ≠ e)
    (hE : E (.ref e) { s with heap := s.heap.update e (Obj.mapFields (·.setIfInBounds 2 (.ref ea))) }) : wpAny (model prog w) A (raiseNew (.ref e) : Sem α) Q E s := by
  have n : (Value.ref ea != Value.ref e) = true := by simp [hne]
  unfold raiseNew
  refine wpAny_bind (wpAny_handled ?_)
  rw [hh]
  show wpAny _ _ (if (Value.ref ea != Value.ref e) = true then _ else _) _ _ _
  rw [if_pos n]
  refine wpAny_bind (wpAny_holding (wpAny_runValue (codeAny_builtin ent_unchain ?_)))
  show wpAny _ _ (field (.ref ea) 2 >>= _) _ _ _
  refine wpAny_bind (wpAny_field hea hd h2 ?_)
  show wpAny _ _ (if (Value.none == Value.none) = true then _ else _) _ _ _
  rw [if_pos (show (Value.none == Value.none) = true from rfl)]
  refine wpAny_pure ?_
  exact wpAny_bind (wpAny_setField he hde hsz (wpAny_throw hE))
/-- a range's end, while an exception is handled -/
theorem range_end_hand {x left step : Int} {Q : Option Value → Shared → Prop} (hh : A.handled = some (.ref ea)) (hea : s.heap.get? ea = some oe) (hd : oe.data = .fields vs) (h2 : vs[2]? = some .none) (hit : IsRangeIter s.heap it x left step) (hleft : left ≤ 0)
    (hQ : ∀ h', Heap.ExtBut it s.heap h' → Q none { s with heap := h' }) : wpAny (model prog w) A (pyNext (.ref it)) Q E s := by
  have hT : s.TypeIs (.ref it) "range_iterator" := ⟨_, hit, rfl⟩
  have lt := Heap.lt_size hea
  unfold pyNext; refine wpAny_bind (wpAny_attempt (wpAny_callSpecial?_slot (name := Str.ofString "__next__") hT F.slot_range_iterator_next (wpAny_call_entry F.slot_range_iterator_next hT F.entry_range_iterator_next ?_ (F.args_range_iterator_next_1 _))))
  show wpAny _ _ (field (.ref it) 0 >>= _) _ _ s; refine wpAny_bind (wpAny_field hit rfl (x := rawInt x) rfl ?_); show wpAny _ _ (field (.ref it) 1 >>= _) _ _ s; refine wpAny_bind (wpAny_field hit rfl (x := rawInt left) rfl ?_)
  show wpAny _ _ (field (.ref it) 2 >>= _) _ _ s; refine wpAny_bind (wpAny_field hit rfl (x := rawInt step) rfl ?_); show wpAny _ _ (if left ≤ 0 then _ else _) _ _ s; rw [if_pos hleft]
  refine wpAny_bind (wpAny_rule (wpAny_bind ?_)); show wpAny _ _ (newExc (.type "StopIteration") [] >>= _) _ _ _; refine wpAny_bind ?_; simp only [newExc, newTuple]
  refine wpAny_bind (wpAny_newObj_type ?_ (by size_fits)); refine wpAny_bind (m := firstArgMember _ _) (wpAny_of_eq (a := Value.none) (by first | rfl | (simp only [firstArgMember]; rfl)) ?_); refine wpAny_newObj_type ?_ (by size_fits)
  refine raise_hand (oe := oe) (vs := vs) (by first | exact hh | exact (show A.in1.handled = _ from hh)) (Heap.get?_push_of_some _ (Heap.get?_push_of_some _ hea)) hd h2 (Heap.get?_push_size _ rfl) rfl (by simp; omega) (Nat.ne_of_lt (by rw [Heap.size_push]; exact Nat.lt_succ_of_lt lt)) ?_
  refine wpAny_bind (wpAny_isInstance (T := "StopIteration") (b := true) ⟨_, Heap.get?_update_self _ (Heap.get?_push_size _ rfl) rfl, rfl⟩ isSubtype_stop ?_)
  refine wpAny_pure (hQ _ fun b ob hb q => ?_)
  rw [Heap.get?_update_other _ _ (Nat.ne_of_gt (by rw [Heap.size_push]; exact Nat.lt_succ_of_lt (Heap.lt_size q)))]
  exact Heap.get?_push_of_some _ (Heap.get?_push_of_some _ q)
end
theorem turn_range {P : Program} {w : World} {K : PySem.W.Frag} {tg : Expr} (it : Addr) (lo : Int) (n : Nat) {hb : Bool} : Turn P w K tg (Itr lo n) [it] it (fun i h => IsRangeIter h it (lo + (i : Nat) * 1) ((n : Int) - (i : Nat)) 1) hb where
  mem := by simp
  obj := fun i h st b hb => by
    have e : b = it := by simpa using hb
    subst e
    exact ⟨_, st, fun v z => by
      have z' : Data.fields _ = Data.cell v := z
      cases z'⟩
  keep := fun i h h' st k => k it (by simp) _ st
  item := by
    intro X hP hw hK s hc i pins σ H E I hf st hg
    subst hP hw hK
    obtain ⟨f0, f1, f2, f3, f4, f5⟩ := hf it (by simp)
    have hi : i < n := hg
    refine wpAny_pyNext_range_item st (by omega) fun h' st' sb => ?_
    have I1 : Inv X pins σ H { s with heap := h', toks := s.toks + 1 } := I.turned (fun b o hb e => (sb.2 b hb).trans e) f0 f1 f3 f4 f5
    have e1 : lo + ((i : Nat) : Int) * 1 + 1 = lo + ((i + 1 : Nat) : Int) * 1 := by omega
    have e2 : (n : Int) - ((i : Nat) : Int) - 1 = (n : Int) - ((i + 1 : Nat) : Int) := by omega
    rw [e1, e2] at st'
    refine ⟨_, rfl, go_of (s := { s with heap := h', toks := s.toks + 1 }) (n := "range_iterator") st' rfl rfl (by decide) ⟨.int (lo + i), H, I1, ⟨s.toks, ?_⟩, ⟨rfl, rfl⟩, st', fun b hb => (hf b hb).1⟩⟩
    rw [Int.mul_one]
  done := by
    intro X hP hw hK s hc i pins σ H E I hf st hg
    subst hP hw hK
    obtain ⟨f0, f1, f2, f3, f4, f5⟩ := hf it (by simp)
    have hi : (n : Int) - ((i : Nat) : Int) ≤ 0 := by have : n ≤ i := hg; omega
    rcases hc with hc | ⟨_, ea, o, vs, h1, h2, h3, h4⟩
    · exact wpAny_pyNext_range_end hc st hi fun h' eb => ⟨rfl, I.turned (t' := s.toks) (fun b o hb e => eb b o hb e) f0 f1 f3 f4 f5⟩
    · exact range_end_hand h1 h2 h3 h4 st hi fun h' eb => ⟨rfl, I.turned (t' := s.toks) (fun b o hb e => eb b o hb e) f0 f1 f3 f4 f5⟩
  self := fun _ _ _ _ _ st h => wpAny_pyIter_rangeiter st h
end L2

namespace L2
open PySem PySem.Spec PyProof.Rows
section
variable {X : Cx} {tg : Expr}
def iList (K : PySem.W.Frag) (tl : TE) : TI := fun σ H R => tl σ H fun x H1 => ∃ a, x = .ref a ∧ (∃ xs, SqL K H1 a xs) ∧ R (Itl K a) H1
def iTup (K : PySem.W.Frag) (tl : TE) : TI := fun σ H R => tl σ H fun x H1 => ∃ a, x = .ref a ∧ (∃ xs, SqT K H1 a xs) ∧ R (Itt K a) H1
theorem pi_list {l : Expr} {tl : TE} (hl : PE X l tl) : PI X tg l (iList X.K tl) := by
  intro pins s σ H R I h
  refine thn (hl pins s σ H _ I h) fun v s1 ⟨x, H1, I1, r1, q1⟩ => ?_
  obtain ⟨a, e, ⟨xs, hq⟩, q⟩ := q1
  subst e
  cases r1
  obtain ⟨its, rv, p, hz⟩ := I1.list hq
  refine wpAny_pyIter_list p.isList ?_
  refine ⟨s1.heap.objs.size, [s1.heap.objs.size], _, _, H1, rfl, I1.kept (t' := s1.toks) fun b o e => Heap.get?_push_of_some _ e, turn_list a _, ⟨_, Heap.get?_push_size _ rfl, rfl, rfl⟩, fun b hb => ?_, q⟩
  have e : b = s1.heap.objs.size := by simpa using hb
  subst e
  exact I1.fpOk (Nat.le_refl _) (I1.hok.fresh (Nat.le_refl _))
theorem pi_tup {l : Expr} {tl : TE} (hl : PE X l tl) : PI X tg l (iTup X.K tl) := by
  intro pins s σ H R I h
  refine thn (hl pins s σ H _ I h) fun v s1 ⟨x, H1, I1, r1, q1⟩ => ?_
  obtain ⟨a, e, ⟨xs, hq⟩, q⟩ := q1
  subst e
  cases r1
  obtain ⟨its, rv, p, hz⟩ := I1.tuple hq
  refine wpAny_pyIter_tuple (show s1.heap.IsTuple a its.toArray from p) ?_
  refine ⟨s1.heap.objs.size, [s1.heap.objs.size], _, _, H1, rfl, I1.kept (t' := s1.toks) fun b o e => Heap.get?_push_of_some _ e, turn_tuple a _, ⟨_, Heap.get?_push_size _ rfl, rfl, rfl⟩, fun b hb => ?_, q⟩
  have e : b = s1.heap.objs.size := by simpa using hb
  subst e
  exact I1.fpOk (Nat.le_refl _) (I1.hok.fresh (Nat.le_refl _))
/-- a range object just made, walked -/
theorem range_it {hb : Bool} {pins : List (Addr × Obj)} {σ : St} {H : Hp} {s : Shared} {R : It → Hp → Prop} {E : Value → Shared → Prop} {lo hi : Int} {t u v : Tok} {tk : Nat} (I : Inv X pins σ H s) (h1 : -(2 ^ 62) ≤ lo) (h2 : lo < 2 ^ 62) (h3 : -(2 ^ 62) ≤ hi) (h4 : hi < 2 ^ 62)
    (q : R (Itr lo (hi - lo).toNat) H) : wpAny (model X.prog X.w) X.A (pyIter (.ref s.heap.objs.size)) (PIE X pins σ tg R hb) E { s with heap := s.heap.push { cls := .type "range", data := .fields #[.int lo t, .int hi u, .int 1 v] }, toks := tk } := by
  refine wpAny_pyIter_range (IsRange.new ..) (small_one h1 h2 h3 h4) ?_
  have I1 : Inv X pins σ H { s with heap := s.heap.push { cls := .type "range", data := .fields #[.int lo t, .int hi u, .int 1 v] }, toks := tk } := I.kept fun b o e => Heap.get?_push_of_some _ e
  refine ⟨(s.heap.push { cls := .type "range", data := .fields #[.int lo t, .int hi u, .int 1 v] }).objs.size, [(s.heap.push { cls := .type "range", data := .fields #[.int lo t, .int hi u, .int 1 v] }).objs.size], _, _, H, rfl,
    I1.kept (t' := tk) fun b o e => Heap.get?_push_of_some _ e, turn_range _ lo (hi - lo).toNat, ?_, fun b hb => ?_, q⟩
  · have e1 : lo + ((0 : Nat) : Int) * 1 = lo := by simp
    have e2 : (((hi - lo).toNat : Nat) : Int) - ((0 : Nat) : Int) = Builtin.Range.rangeSize lo hi 1 := by rw [rangeSize_one]; split <;> omega
    show IsRangeIter _ _ (lo + ((0 : Nat) : Int) * 1) ((((hi - lo).toNat : Nat) : Int) - ((0 : Nat) : Int)) 1
    rw [e1, e2]
    exact Heap.get?_push_size _ rfl
  · have e : b = (s.heap.push { cls := .type "range", data := .fields #[.int lo t, .int hi u, .int 1 v] }).objs.size := by simpa using hb
    subst e
    exact I1.fpOk (Nat.le_refl _) (I1.hok.fresh (Nat.le_refl _))
def iRng1 (ta : TA) : TI := fun σ H R => ta σ H fun vs H1 => ∃ j : Int, vs = [.int j] ∧ -(2 ^ 62) ≤ j ∧ j < 2 ^ 62 ∧ R (Itr 0 j.toNat) H1
theorem pi_range1 {hb : Bool} {a : Expr} {ta : TA} {p pos : Pos} (hg : Gl X "range") (hm : X.mg "range" = none) (ha : PA X [a] ta) (hs : starEach [a] X.env = [(false, eval a X.env)] := by rfl) : PI X tg (.Call (.Name "range" p) [a] [] pos) (iRng1 ta) hb := by
  intro pins s σ H R I h
  refine Call_ (ld_blt I hg hm boot_range (PyProof.Rows.callWith_type1 (thn (ha pos pins s σ H _ I h) fun us s1 ⟨vs, H1, I1, r1, q1⟩ => ?_) hs rfl))
  obtain ⟨j, e, q1, q2, q⟩ := q1
  subst e
  cases r1 with
  | cons r rr =>
    cases rr
    obtain ⟨t, rfl⟩ := r
    exact call_range_1 (range_it I1 (by omega) (by omega) q1 q2 (by simpa using q))
/-! ### for -/
/-- W: the invariant by the turn and a measure; N: what the body is to reach -/
def tFor (wi : TI) (g : TG) (tb : TS) : TS := fun D σ H => wi σ H fun J H1 => ∃ W : Nat → Nat → St → Hp → Prop, (∃ m, W 0 m σ H1) ∧ ∀ i m σ H, W i m σ H →
  (J.stop i H ∧ D.nx σ H) ∨ (J.go i H ∧ ∃ N : St → Hp → Prop, (∀ σ' H', N σ' H' → ∃ m', m' < m ∧ W (i + 1) m' σ' H') ∧ ∀ x H', J.yld i H x H' → g x σ H' fun σ2 H2 => tb { D with nx := N, ct := N, bk := D.nx } σ2 H2)
/-- the records at fp as they stand -/
def pinsAt (fp : List Addr) (h : Heap) : List (Addr × Obj) := fp.filterMap fun b => (h.get? b).map fun o => (b, o)
theorem mem_pinsAt {fp : List Addr} {h : Heap} {b : Addr} {o : Obj} (hb : b ∈ fp) (e : h.get? b = some o) : (b, o) ∈ pinsAt fp h := List.mem_filterMap.mpr ⟨b, hb, by rw [e]; rfl⟩
theorem of_pinsAt {fp : List Addr} {h : Heap} {p : Addr × Obj} (hp : p ∈ pinsAt fp h) : p.1 ∈ fp ∧ h.get? p.1 = some p.2 := by
  obtain ⟨b, hb, e⟩ := List.mem_filterMap.mp hp
  cases q : h.get? b with
  | none => rw [q] at e; cases e
  | some o =>
    rw [q] at e
    have e' : (b, o) = p := Option.some.inj e
    subst e'
    exact ⟨hb, q⟩
theorem Inv.pinned {pins : List (Addr × Obj)} {σ : St} {H : Hp} {s : Shared} {fp : List Addr} (I : Inv X pins σ H s) (hf : ∀ b ∈ fp, FpOk X pins H b) (ho : ∀ b ∈ fp, ∃ o, s.heap.get? b = some o ∧ ∀ v, o.data ≠ .cell v) : Inv X (pins ++ pinsAt fp s.heap) σ H s :=
  I.pins_of fun p hp => (List.mem_append.mp hp).elim (fun z => I.pin p (List.mem_append_right _ z)) fun z => by
    obtain ⟨hb, e⟩ := of_pinsAt z
    obtain ⟨f0, f1, f2, _⟩ := hf p.1 hb
    obtain ⟨o, e', d⟩ := ho p.1 hb
    rw [e] at e'; cases e'
    exact ⟨e, f0, f1, f2, d⟩
theorem Inv.unpinned {pins pl : List (Addr × Obj)} {σ : St} {H : Hp} {s : Shared} (I : Inv X (pins ++ pl) σ H s) : Inv X pins σ H s := I.pins_of fun p hp => I.pin p (List.mem_append_right _ (List.mem_append_left _ hp))
theorem ps_for {iter : Expr} {body : List Stmt} {wi : TI} {g : TG} {tb : TS} {pos : Pos} (hp : PassesOwn (model X.prog X.w) X.A X.env X.xe) (hc : X.calm = true) (hi : PI X tg iter wi) (hg : PG X tg g) (hb : PSs X body tb)
    (hs : ∀ x, foldedSetIterable iter X.env x = pure x := by intro _; rfl) : PS X (.For tg iter body [] pos) (tFor wi g tb) := by
  intro pins s σ H D I h
  refine wpAny_For (thn (hi pins s σ H _ I h) fun v s1 h1 => thn h1 fun itv s2 h2 => ?_) hs
  obtain ⟨it, fp, tn, J, H2, e, I2, T, st2, f2, W, ⟨m0, w0⟩, turn⟩ := h2
  subst e
  -- what stays true of the iterator's objects through the loop
  have stat : ∀ {H' : Hp}, (∀ b ∈ fp, H' b = none) → ∀ b ∈ fp, FpOk X pins H' b := fun hn b hb => ⟨hn b hb, (f2 b hb).2⟩
  refine codeAny_forLoop_any (fun n s' => ∃ i σ' H', Inv X pins σ' H' s' ∧ tn i s'.heap ∧ (∀ b ∈ fp, H' b = none) ∧ W i n σ' H') ?_ m0 ⟨0, σ, H2, I2, st2, fun b hb => (f2 b hb).1, w0⟩
  rintro n s3 ⟨i, σ3, H3, I3, st3, fr3, w3⟩
  rcases turn i n σ3 H3 w3 with ⟨stop, qn⟩ | ⟨go, N, hN, step⟩
  · refine wpAny_passesOwn hp (thn (T.done X rfl rfl rfl s3 (.inl (I3.ok.hd hc)) i pins σ3 H3 X.xe I3 (stat fr3) st3 stop) fun r s4 ⟨hr, I4⟩ => ?_)
    subst hr
    exact wpAny_execs_nil ⟨σ3, H3, I4, qn⟩
  · refine wpAny_passesOwn hp (thn (T.item X rfl rfl rfl s3 (.inl (I3.ok.hd hc)) i pins σ3 H3 X.xe I3 (stat fr3) st3 go) fun r s4 ⟨u, hr, h4⟩ => ?_)
    subst hr
    refine wpAny_passesOwn hp (thn h4 fun _ s5 ⟨x, H5, I5, r5, y5, st5, fr5⟩ => ?_)
    have I5' := I5.pinned (stat fr5) (T.obj _ _ st5)
    refine wpAny_passesOwn hp (thn (hg _ s5 σ3 H5 x u _ I5' r5 (step x H5 y5)) fun _ s6 ⟨σ6, H6, I6, q6⟩ => ?_)
    refine wpAny_passesOwn hp (thn (hb _ s6 σ6 H6 _ I6 q6) fun f s7 q7 => ?_)
    have again : ∀ {σ7 : St} {H7 : Hp}, Inv X (pins ++ pinsAt fp s5.heap) σ7 H7 s7 → N σ7 H7 → ∃ m, m < n ∧ ∃ i σ' H', Inv X pins σ' H' s7 ∧ tn i s7.heap ∧ (∀ b ∈ fp, H' b = none) ∧ W i m σ' H' := fun {σ7 H7} I7 n7 => by
      obtain ⟨m', hm, w7⟩ := hN σ7 H7 n7
      refine ⟨m', hm, i + 1, σ7, H7, I7.unpinned, T.keep _ _ _ st5 fun b hb o e => (I7.pin (b, o) (List.mem_append_right _ (List.mem_append_right _ (mem_pinsAt hb e)))).1, fun b hb => ?_, w7⟩
      obtain ⟨o, e, d⟩ := T.obj _ _ st5 b hb
      exact (I7.pin (b, o) (List.mem_append_right _ (List.mem_append_right _ (mem_pinsAt hb e)))).2.1
    cases f with
    | next => obtain ⟨σ7, H7, I7, n7⟩ := q7; exact again I7 n7
    | cont => obtain ⟨σ7, H7, I7, n7⟩ := q7; exact again I7 n7
    | brk => obtain ⟨σ7, H7, I7, q7⟩ := q7; exact ⟨σ7, H7, I7.unpinned, q7⟩
    | ret v => obtain ⟨x7, σ7, H7, I7, r7, q7⟩ := q7; exact ⟨x7, σ7, H7, I7.unpinned, r7, q7⟩
end

/-! ### the forms one uses -/
/-- over a list that the body leaves as it is -/
theorem for_list {K : PySem.W.Frag} {a : Addr} {xs : List V} {g : TG} {tb : TS} {D : Ends} {σ : St} {H : Hp} (Pv : Nat → St → Hp → Prop) (h0 : Pv 0 σ H) (hl : ∀ i σ H, i ≤ xs.length → Pv i σ H → SqL K H a xs)
    (hs : ∀ i x σ H, xs[i]? = some x → Pv i σ H → g x σ H fun σ2 H2 => tb { D with nx := Pv (i + 1), ct := Pv (i + 1), bk := D.nx } σ2 H2) (hd : ∀ σ H, Pv xs.length σ H → D.nx σ H) :
    ∃ W : Nat → Nat → St → Hp → Prop, (∃ m, W 0 m σ H) ∧ ∀ i m σ H, W i m σ H →
      ((Itl K a).stop i H ∧ D.nx σ H) ∨ ((Itl K a).go i H ∧ ∃ N : St → Hp → Prop, (∀ σ' H', N σ' H' → ∃ m', m' < m ∧ W (i + 1) m' σ' H') ∧ ∀ x H', (Itl K a).yld i H x H' → g x σ H' fun σ2 H2 => tb { D with nx := N, ct := N, bk := D.nx } σ2 H2) := by
  refine ⟨fun i m σ H => m = xs.length - i ∧ i ≤ xs.length ∧ Pv i σ H, ⟨xs.length, by simp, Nat.zero_le _, h0⟩, ?_⟩
  rintro i m σ H ⟨rfl, hi, p⟩
  have q := hl i σ H hi p
  by_cases hlt : i < xs.length
  · refine .inr ⟨⟨xs, xs[i], q, by simp [hlt]⟩, Pv (i + 1), fun σ' H' p' => ⟨xs.length - (i + 1), by omega, rfl, hlt, p'⟩, fun x H' y => ?_⟩
    obtain ⟨e, y⟩ := y
    subst e
    exact hs i x σ _ (y xs q) p
  · have e : i = xs.length := by omega
    subst e
    exact .inl ⟨⟨xs, q, Nat.le_refl _⟩, hd σ H p⟩
theorem for_range {lo : Int} {n : Nat} {g : TG} {tb : TS} {D : Ends} {σ : St} {H : Hp} (Pv : Nat → St → Hp → Prop) (h0 : Pv 0 σ H)
    (hs : ∀ i σ H, i < n → Pv i σ H → g (.int (lo + i)) σ H fun σ2 H2 => tb { D with nx := Pv (i + 1), ct := Pv (i + 1), bk := D.nx } σ2 H2) (hd : ∀ σ H, Pv n σ H → D.nx σ H) :
    ∃ W : Nat → Nat → St → Hp → Prop, (∃ m, W 0 m σ H) ∧ ∀ i m σ H, W i m σ H →
      ((Itr lo n).stop i H ∧ D.nx σ H) ∨ ((Itr lo n).go i H ∧ ∃ N : St → Hp → Prop, (∀ σ' H', N σ' H' → ∃ m', m' < m ∧ W (i + 1) m' σ' H') ∧ ∀ x H', (Itr lo n).yld i H x H' → g x σ H' fun σ2 H2 => tb { D with nx := N, ct := N, bk := D.nx } σ2 H2) := by
  refine ⟨fun i m σ H => m = n - i ∧ i ≤ n ∧ Pv i σ H, ⟨n, by simp, Nat.zero_le _, h0⟩, ?_⟩
  rintro i m σ H ⟨rfl, hi, p⟩
  by_cases hlt : i < n
  · refine .inr ⟨hlt, Pv (i + 1), fun σ' H' p' => ⟨n - (i + 1), by omega, rfl, hlt, p'⟩, fun x H' y => ?_⟩
    obtain ⟨e, y⟩ := y
    subst e y
    exact hs i σ _ hlt p
  · have e : i = n := by omega
    subst e
    exact .inl ⟨Nat.le_refl _, hd σ H p⟩
end L2

namespace L2
open PySem PySem.Spec PyProof.Rows

abbrev R2 := V → V → Hp → VK → Prop
/-- a two-place operation on values: f is binaryOp op, inplaceOp op or compareOp op -/
def OpR (X : Cx) (f : Value → Value → Sem Value) (r : R2) : Prop :=
  ∀ (pins : List (Addr × Obj)) (s : Shared) (σ : St) (H : Hp) (x y : V) (v u : Value) (Q : VK), Inv X pins σ H s → RelV x v → RelV y u → r x y H Q →
    wpAny (model X.prog X.w) X.A (f v u) (EP X pins σ Q) X.xe s
/-- a one-place operation -/
def UnR (X : Cx) (f : Value → Sem Value) (r : V → Hp → VK → Prop) : Prop :=
  ∀ (pins : List (Addr × Obj)) (s : Shared) (σ : St) (H : Hp) (x : V) (v : Value) (Q : VK), Inv X pins σ H s → RelV x v → r x H Q →
    wpAny (model X.prog X.w) X.A (f v) (EP X pins σ Q) X.xe s
/-- a call of a value that is known (a builtin, a type) with values -/
def CallR (X : Cx) (f : Value) (r : List V → Hp → VK → Prop) : Prop :=
  ∀ (pins : List (Addr × Obj)) (s : Shared) (σ : St) (H : Hp) (xs : List V) (us : List Value) (Q : VK), Inv X pins σ H s → Vals xs us → r xs H Q →
    wpAny (model X.prog X.w) X.A (call f us) (EP X pins σ Q) X.xe s
def tOp (r : R2) (ta tb : TE) : TE := fun σ H Q => ta σ H fun x H1 => tb σ H1 fun y H2 => r x y H2 Q
def tUn (r : V → Hp → VK → Prop) (ta : TE) : TE := fun σ H Q => ta σ H fun x H1 => r x H1 Q
/-- ints in, under C, and a value out -/
def rI (C : Int → Int → Prop) (g : Int → Int → V) : R2 := fun x y H Q => ∃ i j, x = .int i ∧ y = .int j ∧ C i j ∧ Q (g i j) H
def rI0 (g : Int → Int → V) : R2 := fun x y H Q => ∃ i j, x = .int i ∧ y = .int j ∧ Q (g i j) H
def rU (g : Int → V) : V → Hp → VK → Prop := fun x H Q => ∃ i, x = .int i ∧ Q (g i) H

section
variable {X : Cx} {a b c : Expr} {ta tb tc : TE} {pos : Pos}

theorem binT (ha : PE X a ta) (hb : PE X b tb) {pins : List (Addr × Obj)} {s : Shared} {σ : St} {H : Hp} {R : V → V → Hp → Prop} (I : Inv X pins σ H s)
    (h : ta σ H fun x H1 => tb σ H1 fun y H2 => R x y H2) {Q : Value → Shared → Prop} {f : Value → Value → Sem Value}
    (hf : ∀ v u s2 x y H2, Inv X pins σ H2 s2 → RelV x v → RelV y u → R x y H2 → wpAny (model X.prog X.w) X.A (f v u) Q X.xe s2) :
    wpAny (model X.prog X.w) X.A (eval a X.env) (fun v s₁ => wpAny (model X.prog X.w) X.A (eval b X.env) (fun u s₂ => wpAny (model X.prog X.w) X.A (f v u) Q X.xe s₂) X.xe s₁) X.xe s := by
  refine thn (ha pins s σ H _ I h) fun v s1 ⟨x, H1, I1, r1, q1⟩ => ?_
  refine thn (hb pins s1 σ H1 _ I1 q1) fun u s2 ⟨y, H2, I2, r2, q2⟩ => ?_
  exact hf v u s2 x y H2 I2 r1 r2 q2

theorem pe_op {op : Operator} {r : R2} (ho : OpR X (binaryOp op) r) (ha : PE X a ta) (hb : PE X b tb) : PE X (.BinOp a op b pos) (tOp r ta tb) := by
  intro pins s σ H Q I h
  exact wpAny_BinOp (binT ha hb I h fun v u s2 x y H2 I2 rx ry q => ho pins s2 σ H2 x y v u Q I2 rx ry q)
theorem pe_un {op : UnaryOp} {r : V → Hp → VK → Prop} (ho : UnR X (unaryOp op) r) (ha : PE X a ta) : PE X (.UnaryOp op a pos) (tUn r ta) := by
  intro pins s σ H Q I h
  exact UnaryOp_ (thn (ha pins s σ H _ I h) fun v s1 ⟨x, H1, I1, r1, q1⟩ => ho pins s1 σ H1 x v Q I1 r1 q1)
/-! ### ints -/
theorem opI {f : Value → Value → Sem Value} {C : Int → Int → Prop} {g : Int → Int → Int}
    (rule : ∀ (i j : Int) (t u : Tok) (s : Shared) (Q : Value → Shared → Prop) (E : Value → Shared → Prop), C i j → Q (.int (g i j) s.toks) { s with toks := s.toks + 1 } → wpAny (model X.prog X.w) X.A (f (.int i t) (.int j u)) Q E s) :
    OpR X f (rI C fun i j => .int (g i j)) := by
  intro pins s σ H x y v u Q I rx ry h
  obtain ⟨i, j, rfl, rfl, hc, q⟩ := h
  obtain ⟨t, rfl⟩ := rx
  obtain ⟨t', rfl⟩ := ry
  exact rule i j t t' s _ _ hc ⟨.int (g i j), H, I.tok _, ⟨_, rfl⟩, q⟩
theorem opI0 {f : Value → Value → Sem Value} {g : Int → Int → Int}
    (rule : ∀ (i j : Int) (t u : Tok) (s : Shared) (Q : Value → Shared → Prop) (E : Value → Shared → Prop), Q (.int (g i j) s.toks) { s with toks := s.toks + 1 } → wpAny (model X.prog X.w) X.A (f (.int i t) (.int j u)) Q E s) :
    OpR X f (rI0 fun i j => .int (g i j)) := by
  intro pins s σ H x y v u Q I rx ry h
  obtain ⟨i, j, rfl, rfl, q⟩ := h
  obtain ⟨t, rfl⟩ := rx
  obtain ⟨t', rfl⟩ := ry
  exact rule i j t t' s _ _ ⟨.int (g i j), H, I.tok _, ⟨_, rfl⟩, q⟩
theorem opB0 {f : Value → Value → Sem Value} {g : Int → Int → Bool}
    (rule : ∀ (i j : Int) (t u : Tok) (s : Shared) (Q : Value → Shared → Prop) (E : Value → Shared → Prop), Q (.bool (g i j)) s → wpAny (model X.prog X.w) X.A (f (.int i t) (.int j u)) Q E s) :
    OpR X f (rI0 fun i j => .bl (g i j)) := by
  intro pins s σ H x y v u Q I rx ry h
  obtain ⟨i, j, rfl, rfl, q⟩ := h
  obtain ⟨t, rfl⟩ := rx
  obtain ⟨t', rfl⟩ := ry
  exact rule i j t t' s _ _ ⟨.bl (g i j), H, I, rfl, q⟩

def CDiv (i j : Int) : Prop := 0 < j ∧ j < 1073741824
def CPow (i j : Int) : Prop := 0 ≤ j ∧ j ≤ 1000000 ∧ i.natAbs < 2 ^ 64
def CMul (i j : Int) : Prop := (-(2 ^ 64) < i ∧ i < 2 ^ 64) ∨ (-(2 ^ 64) < j ∧ j < 2 ^ 64)
theorem CMul.ok {i j : Int} (h : CMul i j) : IntMulOk i j := by
  rcases h with ⟨h1, h2⟩ | ⟨h1, h2⟩
  · exact .of_left (intBits_le_64 h1 h2)
  · exact .of_right (intBits_le_64 h1 h2)
theorem op_add : OpR X (binaryOp .Add) (rI0 fun i j => .int (i + j)) := opI0 fun _ _ _ _ _ _ _ q => add_int q
theorem op_sub : OpR X (binaryOp .Sub) (rI0 fun i j => .int (i - j)) := opI0 fun _ _ _ _ _ _ _ q => sub_int q
theorem op_mul : OpR X (binaryOp .Mult) (rI CMul fun i j => .int (i * j)) := opI fun _ _ _ _ _ _ _ hc q => mul_int q hc.ok
/-- // by a positive divisor -/
theorem op_fdiv : OpR X (binaryOp .FloorDiv) (rI CDiv fun i j => .int (i / j)) := opI fun i j _ _ _ _ _ hc q => by
  have h1 : (0 : Int) < j := hc.1
  have h2 : j < 1073741824 := hc.2
  exact floordiv_int (by omega) (by rw [Int.fdiv_eq_ediv_of_nonneg i (by omega)]; exact q) (.inl (PyProof.noPylong_small (by omega)))
/-- % by a positive divisor of any size -/
theorem op_mod : OpR X (binaryOp .Mod) (rI (fun _ j => 0 < j) fun i j => .int (i % j)) := opI fun i j _ _ _ _ _ hc q => by
  have h1 : (0 : Int) < j := hc
  exact mod_int' (by omega) (by rw [Int.fmod_eq_emod_of_nonneg i (by omega)]; exact q)
theorem op_pow : OpR X (binaryOp .Pow) (rI CPow fun i j => .int (i ^ j.toNat)) := opI fun _ _ _ _ _ _ _ hc q => pow_int_small hc.1 hc.2.1 hc.2.2 q
theorem unI {f : Value → Sem Value} {g : Int → Int}
    (rule : ∀ (i : Int) (t : Tok) (s : Shared) (Q : Value → Shared → Prop) (E : Value → Shared → Prop), Q (.int (g i) s.toks) { s with toks := s.toks + 1 } → wpAny (model X.prog X.w) X.A (f (.int i t)) Q E s) :
    UnR X f (rU fun i => .int (g i)) := by
  intro pins s σ H x v Q I rx h
  obtain ⟨i, rfl, q⟩ := h
  obtain ⟨t, rfl⟩ := rx
  exact rule i t s _ _ ⟨.int (g i), H, I.tok _, ⟨_, rfl⟩, q⟩
theorem un_neg : UnR X (unaryOp .USub) (rU fun i => .int (-i)) := unI fun _ _ _ _ _ q => neg_int q
/-! ### bools among ints: n += (a < b) -/
end

/-! ### comparisons -/
/-- the scalars that == tells apart as data does -/
def scal : V → V → Bool
  | .non, .non => true | .non, .int _ => true | .int _, .non => true | .non, .bl _ => true | .bl _, .non => true | .non, .str _ => true | .str _, .non => true
  | .int _, .int _ => true | .bl _, .bl _ => true | .str _, .str _ => true | .byt _, .byt _ => true
  | .int _, .str _ => true | .str _, .int _ => true | .bl _, .str _ => true | .str _, .bl _ => true
  | _, _ => false
def rEq : R2 := fun x y H Q => scal x y = true ∧ Q (.bl (decide (x = y))) H
def rNe : R2 := fun x y H Q => scal x y = true ∧ Q (.bl (!decide (x = y))) H

theorem dec_int {i j : Int} : decide (V.int i = V.int j) = (i == j) := by
  rw [Bool.eq_iff_iff]
  simp
theorem dec_bl {i j : Bool} : decide (V.bl i = V.bl j) = (i == j) := by
  rw [Bool.eq_iff_iff]
  simp
theorem dec_str {i j : Str} : decide (V.str i = V.str j) = (i == j) := by
  rw [Bool.eq_iff_iff]
  simp
theorem dec_byt {i j : Array UInt8} : decide (V.byt i = V.byt j) = (i.toList == j.toList) := by
  rw [Bool.eq_iff_iff]
  cases i
  cases j
  simp

section
variable {X : Cx} {a b c : Expr} {ta tb tc : TE} {pos : Pos}
theorem fin_bl {pins : List (Addr × Obj)} {σ : St} {H : Hp} {s : Shared} {Q : VK} {k k' : Bool} (I : Inv X pins σ H s) (q : Q (.bl k) H) (e : k = k') : EP X pins σ Q (.bool k') s := by
  subst e
  exact ⟨.bl k, H, I, rfl, q⟩
theorem op_eq : OpR X (compareOp .Eq) rEq := by
  intro pins s σ H x y v u Q I rx ry h
  obtain ⟨hs, q⟩ := h
  cases x with
  | non =>
    cases rx
    cases y with
    | non => cases ry; exact PySem.EqNone.eq_none_none (fin_bl I q (by simp))
    | bl j => cases ry; exact PySem.EqNone.eq_none_bool (fin_bl I q (by simp))
    | int j => obtain ⟨t', rfl⟩ := ry; exact PySem.EqNone.eq_none_int (fin_bl I q (by simp))
    | str j => obtain ⟨t', rfl⟩ := ry; exact PySem.EqNone.eq_none_str (fin_bl I q (by simp))
    | _ => exact absurd (show false = true from hs) Bool.false_ne_true
  | bl i =>
    cases rx
    cases y with
    | non => cases ry; exact PySem.EqNone.eq_bool_none (fin_bl I q (by simp))
    | bl j => cases ry; exact eq_bool (fin_bl I q dec_bl)
    | str j => obtain ⟨t', rfl⟩ := ry; exact PySem.EqMixed.eq_bool_str (fin_bl I q (by simp))
    | _ => exact absurd (show false = true from hs) Bool.false_ne_true
  | int i =>
    obtain ⟨t, rfl⟩ := rx
    cases y with
    | non => cases ry; exact PySem.EqNone.eq_int_none (fin_bl I q (by simp))
    | int j => obtain ⟨t', rfl⟩ := ry; exact eq_int (fin_bl I q dec_int)
    | str j => obtain ⟨t', rfl⟩ := ry; exact PySem.EqMixed.eq_int_str (fin_bl I q (by simp))
    | _ => exact absurd (show false = true from hs) Bool.false_ne_true
  | str i =>
    obtain ⟨t, rfl⟩ := rx
    cases y with
    | non => cases ry; exact PySem.EqNone.eq_str_none (fin_bl I q (by simp))
    | bl j => cases ry; exact PySem.EqMixed.eq_str_bool (fin_bl I q (by simp))
    | int j => obtain ⟨t', rfl⟩ := ry; exact PySem.EqMixed.eq_str_int (fin_bl I q (by simp))
    | str j => obtain ⟨t', rfl⟩ := ry; exact eq_str (fin_bl I q dec_str)
    | _ => exact absurd (show false = true from hs) Bool.false_ne_true
  | byt i =>
    obtain ⟨t, rfl⟩ := rx
    cases y with
    | byt j => obtain ⟨t', rfl⟩ := ry; exact PySem.W.eq_bytes (fin_bl I q dec_byt)
    | _ => exact absurd (show false = true from hs) Bool.false_ne_true
  | _ => cases y <;> exact absurd (show false = true from hs) Bool.false_ne_true
theorem op_ne : OpR X (compareOp .NotEq) rNe := by
  intro pins s σ H x y v u Q I rx ry h
  obtain ⟨hs, q⟩ := h
  cases x with
  | non =>
    cases rx
    cases y with
    | non => cases ry; exact PySem.EqNone.ne_none_none (fin_bl I q (by simp))
    | bl j => cases ry; exact PySem.EqNone.ne_none_bool (fin_bl I q (by simp))
    | int j => obtain ⟨t', rfl⟩ := ry; exact PySem.EqNone.ne_none_int (fin_bl I q (by simp))
    | str j => obtain ⟨t', rfl⟩ := ry; exact PySem.EqNone.ne_none_str (fin_bl I q (by simp))
    | _ => exact absurd (show false = true from hs) Bool.false_ne_true
  | bl i =>
    cases rx
    cases y with
    | non => cases ry; exact PySem.EqNone.ne_bool_none (fin_bl I q (by simp))
    | bl j => cases ry; exact ne_bool (fin_bl I q (congrArg not dec_bl))
    | str j => obtain ⟨t', rfl⟩ := ry; exact PySem.EqMixed.ne_bool_str (fin_bl I q (by simp))
    | _ => exact absurd (show false = true from hs) Bool.false_ne_true
  | int i =>
    obtain ⟨t, rfl⟩ := rx
    cases y with
    | non => cases ry; exact PySem.EqNone.ne_int_none (fin_bl I q (by simp))
    | int j => obtain ⟨t', rfl⟩ := ry; exact ne_int (fin_bl I q (congrArg not dec_int))
    | str j => obtain ⟨t', rfl⟩ := ry; exact PySem.EqMixed.ne_int_str (fin_bl I q (by simp))
    | _ => exact absurd (show false = true from hs) Bool.false_ne_true
  | str i =>
    obtain ⟨t, rfl⟩ := rx
    cases y with
    | non => cases ry; exact PySem.EqNone.ne_str_none (fin_bl I q (by simp))
    | bl j => cases ry; exact PySem.EqMixed.ne_str_bool (fin_bl I q (by simp))
    | int j => obtain ⟨t', rfl⟩ := ry; exact PySem.EqMixed.ne_str_int (fin_bl I q (by simp))
    | str j => obtain ⟨t', rfl⟩ := ry; exact ne_str (fin_bl I q (congrArg not dec_str))
    | _ => exact absurd (show false = true from hs) Bool.false_ne_true
  | byt i =>
    obtain ⟨t, rfl⟩ := rx
    cases y with
    | byt j => obtain ⟨t', rfl⟩ := ry; exact PySem.W.ne_bytes (fin_bl I q (congrArg not dec_byt))
    | _ => exact absurd (show false = true from hs) Bool.false_ne_true
  | _ => cases y <;> exact absurd (show false = true from hs) Bool.false_ne_true

theorem op_lt : OpR X (compareOp .Lt) (rI0 fun i j => .bl (decide (i < j))) := opB0 fun _ _ _ _ _ _ _ q => lt_int q
theorem op_le : OpR X (compareOp .LtE) (rI0 fun i j => .bl (decide (i ≤ j))) := opB0 fun _ _ _ _ _ _ _ q => le_int q
theorem op_gt : OpR X (compareOp .Gt) (rI0 fun i j => .bl (decide (j < i))) := opB0 fun _ _ _ _ _ _ _ q => gt_int q
theorem op_lt_str : OpR X (compareOp .Lt) (fun x y H Q => ∃ i j, x = .str i ∧ y = .str j ∧ Q (.bl (decide (i.cps.toList < j.cps.toList))) H) := by
  intro pins s σ H x y v u Q I rx ry h
  obtain ⟨i, j, rfl, rfl, q⟩ := h
  obtain ⟨t, rfl⟩ := rx
  obtain ⟨t', rfl⟩ := ry
  exact lt_str (fin_bl I q rfl)
/-- the one string within the other -/
theorem op_in_str : OpR X (compareOp .In) (fun x y H Q => ∃ i j, x = .str i ∧ y = .str j ∧ Q (.bl (!(Builtin.Str.occurrences j i 0 j.length 1).isEmpty)) H) := by
  intro pins s σ H x y v u Q I rx ry h
  obtain ⟨i, j, rfl, rfl, q⟩ := h
  obtain ⟨t, rfl⟩ := rx
  obtain ⟨t', rfl⟩ := ry
  exact in_str (fin_bl I q rfl)

theorem nomark (b : Expr) {op : CmpOp} (h : op ≠ .In := by decide) (h2 : op ≠ .NotIn := by decide) : behindInMarks op b = false := by
  have e1 : (op == CmpOp.In) = false := by cases op <;> first | rfl | exact absurd rfl h
  have e2 : (op == CmpOp.NotIn) = false := by cases op <;> first | rfl | exact absurd rfl h2
  cases b <;> simp [behindInMarks, e1, e2]
/-- a comparison as a value; hm: nomark b, or (for in, not in) by with_unfolding_all rfl -/
theorem pe_cmpR {op : CmpOp} {r : R2} (ho : OpR X (compareOp op) r) (ha : PE X a ta) (hb : PE X b tb) (hm : behindInMarks op b = false) : PE X (.Compare a [op] [b] pos) (tOp r ta tb) := by
  intro pins s σ H Q I h
  exact wpAny_Compare1 (binT ha hb I h fun v u s2 x y H2 I2 rx ry q => ho pins s2 σ H2 x y v u Q I2 rx ry q) hm
/-- a reading of a value as a test -/
def tTest (t : TE) : TT := fun σ H Q => t σ H fun x H' => ∃ k, x = .bl k ∧ Q k H'
theorem pt_cmpR {op : CmpOp} {r : R2} (ho : OpR X (compareOp op) r) (ha : PE X a ta) (hb : PE X b tb) (hm : behindInMarks op b = false) : PT X (.Compare a [op] [b] pos) (tTest (tOp r ta tb)) := by
  intro pins s σ H Q I h
  refine wpAny_isTrue_Compare1 (thn (ha pins s σ H _ I h) fun v s1 ⟨x, H1, I1, r1, q1⟩ => thn (hb pins s1 σ H1 _ I1 q1) fun u s2 ⟨y, H2, I2, r2, q2⟩ =>
    thn (ho pins s2 σ H2 x y v u _ I2 r1 r2 q2) fun c s3 ⟨z, H3, I3, r3, k, e, q3⟩ => ?_) hm
  subst e
  cases r3
  exact wpAny_truthy_bool ⟨H3, I3, q3⟩
/-- a op1 b op2 c -/
def tChain (r r' : R2) (ta tb tc : TE) : TE := fun σ H Q => ta σ H fun x H1 => tb σ H1 fun y H2 => r x y H2 fun z H3 => ∃ k, z = .bl k ∧
  (if k = true then tc σ H3 fun w' H4 => r' y w' H4 Q else Q (.bl false) H3)
theorem pe_chain {op op' : CmpOp} {r r' : R2} (ho : OpR X (compareOp op) r) (ho' : OpR X (compareOp op') r') (ha : PE X a ta) (hb : PE X b tb) (hc : PE X c tc)
    (hm : lastMarks [op, op'] [b, c] = false := by with_unfolding_all rfl) : PE X (.Compare a [op, op'] [b, c] pos) (tChain r r' ta tb tc) := by
  intro pins s σ H Q I h
  refine Compare_chain (thn (ha pins s σ H _ I h) fun v s1 ⟨x, H1, I1, r1, q1⟩ => chain_link (thn (hb pins s1 σ H1 _ I1 q1) fun u s2 ⟨y, H2, I2, r2, q2⟩ =>
    thn (ho pins s2 σ H2 x y v u _ I2 r1 r2 q2) fun d s3 ⟨z, H3, I3, r3, k, e, q3⟩ => ?_)) hm
  subst e
  cases r3
  refine wpAny_truthy_bool ?_
  cases k with
  | false => exact ite_ff ⟨.bl false, H3, I3, rfl, q3⟩
  | true => exact ite_tt (chain_last (thn (hc pins s3 σ H3 _ I3 q3) fun w' s4 ⟨z', H4, I4, r4, q4⟩ => ho' pins s4 σ H4 y z' u w' Q I4 r2 r4 q4))
theorem pt_chain {op op' : CmpOp} {r r' : R2} (ho : OpR X (compareOp op) r) (ho' : OpR X (compareOp op') r') (ha : PE X a ta) (hb : PE X b tb) (hc : PE X c tc)
    (hm : lastMarks [op, op'] [b, c] = false := by with_unfolding_all rfl) : PT X (.Compare a [op, op'] [b, c] pos) (tTest (tChain r r' ta tb tc)) := by
  intro pins s σ H Q I h
  refine isTrue_chain (thn (ha pins s σ H _ I h) fun v s1 ⟨x, H1, I1, r1, q1⟩ => test_link (thn (hb pins s1 σ H1 _ I1 q1) fun u s2 ⟨y, H2, I2, r2, q2⟩ =>
    thn (ho pins s2 σ H2 x y v u _ I2 r1 r2 q2) fun d s3 ⟨z, H3, I3, r3, k, e, q3⟩ => ?_)) hm
  subst e
  cases r3
  refine wpAny_truthy_bool ?_
  cases k with
  | false =>
    obtain ⟨k', e', q'⟩ := q3
    cases e'
    exact ite_ff ⟨H3, I3, q'⟩
  | true =>
    refine ite_tt (test_last (thn (hc pins s3 σ H3 _ I3 q3) fun w' s4 ⟨z', H4, I4, r4, q4⟩ => thn (ho' pins s4 σ H4 y z' u w' _ I4 r2 r4 q4) fun d' s5 ⟨z2, H5, I5, r5, k2, e2, q5⟩ => ?_))
    subst e2
    cases r5
    exact wpAny_truthy_bool ⟨H5, I5, q5⟩

/-! ### truth -/
theorem line63 : (sizeLine : Nat) < 2 ^ 63 := by rw [sizeLine_eq]; decide
/-! ### strs and bytes -/
theorem op_add_str : OpR X (binaryOp .Add) (fun x y H Q => ∃ i j, x = .str i ∧ y = .str j ∧ i.length + j.length ≤ sizeLine ∧ Q (.str (i ++ j)) H) := by
  intro pins s σ H x y v u Q I rx ry h
  obtain ⟨i, j, rfl, rfl, hz, q⟩ := h
  obtain ⟨t, rfl⟩ := rx
  obtain ⟨t', rfl⟩ := ry
  exact add_str (fun t' tk => ⟨.str (i ++ j), H, I.tok _, ⟨_, rfl⟩, q⟩) hz
/-! ### scalar builtins, by CallR -/
theorem vals1 {x : V} {us : List Value} (r : Vals [x] us) : ∃ u, us = [u] ∧ RelV x u := by
  cases r with
  | cons r1 r2 => cases r2; exact ⟨_, rfl, r1⟩
theorem call_int1 : CallR X (.type "int") (fun xs H Q => (∃ i, xs = [.int i] ∧ Q (.int i) H) ∨ ∃ k, xs = [.bl k] ∧ Q (.int (if k then 1 else 0)) H) := by
  intro pins s σ H xs us Q I r h
  rcases h with ⟨i, rfl, q⟩ | ⟨k, rfl, q⟩
  · obtain ⟨u, rfl, t, rfl⟩ := vals1 r
    exact call_int_int ⟨.int i, H, I, ⟨_, rfl⟩, q⟩
  · obtain ⟨u, rfl, r1⟩ := vals1 r
    cases r1
    exact call_int_bool ⟨.int (if k then 1 else 0), H, I.tok _, ⟨_, rfl⟩, q⟩
theorem call_str_int : CallR X (.type "str") (fun xs H Q => ∃ i, xs = [.int i] ∧ i.natAbs.log2 < 1920 ∧ Q (.str (toString i)) H) := by
  intro pins s σ H xs us Q I r h
  obtain ⟨i, rfl, hz, q⟩ := h
  obtain ⟨u, rfl, t, rfl⟩ := vals1 r
  exact PySem.P.str_of_int hz ⟨.str _, H, I.tok _, ⟨_, rfl⟩, q⟩
end
end L2

namespace L2
open PySem PySem.Spec PyProof.Rows

/-! ### an instance, its attributes a map -/
structure ObjM (h : Heap) (x dx C : Addr) (mA : Str → Option Value) : Prop where
  obj : h.get? x = some (PySem.W.instObj C dx)
  ns : h.Ns1 dx mA
  ne : dx ≠ x

theorem lookIn_ns {h : Heap} {dx : Addr} {mA : Str → Option Value} (n : h.Ns1 dx mA) : ∃ od, h.get? dx = some od ∧ ∀ name, PySem.W.lookIn name od = some (mA name) := by
  obtain ⟨o, es, ep, ho, hd, hk, _, hm⟩ := n
  refine ⟨o, ho, fun name => ?_⟩
  have e := hm name
  unfold nsFind findBy at e
  rw [← Array.find?_toList] at e
  unfold PySem.W.lookIn
  rw [hd]
  dsimp only
  split
  · rename_i y q
    rw [q] at e
    exact congrArg some e
  · rename_i q
    rw [q] at e
    have a : es.toList.any (·.refKey) = false := by
      rw [List.any_eq_false]
      intro y hy
      obtain ⟨z, t, hkey⟩ := hk y (Array.mem_toList_iff.mp hy)
      simp [DictEntry.refKey, hkey]
    have a' : ¬ es.toList.any (·.refKey) = true := by rw [a]; exact Bool.false_ne_true
    rw [if_neg a']
    exact congrArg some e

theorem ObjM.look {h : Heap} {x dx C : Addr} {mA : Str → Option Value} (I : ObjM h x dx C mA) : ∃ od, PySem.W.InstAt h x (PySem.W.instObj C dx) C (some od) ∧ ∀ name, PySem.W.lookIn name od = some (mA name) :=
  let ⟨od, ho, hl⟩ := lookIn_ns I.ns
  ⟨od, ⟨I.obj, rfl, rfl, ho⟩, hl⟩

section
variable {prog : Program} {w : World} {A : Around} {E : Value → Shared → Prop} {s : Shared} {K : PySem.W.Frag} {x dx C f : Addr} {mA : Str → Option Value} {name : Str} {v : Value}

end

/-! ### the attributes as a list of pairs -/
section
variable {P : Program} {w : World} {H H' : Hp} {h h' : Heap} {a C dx : Addr} {fs fs' : List (Str × V)}
theorem ins_get (hok : HOk P w H h) (e : H a = some (.ins C dx fs)) : ∃ mA, ObjM h a dx C mA ∧ (∀ f, RelO (fs.lookup f) (mA f)) ∧ PySem.Within mA (fs.map (·.1)) ∧ fs.length ≤ 1000 ∧ H dx = some (.own a) := by
  obtain ⟨d, z, ne, ob, mA, n, r, q⟩ := (show ObjOk P w H h a (.ins C dx fs) from hok a _ e)
  exact ⟨mA, ⟨ob, n, ne⟩, r, q, z, d⟩
end

/-! ### what of the text a class must have -/
structure Cls (K : PySem.W.Frag) (C : Addr) : Prop where
  pg : PySem.W.plainGet K C Str.empty = true
  hd : PySem.W.hasDictIn K C = true
  po : PySem.W.plainOver K C = true
  sa : PySem.W.findIn K (.ref C) "__setattr__" = some (some (.builtin "object.__setattr__"))
theorem Cls.get {K : PySem.W.Frag} {C : Addr} (c : Cls K C) (f : Str) : PySem.W.plainGet K C f = true := c.pg
section
variable {X : Cx} {pins : List (Addr × Obj)} {σ : St} {H : Hp} {s : Shared} {a C dx : Addr} {fs : List (Str × V)} {f : Str} {v : V} {A : Around} {E : Value → Shared → Prop}

end

/-! ### readings and rules -/
section
variable {X : Cx} {o e value : Expr} {f : Str} {pos pos' tpos : Pos} {ta tv : TE}
end

/-! ### isinstance -/
section
variable {X : Cx} {pins : List (Addr × Obj)} {σ : St} {H : Hp} {s : Shared} {A : Around} {E : Value → Shared → Prop} {Q : Value → Shared → Prop} {c : Value} {b : Bool}
/-- the type of a value, as the fragment's deciders take it; for an instance its class -/
inductive TyOf (K : PySem.W.Frag) (H : Hp) : V → Value → Prop where
  | non : TyOf K H .non (.type "NoneType")
  | bl (x : Bool) : TyOf K H (.bl x) (.type "bool")
  | int (i : Int) : TyOf K H (.int i) (.type "int")
  | str (x : Str) : TyOf K H (.str x) (.type "str")
  | flt (x : UInt64) : TyOf K H (.flt x) (.type "float")
  | lst {a : Addr} {xs : List V} (e : H a = some (.lst xs)) : TyOf K H (.ref a) (.type "list")
  | frz {a : Addr} {o : Obj} {xs : List V} (e : H a = some (.frz o (.lst xs))) : TyOf K H (.ref a) (.type "list")
  | tup {a : Addr} {xs : List V} (e : H a = some (.tup xs)) : TyOf K H (.ref a) (.type "tuple")
  | dK {a : Addr} {kvs : List (Key × V)} (e : H a = some (.dK kvs)) : TyOf K H (.ref a) (.type "dict")
  | dT {a : Addr} {kvs : List (List Key × V)} (e : H a = some (.dT kvs)) : TyOf K H (.ref a) (.type "dict")
  | ins {a C dx : Addr} {fs : List (Str × V)} (e : H a = some (.ins C dx fs)) (cl : Cls K C) (ha : PySem.W.findIn K (.ref C) "__class__" = some (some (.builtin "object.__class__")))
      (hn : PySem.W.specialIn K (.builtin "object.__class__") "__get__" = some (some (.builtin "getset_descriptor.__get__"))) (htk : PySem.W.takesIn K (.builtin "object.__class__") = some true)
      (hm : PySem.W.mroIn K C (.type "object") = some true) : TyOf K H (.ref a) (.ref C)
/-- isinstance(x, c) for one class c, a built-in or an own one: kitOne's answer -/
theorem isinst_ok {x : V} {u t : Value} (I : Inv X pins σ H s) (rx : RelV x u) (ty : TyOf X.K H x t) (e : PySem.W.kitOne X.K t c = some b) (h : ∀ tk, Q (.bool b) { s with toks := tk }) :
    wpAny (model X.prog X.w) A (call (.builtin "isinstance") [u, c]) Q E s := by
  cases ty with
  | non => cases (show u = Value.none from rx); exact PySem.W.kia_one PySem.W.kitx_none I.kIn True.intro e (fun z => nomatch z) h
  | bl y => cases (show u = Value.bool y from rx); exact PySem.W.kia_one PySem.W.kitx_bool I.kIn True.intro e (fun z => nomatch z) h
  | int i => obtain ⟨t, q⟩ := (show ∃ t, u = Value.int i t from rx); cases q; exact PySem.W.kia_one PySem.W.kitx_int I.kIn True.intro e (fun z => nomatch z) h
  | str y => obtain ⟨t, q⟩ := (show ∃ t, u = Value.str y t from rx); cases q; exact PySem.W.kia_one PySem.W.kitx_str I.kIn True.intro e (fun z => nomatch z) h
  | flt y => obtain ⟨t, q⟩ := (show ∃ t, u = Value.float y t from rx); cases q; exact PySem.W.kia_one PySem.W.kitx_float I.kIn True.intro e (fun z => nomatch z) h
  | @lst a xs ea =>
    cases (show u = Value.ref a from rx)
    obtain ⟨_, _, n, _, h1⟩ := (show ObjOk X.prog X.w H s.heap a (.lst xs) from I.hok a _ ea)
    exact PySem.W.kia_one PySem.W.kitx_list I.kIn ⟨_, h1, rfl⟩ e (fun z => nomatch z) h
  | @frz a ob xs ea =>
    cases (show u = Value.ref a from rx)
    obtain ⟨_, _, _, n, _, h1⟩ := (show ObjOk X.prog X.w H s.heap a (.frz ob (.lst xs)) from I.hok a _ ea)
    exact PySem.W.kia_one PySem.W.kitx_list I.kIn ⟨_, h1, rfl⟩ e (fun z => nomatch z) h
  | @tup a xs ea =>
    cases (show u = Value.ref a from rx)
    obtain ⟨_, _, _, p⟩ := (show ObjOk X.prog X.w H s.heap a (.tup xs) from I.hok a _ ea)
    obtain ⟨o, h1, h2, _⟩ := p
    exact PySem.W.kia_one PySem.W.kitx_tuple I.kIn ⟨o, h1, h2⟩ e (fun z => nomatch z) h
  | @dK a kvs ea =>
    cases (show u = Value.ref a from rx)
    obtain ⟨_, _, vs, _, p⟩ := (show ObjOk X.prog X.w H s.heap a (.dK kvs) from I.hok a _ ea)
    obtain ⟨o, es, ep, h1, h2, _⟩ := p
    exact PySem.W.kia_one PySem.W.kitx_dict I.kIn ⟨o, h1, h2.1⟩ e (fun z => nomatch z) h
  | @dT a kvs ea =>
    cases (show u = Value.ref a from rx)
    obtain ⟨_, _, xs, _, o, es, ep, h1, h2, _⟩ := (show ObjOk X.prog X.w H s.heap a (.dT kvs) from I.hok a _ ea)
    exact PySem.W.kia_one PySem.W.kitx_dict I.kIn ⟨o, h1, h2.1⟩ e (fun z => nomatch z) h
  | @ins a C dx fs ea cl ha hn htk hm =>
    cases (show u = Value.ref a from rx)
    obtain ⟨mA, O, _⟩ := ins_get I.hok ea
    obtain ⟨od, J, _⟩ := O.look
    exact PySem.W.kia_one (PySem.W.kitx_own (cl.get _) cl.hd ha hn htk hm) I.kIn J e (fun z => nomatch z) h
end
end L2

namespace L2
open PySem PySem.Spec PyProof.Rows

/-! ### room -/
structure Room (k : Nat) (A : Around) (c : Bool := true) : Prop where
  hc : c = true → A.handled = none
  dp : A.depth + 3 * k + 5 < recursionLimit
  un : A.units + 16 * k + 200 < cLine
theorem Room.hd {k : Nat} {A : Around} (r : Room k A) : A.handled = none := r.hc rfl
theorem Room.mono {j k : Nat} {A : Around} {c : Bool} (r : Room k A c) (h : j ≤ k) : Room j A c := ⟨r.hc, by have := r.dp; omega, by have := r.un; omega⟩
theorem Room.deeper {k : Nat} {A : Around} {c : Bool} (r : Room (k + 1) A c) (env : Env) : Room k (A.deeper env) c :=
  ⟨r.hc, by have := r.dp; show A.depth + 1 + 3 * k + 5 < _; omega, by have := r.un; show A.units + 3 + 16 * k + 200 < _; omega⟩
theorem Room.depth {k : Nat} {A : Around} {c : Bool} (r : Room k A c) : A.depth < recursionLimit := by have := r.dp; omega
theorem Room.units {k : Nat} {A : Around} {c : Bool} (r : Room k A c) : A.units + 64 < cLine := by have := r.un; omega
/-! ### argument lists and displays -/
def tNil : TA := fun _ H Q => Q [] H
def tCons (ta : TE) (tr : TA) : TA := fun σ H Q => ta σ H fun x H1 => tr σ H1 fun xs H2 => Q (x :: xs) H2
section
variable {X : Cx} {e : Expr} {es : List Expr} {te : TE} {t : TA} {pos : Pos}
theorem pa_nil : PA X [] tNil := fun _ _ _ _ H Q I h => Calls.spliced_nil ⟨[], H, I, .nil, h⟩
theorem pa_cons (ha : PE X e te) (hr : PA X es t) (hs : starEach (e :: es) X.env = (false, eval e X.env) :: starEach es X.env := by rfl) : PA X (e :: es) (tCons te t) := by
  intro pos pins s σ H Q I h
  rw [hs]
  show wpAny _ _ (spliced ((false, eval e X.env) :: backTo pos (starEach es X.env))) _ _ s
  refine Calls.spliced_cons (thn (ha pins s σ H _ I h) fun u s1 ⟨x, H1, I1, r1, q1⟩ => ?_)
  exact thn (hr pos pins s1 σ H1 _ I1 q1) fun us s2 ⟨xs, H2, I2, r2, q2⟩ => ⟨x :: xs, H2, I2, .cons r1 r2, q2⟩

/-- a tuple, a list of written items -/
def tTup (t : TA) : TE := fun σ H Q => t σ H fun xs H1 => xs.length ≤ sizeLine ∧ ∀ p, H1 p = none → Q (.ref p) (upd H1 p (.tup xs))
def tLst (t : TA) : TE := fun σ H Q => t σ H fun xs H1 => xs.length ≤ sizeLine ∧ ∀ p, H1 p = none → Q (.ref p) (upd H1 p (.lst xs))
theorem pe_tup {x1} (h : PA X es t) : PE X (.Tuple es x1 pos) (tTup t) := by
  intro pins s σ H Q I hq
  refine wpAny_Tuple_spliced (thn (h pos pins s σ H _ I hq) fun us s1 ⟨xs, H1, I1, r, z, q⟩ => ⟨by rw [← r.length]; exact z, ?_⟩)
  have hf : H1 s1.heap.objs.size = none := I1.hok.fresh (Nat.le_refl _)
  refine ⟨.ref s1.heap.objs.size, upd H1 s1.heap.objs.size (.tup xs), I1.laid (t' := s1.toks) (fun b u e => Heap.get?_push_of_some _ e) (Nat.le_refl _) ?_, rfl, q _ hf⟩
  exact ⟨z, us, r, ⟨_, Heap.get?_push_size _ rfl, rfl, _, rfl⟩⟩
theorem pe_lst (h : PA X es t) : PE X (.List es pos) (tLst t) := by
  intro pins s σ H Q I hq
  refine wpAny_List_spliced (thn (h pos pins s σ H _ I hq) fun us s1 ⟨xs, H1, I1, r, z, q⟩ => ⟨by rw [← r.length]; exact z, ?_⟩)
  have hf : H1 s1.heap.objs.size = none := I1.hok.fresh (Nat.le_refl _)
  refine ⟨.ref s1.heap.objs.size, upd H1 s1.heap.objs.size (.lst xs), I1.laid (t' := s1.toks) (fun b u e => Heap.get?_push_of_some _ e) (Nat.le_refl _) ?_, rfl, q _ hf⟩
  exact ⟨z, us, 0, r, Heap.get?_push_size _ rfl⟩
end

/-! ### what a def promises -/
/-- a def's promise: the bound arguments in the parameters' order, the heap, the wanted end, the wanted exception -/
abbrev Sp := List V → Hp → VK → XK → Prop
/-- how an exception lies behind a call (file 08 gives it): the callers' frames, abstract heap and state ahead of the call, the wish, the exception, the state -/
abbrev CXT := List Env → Hp → Shared → XK → Value → Shared → Prop

/-- the state at a call -/
structure Env0 (P : Program) (w : World) (K : PySem.W.Frag) (mg : Str → Option Value) (base : Heap) (A : Around) (outer : List Env) (s : Shared) (H : Hp) : Prop where
  frames : A.frames = some outer
  mod : Mod K mg base
  bs : ∀ b o, base.get? b = some o → s.heap.get? b = some o ∧ H b = none
  bsz : base.objs.size ≤ s.heap.objs.size
  funs : s.heap.FunFrames base outer
  frf : ∀ b ∈ frs outer, H b = none
  hok : HOk P w H s.heap
  bare : AllBare s.gens
/-- a call's end -/
def CE (outer : List Env) (P : Program) (w : World) (H : Hp) (s : Shared) (Q : VK) (u : Value) (s' : Shared) : Prop :=
  ∃ v H', s'.os = s.os ∧ AllBare s'.gens ∧ Un (frs outer) [] H H' s.heap s'.heap ∧ HOk P w H' s'.heap ∧ RelV v u ∧ Q v H'
def CR (CX : CXT) (outer : List Env) (P : Program) (w : World) (H : Hp) (s : Shared) (Q : VK) (E : XK) (r : Result) (s' : Shared) : Prop :=
  match r with
  | .ok (.ret u) => CE outer P w H s Q u s'
  | .ok _ => False
  | .error e => CX outer H s E e s'
structure FnOk (P : Program) (w : World) (K : PySem.W.Frag) (mg : Str → Option Value) (base : Heap) (CX : CXT) (k : Nat) (f : Addr) (fd : FuncData) (ps : List Str) (sp : Sp) (c : Bool := true) : Prop where
  len : ∀ vs H Q E, sp vs H Q E → vs.length = ps.length
  run : ∀ (A : Around) (outer : List Env) (s : Shared) (H : Hp) (args : Args) (us : List Value) (vs : List V) (Q : VK) (E : XK), Room k A c → Env0 P w K mg base A outer s H → BindsTo s fd args (ps.zip us) → Vals vs us → sp vs H Q E →
    codeAny (model P w) A (.call (.ref f) args) (CR CX outer P w H s Q E) s
section
variable {X : Cx} {pins : List (Addr × Obj)} {σ : St} {H : Hp} {s s' : Shared}
/-- from a body: what a callee wants -/
theorem Inv.env0 (I : Inv X pins σ H s) : Env0 X.prog X.w X.K X.mg X.base X.A X.stack s H :=
  ⟨I.ok.frames, I.ok.mod, I.bs, Nat.le_trans I.ok.bsz I.sz, I.stack, I.stkFree, I.hok, I.bare⟩
/-- behind a call -/
theorem Inv.after {Q : VK} {u : Value} (I : Inv X pins σ H s) (h : CE X.stack X.prog X.w H s Q u s') : EP X pins σ Q u s' := by
  obtain ⟨v, H', os, bare, un, hok, r, q⟩ := h
  obtain ⟨hh, g, d, t, os'⟩ := s'
  obtain rfl : os' = s.os := os
  exact ⟨v, H', I.call (h' := hh) (g' := g) (d' := d) (t' := t) (ch := []) un hok bare (fun b z => absurd z (by simp)), r, q⟩
end

/-! ### calls -/
/-- f(..): the written arguments, then the defaults dvs; E: what is wanted of an exception -/
def tCall (sp : Sp) (dvs : List V) (E : XK) (t : TA) : TE := fun σ H Q => t σ H fun vs H1 => sp (vs ++ dvs) H1 Q E
/-- how the parameters are bound: us the positional arguments, kw the keywords' values by name, ds the defaults that fill up -/
def Binds (K : PySem.W.Frag) (fd : FuncData) (ps : List Str) (ds : List Value) : Prop :=
  ∀ (s : Shared) (us : List Value), K.In s.heap → (us ++ ds).length = ps.length → BindsTo s fd ⟨us, []⟩ (ps.zip (us ++ ds))
/-- every parameter is given -/
theorem Binds.all {K : PySem.W.Frag} {fd : FuncData} {ps : List Str} (h : ∀ us : List Value, us.length = ps.length → bindArgs fd ⟨us, []⟩ = pure (ps.zip us)) : Binds K fd ps [] := fun s us _ hl => by
  rw [List.append_nil] at hl ⊢
  exact .of_eq (h us hl)

/-- an exception of a callee reaches what this body wants of exceptions -/
def Passes (CX : CXT) (X : Cx) (E : XK) : Prop := ∀ (pins : List (Addr × Obj)) (σ : St) (H : Hp) (s : Shared) (e : Value) (s' : Shared), Inv X pins σ H s → CX X.stack H s E e s' → X.xe e s'

section
variable {X : Cx} {CX : CXT} {k : Nat} {f C : Addr} {fd : FuncData} {ps : List Str} {sp : Sp} {dvs : List V} {ds : List Value} {E : XK} {x m : Str} {p pos apos : Pos} {e o : Expr} {es : List Expr} {ta : TE} {t : TA}

/-- the callee runs -/
theorem run_fn {pins : List (Addr × Obj)} {σ : St} {H : Hp} {s : Shared} {Q : VK} {us : List Value} {vs : List V} {cc : Bool} (F : FnOk X.prog X.w X.K X.mg X.base CX k f fd ps sp cc) (hr : Room k X.A cc) (hb : Binds X.K fd ps ds) (hd : Vals dvs ds) (hx : Passes CX X E)
    (I : Inv X pins σ H s) (r : Vals vs us) (h : sp (vs ++ dvs) H Q E) : wpAny (model X.prog X.w) X.A (call (.ref f) us) (EP X pins σ Q) X.xe s := by
  have r2 : Vals (vs ++ dvs) (us ++ ds) := r.append hd
  have hl : (us ++ ds).length = ps.length := by rw [← r2.length]; exact F.len _ _ _ _ h
  refine wpAny_call (codeAny_mono (F.run X.A X.stack s H ⟨us, []⟩ (us ++ ds) (vs ++ dvs) Q E hr I.env0 (hb s us I.kIn hl) r2 h) fun r s' hq => ?_)
  cases r with
  | error e => exact hx pins σ H s e s' I hq
  | ok fl =>
    cases fl with
    | ret u => exact I.after hq
    | next => exact False.elim hq
    | brk => exact False.elim hq
    | cont => exact False.elim hq

theorem pe_call {cc : Bool} (F : FnOk X.prog X.w X.K X.mg X.base CX k f fd ps sp cc) (hr : Room k X.A cc) (hg : Gl X x) (hm : X.mg x = some (.ref f)) (hk : PySem.W.keepIn X.K (.ref f) = true) (hb : Binds X.K fd ps ds) (hd : Vals dvs ds) (hx : Passes CX X E)
    (ha : PA X (e :: es) t) (hdb : (x == ("__debug__" : Str)) = false := by decide) (he : starEach (e :: es) X.env = (false, eval e X.env) :: starEach es X.env := by rfl) (hpl : (backTo pos (starEach es X.env)).any (·.1) = false := by rfl) :
    PE X (.Call (.Name x p) (e :: es) [] pos) (tCall sp dvs E t) := by
  intro pins s σ H Q I h
  refine wpAny_Call_Name_kw (ld_glob I hg hm ?_ hdb)
  refine PySem.W.callWith_K (h₀ := X.base) I.ok.mod.kin hk (thn (ha pos pins s σ H _ I h) fun us s1 ⟨vs, H1, I1, r, q⟩ => ⟨I1.kIn, ?_⟩) he hpl
  exact run_fn F hr hb hd hx I1 r q
end

/-! ### keywords -/
section
variable {X : Cx} {CX : CXT} {k : Nat} {f C : Addr} {fd : FuncData} {ps ks : List Str} {sp : Sp} {E : XK} {x m : Str} {p pos apos kpos : Pos} {e o : Expr} {es : List Expr} {kws : List Keyword} {te ta : TE} {t tk : TA} {nm : Option Str}
variable {g : List Value → List Value → List Value} {gV : List V → List V → List V}
end

/-! ### a def's body keeps its promise -/
/-- names: the parameters first -/
structure FnScope (N P : List Str) (sc : Scope) : Prop where
  kind : sc.kind = .function
  co : sc.isCoroutine = false
  gen : sc.isGenerator = false
  nd : N.Nodup
  pre : N.take P.length = P
  par : ∀ x ∈ P, sc.names.lookup x = some .local ∨ sc.names.lookup x = some .cell
  nofree : ∀ y ∈ sc.names, y.2 ≠ .free

theorem bindL_out {kindOf : Str → Option NameKind} {x : Str} : ∀ {binds : List (Str × Value)} {m : Str → Option Value}, (∀ v, (x, v) ∉ binds) → bindL kindOf binds m x = m x
  | [], _, _ => rfl
  | (n, v) :: r, m, h => by
    unfold bindL
    rw [bindL_out fun w hw => h w (List.mem_cons_of_mem _ hw)]
    split
    · have : x ≠ n := by rintro rfl; exact h v List.mem_cons_self
      simp [this]
    · rfl
theorem bindC_out {kindOf : Str → Option NameKind} {x : Str} : ∀ {binds : List (Str × Value)} {m : Str → Option Value}, (∀ v, (x, v) ∉ binds) → bindC kindOf binds m x = m x
  | [], _, _ => rfl
  | (n, v) :: r, m, h => by
    unfold bindC
    rw [bindC_out fun w hw => h w (List.mem_cons_of_mem _ hw)]
    split
    · rfl
    · have : x ≠ n := by rintro rfl; exact h v List.mem_cons_self
      simp [this]
theorem bindL_get {kindOf : Str → Option NameKind} {x : Str} {v : Value} : ∀ {P : List Str} {vs : List Value} {i : Nat} {m : Str → Option Value}, P.Nodup → P[i]? = some x → vs[i]? = some v → kindOf x = some .local →
    bindL kindOf (P.zip vs) m x = some v
  | [], _, _, _, _, h, _, _ => by simp at h
  | _ :: _, [], _, _, _, _, h, _ => by simp at h
  | p :: P, w :: vs, 0, m, nd, h1, h2, hk => by
    simp at h1 h2; subst h1; subst h2
    show bindL kindOf ((p, w) :: P.zip vs) m p = _
    unfold bindL
    rw [bindL_out fun v hv => (List.nodup_cons.mp nd).1 (List.of_mem_zip hv).1, if_pos hk]
    simp
  | p :: P, w :: vs, i + 1, m, nd, h1, h2, hk => by
    show bindL kindOf ((p, w) :: P.zip vs) m x = _
    unfold bindL
    exact bindL_get (i := i) (List.nodup_cons.mp nd).2 (by simpa using h1) (by simpa using h2) hk
theorem bindC_get {kindOf : Str → Option NameKind} {x : Str} {v : Value} : ∀ {P : List Str} {vs : List Value} {i : Nat} {m : Str → Option Value}, P.Nodup → P[i]? = some x → vs[i]? = some v → kindOf x ≠ some .local →
    bindC kindOf (P.zip vs) m x = some v
  | [], _, _, _, _, h, _, _ => by simp at h
  | _ :: _, [], _, _, _, _, h, _ => by simp at h
  | p :: P, w :: vs, 0, m, nd, h1, h2, hk => by
    simp at h1 h2; subst h1; subst h2
    show bindC kindOf ((p, w) :: P.zip vs) m p = _
    unfold bindC
    rw [bindC_out fun v hv => (List.nodup_cons.mp nd).1 (List.of_mem_zip hv).1, if_neg hk]
    simp
  | p :: P, w :: vs, i + 1, m, nd, h1, h2, hk => by
    show bindC kindOf ((p, w) :: P.zip vs) m x = _
    unfold bindC
    exact bindC_get (i := i) (List.nodup_cons.mp nd).2 (by simpa using h1) (by simpa using h2) hk

/-- the names' values at the entry -/
def start (N : List Str) (vs : List V) : St := vs.map some ++ List.replicate (N.length - vs.length) none

/-- the context of a def's body, at its entry; an exception leaves the frame, then lies as CX says -/
def cxOf (CX : CXT) (P : Program) (w : World) (K : PySem.W.Frag) (mg : Str → Option Value) (base : Heap) (N : List Str) (qual : Str) (scope : Scope) (f : Addr) (cd : Value) (A : Around) (outer : List Env) (s : Shared) (H : Hp) (E : XK) (c : Bool := true) : Cx where
  prog := P
  w := w
  K := K
  mg := mg
  base := base
  A := A.deeper (envOfC qual scope s.heap.objs.size f cd)
  N := N
  s₀ := s
  H₀ := H
  env := envOfC qual scope s.heap.objs.size f cd
  outer := outer
  stack := envOfC qual scope s.heap.objs.size f cd :: outer
  ex := []
  calm := c
  fn := fun _ => true
  pn := []
  xe := fun e s' => wpAny (model P w) (A.deeper (envOfC qual scope s.heap.objs.size f cd)) (leaving (envOfC qual scope s.heap.objs.size f cd) e) (fun _ s'' => CX outer H s E e s'') (fun e' s'' => CX outer H s E e' s'') s'

theorem cell_has {sc : Scope} {n : Nat} {x : Str} (h : sc.names.lookup x = some .cell) : ∃ c, (cellsFrom n sc.names []).lookup x = some c := by
  have q := PySem.W.cellsFrom_some sc.names n [] (.inl h)
  exact Option.isSome_iff_exists.mp q

theorem inv_start {CX : CXT} {P : Program} {w : World} {K : PySem.W.Frag} {mg : Str → Option Value} {base : Heap} {N ps : List Str} {qual : Str} {scope : Scope} {f : Addr} {cd : Value} {A : Around} {outer : List Env} {s s1 : Shared} {H : Hp} {E : XK} {us : List Value} {vs : List V} {c : Bool}
    (S : FnScope N ps scope) (hd : c = true → A.handled = none) (e0 : Env0 P w K mg base A outer s H) (hl : vs.length = ps.length) (r : Vals vs us)
    (x : InCallC s s.heap.objs.size (bindL (envOfC qual scope s.heap.objs.size f cd).kindOf (ps.zip us) fun _ => none) (cellsFrom (s.heap.objs.size + 1) scope.names []) (bindC (envOfC qual scope s.heap.objs.size f cd).kindOf (ps.zip us) fun _ => none) s1) :
    Inv (cxOf CX P w K mg base N qual scope f cd A outer s H E c) [] (start N vs) H s1 := by
  have hpl : ps.length ≤ N.length := by have := congrArg List.length S.pre; rw [List.length_take] at this; omega
  obtain ⟨h1, tk, rfl, hk⟩ := x.done
  have noA : ∀ b : Addr, b ∉ (cxOf CX P w K mg base N qual scope f cd A outer s H E c).ex := fun b z => absurd (show b ∈ ([] : List Addr) from z) (by simp)
  refine ⟨⟨e0.mod, S.kind, rfl, rfl, Nat.le_refl _, fun y z c' h1 h2 => ?_, fun y hy => ?_, fun y c _ h => ?_, hd, Around.frames_deeper e0.frames, .inr ⟨rfl, rfl⟩, fun b z => absurd z (noA b), e0.bs, e0.bsz, fun b _ _ => noA b, fun b z => absurd z (noA b), e0.funs, e0.frf⟩,
    rfl, e0.bare, Un.kept hk, ⟨_, x.toInCall.ns, fun i y v h1 h2 h3 => ?_⟩, fun y c h => ⟨_, x.cell y c h⟩, e0.hok.fresh (Nat.le_refl _), fun y c h => ?_, fun p hp => absurd (show p ∈ ([] : List (Addr × Obj)) from hp) (by simp), e0.hok.kept hk, ?_⟩
  · exact name_of_addr x.apart (PySem.mem_of_lookup h1) (PySem.mem_of_lookup h2)
  · have hy : scope.names.lookup y = some .cell ∨ scope.names.lookup y = some .free := hy
    rcases hy with hy | hy
    · exact cell_has hy
    · exact absurd rfl (S.nofree _ (PySem.mem_of_lookup hy))
  · exact Nat.le_of_lt (x.above y c (PySem.mem_of_lookup h))
  · have hi : i < vs.length := by
      unfold start at h2
      by_cases hi : i < vs.length
      · exact hi
      · rw [List.getElem?_append_right (by simpa using hi)] at h2
        rw [List.getElem?_replicate] at h2
        split at h2 <;> cases h2
    have ha : vs[i]? = some v := by
      unfold start at h2
      rw [List.getElem?_append_left (by simpa using hi), List.getElem?_map] at h2
      cases e : vs[i]? with
      | none => rw [e] at h2; cases h2
      | some a => rw [e] at h2; cases h2; rfl
    obtain ⟨u, hu, rv⟩ := r.get ha
    have hp : ps[i]? = some y := by
      rw [← S.pre, List.getElem?_take_of_lt (by omega)]; exact h1
    have ndP : ps.Nodup := by rw [← S.pre]; exact S.nd.sublist (List.take_sublist _ _)
    refine ⟨u, rv, ?_⟩
    rcases S.par y (List.mem_of_getElem? hp) with k | k
    · exact .inl ⟨k, bindL_get ndP hp hu k⟩
    · obtain ⟨c, e⟩ := cell_has (n := s.heap.objs.size + 1) k
      refine .inr ⟨.inl k, c, e, ?_⟩
      have q := x.cell y c e
      rw [bindC_get ndP hp hu (by show scope.names.lookup y ≠ _; rw [k]; decide)] at q
      exact q
  · exact e0.hok.fresh (Nat.le_of_lt (x.above y c (PySem.mem_of_lookup h)))
  · unfold start
    show _ = N.length
    rw [List.length_append, List.length_map, List.length_replicate]
    omega

/-- THE RULE: a def (or a method) of the text, by its body. The body's reading t is chosen for each entry; it is run at the parameters' values -/
theorem fn_of {CX : CXT} {P : Program} {w : World} {K : PySem.W.Frag} {mg : Str → Option Value} {base : Heap} {k : Nat} {f : Addr} {name qual : Str} {params : Arguments} {body : List Stmt} {scope : Scope} {dV kV doc pm cdv ct oc : Value} {an od : Option Addr}
    {osl : Array (Option Value)} {N ps : List Str} {sp : Sp} {c : Bool} (lk : K.lookup f = some ⟨oc, od, .func (PySem.W.fnOf name qual params body scope dV kV doc pm an cdv ct), osl⟩) (hcd : PySem.W.codeIn K cdv qual = true) (S : FnScope N ps scope)
    (len : ∀ vs H Q E, sp vs H Q E → vs.length = ps.length)
    (hbody : ∀ (A : Around) (outer : List Env) (s : Shared) (H : Hp) (vs : List V) (Q : VK) (E : XK), Room k (A.deeper (envOfC qual scope s.heap.objs.size f cdv)) c → sp vs H Q E →
      ∃ t, PSs (cxOf CX P w K mg base N qual scope f cdv A outer s H E c) body t ∧ t { nx := fun _ H' => Q .non H', rt := Q } (start N vs) H) :
    FnOk P w K mg base CX (k + 1) f (PySem.W.fnOf name qual params body scope dV kV doc pm an cdv ct) ps sp c := by
  refine ⟨len, fun A outer s H args us vs Q E hr e0 hb r hsp => ?_⟩
  have hl := len _ _ _ _ hsp
  have KX : K.In s.heap := e0.mod.kin.keeps fun b o e => (e0.bs b o e).1
  have lim : s.heap.NoLimit := e0.mod.nolimit.keeps fun b o e => (e0.bs b o e).1
  have hkind : ∀ y ∈ ps.zip us, scope.names.lookup y.1 = some .local ∨ (scope.names.lookup y.1 = some .cell ∧ ((cellsFrom (s.heap.objs.size + 1) scope.names []).lookup y.1).isSome = true) := fun ⟨n, v⟩ hy => by
    rcases S.par n (List.of_mem_zip hy).1 with q | q
    · exact .inl q
    · exact .inr ⟨q, PySem.W.cellsFrom_some _ _ _ (.inl q)⟩
  refine codeAny_call_function hr.depth (KX _ _ lk) rfl S.co S.gen rfl (PySem.W.codeRec_of KX hcd) (hb _ _ _ _ ?_)
  refine wpAny_newFunctionEnv_cells S.kind hkind fun env he s1 x => ?_
  subst he
  refine ⟨lim.keeps x.toInCall.keep, codeAny_func ?_⟩
  obtain ⟨t, ht, hq⟩ := hbody A outer s H vs Q E (hr.deeper _) hsp
  have I : Inv (cxOf CX P w K mg base N qual scope f cdv A outer s H E c) [] (start N vs) H s1 := inv_start S hr.hc e0 hl r x
  refine wpAny_mono (ht [] s1 (start N vs) H _ I hq) (fun fl s' hs => ?_) fun e s' hs => hs
  have fin : ∀ {σ' : St} {H' : Hp} {v : V} {u : Value}, Inv (cxOf CX P w K mg base N qual scope f cdv A outer s H E c) [] σ' H' s' → RelV v u → Q v H' → CE outer P w H s Q u s' :=
    fun {σ' H' v u} J rv q => ⟨v, H', J.os, J.bare, J.base, J.hok, rv, q⟩
  cases fl with
  | ret u =>
    obtain ⟨v, σ', H', J, rv, q⟩ := hs
    exact fin J rv q
  | next =>
    obtain ⟨σ', H', J, q⟩ := hs
    exact fin (v := V.non) (u := Value.none) J rfl q
  | brk =>
    obtain ⟨_, _, _, q⟩ := hs
    exact False.elim q
  | cont =>
    obtain ⟨_, _, _, q⟩ := hs
    exact False.elim q
end L2

namespace L2
open PySem PySem.Spec PyProof.Rows
section
variable {X : Cx} {x : Str} {p pos : Pos} {e : Expr} {es : List Expr} {t : TA} {id T : String} {r : List V → Hp → VK → Prop}

def tCB (r : List V → Hp → VK → Prop) (t : TA) : TE := fun σ H Q => t σ H fun vs H1 => r vs H1 Q
/-- f(e, ..), f a built-in function -/
theorem pe_callB (hc : CallR X (.builtin id) r) (hg : Gl X x) (hm : X.mg x = none) (hv : bootBuiltins x = some (.builtin id)) (ha : PA X (e :: es) t) (hn : x ≠ "__name__" := by decide) (hdb : (x == ("__debug__" : Str)) = false := by decide)
    (he : starEach (e :: es) X.env = (false, eval e X.env) :: starEach es X.env := by rfl) (hpl : (backTo pos (starEach es X.env)).any (·.1) = false := by rfl) : PE X (.Call (.Name x p) (e :: es) [] pos) (tCB r t) := by
  intro pins s σ H Q I h
  refine wpAny_Call_Name_kw (ld_blt I hg hm hv ?_ hn hdb)
  exact PyProof.Rows.callWith_builtin1 (thn (ha pos pins s σ H _ I h) fun us s1 ⟨vs, H1, I1, r1, q1⟩ => hc pins s1 σ H1 vs us Q I1 r1 q1) he hpl
/-- T(e, ..), T a built-in type -/
theorem pe_callTy (hc : CallR X (.type T) r) (hg : Gl X x) (hm : X.mg x = none) (hv : bootBuiltins x = some (.type T)) (ha : PA X (e :: es) t) (hn : x ≠ "__name__" := by decide) (hdb : (x == ("__debug__" : Str)) = false := by decide)
    (he : starEach (e :: es) X.env = (false, eval e X.env) :: starEach es X.env := by rfl) (hpl : (backTo pos (starEach es X.env)).any (·.1) = false := by rfl) : PE X (.Call (.Name x p) (e :: es) [] pos) (tCB r t) := by
  intro pins s σ H Q I h
  refine wpAny_Call_Name_kw (ld_blt I hg hm hv ?_ hn hdb)
  exact PyProof.Rows.callWith_type1 (thn (ha pos pins s σ H _ I h) fun us s1 ⟨vs, H1, I1, r1, q1⟩ => hc pins s1 σ H1 vs us Q I1 r1 q1) he hpl
end
end L2

namespace HT
open PySem PyProof.Rows

section
open PySem.SeqAt
open PySem.AutoSeq1 (wpAny_loadPart')
open PySem.MeetsSeq PySem.MeetsSeq2 PySem.MeetsSeq3

end

section
variable {prog : Program} {w : World} {A : Around} {E : Value → Shared → Prop} {s : Shared}

/-- t + u, t not empty -/
theorem cat_tup {t b : Addr} {vs ws : List Value} {Q : Value → Shared → Prop} (ht : IsTup s.heap t vs.toArray) (hb : IsTup s.heap b ws.toArray) (hv : vs ≠ [])
    (h1 : ws = [] → Q (.ref t) s) (h2 : ws ≠ [] → Q (.ref s.heap.objs.size) { s with heap := s.heap.push { cls := .type "tuple", data := .seq (vs ++ ws).toArray } })
    (hsz : vs.length + ws.length ≤ sizeLine) : wpAny (model prog w) A (binaryOp .Add (.ref t) (.ref b)) Q E s := by
  obtain ⟨⟨cls, dd, data, sl⟩, ho, hc, n, hd⟩ := id ht
  obtain ⟨⟨cls2, dd2, data2, sl2⟩, ho2, hc2, n2, hd2⟩ := id hb
  simp only at hc hd hc2 hd2
  subst hc hd hc2 hd2
  have e : vs.toArray ++ ws.toArray = (vs ++ ws).toArray := by simp
  by_cases hw : ws = []
  · exact concat_meets ⟨_, ho, rfl⟩ ⟨_, ho2, rfl⟩ noFill_tuple_add seq_tuple_add PySem.F.slot_tuple_add PySem.F.entry_tuple_add (PySem.F.args_tuple_add_2 _ _)
      (tuple_addW1 t b vs.toArray ws.toArray n n2 dd dd2 sl sl2 (by simpa using hv) (by simp [hw])) ⟨ho, ho2, h1 hw⟩
  · refine concat_meets ⟨_, ho, rfl⟩ ⟨_, ho2, rfl⟩ noFill_tuple_add seq_tuple_add PySem.F.slot_tuple_add PySem.F.entry_tuple_add (PySem.F.args_tuple_add_2 _ _)
      (tuple_addW2 t b vs.toArray ws.toArray n n2 dd dd2 sl sl2 (by simpa using hv) (by simpa using hw) (by rw [List.size_toArray, List.size_toArray]; exact hsz)) ⟨ho, ho2, ?_⟩
    rw [e]
    exact h2 hw

/-! ### t[a:b], not the whole -/
/-- a slice's bound as a place among n (d where it is left out) -/
def sIx (n d : Nat) : Option Int → Nat
  | none => d
  | some v => if v < 0 then (v + (n : Int)).toNat else min v.toNat n
theorem sIx_none (n d : Nat) : sIx n d none = d := rfl
theorem sIx_nat (n d k : Nat) : sIx n d (some (k : Int)) = min k n := by
  show (if (k : Int) < 0 then ((k : Int) + (n : Int)).toNat else min (k : Int).toNat n) = min k n
  rw [if_neg (by omega), Int.toNat_natCast]
theorem sIx_le (n d : Nat) (hd : d ≤ n) (o : Option Int) : sIx n d o ≤ n := by
  cases o with
  | none => exact hd
  | some v =>
    show (if v < 0 then (v + (n : Int)).toNat else min v.toNat n) ≤ n
    by_cases hv : v < 0
    · rw [if_pos hv]; omega
    · rw [if_neg hv]; exact Nat.min_le_right _ _
theorem clip_eq (v : Int) (n d : Nat) : (if v < 0 then max (v + (n : Int)) 0 else min v (n : Int)) = ((sIx n d (some v) : Nat) : Int) := by
  show (if v < 0 then max (v + (n : Int)) 0 else min v (n : Int)) = (((if v < 0 then (v + (n : Int)).toNat else min v.toNat n) : Nat) : Int)
  by_cases hv : v < 0
  · simp only [if_pos hv]; omega
  · simp only [if_neg hv]; omega
theorem adjust_gen (lo hi : Option Int) (n : Nat) : Builtin.Slice.sliceAdjust lo hi 1 (n : Int) = (((sIx n 0 lo : Nat) : Int), ((sIx n n hi : Nat) : Int)) := by
  have h1 : ¬ ((1 : Int) < 0) := by omega
  unfold Builtin.Slice.sliceAdjust
  simp only [h1, if_false]
  refine Prod.ext ?_ ?_
  · cases lo with
    | none => rfl
    | some v => exact clip_eq v n 0
  · cases hi with
    | none => rfl
    | some v => exact clip_eq v n n
theorem places_gen (i j : Nat) : Builtin.Slice.slicePlaces (i : Int) (j : Int) 1 = j - i := by
  unfold Builtin.Slice.slicePlaces
  have h1 : (1 : Int) > 0 := by omega
  simp only [h1, if_true, Int.ediv_one]
  split <;> omega
theorem slicePart_ {v : Value} {o : Option Int} {Q : Option Int → Shared → Prop} (p : IsPart v o) (h : Q o s) : wpAny (model prog w) A (Builtin.Slice.slicePartIndex v) Q E s := by
  cases p with
  | none => exact slicePart_none h
  | int i t => exact slicePart_int h
theorem sliceApplied_gen {sl : Addr} {vl vu : Value} {lo hi : Option Int} {n : Nat} {Q : Int × Int × Nat → Shared → Prop} (hs : s.heap.IsSliceOf sl vl vu .none) (pl : IsPart vl lo) (pu : IsPart vu hi)
    (h : Q (((sIx n 0 lo : Nat) : Int), 1, sIx n n hi - sIx n 0 lo) s) : wpAny (model prog w) A (Builtin.Slice.sliceApplied (.ref sl) (pure (n : Int))) Q E s := by
  obtain ⟨os, hos, hcs, hds⟩ := id hs
  unfold Builtin.Slice.sliceApplied Builtin.Slice.sliceFields
  refine wpAny_bind (wpAny_bind (wpAny_field hos hds (x := vl) rfl (wpAny_bind (wpAny_field hos hds (x := vu) rfl (wpAny_bind (wpAny_field hos hds (x := .none) rfl (wpAny_pure ?_)))))))
  refine wpAny_bind (slicePart_none ?_)
  show wpAny _ _ (if ((1 : Int) == 0) = true then _ else _) _ _ s
  rw [if_neg (by decide)]
  refine wpAny_bind (slicePart_ pl (wpAny_bind (slicePart_ pu (wpAny_bind (wpAny_pure ?_)))))
  show wpAny _ _ (match Builtin.Slice.sliceAdjust lo hi 1 (n : Int) with | (lo, hi) => pure (lo, (1 : Int), Builtin.Slice.slicePlaces lo hi 1)) _ _ s
  rw [adjust_gen lo hi n]
  show wpAny _ _ (pure (((sIx n 0 lo : Nat) : Int), (1 : Int), Builtin.Slice.slicePlaces ((sIx n 0 lo : Nat) : Int) ((sIx n n hi : Nat) : Int) 1)) _ _ s
  rw [places_gen]
  exact wpAny_pure h
theorem pick_gen (xs : Array Value) (i k : Nat) : ((List.range k).filterMap fun (m : Nat) => xs[((i : Int) + (m : Int) * 1).toNat]?).toArray = ((xs.toList.drop i).take k).toArray := by
  have e : (fun (m : Nat) => xs[((i : Int) + (m : Int) * 1).toNat]?) = fun m => xs[i + m]? := by
    funext m
    have : ((i : Int) + (m : Int) * 1).toNat = i + m := by omega
    rw [this]
  rw [e]
  have := pick_run xs i k
  rw [List.filterMap_map] at this
  have e2 : ((fun x => xs[x]?) ∘ fun x => i + x) = fun m => xs[i + m]? := rfl
  rw [e2] at this
  rw [this]

theorem getItem_tuple_cut {t sl : Addr} {items : Array Value} {vl vu : Value} {lo hi : Option Int} {Q : Value → Shared → Prop} (ht : IsTup s.heap t items) (hs : s.heap.IsSliceOf sl vl vu .none) (pl : IsPart vl lo) (pu : IsPart vu hi)
    (hw : ¬ (sIx items.size 0 lo = 0 ∧ sIx items.size items.size hi = items.size))
    (h : Q (.ref s.heap.objs.size) { s with heap := s.heap.push { cls := .type "tuple", data := .seq ((items.toList.drop (sIx items.size 0 lo)).take (sIx items.size items.size hi - sIx items.size 0 lo)).toArray } })
    (hsz : items.size ≤ sizeLine) : wpAny (model prog w) A (getItem (.ref t) (.ref sl)) Q E s := by
  have htake : sizeOk (.seq ((items.toList.drop (sIx items.size 0 lo)).take (sIx items.size items.size hi - sIx items.size 0 lo)).toArray) := by
    show ((items.toList.drop (sIx items.size 0 lo)).take (sIx items.size items.size hi - sIx items.size 0 lo)).toArray.size ≤ sizeLine
    rw [List.size_toArray, List.length_take, List.length_drop, Array.length_toList]
    omega
  have hj : sIx items.size items.size hi ≤ items.size := sIx_le _ _ (Nat.le_refl _) hi
  obtain ⟨os, hos, hcs, hds⟩ := id hs
  have hTs : s.TypeIs (.ref sl) "slice" := ⟨os, hos, hcs⟩
  unfold getItem
  try with_reducible refine wpAny_holding ?_
  first | refine wpAny_bind (wpAny_pure ?_) | skip
  refine wpAny_bind (wpAny_sequenceKey ht.typeIs (by decide) ?_)
  refine wpAny_bind (wpAny_callSpecial?_slot (name := Str.ofString "__getitem__") ht.typeIs PyProof.Rows.slot_tuple_getitem
    (wpAny_call_entry PyProof.Rows.slot_tuple_getitem ht.typeIs entry_tuple_getitem ?_ (args_tuple_getitem _ _)))
  show wpAny _ _ (Builtin.Tuple.tupleItemsOf (.ref t) >>= _) _ _ s
  refine wpAny_bind (tupleItemsOf_ ht ?_)
  refine wpAny_bind (wpAny_typeOf hTs ?_)
  rw [if_pos (by decide)]
  refine wpAny_bind (sliceApplied_gen hs pl pu ?_)
  have hno : ¬ ((((sIx items.size 0 lo : Nat) : Int) == 0 && (1 : Int) == 1 && (sIx items.size items.size hi - sIx items.size 0 lo) == items.size) = true) := by
    intro q
    rw [Bool.and_eq_true, Bool.and_eq_true] at q
    have q1 : ((sIx items.size 0 lo : Nat) : Int) = 0 := eq_of_beq q.1.1
    have q2 : sIx items.size items.size hi - sIx items.size 0 lo = items.size := eq_of_beq q.2
    exact hw ⟨by omega, by omega⟩
  show wpAny _ _ (if (((sIx items.size 0 lo : Nat) : Int) == 0 && (1 : Int) == 1 && (sIx items.size items.size hi - sIx items.size 0 lo) == items.size) = true then _ else _) _ _ s
  rw [if_neg hno, pick_gen]
  first
    | exact wpAny_bind (m := Builtin.Tuple.tupleExact _) (wpAny_newObj_type (wpAny_pure ⟨_, rfl, wpAny_pure h⟩) htake)
    | exact wpAny_bind (m := Builtin.Tuple.tupleExact _) (wpAny_newObj_type (wpAny_bind (wpAny_pure (wpAny_pure ⟨_, rfl, wpAny_pure h⟩))) htake)
    | exact wpAny_bind (wpAny_bind (m := Builtin.Tuple.tupleExact _) (wpAny_newObj_type (wpAny_pure (wpAny_pure ⟨_, rfl, wpAny_pure h⟩)) htake))
    | exact wpAny_bind (wpAny_bind (m := Builtin.Tuple.tupleExact _) (wpAny_newObj_type (wpAny_pure ⟨_, rfl, wpAny_pure h⟩) htake))
end
end HT

namespace L2
open PySem PySem.Spec PyProof.Rows

/-! ### the parts of a slice -/
abbrev TO := St → Hp → (Option Int → Hp → Prop) → Prop
/-- a slice's part (left out, or an int) -/
def PO (X : Cx) (e : Option Expr) (t : TO) : Prop :=
  ∀ (pins : List (Addr × Obj)) (s : Shared) (σ : St) (H : Hp) (Q : Option Int → Hp → Prop), Inv X pins σ H s → t σ H Q →
    wpAny (model X.prog X.w) X.A (evalPart e X.env) (fun u s' => ∃ o H', Inv X pins σ H' s' ∧ IsPart u o ∧ Q o H') X.xe s
def tNoPart : TO := fun _ H Q => Q none H
def tPart (t : TE) : TO := fun σ H Q => t σ H fun x H1 => ∃ i, x = .int i ∧ Q (some i) H1

section
variable {X : Cx} {e : Expr} {te : TE} {lo hi : Option Expr} {tl th : TO} {pos p2 : Pos}

theorem po_none : PO X none tNoPart := by
  intro pins s σ H Q I h
  rw [evalPart_none]
  exact wpAny_pure ⟨none, H, I, .none, h⟩
theorem po_some (h : PE X e te) : PO X (some e) (tPart te) := by
  intro pins s σ H Q I hw
  rw [evalPart_some]
  refine thn (h pins s σ H _ I hw) fun u s1 ⟨x, H1, I1, r1, q1⟩ => ?_
  obtain ⟨i, rfl, q⟩ := q1
  obtain ⟨t, rfl⟩ := r1
  exact ⟨some i, H1, I1, .int i t, q⟩

/-- what a slice of a value is, by values: the slice object stands at sl -/
def SlR (X : Cx) (r : V → Option Int → Option Int → Hp → VK → Prop) : Prop :=
  ∀ (pins : List (Addr × Obj)) (s : Shared) (σ : St) (H : Hp) (x : V) (v vl vu : Value) (lo hi : Option Int) (sl : Addr) (Q : VK), Inv X pins σ H s → RelV x v → s.heap.IsSliceOf sl vl vu .none → IsPart vl lo → IsPart vu hi → r x lo hi H Q →
    ∃ T id, typeLookup (.type T) "__getitem__" = pure (some (.builtin id)) ∧ s.TypeIs v T ∧ wpAny (model X.prog X.w) X.A (getItem v (.ref sl)) (EP X pins σ Q) X.xe s
def tSl (r : V → Option Int → Option Int → Hp → VK → Prop) (te : TE) (tl th : TO) : TE := fun σ H Q => te σ H fun x H1 => tl σ H1 fun l H2 => th σ H2 fun u H3 => r x l u H3 Q
/-- a[lo:hi], any a -/
theorem pe_slice {r : V → Option Int → Option Int → Hp → VK → Prop} (hr : SlR X r) (he : PE X e te) (hl : PO X lo tl) (hu : PO X hi th) : PE X (.Subscript e (.Slice lo hi none p2) pos) (tSl r te tl th) := by
  intro pins s σ H Q I h
  refine Subscript_ (thn (he pins s σ H _ I h) fun v s1 ⟨x, H1, I1, r1, q1⟩ => ?_)
  refine wpAny_Slice (thn (hl pins s1 σ H1 _ I1 q1) fun vl s2 ⟨l, H2, I2, pl, q2⟩ => thn (hu pins s2 σ H2 _ I2 q2) fun vu s3 ⟨u, H3, I3, pu, q3⟩ => ?_)
  rw [evalPart_none]
  refine wpAny_pure ?_
  have I4 : Inv X pins σ H3 { s3 with heap := s3.heap.push { cls := .type "slice", data := .fields #[vl, vu, .none] } } := I3.kept (t' := s3.toks) fun b ob q => Heap.get?_push_of_some _ q
  obtain ⟨T, id, hT, ht, hg⟩ := hr pins { s3 with heap := s3.heap.push { cls := .type "slice", data := .fields #[vl, vu, .none] } } σ H3 x v vl vu l u s3.heap.objs.size Q I4 r1 (Heap.IsSliceOf.new ..) pl pu q3
  show wpAny (model X.prog X.w) X.A (subscriptTail e (.Slice lo hi none p2) v (.ref s3.heap.objs.size)) (EP X pins σ Q) X.xe { s3 with heap := s3.heap.push { cls := .type "slice", data := .fields #[vl, vu, .none] } }
  exact tail_any (ops := [.ref s3.heap.objs.size, v]) ht hT hg (by with_unfolding_all rfl)

/-- the items of xs[lo:hi] -/
def cutV (xs : List V) (lo hi : Option Int) : List V := (xs.drop (HT.sIx xs.length 0 lo)).take (HT.sIx xs.length xs.length hi - HT.sIx xs.length 0 lo)
theorem cutV_length (xs : List V) (lo hi : Option Int) : (cutV xs lo hi).length ≤ xs.length := by
  unfold cutV
  rw [List.length_take, List.length_drop]
  omega
/-- t[lo:hi], not the whole of it (the whole would be t itself) -/
def rSlT (K : PySem.W.Frag) : V → Option Int → Option Int → Hp → VK → Prop := fun x lo hi H Q => ∃ a xs, x = .ref a ∧ SqT K H a xs ∧
  ¬ (HT.sIx xs.length 0 lo = 0 ∧ HT.sIx xs.length xs.length hi = xs.length) ∧ ∀ p, H p = none → Q (.ref p) (upd H p (.tup (cutV xs lo hi)))
theorem sl_tup : SlR X (rSlT X.K) := by
  intro pins s σ H x v vl vu lo hi sl Q I rx hs pl pu h
  obtain ⟨a, xs, rfl, hx, hw, q⟩ := h
  cases rx
  obtain ⟨its, r, ht, hz⟩ := I.tuple hx
  have hlen : its.toArray.size = xs.length := by rw [List.size_toArray]; exact r.length.symm
  refine ⟨"tuple", _, PyProof.Rows.slot_tuple_getitem.lookup, ht.typeIs, ?_⟩
  refine HT.getItem_tuple_cut ht hs pl pu (by rw [hlen]; exact hw) ?_ (by rw [hlen]; exact hz)
  rw [hlen]
  refine ⟨.ref s.heap.objs.size, _, I.laid (t' := s.toks) (o := .tup (cutV xs lo hi)) (fun b ob q => Heap.get?_push_of_some _ q) (Nat.le_refl _) ?_, rfl, q _ (I.hok.fresh (Nat.le_refl _))⟩
  exact ⟨Nat.le_trans (cutV_length xs lo hi) hz, _, (r.drop (HT.sIx xs.length 0 lo)).take (HT.sIx xs.length xs.length hi - HT.sIx xs.length 0 lo), IsTup.new _ _⟩

/-! ### t < u, t + u -/
/-- t + u, t not empty: u empty gives t itself -/
def rCatT (K : PySem.W.Frag) : R2 := fun x y H Q => ∃ a b xs ys, x = .ref a ∧ y = .ref b ∧ SqT K H a xs ∧ SqT K H b ys ∧ xs ≠ [] ∧ xs.length + ys.length ≤ sizeLine ∧
  (ys = [] → Q (.ref a) H) ∧ (ys ≠ [] → ∀ p, H p = none → Q (.ref p) (upd H p (.tup (xs ++ ys))))
theorem Vals.nil_iff {xs : List V} {us : List Value} (r : Vals xs us) : us = [] ↔ xs = [] := by
  cases r with
  | nil => simp
  | cons _ _ => simp
theorem op_catT : OpR X (binaryOp .Add) (rCatT X.K) := by
  intro pins s σ H x y v u Q I rx ry h
  obtain ⟨a, b, xs, ys, rfl, rfl, ha, hb, hx, hz, q1, q2⟩ := h
  cases rx
  cases ry
  obtain ⟨its, r1, p1, _⟩ := I.tuple ha
  obtain ⟨its2, r2, p2, _⟩ := I.tuple hb
  refine HT.cat_tup p1 p2 (fun z => hx (r1.nil_iff.mp z)) (fun z => ⟨.ref a, H, I, rfl, q1 (r2.nil_iff.mp z)⟩) (fun z => ?_) (by rw [← r1.length, ← r2.length]; exact hz)
  refine ⟨.ref s.heap.objs.size, _, I.laid (t' := s.toks) (o := .tup (xs ++ ys)) (fun b ob q => Heap.get?_push_of_some _ q) (Nat.le_refl _) ?_, rfl, q2 (fun w => z (r2.nil_iff.mpr w)) _ (I.hok.fresh (Nat.le_refl _))⟩
  exact ⟨by rw [List.length_append]; exact hz, _, r1.append r2, IsTup.new _ _⟩
end
end L2

namespace L2
open PySem PySem.Spec PyProof.Rows

/-! ### places -/
/-- the place that an index of any sign means -/
def ixN (n : Nat) (i : Int) : Option Nat := if 0 ≤ i then (if i < n then some i.toNat else none) else if -(n : Int) ≤ i then some (i + n).toNat else none
def atI {α : Type} (xs : List α) (i : Int) : Option α := (ixN xs.length i).bind fun j => xs[j]?
theorem ixN_seq {n : Nat} {i : Int} {j : Nat} (h : ixN n i = some j) : seqIndex? i n = some j ∧ j < n ∧ -(n : Int) ≤ i ∧ i < n := by
  unfold ixN at h
  by_cases h0 : 0 ≤ i
  · rw [if_pos h0] at h
    by_cases h1 : i < n
    · rw [if_pos h1] at h
      have e : i.toNat = j := Option.some.inj h
      exact ⟨by rw [seqIndex_of h0 h1, e], by omega, by omega, h1⟩
    · rw [if_neg h1] at h; cases h
  · rw [if_neg h0] at h
    by_cases h1 : -(n : Int) ≤ i
    · rw [if_pos h1] at h
      have e : (i + n).toNat = j := Option.some.inj h
      exact ⟨by rw [seqIndex_neg (by omega) h1, e], by omega, h1, by omega⟩
    · rw [if_neg h1] at h; cases h
theorem atI_get {α : Type} {xs : List α} {i : Int} {v : α} (h : atI xs i = some v) : ∃ j, seqIndex? i xs.length = some j ∧ xs[j]? = some v ∧ j < xs.length ∧ -(xs.length : Int) ≤ i ∧ i < xs.length := by
  unfold atI at h
  cases e : ixN xs.length i with
  | none => rw [e] at h; cases h
  | some j =>
    rw [e] at h
    obtain ⟨h1, h2, h3, h4⟩ := ixN_seq e
    exact ⟨j, h1, h, h2, h3, h4⟩
theorem atI_nat {α : Type} {xs : List α} {j : Nat} {v : α} (h : xs[j]? = some v) : atI xs (j : Int) = some v := by
  have hj : j < xs.length := (List.getElem?_eq_some_iff.mp h).1
  have e : ixN xs.length (j : Int) = some j := by
    unfold ixN
    rw [if_pos (by omega), if_pos (by omega)]; simp
  unfold atI; rw [e]; exact h
/-! ### what may be subscripted -/
/-- what stands as an index of a plain subscript -/
def PlainIx (b : Expr) : Prop := ∀ o i, subscripted b false o i = operate [o, i] (getItem o i)
/-- a subscript by values -/
def IxR (X : Cx) (r : R2) : Prop :=
  ∀ (value slice : Expr) (pins : List (Addr × Obj)) (s : Shared) (σ : St) (H : Hp) (x y : V) (v u : Value) (Q : VK), Inv X pins σ H s → RelV x v → RelV y u → r x y H Q →
    subscripted slice false v u = operate [v, u] (getItem v u) → wpAny (model X.prog X.w) X.A (subscriptTail value slice v u) (EP X pins σ Q) X.xe s
/-- a call of a builtin's method by values: the receiver, the arguments -/
def MtR (X : Cx) (id : String) (r : V → List V → Hp → VK → Prop) : Prop :=
  ∀ (pins : List (Addr × Obj)) (s : Shared) (σ : St) (H : Hp) (x : V) (xs : List V) (v : Value) (us : List Value) (Q : VK), Inv X pins σ H s → RelV x v → Vals xs us → r x xs H Q →
    wpAny (model X.prog X.w) X.A (call (.builtin id) (v :: us)) (EP X pins σ Q) X.xe s
section
variable {X : Cx} {a b : Expr} {ta tb : TE} {pos : Pos}
/-- a[b] -/
theorem pe_ix {r : R2} (hr : IxR X r) (ha : PE X a ta) (hb : PE X b tb) (hs : PlainIx b) : PE X (.Subscript a b pos) (tOp r ta tb) := by
  intro pins s σ H Q I h
  exact Subscript_ (binT ha hb I h fun v u s2 x y H2 I2 rx ry q => hr a b pins s2 σ H2 x y v u Q I2 rx ry q (hs _ _))

def rIxL (K : PySem.W.Frag) : R2 := fun x y H Q => ∃ p xs i v, x = .ref p ∧ y = .int i ∧ SqL K H p xs ∧ atI xs i = some v ∧ Q v H
def rIxT (K : PySem.W.Frag) : R2 := fun x y H Q => ∃ p xs i v, x = .ref p ∧ y = .int i ∧ SqT K H p xs ∧ atI xs i = some v ∧ Q v H
def rIxS : R2 := fun x y H Q => ∃ z i c, x = .str z ∧ y = .int i ∧ z.length ≤ sizeLine ∧ atI z.cps.toList i = some c ∧ Q (.str ⟨#[c]⟩) H
theorem ix_list : IxR X (rIxL X.K) := by
  intro value slice pins s σ H x y v u Q I rx ry h hs
  obtain ⟨p, xs, i, z, rfl, rfl, hq, he, q⟩ := h
  cases rx
  obtain ⟨t, rfl⟩ := ry
  obtain ⟨its, r, pl, hz⟩ := I.list hq
  obtain ⟨j, h1, h2, h3, h4, h5⟩ := atI_get he
  obtain ⟨w, ew, rw'⟩ := r.get h2
  have hl := r.length
  have hn := line63
  have fin : EP X pins σ Q w s := ⟨z, H, I, rw', q⟩
  by_cases h0 : 0 ≤ i
  · have hj : i.toNat = j := by
      rw [seqIndex_of h0 h5] at h1
      exact Option.some.inj h1
    exact item_listR pl.isList h0 (by omega) (by rw [hj]; simpa using ew) fin hs
  · have hj : (i + (its.toArray.size : Int)).toNat = j := by
      rw [seqIndex_neg (by omega) h4] at h1
      rw [List.size_toArray, ← hl]
      exact Option.some.inj h1
    exact subscriptTail_builtinR (x := w) pl.isList.typeIs slot_list_getitem.lookup
      (wpAny_getItem_list_neg (Q := fun r s' => r = w ∧ EP X pins σ Q r s') pl.isList (by omega) (by rw [List.size_toArray] <;> omega) (by omega) (by rw [hj]; simpa using ew) ⟨rfl, fin⟩) hs
theorem ix_tup : IxR X (rIxT X.K) := by
  intro value slice pins s σ H x y v u Q I rx ry h hs
  obtain ⟨p, xs, i, z, rfl, rfl, hq, he, q⟩ := h
  cases rx
  obtain ⟨t, rfl⟩ := ry
  obtain ⟨its, r, pl, hz⟩ := I.tuple hq
  obtain ⟨j, h1, h2, h3, h4, h5⟩ := atI_get he
  obtain ⟨w, ew, rw'⟩ := r.get h2
  have hl := r.length
  have hn := line63
  have fin : EP X pins σ Q w s := ⟨z, H, I, rw', q⟩
  exact subscriptTail_builtinR (x := w) pl.typeIs slot_tuple_getitem.lookup
    (getItem_tuple (j := j) (Q := fun r s' => r = w ∧ EP X pins σ Q r s') pl (by omega) (by omega) (by rw [List.size_toArray, ← hl]; exact h1) (by simpa using ew) ⟨rfl, fin⟩) hs
theorem ix_str : IxR X rIxS := by
  intro value slice pins s σ H x y v u Q I rx ry h hs
  obtain ⟨z, i, c, rfl, rfl, hz, he, q⟩ := h
  obtain ⟨t, rfl⟩ := rx
  obtain ⟨t', rfl⟩ := ry
  obtain ⟨j, h1, h2, h3, h4, h5⟩ := atI_get he
  have hl : z.cps.toList.length = z.length := by simp [Str.length]
  rw [hl] at h1 h4 h5
  have hn := line63
  exact tail_any (typeIs_str s z t) slot_str_getitem.lookup (getItem_str (c := c) (by
    have e1 : decide (i < -(2 ^ 63 : Int)) = false := decide_eq_false (by omega)
    have e2 : decide (i ≥ 2 ^ 63) = false := decide_eq_false (by omega)
    rw [e1, e2, Bool.or_false]) (by rw [h1]; simpa using h2) ⟨.str ⟨#[c]⟩, H, I.tok _, ⟨_, rfl⟩, q⟩) hs
/-! ### xs[i] = v, any sign -/
/-! ### slices -/
theorem slice_bounds (lo hi : Option Int) (n : Nat) : (sliceBounds lo hi none n).1 = ((HT.sIx n 0 lo : Nat) : Int) ∧ (sliceBounds lo hi none n).2.1 = ((HT.sIx n n hi : Nat) : Int) ∧ (sliceBounds lo hi none n).2.2 = 1 := by
  refine ⟨?_, ?_, rfl⟩
  · cases lo with
    | none => simp [sliceBounds, HT.sIx]
    | some i =>
      simp only [sliceBounds, HT.sIx, Option.getD_none, show (1 : Int) > 0 by decide, if_true]
      by_cases h : i < 0
      · simp only [h, if_true] <;> omega
      · simp only [h, if_false] <;> omega
  · cases hi with
    | none => simp [sliceBounds, HT.sIx]
    | some i =>
      simp only [sliceBounds, HT.sIx, Option.getD_none, show (1 : Int) > 0 by decide, if_true]
      by_cases h : i < 0
      · simp only [h, if_true] <;> omega
      · simp only [h, if_false] <;> omega
theorem slicePick_cut (its : List Value) (lo hi : Option Int) : slicePick its.toArray lo hi none = ((its.drop (HT.sIx its.length 0 lo)).take (HT.sIx its.length its.length hi - HT.sIx its.length 0 lo)).toArray := by
  obtain ⟨h1, h2, h3⟩ := slice_bounds lo hi its.toArray.size
  unfold slicePick
  rw [h1, h2, h3]
  simp only [sliceRange_one, pick_run, List.size_toArray] <;> rfl
/-- xs[lo:hi] of a list: a new list -/
def rSlL (K : PySem.W.Frag) : V → Option Int → Option Int → Hp → VK → Prop := fun x lo hi H Q => ∃ a xs, x = .ref a ∧ SqL K H a xs ∧ ∀ p, H p = none → Q (.ref p) (upd H p (.lst (cutV xs lo hi)))
theorem sl_list : SlR X (rSlL X.K) := by
  intro pins s σ H x v vl vu lo hi sl Q I rx hs pl pu h
  obtain ⟨a, xs, rfl, hx, q⟩ := h
  cases rx
  obtain ⟨its, r, ht, hz⟩ := I.list hx
  have hlen := r.length
  refine ⟨"list", _, slot_list_getitem.lookup, ht.isList.typeIs, ?_⟩
  refine wpAny_getItem_list_slice ht.isList hs pl pu .none (by simp) ?_ (by rw [List.size_toArray] <;> omega)
  rw [slicePick_cut, ← hlen]
  refine ⟨.ref s.heap.objs.size, _, I.laid (t' := s.toks) (o := .lst (cutV xs lo hi)) (fun b ob q => Heap.get?_push_of_some _ q) (Nat.le_refl _) ?_, rfl, q _ (I.hok.fresh (Nat.le_refl _))⟩
  exact ⟨Nat.le_trans (cutV_length xs lo hi) hz, _, 0, (r.drop (HT.sIx xs.length 0 lo)).take (HT.sIx xs.length xs.length hi - HT.sIx xs.length 0 lo), Heap.get?_push_size _ rfl⟩

/-! ### in, not in: flat items -/
def flatV : V → Bool
  | .non => true
  | .bl _ => true
  | .int _ => true
  | .str _ => true
  | _ => false
/-- == of flat values -/
def eqV : V → V → Bool
  | .non, .non => true
  | .bl a, .bl b => a == b
  | .bl a, .int b => (if a then 1 else 0) == b
  | .int a, .bl b => a == (if b then 1 else 0)
  | .int a, .int b => a == b
  | .str a, .str b => a == b
  | _, _ => false
theorem eqAt_V {A : Around} {s : Shared} {y x : V} {u v : Value} (ry : RelV y u) (rx : RelV x v) (fy : flatV y = true) (fx : flatV x = true) : SeqAt.EqAt A s u v (eqV y x) := by
  cases y with
  | non =>
    cases ry
    cases x with
    | non => cases rx; exact SeqAt.EqAt.same _
    | bl b => cases rx; exact SeqAt.EqAt.none_bool b
    | int b => obtain ⟨t, rfl⟩ := rx; exact SeqAt.EqAt.none_int b t
    | str b => obtain ⟨t, rfl⟩ := rx; exact SeqAt.EqAt.none_str b t
    | _ => exact absurd (show false = true from fx) Bool.false_ne_true
  | bl a =>
    cases ry
    cases x with
    | non => cases rx; exact SeqAt.EqAt.bool_none a
    | bl b => cases rx; exact SeqAt.EqAt.bool_bool a b
    | int b => obtain ⟨t, rfl⟩ := rx; exact SeqAt.EqAt.bool_int a b t
    | str b => obtain ⟨t, rfl⟩ := rx; exact SeqAt.EqAt.bool_str a b t
    | _ => exact absurd (show false = true from fx) Bool.false_ne_true
  | int a =>
    obtain ⟨t', rfl⟩ := ry
    cases x with
    | non => cases rx; exact SeqAt.EqAt.int_none a t'
    | bl b => cases rx; exact SeqAt.EqAt.int_bool a t' b
    | int b => obtain ⟨t, rfl⟩ := rx; exact SeqAt.EqAt.int_int a t' b t
    | str b => obtain ⟨t, rfl⟩ := rx; exact SeqAt.EqAt.int_str a t' b t
    | _ => exact absurd (show false = true from fx) Bool.false_ne_true
  | str a =>
    obtain ⟨t', rfl⟩ := ry
    cases x with
    | non => cases rx; exact SeqAt.EqAt.str_none a t'
    | bl b => cases rx; exact SeqAt.EqAt.str_bool a t' b
    | int b => obtain ⟨t, rfl⟩ := rx; exact SeqAt.EqAt.str_int a t' b t
    | str b => obtain ⟨t, rfl⟩ := rx; exact SeqAt.EqAt.str_str a t' b t
    | _ => exact absurd (show false = true from fx) Bool.false_ne_true
  | _ => exact absurd (show false = true from fy) Bool.false_ne_true
/-- the items' answers, read off the values (a value's own answer does not lean on its token) -/
def eqU (x : V) (u : Value) : Bool := match u with
  | .none => eqV .non x
  | .bool b => eqV (.bl b) x
  | .int i _ => eqV (.int i) x
  | .str z _ => eqV (.str z) x
  | _ => false
theorem eqU_of {x y : V} {u : Value} (r : RelV y u) (f : flatV y = true) : eqU x u = eqV y x := by
  cases y with
  | non => cases r; rfl
  | bl b => cases r; rfl
  | int i => obtain ⟨t, rfl⟩ := r; rfl
  | str z => obtain ⟨t, rfl⟩ := r; rfl
  | _ => exact absurd (show false = true from f) Bool.false_ne_true
theorem any_eqU {x : V} : ∀ {xs : List V} {us : List Value}, Vals xs us → xs.all flatV = true → us.any (eqU x) = xs.any fun y => eqV y x
  | _, _, .nil, _ => rfl
  | y :: xs, u :: us, .cons r t, f => by
    rw [List.all_cons, Bool.and_eq_true] at f
    rw [List.any_cons, List.any_cons, eqU_of r f.1, any_eqU t f.2]
theorem mem_eqAt {A : Around} {s : Shared} {x : V} {v : Value} (rx : RelV x v) (fx : flatV x = true) : ∀ {xs : List V} {us : List Value}, Vals xs us → xs.all flatV = true → ∀ u ∈ us, SeqAt.EqAt A s u v (eqU x u)
  | _, _, .nil, _ => fun u hu => by cases hu
  | y :: xs, u :: us, .cons r t, f => fun u' hu => by
    rw [List.all_cons, Bool.and_eq_true] at f
    rcases List.mem_cons.mp hu with rfl | hu
    · rw [eqU_of r f.1]; exact eqAt_V r rx f.1 fx
    · exact mem_eqAt rx fx t f.2 u' hu
def inV (x : V) (xs : List V) : Bool := xs.any fun y => eqV y x
/-- x in a list or tuple of flat items -/
def rIn (K : PySem.W.Frag) (neg : Bool) : R2 := fun x y H Q => ∃ p xs, y = .ref p ∧ (SqL K H p xs ∨ SqT K H p xs) ∧ flatV x = true ∧ xs.all flatV = true ∧ Q (.bl (if neg then !inV x xs else inV x xs)) H
theorem op_in_seq : OpR X (compareOp .In) (rIn X.K false) := by
  intro pins s σ H x y v u Q I rx ry h
  obtain ⟨p, xs, rfl, hq, fx, fs, q⟩ := h
  cases ry
  rcases hq with hq | hq
  · obtain ⟨its, r, pl, hz⟩ := I.list hq
    refine SeqAt.in_listAt (eqU x) pl.isList (fun w hw => mem_eqAt rx fx r fs w (by simpa using hw)) ⟨.bl _, H, I, rfl, ?_⟩
    rw [show its.toArray.any (eqU x) = its.any (eqU x) by simp, any_eqU r fs]
    exact q
  · obtain ⟨its, r, pl, hz⟩ := I.tuple hq
    refine SeqAt.in_tupleAt (eqU x) pl (fun w hw => mem_eqAt rx fx r fs w (by simpa using hw)) ⟨.bl _, H, I, rfl, ?_⟩
    rw [show its.toArray.any (eqU x) = its.any (eqU x) by simp, any_eqU r fs]
    exact q
/-! ### len, list(x), tuple(x) of any list or tuple that is read -/
theorem call_len_seq : CallR X (.builtin "len") (fun xs H Q => ∃ p ys, xs = [.ref p] ∧ (SqL X.K H p ys ∨ SqT X.K H p ys) ∧ Q (.int ys.length) H) := by
  intro pins s σ H xs us Q I r h
  obtain ⟨p, ys, rfl, hq, q⟩ := h
  obtain ⟨u, rfl, rx⟩ := vals1 r
  cases rx
  have hn := line63
  rcases hq with hq | hq
  · obtain ⟨its, r', pl, hz⟩ := I.list hq
    have hlen := r'.length
    exact Calls.call_len_list pl.isList (by simp only [List.size_toArray] <;> omega) ⟨.int ys.length, H, I.tok _, ⟨s.toks + 1, by rw [List.size_toArray, hlen]⟩, q⟩
  · obtain ⟨its, r', pl, hz⟩ := I.tuple hq
    have hlen := r'.length
    exact len_tuple pl (by simp only [List.size_toArray] <;> omega) ⟨.int ys.length, H, I.tok _, ⟨s.toks + 1, by rw [List.size_toArray, hlen]⟩, q⟩
theorem call_len_str : CallR X (.builtin "len") (fun xs H Q => ∃ z, xs = [.str z] ∧ z.length ≤ sizeLine ∧ Q (.int z.length) H) := by
  intro pins s σ H xs us Q I r h
  obtain ⟨z, rfl, hz, q⟩ := h
  obtain ⟨u, rfl, t, rfl⟩ := vals1 r
  have hn := line63
  exact len_str (by omega) ⟨.int z.length, H, I.tok _, ⟨_, rfl⟩, q⟩
theorem call_list_of : CallR X (.type "list") (fun xs H Q => ∃ p ys, xs = [.ref p] ∧ (SqL X.K H p ys ∨ SqT X.K H p ys) ∧ ∀ l, H l = none → Q (.ref l) (upd H l (.lst ys))) := by
  intro pins s σ H xs us Q I r h
  obtain ⟨p, ys, rfl, hq, q⟩ := h
  obtain ⟨u, rfl, rx⟩ := vals1 r
  cases rx
  have fin : ∀ (its : List Value), Vals ys its → ys.length ≤ sizeLine → ∀ (h' : Heap) (c' : Nat), (∀ b o', s.heap.get? b = some o' → h'.get? b = some o') →
      h'.get? s.heap.objs.size = some { cls := .type "list", dict := none, data := .seq its.toArray c', slots := #[] } → EP X pins σ Q (.ref s.heap.objs.size) { s with heap := h' } := fun its r' hz h' c' kp e =>
    ⟨.ref s.heap.objs.size, _, I.laid (t' := s.toks) kp (Nat.le_refl _) (show ObjOk X.prog X.w _ h' _ (.lst ys) from ⟨hz, its, c', r', e⟩), rfl, q _ (I.hok.fresh (Nat.le_refl _))⟩
  rcases hq with hq | hq
  · obtain ⟨its, r', pl, hz⟩ := I.list hq
    have hlen := r'.length
    obtain ⟨o, ho, hc, n, hd⟩ := pl.isList
    exact call_list_seq p (.inl rfl) ho hc hd (fun h' c' kp e => fin its r' hz h' c' kp e) (by simp only [List.size_toArray] <;> omega)
  · obtain ⟨its, r', pl, hz⟩ := I.tuple hq
    have hlen := r'.length
    obtain ⟨o, ho, hc, n, hd⟩ := pl
    exact call_list_seq p (.inr rfl) ho hc hd (fun h' c' kp e => fin its r' hz h' c' kp e) (by simp only [List.size_toArray] <;> omega)
theorem call_tuple_of : CallR X (.type "tuple") (fun xs H Q => ∃ p ys, xs = [.ref p] ∧ ((SqL X.K H p ys ∧ ∀ l, H l = none → Q (.ref l) (upd H l (.tup ys))) ∨ (SqT X.K H p ys ∧ Q (.ref p) H))) := by
  intro pins s σ H xs us Q I r h
  obtain ⟨p, ys, rfl, h⟩ := h
  obtain ⟨u, rfl, rx⟩ := vals1 r
  cases rx
  rcases h with ⟨hq, q⟩ | ⟨hq, q⟩
  · obtain ⟨its, r', pl, hz⟩ := I.list hq
    have hlen := r'.length
    refine call_tuple_list pl.isList (fun h' kp => ?_) (by simp only [List.size_toArray] <;> omega)
    have I1 : Inv X pins σ H { s with heap := h' } := I.kept (t' := s.toks) kp
    have I2 : Inv X pins σ (upd H h'.objs.size (.tup ys)) { s with heap := h'.push { cls := .type "tuple", data := .seq its.toArray } } :=
      I1.laid (t' := s.toks) (fun b o e => Heap.get?_push_of_some _ e) (Nat.le_refl _) (show ObjOk X.prog X.w _ _ _ (.tup ys) from ⟨hz, its, r', IsTup.new _ _⟩)
    exact ⟨.ref h'.objs.size, _, I2, rfl, q _ (I1.hok.fresh (Nat.le_refl _))⟩
  · obtain ⟨its, r', pl, hz⟩ := I.tuple hq
    exact call_tuple_same pl ⟨.ref p, H, I, rfl, q⟩

/-! ### the call of a builtin's method: o.m(..) -/
/-- the value is of that builtin type -/
def tyV (K : PySem.W.Frag) (T : String) (x : V) (H : Hp) : Prop := match x with
  | .str _ => T = "str"
  | .int _ => T = "int"
  | .ref p => (T = "list" ∧ ∃ xs, SqL K H p xs) ∨ (T = "tuple" ∧ ∃ o, K.lookup p = some o ∧ o.cls = .type "tuple" ∧ o.dict = none) ∨
      (T = "dict" ∧ ((∃ kvs, H p = some (.dK kvs)) ∨ ∃ kvs, H p = some (.dT kvs))) ∨ (T = "set" ∧ ∃ S n, H p = some (.set S n))
  | _ => False
theorem tyV_is {pins : List (Addr × Obj)} {σ : St} {H : Hp} {s : Shared} {T : String} {x : V} {v : Value} (I : Inv X pins σ H s) (r : RelV x v) (ty : tyV X.K T x H) :
    s.TypeIs v T ∧ ∀ a, v = .ref a → ∃ ob, s.heap.get? a = some ob ∧ ob.dict = none := by
  cases x with
  | str z =>
    obtain ⟨t, rfl⟩ := r
    cases (show T = "str" from ty)
    exact ⟨typeIs_str s z t, fun _ e => nomatch e⟩
  | int i =>
    obtain ⟨t, rfl⟩ := r
    cases (show T = "int" from ty)
    exact ⟨typeIs_int s i t, fun _ e => nomatch e⟩
  | ref p =>
    cases r
    rcases ty with ⟨rfl, xs, hq⟩ | ⟨rfl, o, hk, hc, hd⟩ | ⟨rfl, hk⟩ | ⟨rfl, S, n, hk⟩
    · obtain ⟨its, _, pl, _⟩ := I.list hq
      refine ⟨pl.isList.typeIs, fun a e => ?_⟩
      cases e
      obtain ⟨o, n, e, c, hd, _⟩ := pl
      exact ⟨o, e, hd⟩
    · refine ⟨⟨o, I.kIn p o hk, hc⟩, fun a e => ?_⟩
      cases e
      exact ⟨o, I.kIn _ o hk, hd⟩
    · have z : ∃ o, s.heap.get? p = some o ∧ o.ExactDict := by
        rcases hk with ⟨kvs, hk⟩ | ⟨kvs, hk⟩
        · obtain ⟨_, _, _, _, o, _, _, e, ex, _⟩ := I.hok p _ hk
          exact ⟨o, e, ex⟩
        · obtain ⟨_, _, _, _, o, _, _, e, ex, _⟩ := I.hok p _ hk
          exact ⟨o, e, ex⟩
      obtain ⟨o, e, ex⟩ := z
      refine ⟨⟨o, e, ex.1⟩, fun a e2 => ?_⟩
      cases e2
      exact ⟨o, e, ex.2.1⟩
    · obtain ⟨o, _, _, _, e, ex, _⟩ := I.hok p _ hk
      refine ⟨⟨o, e, ex.1⟩, fun a e2 => ?_⟩
      cases e2
      exact ⟨o, e, ex.2.1⟩
  | _ => exact False.elim ty
def tBM (K : PySem.W.Frag) (T : String) (r : V → List V → Hp → VK → Prop) (to : TE) (t : TA) : TE := fun σ H Q => to σ H fun x H1 => tyV K T x H1 ∧ t σ H1 fun xs H2 => r x xs H2 Q
variable {o e : Expr} {es : List Expr} {to : TE} {t : TA} {name : Str} {apos cpos : Pos} {T id : String} {r : V → List V → Hp → VK → Prop}
theorem pe_bm (pa : PlainAttrs T) (slot : Slot T name id) (hty : typeOf (.builtin id) = pure (.type "method_descriptor")) (hm : MtR X id r) (ho : PE X o to) (ha : PA X (e :: es) t)
    (hbase : attributeBase o name X.env (eval o X.env) = eval o X.env := by rfl)
    (hfew : ((backTo cpos (starEach (e :: es) X.env)).all (fun x => !x.1) && (backToKw cpos (keywordEach [] X.env)).all (fun x => x.1.isSome)
      && decide ((e :: es).length + ([] : List Keyword).length + (if ([] : List Keyword).isEmpty then 0 else 1) < 30)) = true := by rfl)
    (hline : (apos.endLine == cpos.line) = true := by rfl) (hs : starEach (e :: es) X.env = (false, eval e X.env) :: starEach es X.env := by rfl) (hplain : (backTo cpos (starEach es X.env)).any (·.1) = false := by rfl) :
    PE X (.Call (.Attribute o name apos) (e :: es) [] cpos) (tBM X.K T r to t) := by
  intro pins s σ H Q I h
  refine wpAny_Call_method_late hbase hfew hline rfl (thn (ho pins s σ H _ I h) fun v s1 ⟨x, H1, I1, r1, ty, q1⟩ => ?_)
  obtain ⟨h1, h2⟩ := tyV_is I1 r1 ty
  refine ⟨T, id, pa, slot, hty, h1, h2, ?_⟩
  have hA := ha cpos pins s1 σ H1 _ I1 q1
  rw [hs] at hA ⊢
  refine Calls.callWith_builtin (by show (false || (backTo cpos (starEach es X.env)).any (·.1)) = false; rw [hplain] <;> rfl) (Calls.evalArgs_plain ?_)
  exact thn hA fun us s2 ⟨vs, H2, I2, r2, q2⟩ => hm pins s2 σ H2 x vs v us Q I2 r1 r2 q2
/- xs.append(e), list.index on a module's tuple .. are MtR facts of 06m -/
end
end L2

namespace L2
open PySem PySem.Spec PyProof.Rows

def MtM (X : Cx) (id : String) (r : V → List V → Hp → VK → Prop) : Prop :=
  ∀ (pins : List (Addr × Obj)) (s : Shared) (σ : St) (H : Hp) (x : V) (xs : List V) (v : Value) (us : List Value) (Q : VK), Inv X pins σ H s → RelV x v → Vals xs us → r x xs H Q →
    wpAny (model X.prog X.w) X.A (call (.builtin id) (v :: us)) (EP X pins σ Q) X.xe s

/-! ### lists of values -/
theorem Vals.one : ∀ {x : V} {us : List Value}, Vals [x] us → ∃ u, us = [u] ∧ RelV x u
  | _, _, .cons r .nil => ⟨_, rfl, r⟩
theorem Vals.two : ∀ {x y : V} {us : List Value}, Vals [x, y] us → ∃ u v, us = [u, v] ∧ RelV x u ∧ RelV y v
  | _, _, _, .cons r (.cons q .nil) => ⟨_, _, rfl, r, q⟩
section
variable {X : Cx} {pins : List (Addr × Obj)} {σ : St} {H : Hp} {s : Shared} {l b : Addr} {xs ys zs : List V}

/-! ### the two steps: a tracked list is rewritten, a new list is laid -/
theorem Inv.lset {its its' : List Value} {n : Nat} {f : Array Value → Array Value} {t' : Nat} (I : Inv X pins σ H s) (hH : H l = some (.lst xs))
    (e : s.heap.get? l = some { cls := .type "list", data := .seq its.toArray n }) (hf : f its.toArray = its'.toArray) (hv : Vals ys its') (hz : ys.length ≤ sizeLine) :
    Inv X pins σ (upd H l (.lst ys)) { s with heap := s.heap.update l (Obj.mapSeq f), toks := t' } := by
  have q := PySem.IsL.update e f
  rw [hf] at q
  refine I.write (x := l) (e := l) (by rw [hH]; exact trivial) (.inl rfl) (fun b' u hb hu => (Heap.get?_update_other s.heap (Obj.mapSeq f) (Ne.symm hb)).trans hu) ⟨_, q⟩ ?_
  exact ⟨hz, its', _, hv, q⟩
theorem Inv.lnew {its : List Value} {t' : Nat} (I : Inv X pins σ H s) (hv : Vals ys its) (hz : ys.length ≤ sizeLine) :
    Inv X pins σ (upd H s.heap.objs.size (.lst ys)) { s with heap := s.heap.push { cls := .type "list", data := .seq its.toArray }, toks := t' } :=
  I.laid (fun _ _ q => Heap.get?_push_of_some _ q) (Nat.le_refl _) ⟨hz, its, 0, hv, Heap.get?_push_size _ rfl⟩
theorem Inv.fresh (I : Inv X pins σ H s) : H s.heap.objs.size = none := I.hok.fresh (Nat.le_refl _)
theorem Inv.lstM (I : Inv X pins σ H s) (hH : H l = some (.lst xs)) : xs.length ≤ sizeLine ∧ ∃ (its : List Value) (n : Nat), Vals xs its ∧ xs.length = its.length ∧ s.heap.get? l = some { cls := .type "list", data := .seq its.toArray n } := by
  obtain ⟨z, its, n, r, e⟩ := I.hok l _ hH
  exact ⟨z, its, n, r, r.length, e⟩

theorem notLongL {n : Nat} (h : n ≤ sizeLine) : Builtin.List.listTooLong n = false := by
  unfold Builtin.List.listTooLong
  exact decide_eq_false (by omega)
end

section
variable {X : Cx}

/-! ### methods -/
def rAppend : V → List V → Hp → VK → Prop := fun x vs H Q => ∃ l xs y, x = .ref l ∧ vs = [y] ∧ H l = some (.lst xs) ∧ xs.length < sizeLine ∧ Q .non (upd H l (.lst (xs ++ [y])))
theorem mt_append : MtM X "list.append" rAppend := by
  intro pins s σ H x vs v us Q I rx rv h
  obtain ⟨l, xs, y, rfl, rfl, hH, hz, q⟩ := h
  cases rx
  obtain ⟨u, rfl, ru⟩ := rv.one
  obtain ⟨z, its, n, r, hl, e⟩ := I.lstM hH
  refine call_meets F.slot_list_append ⟨_, e, rfl⟩ F.entry_list_append (F.args_list_append_2 _ _) (PySem.list_append l its.toArray n u (by rw [List.size_toArray]; omega)) ⟨e, ?_⟩
  refine ⟨.non, _, I.lset (its' := its ++ [u]) hH e (by simp) (r.append (.cons ru .nil)) ?_, rfl, q⟩
  rw [List.length_append, List.length_singleton]
  omega

def rExtend : V → List V → Hp → VK → Prop := fun x vs H Q => ∃ l b xs zs, x = .ref l ∧ vs = [.ref b] ∧ H l = some (.lst xs) ∧ H b = some (.lst zs) ∧ xs.length + zs.length ≤ sizeLine ∧ Q .non (upd H l (.lst (xs ++ zs)))
theorem mt_extend : MtM X "list.extend" rExtend := by
  intro pins s σ H x vs v us Q I rx rv h
  obtain ⟨l, b, xs, zs, rfl, rfl, hH, hB, hz, q⟩ := h
  cases rx
  obtain ⟨u, rfl, ru⟩ := rv.one
  cases ru
  obtain ⟨z, its, n, r, hl, e⟩ := I.lstM hH
  obtain ⟨z2, its2, n2, r2, hl2, e2⟩ := I.lstM hB
  have hsz : its.toArray.size + its2.toArray.size ≤ sizeLine := by rw [List.size_toArray, List.size_toArray]; omega
  have hlong : ¬ (!its.toArray.isEmpty && Builtin.List.listTooLong (its.toArray.size + its2.toArray.size)) = true := by
    rw [notLongL hsz, Bool.and_false]
    exact Bool.false_ne_true
  refine call_meets F.slot_list_extend ⟨_, e, rfl⟩ F.entry_list_extend (F.args_list_extend_2 _ _)
    (AutoSeq1.list_extend_list_list_0 l its.toArray n b its2.toArray n2 hlong (by rw [List.size_toArray]; omega) (by omega)) ⟨e, e2, ?_⟩
  refine ⟨.non, _, I.lset (its' := its ++ its2) hH e (by simp) (r.append r2) ?_, rfl, q⟩
  rw [List.length_append]
  omega

/-! ### list + list, list += list, list * int -/
def rCat : R2 := fun x y H Q => ∃ l b xs zs, x = .ref l ∧ y = .ref b ∧ H l = some (.lst xs) ∧ H b = some (.lst zs) ∧ xs.length + zs.length ≤ sizeLine ∧ ∀ p, H p = none → Q (.ref p) (upd H p (.lst (xs ++ zs)))
theorem op_cat : OpR X (binaryOp .Add) rCat := by
  intro pins s σ H x y v u Q I rx ry h
  obtain ⟨l, b, xs, zs, rfl, rfl, hH, hB, hz, q⟩ := h
  cases rx
  cases ry
  obtain ⟨z, its, n, r, hl, e⟩ := I.lstM hH
  obtain ⟨z2, its2, n2, r2, hl2, e2⟩ := I.lstM hB
  refine PySem.P.add_list e e2 ?_ (by rw [List.size_toArray, List.size_toArray]; omega)
  have ea : its.toArray ++ its2.toArray = (its ++ its2).toArray := by simp
  rw [ea]
  exact ⟨.ref _, _, I.lnew (t' := s.toks) (r.append r2) (by rw [List.length_append]; omega), rfl, q _ I.fresh⟩
/-! ### del xs[i] -/
end

/-! ### xs[a:b] = ys -/
section
variable {prog : Program} {w : World} {A : Around} {E : Value → Shared → Prop} {s : Shared}
end

section
variable {X : Cx}
end
end L2

namespace Att
open PySem PySem.W PySem.Calls PyProof.Rows

/-! ### the script -/
theorem ints_of_wellAll {P : Params} {h : Heap} : ∀ (ns : List Int) (vs : List Value), WellAll P h vs (ns.map WData.int) → IntsAre vs ns := by
  intro ns
  induction ns with
  | nil =>
    intro vs w
    rw [List.map_nil] at w
    cases w
    exact .nil
  | cons n ns ih =>
    intro vs w
    rw [List.map_cons] at w
    cases w with
    | cons a b =>
      cases a
      exact .cons _ _ (ih _ b)

theorem script_of {l : OpenLaw} {n : Nat} (hn : l.most = some n) {P : Params} {h : Heap} {args : List WData} {vals : List Value}
    (hpre : l.row.toRowW.claim.pre args = true) (hwl : WellAll P h vals args) :
    ∃ a vs ns, vals = [Value.ref a] ∧ args = [WData.list (ns.map WData.int)] ∧ h.get? a = some { cls := .type "list", data := .seq vs.toArray } ∧ IntsAre vs ns ∧ ns.length ≤ n := by
  have hsh : WShape.hasAll [] args [.list .int] = true := (pre_splitW hpre).1
  have hc : l.pre.holds [] { args := args } = true := (pre_splitW hpre).2
  obtain ⟨d, r, rfl, h1, h2⟩ := hasAllW_cons hsh
  obtain rfl := hasAllW_nil h2
  obtain ⟨xs, rfl, h3⟩ := hasW_list h1
  obtain ⟨ns, rfl⟩ := items_int h3
  have hlen : ns.length ≤ n := by
    unfold OpenLaw.pre at hc
    have h4 : (WTm.not (.lt (.lit (.int (n : Int))) (.len (.arg 0)))).holds [] { args := [.list (ns.map .int)] } = true := by
      have h4 := (holds_andW hc).1
      rw [hn] at h4
      exact h4
    have h5 := condW_of h4 (w_not (w_lt w_lit (w_len_list (w_arg rfl))))
    rw [List.length_map] at h5
    refine Nat.le_of_not_lt fun q => ?_
    have q' : (n : Int) < ((ns.length : Nat) : Int) := by omega
    first
      | (rw [decide_eq_true q'] at h5; exact absurd h5 (by decide))
      | (simp at h5; omega)
  cases hwl with
  | cons w1 w2 =>
    cases w2
    cases w1 with
    | list ho hall => exact ⟨_, _, ns, rfl, rfl, ho, ints_of_wellAll ns _ hall, hlen⟩

theorem post_true (l : OpenLaw) (args : List WData) : l.row.toRowW.claim.post args (.bool true) args = true :=
  postW_of (r := l.row.toRowW) (X := (true == true))
    (show WShape.has [] (.bool true) .bool = true by first | rfl | decide | simp [WShape.has, WShape.arms, WShape.armsAll])
    (show (WTm.eq .res (.lit (.bool true))).value [] { args := args, res := some (.bool true), after := args } = some (.bool (true == true)) from w_eq_bool (w_res rfl) w_lit) rfl

/-! ### the attachment: holds_open's last premise (the goal 'hc' behind k_head) from a wpAny of the law's body -/
/-- the same from a codeAny of the CALL (for a layer whose function contracts speak of calls) -/
theorem attach_call {l : OpenLaw} {n : Nat} {q : Program} {loose : List Str} {XP : (Str → Option Value) → Heap → Prop} {YP : World → Heap → Prop} {d : DefRec}
    (hn : l.most = some n) (hdf : d.params.defaults = [])
    (call : ∀ (w : World) (s₀ s₁ : Shared) (mg mb : Str → Option Value) (fa : Addr) (o : Obj) (pm cd doc : Value) (a : Addr) (vs : List Value) (ns : List Int),
      Ground q loose [] XP w s₀ mg mb s₁.heap → YP w s₁.heap →
      s₁.heap.get? fa = some o → o.data = .func (docDef d.name d.params d.body d.scope pm cd doc) → s₁.heap.CodeRec cd d.name → mg d.name = some (.ref fa) →
      s₁.heap.get? a = some { cls := .type "list", data := .seq vs.toArray } → IntsAre vs ns → ns.length ≤ n → s₁.gens = #[] →
      codeAny (model l.prog w) callerA (.call (.ref fa) ⟨[.ref a], []⟩) (fun r s' => r = .ok (.ret (.bool true)) ∧ OldK s₁.heap s'.heap ∧ s'.os = s₁.os ∧ AllBare s'.gens) s₁) :
    WalkO q loose XP YP l.row.toRowW d [] (fun f vs => PySem.call f vs) := by
  intro w s₀ s₁ mg mb G Y fa o pm cd doc dV kV ho hd hcd hD hmg hg args vals as hpre hlay hrd hwl hlo
  obtain rfl : dV = .none := Dflts.none hD hdf
  obtain rfl : kV = .none := Dflts.noKw hD
  obtain ⟨a, vs, ns, rfl, rfl, hobj, hints, hlen⟩ := script_of hn hpre hwl
  refine enter_call (codeAny_mono (call w s₀ s₁ mg mb fa o pm cd doc a vs ns G Y ho (fd_plain hd) hcd hmg hobj hints hlen hg) fun r s' hq => ?_)
  obtain ⟨rfl, h2, h3, h4⟩ := hq
  exact ⟨.inl ⟨.bool true, .bool true, [], rfl, fun _ => rfl, .bool true, post_true l _, fun _ => ⟨List.Pairwise.nil, fun _ hm => (nomatch hm)⟩⟩, h2, h3, h4⟩

/-! ### rules over ANY heap (no ledger) from facts about the written part K: the library's own take a ledger (News) for what they write -/
section
variable {prog : Program} {w : World} {A : Around} {E : Value → Shared → Prop} {s : Shared} {K : Frag}

/-! the whole heap as the ledger: makes every rule that writes through a ledger a rule over any heap -/
end
end Att

namespace L2
open PySem PySem.Spec PyProof.Rows

theorem vals_ints : ∀ {vs : List Value} {ns : List Int}, IntsAre vs ns → Vals (ns.map V.int) vs
  | _, _, .nil => .nil
  | _, _, .cons n t h => .cons ⟨t, rfl⟩ (vals_ints h)

/-- nothing is tracked but the script, known to the object (or it is an object of the module) -/
def Only (H : Hp) : Prop := ∀ b, H b = none ∨ ∃ o xs, H b = some (.frz o (.lst xs))

/-- THE HEAD: the law's promise, at the heap behind the top. F, the promise of the law's def, may use that base is part of the heap (so K.In base, base.Ns mainGlobals mg stand in Mod) -/
theorem law_call {P : Program} {w : World} {K : PySem.W.Frag} {mg mb : Str → Option Value} {CX : CXT} {k : Nat} {fa a : Addr} {fd : FuncData} {x : Str} {sp : Sp} {s₁ : Shared} {vs : List Value} {ns : List Int}
    (KX : K.In s₁.heap) (hns : s₁.heap.Ns mainGlobals mg) (hb : s₁.heap.Ns builtinsNs mb) (hbb : ∀ x : Str, x ≠ "__name__" → mb x = bootBuiltins x) (hlim : s₁.heap.NoLimit) (hg : s₁.gens = #[])
    (ha : s₁.heap.get? a = some { cls := .type "list", data := .seq vs.toArray }) (hi : IntsAre vs ns) (hl : ns.length ≤ sizeLine) (hr : Room k callerA)
    (F : ∀ base : Heap, K.In base → base.Ns mainGlobals mg → FnOk P w K mg base CX k fa fd [x] sp) (hbind : ∀ (s : Shared) (u : Value), BindsTo s fd ⟨[u], []⟩ [(x, u)])
    (hsp : ∀ H : Hp, Only H → SqL K H a (ns.map V.int) → sp [.ref a] H (fun v _ => v = .bl true) fun _ _ _ => False)
    (hCX : ∀ H e s', CX [] H s₁ (fun _ _ _ => False) e s' → False) :
    codeAny (model P w) callerA (.call (.ref fa) ⟨[.ref a], []⟩) (fun r s' => r = .ok (.ret (.bool true)) ∧ OldK s₁.heap s'.heap ∧ s'.os = s₁.os ∧ AllBare s'.gens) s₁ := by
  have rv := vals_ints hi
  have lenV := hi.length
  -- from an abstract heap in which nothing but the script may be tracked
  have core : ∀ H : Hp, Only H → SqL K H a (ns.map V.int) → HOk P w H s₁.heap → (∀ b, H b ≠ none → b = a) → (H a ≠ none → K.lookup a = none) →
      codeAny (model P w) callerA (.call (.ref fa) ⟨[.ref a], []⟩) (fun r s' => r = .ok (.ret (.bool true)) ∧ OldK s₁.heap s'.heap ∧ s'.os = s₁.os ∧ AllBare s'.gens) s₁ := by
    intro H hO hS hok hA hK
    have base_of : ∀ {b : Addr} {o : Obj}, s₁.heap.get? b = some o → H b = none → (hidT s₁.heap H).get? b = some o := fun e n => hidT_get e n
    have noA : ∀ {b : Addr} {o : Obj} {es : Array DictEntry} {ep : Nat}, s₁.heap.get? b = some o → o.data = .dict es ep → H b = none := fun {b o es ep} e d => by
      cases q : H b with
      | none => rfl
      | some u =>
        have e' : b = a := hA b (by rw [q]; simp)
        subst e'
        rw [ha] at e; cases e
        have d' : Data.seq vs.toArray _ = Data.dict es ep := d
        cases d'
    have nsK : ∀ {b : Addr} {m : Str → Option Value}, s₁.heap.Ns b m → (hidT s₁.heap H).Ns b m := fun {b m} ⟨o, es, ep, e, d, r⟩ => ⟨o, es, ep, base_of e (noA e d), d, r⟩
    have hKb : K.In (hidT s₁.heap H) := fun b o e => base_of (KX b o e) (by
      cases q : H b with
      | none => rfl
      | some u =>
        have e' : b = a := hA b (by rw [q]; simp)
        subst e'
        rw [hK (by rw [q]; simp)] at e; cases e)
    have hM : Mod K mg (hidT s₁.heap H) := ⟨hKb, nsK hns, ⟨mb, nsK hb, hbb⟩, let ⟨mc, h1, h2⟩ := hlim; ⟨mc, nsK h1, h2⟩⟩
    have e0 : Env0 P w K mg (hidT s₁.heap H) callerA [] s₁ H := ⟨rfl, hM, fun b o e => of_hidT e, Nat.le_of_eq (hidT_size _ _), trivial, fun b hb => absurd (show b ∈ ([] : List Addr) from hb) (by simp), hok, .of_eq hg⟩
    refine codeAny_mono ((F _ hKb (nsK hns)).run callerA [] s₁ H ⟨[.ref a], []⟩ [.ref a] [.ref a] _ _ hr e0 (hbind s₁ (.ref a)) (.cons rfl .nil) (hsp H hO hS)) fun r s' h => ?_
    cases r with
    | error e => exact (hCX H e s' h).elim
    | ok fl =>
      cases fl with
      | next => exact False.elim h
      | brk => exact False.elim h
      | cont => exact False.elim h
      | ret u =>
        obtain ⟨v, H', os, bare, un, hok', r', q⟩ := h
        have q' : v = .bl true := q
        subst q'
        obtain rfl : u = Value.bool true := r'
        refine ⟨rfl, OldK.of_keep fun b o e => ?_, os, bare⟩
        cases q : H b with
        | none => exact un.keep b o e q (by intro z; exact absurd (show b ∈ ([] : List Addr) from z) (by simp)) (by simp)
        | some u =>
          rcases hO b with z | ⟨ob, xs, z⟩
          · rw [q] at z; cases z
          · have z2 := un.frzs b ob _ z
            obtain ⟨e1, _⟩ := hok b _ z
            obtain ⟨e2, _⟩ := hok' b _ z2
            rw [e] at e1; cases e1
            exact e2
  cases hk : K.lookup a with
  | some o =>
    -- the script is one of the module's own objects
    have e := KX a o hk
    rw [ha] at e
    cases e
    refine core (fun _ => none) (fun _ => .inl rfl) (.inr ⟨_, vs.toArray, _, hk, rfl, rfl, rfl, by rw [List.size_toArray, lenV]; exact hl, by simpa using rv⟩) (fun b u z => by have z' : (none : Option HO) = some u := z; cases z') (fun b z => absurd rfl z) fun z => absurd rfl z
  | none =>
    refine core (fun b => if b = a then some (.frz { cls := .type "list", data := .seq vs.toArray } (.lst (ns.map V.int))) else none) (fun b => ?_) (.inl (.inr ⟨{ cls := .type "list", data := .seq vs.toArray }, if_pos rfl⟩)) (fun b u z => ?_) (fun b z => ?_) fun _ => hk
    · by_cases hb : b = a
      · exact .inr ⟨_, _, if_pos hb⟩
      · exact .inl (if_neg hb)
    · by_cases hb : b = a
      · have z' := (if_pos hb).symm.trans z
        cases z'
        subst hb
        exact ⟨ha, by rw [List.length_map]; exact hl, vs, _, rv, ha⟩
      · have z' := (if_neg hb).symm.trans z
        cases z'
    · by_cases hb : b = a
      · exact hb
      · exact absurd (if_neg hb) z
end L2

namespace L2
open PySem PySem.Spec PyProof.Rows

/-- the goal that k_head leaves (case hc), from the law's promise. F gives the function object fd (K's own) once, then the promise over every base -/
theorem walk_of {l : PySem.W.OpenLaw} {n k : Nat} {q : Program} {loose : List Str} {XP : (Str → Option Value) → Heap → Prop} {YP : World → Heap → Prop} {d : DefRec} {K : Params → PySem.W.Frag} {CX : World → CXT} {sp : World → Sp} {x : Str}
    (hn : l.most = some n) (hn2 : n ≤ sizeLine) (hdf : d.params.defaults = []) (hr : Room k callerA)
    (hY : ∀ (w : World) (h : Heap), YP w h → (K w.params).In h)
    (F : ∀ (w : World) (mg : Str → Option Value) (fa : Addr) (h : Heap), (K w.params).In h → h.Ns mainGlobals mg → mg d.name = some (.ref fa) →
      ∃ fd : FuncData, (∀ (s : Shared) (u : Value), BindsTo s fd ⟨[u], []⟩ [(x, u)]) ∧
        ∀ base : Heap, (K w.params).In base → base.Ns mainGlobals mg → FnOk l.prog w (K w.params) mg base (CX w) k fa fd [x] (sp w))
    (hsp : ∀ (w : World) (H : Hp) (a : Addr) (ns : List Int), ns.length ≤ n → Only H → SqL (K w.params) H a (ns.map V.int) → sp w [.ref a] H (fun v _ => v = .bl true) fun _ _ _ => False)
    (hCX : ∀ (w : World) (H : Hp) (s : Shared) (e : Value) (s' : Shared), CX w [] H s (fun _ _ _ => False) e s' → False) :
    PySem.W.WalkO q loose XP YP l.row.toRowW d [] (fun f vs => PySem.call f vs) := by
  refine Att.attach_call hn hdf fun w s₀ s₁ mg mb fa o pm cd doc a vs ns G Y ho hd hcd hmg hobj hints hlen hg => ?_
  have KX := hY w _ Y
  obtain ⟨fd, hb, hF⟩ := F w mg fa _ KX G.T.g hmg
  exact law_call KX G.T.g G.T.b G.T.builtins G.T.nolimit hg hobj hints (Nat.le_trans hlen hn2) hr hF hb (fun H hO hS => hsp w H a ns hlen hO hS) fun H e s' => hCX w H s₁ e s'
end L2

/- THE LAST THEOREM (shape; LID, My.* are yours):
   My.Adr: a structure of the addresses that your layer names (classes, functions); My.Txt K t: a structure (Prop) of the equations over K;
   My.txt_mk : {K} {implicit addresses ..} (e1 : nsIn K mainGlobals "law" = some (some (.ref f))) (e2 : K.lookup f = some ⟨oc, od, .func (fnOf "law" "law" params body scope dV kV doc pm an cdv ct), sl⟩) (e3 : codeIn K cdv "law" = true) .. : ∃ t, My.Txt K t

set_option maxRecDepth 100000 in
set_option maxHeartbeats 0 in
theorem PySem.Challenge.cw_LID_holds : PySem.Challenge.rw_LID.Holds := by
  w_on; o_law; k_head; (case hw => w_witness2)
  k_fill
  refine L2.walk_of (l := PySem.Challenge.rw_LID) (n := 63) (k := 40) (x := "script") (CX := fun w => ..) (sp := fun _ => My.sp_law) rfl (by decide) rfl ⟨rfl, by decide, by decide⟩ (fun w h Y => PySem.W.kIn_of Y) ?F ?S ?C
  case F =>
    intro w mg fa h KX G hmg
    have T : ∃ t, My.Txt (L2.KOf KX) t := by
      dsimp only [L2.KOf]                          -- K must stand as «<heap const> w.params» for k_is
      refine' My.txt_mk ?e1 ?e2 ?e3 ..
      (case e1 => PySem.W.k_is)                    -- in the order: a name -> its address -> its object -> its parts
      (case e2 => PySem.W.k_is)
      ..
    obtain ⟨t, T⟩ := T
    have e0 := hmg.symm.trans (PySem.W.mg_of KX G T.law)
    cases e0                                       -- fa is the law's own address
    exact ⟨_, fun s u => .of_eq rfl, fun base kb nb => My.law_fn T kb nb⟩     -- if «.of_eq rfl» comes too early: refine' ⟨_, ?b, fun base kb nb => My.law_fn T kb nb⟩; exact fun s u => .of_eq rfl
  case S => exact fun w H a ns hl hO hS => ..
  case C => exact ..
(the tactic k_is has no namespace: write k_is) -/

/-! SHORT WORDS over the layer: a def of the text, its body, what a loop and a test want. -/
namespace L2
open PySem PySem.Spec PyProof.Rows

/-! ### the text by places -/
def defArgs (s : Stmt) : Arguments := match s with
  | .FunctionDef _ a _ _ _ _ _ _ _ _ => a
  | _ => { posonlyargs := [], args := [], vararg := none, kwonlyargs := [], kw_defaults := [], kwarg := none, defaults := [] }
def defBody (s : Stmt) : List Stmt := match s with
  | .FunctionDef _ _ b _ _ _ _ _ _ _ => b
  | _ => []
def defScope (s : Stmt) : Scope := match s with
  | .FunctionDef _ _ _ _ _ _ sc _ _ _ => sc
  | _ => { kind := .function, names := [], isGenerator := false, isCoroutine := false }

/-! ### no exception leaves a def -/
abbrev CX0 : CXT := fun _ _ _ _ _ _ => False
abbrev E0 : XK := fun _ _ _ => False
theorem pass0 {X : Cx} : Passes CX0 X E0 := fun _ _ _ _ _ _ _ h => h.elim

/-! ### a def (or method) of the text as it stands behind the top -/
structure Fun (K : PySem.W.Frag) (x qual : Str) (st : Stmt) (f : Addr) (fd : FuncData) : Prop where
  ex : ∃ (oc : Value) (od : Option Addr) (kV doc pm : Value) (an : Option Addr) (cdv ct : Value) (osl : Array (Option Value)),
    fd = PySem.W.fnOf x qual (defArgs st) (defBody st) (defScope st) .none kV doc pm an cdv ct ∧ K.lookup f = some ⟨oc, od, .func fd, osl⟩ ∧ PySem.W.codeIn K cdv qual = true
  kp : PySem.W.keepIn K (.ref f) = true
section
variable {P : Program} {w : World} {K : PySem.W.Frag} {mg : Str → Option Value} {base : Heap}
/-- THE RULE for a def: its body as a term of rules, and the reading of that term -/
theorem Fun.ok {x qual : Str} {st : Stmt} {f : Addr} {fd : FuncData} {N ps : List Str} {k : Nat} {sp : Sp} {c : Bool} (F : Fun K x qual st f fd) (S : FnScope N ps (defScope st)) (len : ∀ vs H Q E, sp vs H Q E → vs.length = ps.length)
    (hbody : ∀ (cdv : Value) (A : Around) (outer : List Env) (s : Shared) (H : Hp) (vs : List V) (Q : VK) (E : XK), Room k (A.deeper (envOfC qual (defScope st) s.heap.objs.size f cdv)) c → sp vs H Q E →
      ∃ t, PSs (cxOf CX0 P w K mg base N qual (defScope st) f cdv A outer s H E c).nox (defBody st) t ∧ t { nx := fun _ H' => Q .non H', rt := Q } (start N vs) H) : FnOk P w K mg base CX0 (k + 1) f fd ps sp c := by
  obtain ⟨oc, od, kV, doc, pm, an, cdv, ct, osl, rfl, lk, hcd⟩ := F.ex
  refine fn_of lk hcd S len fun A outer s H vs Q E hr hsp => ?_
  obtain ⟨t, h, q⟩ := hbody cdv A outer s H vs Q E hr hsp
  exact ⟨t, h.nox, q⟩
/-- how its arguments bind (no defaults): h is «fun _ _ _ _ _ _ us hl => match us, hl with | [_, _], _ => rfl», one _ a parameter -/
theorem Fun.binds {x qual : Str} {st : Stmt} {f : Addr} {fd : FuncData} {ps : List Str} (F : Fun K x qual st f fd)
    (h : ∀ (kV doc pm : Value) (an : Option Addr) (cdv ct : Value) (us : List Value), us.length = ps.length → bindArgs (PySem.W.fnOf x qual (defArgs st) (defBody st) (defScope st) .none kV doc pm an cdv ct) ⟨us, []⟩ = pure (ps.zip us)) : Binds K fd ps [] := by
  obtain ⟨oc, od, kV, doc, pm, an, cdv, ct, osl, rfl, lk, hcd⟩ := F.ex
  exact .all (h kV doc pm an cdv ct)
theorem fun_mk {x qual : Str} {st : Stmt} {f : Addr} {oc : Value} {od an : Option Addr} {osl : Array (Option Value)} {kV doc pm cdv ct : Value} (l : K.lookup f = some ⟨oc, od, .func (PySem.W.fnOf x qual (defArgs st) (defBody st) (defScope st) .none kV doc pm an cdv ct), osl⟩)
    (c : PySem.W.codeIn K cdv qual = true) (k : PySem.W.keepIn K (.ref f) = true) : Fun K x qual st f (PySem.W.fnOf x qual (defArgs st) (defBody st) (defScope st) .none kV doc pm an cdv ct) := ⟨⟨oc, od, kV, doc, pm, an, cdv, ct, osl, rfl, l, c⟩, k⟩
end
theorem hu_of {A : Around} {k : Nat} {c : Bool} (hr : Room k A c) : A.units + 1 < cLine := Nat.lt_of_le_of_lt (Nat.add_le_add_left (by decide : 1 ≤ 64) _) hr.units
/-! ### expressions in short: the name that stands in the i-th slot -/
section
variable {X : Cx}
theorem pv (i : Nat) {x : Str} {pos : Pos} (hN : X.N[i]? = some x := by rfl) (hv : Vis X.env.scope x := by first | exact Or.inl rfl | exact Or.inr (Or.inl rfl) | exact Or.inr (Or.inr rfl)) (hd : (x == ("__debug__" : Str)) = false := by decide)
    (hcd : (x == ("__classdict__" : Str)) = false := by decide) : PE X (.Name x pos) (tVar i) := pe_var hN hv hd hcd
end

/-! ### tests -/
theorem iteF {A B : Prop} (h : B) : if false = true then A else B := by
  rw [if_neg Bool.false_ne_true]
  exact h
theorem iteT {A B : Prop} (h : A) : if true = true then A else B := by
  rw [if_pos rfl]
  exact h
theorem ite2 {c A B : Prop} [Decidable c] (h1 : c → A) (h2 : ¬ c → B) : if c then A else B := by
  by_cases h : c
  · rw [if_pos h]
    exact h1 h
  · rw [if_neg h]
    exact h2 h
/-! ### heaps -/
/-- all that was tracked is as it was -/
def Same (H H' : Hp) : Prop := ∀ b o, H b = some o → H' b = some o
theorem Same.refl (H : Hp) : Same H H := fun _ _ h => h
theorem Same.trans {H H1 H2 : Hp} (a : Same H H1) (b : Same H1 H2) : Same H H2 := fun c o h => b c o (a c o h)
theorem Same.seq {K : PySem.W.Frag} {H H' : Hp} {a : Addr} {xs : List V} (e : Same H H') (h : SqL K H a xs) : SqL K H' a xs := by
  rcases h with (h | ⟨o, h⟩) | h
  · exact .inl (.inl (e _ _ h))
  · exact .inl (.inr ⟨o, e _ _ h⟩)
  · exact .inr h

end L2
namespace L2
open PySem PySem.Spec PyProof.Rows

/-! ### no exception -/
abbrev NoX : Value → Shared → Prop := fun _ _ => False
theorem noX {α : Type} {M : Model} {A : Around} {t : Sem α} {Q : α → Shared → Prop} {E : Value → Shared → Prop} {s : Shared} (h : wpAny M A t Q NoX s) : wpAny M A t Q E s := wpAny_mono h (fun _ _ q => q) fun _ _ z => z.elim

/-! ### a comprehension's turns -/
abbrev tstSem (ifs : List Expr) (env : Env) : Sem Bool := forIn ifs true fun c r => if r = true then do let ok ← isTrue c env (eval c env); pure (ForInStep.yield ok) else pure (ForInStep.yield r)
section
variable {prog : Program} {w : World} {A : Around} {R : Result → Shared → Prop} {s : Shared}
theorem comp_loop {elt tg iter : Expr} {ifs : List Expr} {sc : Scope} {pos : Pos} {it acc : Value} {env : Env} (I : Nat → Shared → Prop)
    (turn : ∀ n s, I n s → wpAny (model prog w) A (pyNext it) (fun r s1 => match r with
      | none => R (.ok .next) s1
      | some v => wpAny (model prog w) A (letOwnedTupleGo tg it v) (fun _ s2 => wpAny (model prog w) A (assign tg env v) (fun _ s3 => wpAny (model prog w) A (tstSem ifs env) (fun ok s4 =>
          if ok = true then wpAny (model prog w) A (eval elt env) (fun x s5 => wpAny (model prog w) A (call (.builtin "list.append") [acc, x]) (fun _ s6 => ∃ m, m < n ∧ I m s6) NoX s5) NoX s4
          else ∃ m, m < n ∧ I m s4) NoX s3) NoX s2) NoX s1) NoX s)
    (n : Nat) (h : I n s) : codeAny (model prog w) A (.compLoop (.ListComp elt [⟨tg, iter, ifs, 0⟩] sc pos) 0 it acc env) R s := by
  refine codeAny_loop rfl I (fun n s hI => ?_) n h
  show wpAny _ A ((compTurn (.ListComp elt [⟨tg, iter, ifs, 0⟩] sc pos) 0 it acc env).onRaise (fun x => do noteFrame x env; theTreesLotGoes x)) _ _ s
  refine wpAny_noted ?_
  rw [compTurn_list]
  refine wpAny_bind (wpAny_standAt (wpAny_bind (noX (thn (turn n s hI) fun r s1 h1 => ?_))))
  cases r with
  | none => exact wpAny_pure h1
  | some v =>
    refine wpAny_bind (noX (thn h1 fun _ s2 h2 => wpAny_bind (noX (thn h2 fun _ s3 h3 => wpAny_bind (noX (thn h3 fun ok s4 h4 => ?_))))))
    cases ok with
    | false => exact wpAny_pure ⟨rfl, h4⟩
    | true => exact wpAny_bind (wpAny_bind (noX (thn h4 fun x s5 h5 => wpAny_bind (noX (thn h5 fun _ s6 h6 => wpAny_pure (wpAny_pure ⟨rfl, h6⟩))))))
end

/-! ### the cells of the names that a block takes from around it -/
theorem closure_go {env : Env} : ∀ (l : List (Str × NameKind)) (acc : List (Str × Addr)), (∀ y ∈ l, y.2 = .free → ∃ c, env.cells.lookup y.1 = some c) → (∀ y c, acc.lookup y = some c → env.cells.lookup y = some c) →
    ∃ cl, (forIn l acc fun x r => if (x.2 == NameKind.free) = true then (do let c ← cellOf env x.1; pure (ForInStep.yield ((x.1, c) :: r))) else pure (ForInStep.yield r)) = (pure cl : Sem (List (Str × Addr))) ∧
      (∀ y c, cl.lookup y = some c → env.cells.lookup y = some c) ∧ (∀ y ∈ l, y.2 = .free → ∃ c, cl.lookup y.1 = some c) ∧ (∀ y c, acc.lookup y = some c → ∃ c', cl.lookup y = some c')
  | [], acc, _, h2 => ⟨acc, rfl, h2, (fun _ z => nomatch z), (fun _ c e => ⟨c, e⟩)⟩
  | (n, k) :: r, acc, h1, h2 => by
    rw [List.forIn_cons]
    by_cases hk : k = .free
    · subst hk
      obtain ⟨c, hc⟩ := h1 (n, .free) List.mem_cons_self rfl
      have e : cellOf env n = pure c := by
        have hc' : env.cells.lookup n = some c := hc
        unfold cellOf
        rw [hc']
      obtain ⟨cl, q1, q2, q3, q4⟩ := closure_go r ((n, c) :: acc) (fun y hy => h1 y (List.mem_cons_of_mem _ hy)) (fun y c' e' => by
        rw [List.lookup_cons] at e'
        by_cases hy : (y == n) = true
        · rw [hy] at e'
          have hn : y = n := eq_of_beq hy
          subst hn
          cases e'
          exact hc
        · rw [Bool.not_eq_true] at hy
          rw [hy] at e'
          exact h2 y c' e')
      refine ⟨cl, ?_, q2, fun y hy hf => ?_, fun y c' e' => ?_⟩
      · simp only [beq_self_eq_true, if_true, e, pure_bind]
        exact q1
      · rcases List.mem_cons.mp hy with rfl | hy
        · exact q4 n c (by simp)
        · exact q3 y hy hf
      · by_cases hy : (y == n) = true
        · have hn : y = n := eq_of_beq hy
          subst hn
          exact q4 y c (by simp)
        · rw [Bool.not_eq_true] at hy
          exact q4 y c' (by rw [List.lookup_cons, hy]; exact e')
    · have hb : (k == NameKind.free) = false := by simpa using hk
      obtain ⟨cl, q1, q2, q3, q4⟩ := closure_go r acc (fun y hy => h1 y (List.mem_cons_of_mem _ hy)) h2
      refine ⟨cl, ?_, q2, fun y hy hf => ?_, q4⟩
      · simp only [hb, Bool.false_eq_true, if_false, pure_bind]
        exact q1
      · rcases List.mem_cons.mp hy with rfl | hy
        · exact absurd hf hk
        · exact q3 y hy hf
theorem closure_ok {env : Env} {sc : Scope} (h : ∀ y ∈ sc.names, y.2 = .free → ∃ c, env.cells.lookup y.1 = some c) :
    ∃ cl, closureFor sc env = pure cl ∧ (∀ y c, cl.lookup y = some c → env.cells.lookup y = some c) ∧ ∀ y ∈ sc.names, y.2 = .free → ∃ c, cl.lookup y.1 = some c := by
  obtain ⟨cl, q1, q2, q3, _⟩ := closure_go sc.names [] h (fun _ _ z => nomatch z)
  refine ⟨cl, ?_, q2, q3⟩
  unfold closureFor
  rw [bind_pure]
  exact q1
theorem relabel_look {env : Env} {y : Str} {k : NameKind} {sc : Scope} (h : (relabel sc env).names.lookup y = some k) : ∃ k0, sc.names.lookup y = some k0 ∧ (k = k0 ∨ (k0 = .free ∧ k = .cell)) := by
  have go : ∀ l : List (Str × NameKind), (l.map fun (n, k) => if (k == .free && env.scope.kind == .function && env.kindOf n == some .cell) then (n, NameKind.cell) else (n, k)).lookup y = some k → ∃ k0, l.lookup y = some k0 ∧ (k = k0 ∨ (k0 = .free ∧ k = .cell)) := by
    intro l
    induction l with
    | nil => intro z; cases z
    | cons a r ih =>
      obtain ⟨n, k1⟩ := a
      intro z
      rw [List.map_cons] at z
      by_cases hc : (k1 == NameKind.free && env.scope.kind == .function && env.kindOf n == some .cell) = true
      · have hf : k1 = .free := by
          rw [Bool.and_eq_true, Bool.and_eq_true] at hc
          simpa using hc.1.1
        simp only [hc, if_true] at z
        rw [List.lookup_cons] at z ⊢
        by_cases hy : (y == n) = true
        · rw [hy] at z ⊢
          cases z
          exact ⟨k1, rfl, .inr ⟨hf, rfl⟩⟩
        · rw [Bool.not_eq_true] at hy
          rw [hy] at z ⊢
          exact ih z
      · simp only [hc, Bool.false_eq_true, if_false] at z
        rw [List.lookup_cons] at z ⊢
        by_cases hy : (y == n) = true
        · rw [hy] at z ⊢
          cases z
          exact ⟨_, rfl, .inl rfl⟩
        · rw [Bool.not_eq_true] at hy
          rw [hy] at z ⊢
          exact ih z
  exact go sc.names h
theorem relabel_free {env : Env} {y : Str} {sc : Scope} (h : sc.names.lookup y = some .free) : (relabel sc env).names.lookup y = some .cell ∨ (relabel sc env).names.lookup y = some .free := by
  have go : ∀ l : List (Str × NameKind), l.lookup y = some .free → (l.map fun (n, k) => if (k == .free && env.scope.kind == .function && env.kindOf n == some .cell) then (n, NameKind.cell) else (n, k)).lookup y = some .cell ∨
      (l.map fun (n, k) => if (k == .free && env.scope.kind == .function && env.kindOf n == some .cell) then (n, NameKind.cell) else (n, k)).lookup y = some .free := by
    intro l
    induction l with
    | nil => intro z; cases z
    | cons a r ih =>
      obtain ⟨n, k1⟩ := a
      intro z
      rw [List.lookup_cons] at z
      rw [List.map_cons]
      by_cases hy : (y == n) = true
      · rw [hy] at z
        cases z
        by_cases hc : (NameKind.free == NameKind.free && env.scope.kind == .function && env.kindOf n == some .cell) = true
        · simp only [hc, if_true]
          exact .inl (by rw [List.lookup_cons, hy])
        · simp only [hc, Bool.false_eq_true, if_false]
          exact .inr (by rw [List.lookup_cons, hy])
      · rw [Bool.not_eq_true] at hy
        rw [hy] at z
        by_cases hc : (k1 == NameKind.free && env.scope.kind == .function && env.kindOf n == some .cell) = true
        · simp only [hc, if_true]
          rw [List.lookup_cons, hy]
          exact ih z
        · simp only [hc, Bool.false_eq_true, if_false]
          rw [List.lookup_cons, hy]
          exact ih z
  exact go sc.names h

/-! ### the block's context -/
abbrev cxComp (X : Cx) (N : List Str) (sc : Scope) (cl : List (Str × Addr)) (C : Addr) (s : Shared) (H : Hp) (ex : List Addr) (pn : List (Addr × Obj)) : Cx :=
  { prog := X.prog, w := X.w, K := X.K, mg := X.mg, base := X.base, A := X.A, N := N, s₀ := s, H₀ := H, env := compEnvC sc cl C X.env, outer := X.stack, stack := X.stack, ex := ex, fn := fun _ => false, calm := X.calm, pn := pn, xe := fun _ _ => False }
/-- a block's tests -/
def PTs (X : Cx) (ifs : List Expr) (t : TT) : Prop :=
  ∀ (pins : List (Addr × Obj)) (s : Shared) (σ : St) (H : Hp) (Q : Bool → Hp → Prop), Inv X pins σ H s → t σ H Q → wpAny (model X.prog X.w) X.A (tstSem ifs X.env) (TP X pins σ Q) X.xe s
def tTrue : TT := fun _ H Q => Q true H
theorem ttT {σ : St} {H : Hp} {A B : Hp → Prop} (h : A H) : tTrue σ H (fun b H4 => if b = true then A H4 else B H4) := by
  show if true = true then A H else B H
  rw [if_pos rfl]
  exact h
theorem pts_nil {X : Cx} : PTs X [] tTrue := fun _ _ _ H _ I h => wpAny_tests_nil ⟨H, I, h⟩
/-- what the block sees of the names around it -/
def capV (σ : St) (caps : List Nat) : St := caps.map fun i => (σ[i]?).getD none
def CompW (J : It) (p : Addr) (tt : TT) (te : TE) (cs : St) (Q : VK) (H1 : Hp) : Prop := ∃ W : Nat → Nat → List V → Hp → Prop, (∃ m, W 0 m [] (upd H1 p (.lst []))) ∧ ∀ i m ys H2, W i m ys H2 →
  (J.stop i H2 ∧ Q (.ref p) H2) ∨ (J.go i H2 ∧ ∃ N : List V → Hp → Prop, (∀ ys' H', N ys' H' → ∃ m', m' < m ∧ W (i + 1) m' ys' H') ∧
    ∀ v H3, J.yld i H2 v H3 → tt (some v :: cs) H3 fun b H4 => if b = true then te (some v :: cs) H4 fun y H5 => H5 p = some (.lst ys) ∧ ys.length < sizeLine ∧ N (ys ++ [y]) (upd H5 p (.lst (ys ++ [y]))) else N ys H4)
/-- .. with what must hold of the heap at each turn and at the end -/
def CompWG (Gs : Hp → Prop) (J : It) (p : Addr) (tt : TT) (te : TE) (cs : St) (Q : VK) (H1 : Hp) : Prop := ∃ W : Nat → Nat → List V → Hp → Prop, (∃ m, W 0 m [] (upd H1 p (.lst []))) ∧ ∀ i m ys H2, W i m ys H2 →
  (J.stop i H2 ∧ Gs H2 ∧ Q (.ref p) H2) ∨ (J.go i H2 ∧ Gs H2 ∧ ∃ N : List V → Hp → Prop, (∀ ys' H', N ys' H' → ∃ m', m' < m ∧ W (i + 1) m' ys' H') ∧
    ∀ v H3, J.yld i H2 v H3 → tt (some v :: cs) H3 fun b H4 => if b = true then te (some v :: cs) H4 fun y H5 => H5 p = some (.lst ys) ∧ ys.length < sizeLine ∧ N (ys ++ [y]) (upd H5 p (.lst (ys ++ [y]))) else N ys H4)
def tCompC (CW : It → Addr → St → VK → Hp → Prop) (wi : TI) (caps : List Nat) : TE := fun σ H Q => wi σ H fun J H1 => ∀ p, H1 p = none → CW J p (capV σ caps) Q H1
def tComp (wi : TI) (tt : TT) (te : TE) (caps : List Nat) : TE := fun σ H Q => wi σ H fun J H1 => ∀ p, H1 p = none → CompW J p tt te (capV σ caps) Q H1

theorem comp_go {X : Cx} {use : Option (Value → Sem Unit)} {Post : Value → Shared → Prop} {pins : List (Addr × Obj)} {s : Shared} {σ : St} {H : Hp} {Q : VK} {Gs : Hp → Prop} {hb : Bool} {CW : It → Addr → St → VK → Hp → Prop} {elt iter : Expr} {ifs : List Expr} {x : Str} {px pos : Pos} {sc : Scope} {wi : TI} {tt : TT} {te : TE} (caps : List Nat) (capsN : List Str)
    (hi : PI X (.Name x px) iter wi hb)
    (ht : ∀ cl C s H ex pn, PTs (cxComp X (x :: capsN) sc cl C s H ex pn) ifs tt)
    (he : ∀ cl C s H ex pn, PE (cxComp X (x :: capsN) sc cl C s H ex pn) elt te)
    (hkind : sc.kind = .function) (hcell : ∀ y ∈ sc.names, y.2 ≠ .cell) (hnames : ∀ y ∈ sc.names, y.2 = .local → sc.names.lookup y.1 = some .local) (hx : sc.names.lookup x = some .local)
    (hfr : ∀ y ∈ sc.names, y.2 = .free → y.1 ∈ capsN)
    (hcap : ∀ (j : Nat) (y : Str), capsN[j]? = some y → ∃ i : Nat, caps[j]? = some i ∧ X.N[i]? = some y ∧ sc.names.lookup y = some .free ∧ (X.env.kindOf y = some .cell ∨ X.env.kindOf y = some .free)) (hlen : caps.length = capsN.length)
    (hnd : (x :: capsN).Nodup) (hc : X.calm = true ∨ (hb = true ∧ ∀ s H, HOk X.prog X.w H s.heap → Gs H → HandQ X s)) (kW : ∀ J p cs Q H1, CW J p cs Q H1 → CompWG Gs J p tt te cs Q H1)
    (hs : ∀ x, foldedSetIterable iter X.env x = pure x) (I : Inv X pins σ H s) (h : tCompC CW wi caps σ H Q)
    (fin : ∀ (C p : Addr) (H5 : Hp) (s5 : Shared), (∃ m, s5.heap.Ns C m) → Inv X pins σ H5 s5 → FpOk X pins H5 C → Q (.ref p) H5 → compPost (model X.prog X.w) X.A X.xe use Post (.ref p) C (.ok .next) s5) :
    wpAny (model X.prog X.w) X.A (comprehension (.ListComp elt [⟨.Name x px, iter, ifs, 0⟩] sc pos) sc X.env (firstIterPos [⟨.Name x px, iter, ifs, 0⟩] pos) (newList []) (firstAsync [⟨.Name x px, iter, ifs, 0⟩]) (firstIter [⟨.Name x px, iter, ifs, 0⟩] X.env) use) Post X.xe s := by
  have hEnd : ∀ s H, HOk X.prog X.w H s.heap → Gs H → EndQ hb X s := by
    rcases hc with hc | ⟨e, k⟩
    · exact fun _ _ _ _ => .inl (I.ok.hd hc)
    · exact fun s H o g => .inr ⟨e, k s H o g⟩
  obtain ⟨cl, hclos, hq2, hq3⟩ := closure_ok (env := X.env) (sc := sc) (fun y hy hf => by
    obtain ⟨j, hj⟩ := List.mem_iff_getElem?.mp (hfr y hy hf)
    obtain ⟨_, _, _, _, k⟩ := hcap j y.1 hj
    exact I.ok.has y.1 k)
  refine wpAny_comprehension_free (use := use) rfl hs hclos hkind hnames (thn (hi pins s σ H _ I h) fun v s1 h1 => thn h1 fun itv s2 h2 => ?_)
  obtain ⟨it, fp, tn, J, H2, e, I2, T, st2, f2, q⟩ := h2
  subst e
  refine wpAny_newObj_type (wpAny_newFunctionEnv hcell (by intro y hy; simp at hy) (fun h1 hns hsb => ?_) hkind)
  dsimp only at hns hsb ⊢
  obtain ⟨W, ⟨m0, w0⟩, turn⟩ := kW _ _ _ _ _ (q s2.heap.objs.size (I2.hok.fresh (Nat.le_refl _)))
  have I3 : Inv X pins σ (upd H2 s2.heap.objs.size (.lst [])) { s2 with heap := s2.heap.push { cls := .type "list", dict := none, data := .seq ([] : List Value).toArray }, toks := s2.toks } := I2.lnew (its := []) (ys := []) (t' := s2.toks) .nil (Nat.zero_le _)
  generalize hH3 : s2.heap.push { cls := .type "list", dict := none, data := .seq ([] : List Value).toArray } = g3 at hns hsb I3 ⊢
  have hsz3 : g3.objs.size = s2.heap.objs.size + 1 := by rw [← hH3, Heap.size_push]
  generalize hHp : upd H2 s2.heap.objs.size (.lst []) = Hp3 at w0 I3
  have hlt : ∀ b o, g3.get? b = some o → b ≠ g3.objs.size := fun b o e => Nat.ne_of_lt (Heap.lt_size e)
  have old : ∀ b o, g3.get? b = some o → h1.get? b = some o := fun b o e => hsb.extBut b o (hlt b o e) (Heap.get?_push_of_some _ e)
  have fpo : ∀ b ∈ fp, ∃ o, g3.get? b = some o := fun b hb => by
    obtain ⟨o, e, _⟩ := T.obj 0 s2.heap st2 b hb
    exact ⟨o, by rw [← hH3]; exact Heap.get?_push_of_some _ e⟩
  have fpC : ∀ b ∈ fp, b ≠ g3.objs.size := fun b hb => by obtain ⟨o, e⟩ := fpo b hb; exact hlt b o e
  have fpH : ∀ b ∈ fp, Hp3 b = none := fun b hb => by
    obtain ⟨o, e, _⟩ := T.obj 0 s2.heap st2 b hb
    rw [← hHp, upd_ne (Nat.ne_of_lt (Heap.lt_size e))]
    exact (f2 b hb).1
  have fsSub : ∀ b, b ≠ X.env.locals → b ∉ X.fs → b ∉ frs X.stack := fun b h1 h2 z => by
    rcases List.mem_cons.mp (I2.stkSub b z) with z | z
    · exact h1 z
    · exact h2 z
  -- the block's context
  have okc : (cxComp X (x :: capsN) sc cl g3.objs.size { s2 with heap := g3, toks := s2.toks } Hp3 fp (X.pn ++ pins)).Ok := by
    refine ⟨I3.ok.mod, hkind, I3.ok.glob, I3.ok.blt, Nat.le_refl _, fun y z c e1 e2 => I3.ok.inj y z c (hq2 y c e1) (hq2 z c e2), fun y hy => ?_, fun y c z => absurd z Bool.false_ne_true, I3.ok.hd, I3.ok.frames, .inl rfl, fun b hb => ⟨fpC b hb, fun y c e => (f2 b hb).2.2.2.2.1 y c (hq2 y c e)⟩,
      I3.bs, Nat.le_trans I3.ok.bsz I3.sz, fun b o e hb => ?_, fun b hb => fsSub b (f2 b hb).2.1 (f2 b hb).2.2.1, I3.stack, I3.stkFree⟩
    · have hy' : ∃ k, (relabel sc X.env).names.lookup y = some k ∧ (k = .cell ∨ k = .free) := by
        rcases hy with hy | hy
        · exact ⟨_, hy, .inl rfl⟩
        · exact ⟨_, hy, .inr rfl⟩
      obtain ⟨k, e, hk⟩ := hy'
      obtain ⟨k0, e0, hk0⟩ := relabel_look e
      have em := PySem.mem_of_lookup e0
      rcases hk0 with rfl | ⟨rfl, _⟩
      · rcases hk with rfl | rfl
        · exact absurd rfl (hcell _ em)
        · exact hq3 _ em rfl
      · exact hq3 _ em rfl
    · rcases (f2 b hb).2.2.2.1 with z | z
      · exact I3.ok.noex b o e z
      · have h1 : b < X.base.objs.size := Heap.lt_size e
        have h2 := I3.ok.bsz
        exact absurd (Nat.lt_of_lt_of_le h1 (Nat.le_trans h2 z)) (Nat.lt_irrefl _)
  have Ic : Inv (cxComp X (x :: capsN) sc cl g3.objs.size { s2 with heap := g3, toks := s2.toks } Hp3 fp (X.pn ++ pins)) [] (none :: capV σ caps) Hp3 { s2 with heap := h1, toks := s2.toks + ([] : List (Str × Value)).length } := by
    refine ⟨okc, rfl, I3.bare, Un.kept old, ⟨_, hns, fun i y v e1 e2 e3 => ?_⟩, fun y c e => ?_, I3.hok.fresh (Nat.le_refl _), fun y c e => I3.freeC y c (hq2 y c e), fun p hp => ?_, I3.hok.kept old, ?_⟩
    · cases i with
      | zero => cases e2
      | succ j =>
        have e1' : capsN[j]? = some y := e1
        obtain ⟨i, c1, c2, c3, c4⟩ := hcap j y e1'
        have e2' : (capV σ caps)[j]? = some (some v) := e2
        have hv : σ[i]? = some (some v) := by
          unfold capV at e2'
          rw [List.getElem?_map, c1] at e2'
          have e4 : (σ[i]?).getD none = some v := Option.some.inj e2'
          cases e5 : σ[i]? with
          | none => rw [e5] at e4; cases e4
          | some w => rw [e5] at e4; exact congrArg some e4
        obtain ⟨m, _, hl⟩ := I3.loc
        have vis : Vis X.env.scope y := by
          rcases c4 with z | z
          · exact .inr (.inl z)
          · exact .inr (.inr z)
        obtain ⟨u, r, l⟩ := hl i y v c2 hv vis
        refine ⟨u, r, .inr ⟨relabel_free c3, ?_⟩⟩
        rcases l with ⟨lk, _⟩ | ⟨_, c, ec, o, ho, hd⟩
        · rcases c4 with z | z <;> (rw [lk] at z; cases z)
        · obtain ⟨c', e'⟩ := hq3 _ (PySem.mem_of_lookup c3) rfl
          have e'' := hq2 _ _ e'
          have e3' : (some c' : Option Addr) = some c := e''.symm.trans ec
          cases e3'
          exact ⟨c, e', o, old _ _ ho, hd⟩
    · obtain ⟨v, o, ho, hd⟩ := I3.cell y c (hq2 y c e)
      exact ⟨v, o, old _ _ ho, hd⟩
    · have hp' : p ∈ X.pn ++ pins := by simpa using hp
      obtain ⟨e1, e2, e3, e4, e5⟩ := I3.pin p hp'
      exact ⟨old _ _ e1, e2, hlt _ _ e1, fsSub _ e3 e4, e5⟩
    · show (capV σ caps).length + 1 = capsN.length + 1
      unfold capV
      rw [List.length_map, hlen]
  have stat : ∀ {H' : Hp}, (∀ b ∈ fp, H' b = none) → ∀ b ∈ fp, FpOk (cxComp X (x :: capsN) sc cl g3.objs.size { s2 with heap := g3, toks := s2.toks } Hp3 fp (X.pn ++ pins)) [] H' b := fun hn b hb =>
    ⟨hn b hb, fpC b hb, fsSub b (f2 b hb).2.1 (f2 b hb).2.2.1, .inl hb, fun y c e => (f2 b hb).2.2.2.2.1 y c (hq2 y c e), fun p hp => (f2 b hb).2.2.2.2.2 p (by simpa using hp)⟩
  -- behind the block
  have back : ∀ {pins5 : List (Addr × Obj)} {σ5 : St} {H5 : Hp} {s5 : Shared} {h' : Heap}, Inv (cxComp X (x :: capsN) sc cl g3.objs.size { s2 with heap := g3, toks := s2.toks } Hp3 fp (X.pn ++ pins)) pins5 σ5 H5 s5 → Heap.SameBut g3.objs.size s5.heap h' → Inv X pins σ H5 { s5 with heap := h' } := by
    intro pins5 σ5 H5 s5 h' I5 sb
    have un : Un (frs X.stack) fp Hp3 H5 g3 s5.heap := I5.base
    have fr : H5 g3.objs.size = none := I5.free
    have un' : Un (frs X.stack) fp Hp3 H5 g3 h' := ⟨fun b o e n hb hx => (sb.2 b (hlt b o e)).trans (un.keep b o e n hb hx),
      fun b o e n hb hx => by obtain ⟨sl, z⟩ := un.slot b o e n hb hx; exact ⟨sl, (sb.2 b (hlt b o e)).trans z⟩, un.free,
      fun b o e hx => by obtain ⟨o', z⟩ := un.there b o e hx; exact ⟨o', (sb.2 b (hlt b o e)).trans z⟩, un.tups, un.frzs, un.tbls⟩
    have hok : HOk X.prog X.w H5 h' := fun b u e => (I5.hok b u e).stay (fun c v hc' z => (sb.2 c (by
      rintro rfl
      rcases hc' with hc' | hc'
      · rw [hc', e] at fr; cases fr
      · rw [fr] at hc'; cases hc')).trans z) (fun _ z => z) (fun _ _ z => z)
    obtain ⟨hh, g, d, t, os⟩ := s5
    have eo : os = s2.os := I5.os
    subst eo
    have z := I3.call (h' := h') (g' := g) (d' := d) (t' := t) (ch := fp) un' hok I5.bare fun b hb => ⟨(f2 b hb).2.2.2.1, (f2 b hb).2.1, (f2 b hb).2.2.2.2.1, (f2 b hb).2.2.2.2.2⟩
    exact z
  have st4 : tn 0 h1 := T.keep 0 s2.heap h1 st2 fun b hb o e => old b o (by rw [← hH3]; exact Heap.get?_push_of_some _ e)
  have loop : codeAny (model X.prog X.w) X.A (.compLoop (.ListComp elt [⟨.Name x px, iter, ifs, 0⟩] sc pos) 0 (.ref it) (.ref s2.heap.objs.size) (compEnvC sc cl g3.objs.size X.env))
      (compPost (model X.prog X.w) X.A X.xe use Post (.ref s2.heap.objs.size) g3.objs.size) { s2 with heap := h1, toks := s2.toks + ([] : List (Str × Value)).length } := by
    refine comp_loop (fun n s' => ∃ i ys v0 H', Inv (cxComp X (x :: capsN) sc cl g3.objs.size { s2 with heap := g3, toks := s2.toks } Hp3 fp (X.pn ++ pins)) [] (v0 :: capV σ caps) H' s' ∧ tn i s'.heap ∧ (∀ b ∈ fp, H' b = none) ∧ W i n ys H') ?_ m0 ⟨0, [], none, Hp3, Ic, st4, fpH, w0⟩
    rintro n s' ⟨i, ys, v0, H', I', st', fr', w'⟩
    rcases turn i n ys H' w' with ⟨stop, gs, qn⟩ | ⟨go, gs, N, hN, step⟩
    · refine thn (T.done (cxComp X (x :: capsN) sc cl g3.objs.size { s2 with heap := g3, toks := s2.toks } Hp3 fp (X.pn ++ pins)) rfl rfl rfl s' (hEnd s' H' I'.hok gs) i [] _ H' NoX I' (stat fr') st' stop) fun r s5 ⟨hr, I5⟩ => ?_
      subst hr
      obtain ⟨m, hn, _⟩ := id I5.loc
      exact fin g3.objs.size s2.heap.objs.size H' s5 ⟨m, hn⟩ (back (h' := s5.heap) I5 ⟨rfl, fun _ _ => rfl⟩) (I3.fpOk (Nat.le_refl _) I5.free) qn
    · refine thn (T.item (cxComp X (x :: capsN) sc cl g3.objs.size { s2 with heap := g3, toks := s2.toks } Hp3 fp (X.pn ++ pins)) rfl rfl rfl s' (hEnd s' H' I'.hok gs) i [] _ H' NoX I' (stat fr') st' go) fun r s5 ⟨u, hr, h5⟩ => ?_
      subst hr
      refine thn h5 fun _ s6 ⟨v, H6, I6, r6, y6, st6, fr6⟩ => ?_
      have I6' := I6.pinned (stat fr6) (T.obj _ _ st6)
      have again : ∀ {σ7 : St} {H7 : Hp} {s7 : Shared} {ys' : List V}, σ7 = some v :: capV σ caps → Inv (cxComp X (x :: capsN) sc cl g3.objs.size { s2 with heap := g3, toks := s2.toks } Hp3 fp (X.pn ++ pins)) ([] ++ pinsAt fp s6.heap) σ7 H7 s7 → N ys' H7 →
          ∃ m, m < n ∧ ∃ i ys v0 H', Inv (cxComp X (x :: capsN) sc cl g3.objs.size { s2 with heap := g3, toks := s2.toks } Hp3 fp (X.pn ++ pins)) [] (v0 :: capV σ caps) H' s7 ∧ tn i s7.heap ∧ (∀ b ∈ fp, H' b = none) ∧ W i m ys H' := by
        intro σ7 H7 s7 ys' eσ I7 n7
        subst eσ
        obtain ⟨m', hm, w7⟩ := hN ys' H7 n7
        refine ⟨m', hm, i + 1, ys', some v, H7, I7.unpinned, T.keep _ _ _ st6 fun b hb o e => (I7.pin (b, o) (List.mem_append_right _ (List.mem_append_right _ (mem_pinsAt hb e)))).1, fun b hb => ?_, w7⟩
        obtain ⟨o, e, d⟩ := T.obj _ _ st6 b hb
        exact (I7.pin (b, o) (List.mem_append_right _ (List.mem_append_right _ (mem_pinsAt hb e)))).2.1
      refine thn (pg_name (X := cxComp X (x :: capsN) sc cl g3.objs.size { s2 with heap := g3, toks := s2.toks } Hp3 fp (X.pn ++ pins)) (i := 0) hnd rfl (Or.inl (lookup_relabel_local hx)) (.inr (lookup_relabel_local hx)) _ s6 _ H6 v u
        (fun σ' H' => σ' = some v :: capV σ caps ∧ H' = H6) I6' r6 ⟨rfl, rfl⟩) fun _ s7 ⟨σ7, H7, I7, e7, e7'⟩ => ?_
      subst e7 e7'
      refine thn (ht _ _ _ _ _ _ _ s7 _ H7 _ I7 (step v H7 y6)) fun ok s8 ⟨H8, I8, q8⟩ => ?_
      cases ok with
      | false => exact again rfl I8 q8
      | true =>
        refine thn (he _ _ _ _ _ _ _ s8 _ H8 _ I8 q8) fun y s9 ⟨yv, H9, I9, r9, hp9, hz9, n9⟩ => ?_
        refine thn (mt_append (X := cxComp X (x :: capsN) sc cl g3.objs.size { s2 with heap := g3, toks := s2.toks } Hp3 fp (X.pn ++ pins)) _ s9 _ H9 (.ref s2.heap.objs.size) [yv] (.ref s2.heap.objs.size) [y] (fun _ H' => H' = upd H9 s2.heap.objs.size (.lst (ys ++ [yv]))) I9 rfl (.cons r9 .nil)
          ⟨s2.heap.objs.size, ys, yv, rfl, rfl, hp9, hz9, rfl⟩) fun _ s10 ⟨_, H10, I10, _, e10⟩ => ?_
        subst e10
        exact again rfl I10 n9
  exact codeAny_compStart_list loop (T.self X.A 0 _ _ _ st4 loop)

theorem pe_compG {X : Cx} {Gs : Hp → Prop} {hb : Bool} {CW : It → Addr → St → VK → Hp → Prop} {elt iter : Expr} {ifs : List Expr} {x : Str} {px pos : Pos} {sc : Scope} {wi : TI} {tt : TT} {te : TE} (caps : List Nat) (capsN : List Str)
    (hi : PI X (.Name x px) iter wi hb)
    (ht : ∀ cl C s H ex pn, PTs (cxComp X (x :: capsN) sc cl C s H ex pn) ifs tt)
    (he : ∀ cl C s H ex pn, PE (cxComp X (x :: capsN) sc cl C s H ex pn) elt te)
    (hkind : sc.kind = .function) (hcell : ∀ y ∈ sc.names, y.2 ≠ .cell) (hnames : ∀ y ∈ sc.names, y.2 = .local → sc.names.lookup y.1 = some .local) (hx : sc.names.lookup x = some .local)
    (hfr : ∀ y ∈ sc.names, y.2 = .free → y.1 ∈ capsN)
    (hcap : ∀ (j : Nat) (y : Str), capsN[j]? = some y → ∃ i : Nat, caps[j]? = some i ∧ X.N[i]? = some y ∧ sc.names.lookup y = some .free ∧ (X.env.kindOf y = some .cell ∨ X.env.kindOf y = some .free)) (hlen : caps.length = capsN.length)
    (hnd : (x :: capsN).Nodup) (hc : X.calm = true ∨ (hb = true ∧ ∀ s H, HOk X.prog X.w H s.heap → Gs H → HandQ X s)) (kW : ∀ J p cs Q H1, CW J p cs Q H1 → CompWG Gs J p tt te cs Q H1)
    (hs : ∀ x, foldedSetIterable iter X.env x = pure x := by intro _; rfl) :
    PE X (.ListComp elt [⟨.Name x px, iter, ifs, 0⟩] sc pos) (tCompC CW wi caps) := by
  intro pins s σ H Q I h
  rw [eval_ListComp]
  exact comp_go (use := none) caps capsN hi ht he hkind hcell hnames hx hfr hcap hlen hnd hc kW hs I h fun C p H5 s5 ⟨m, hn⟩ I5 f q => ⟨m, hn, fun h' sb => ⟨.ref p, H5, I5.turned (t' := s5.toks) (fun b o hb e => (sb.2 b hb).trans e) f.1 f.2.1 f.2.2.2.1 f.2.2.2.2.1 f.2.2.2.2.2, rfl, q⟩⟩
/-- y = [.. for ..], y a local name: stored ahead of the block's own names' end -/
theorem ps_setC {X : Cx} {Gs : Hp → Prop} {hb : Bool} {CW : It → Addr → St → VK → Hp → Prop} {elt iter : Expr} {ifs : List Expr} {x y : Str} {px pos pos' pos2 : Pos} {sc : Scope} {wi : TI} {tt : TT} {te : TE} {i : Nat} (hN : X.N.Nodup) (hiN : X.N[i]? = some y) (hy : X.env.scope.names.lookup y = some .local) (caps : List Nat) (capsN : List Str)
    (hi : PI X (.Name x px) iter wi hb)
    (ht : ∀ cl C s H ex pn, PTs (cxComp X (x :: capsN) sc cl C s H ex pn) ifs tt)
    (he : ∀ cl C s H ex pn, PE (cxComp X (x :: capsN) sc cl C s H ex pn) elt te)
    (hkind : sc.kind = .function) (hcell : ∀ y ∈ sc.names, y.2 ≠ .cell) (hnames : ∀ y ∈ sc.names, y.2 = .local → sc.names.lookup y.1 = some .local) (hx : sc.names.lookup x = some .local)
    (hfr : ∀ y ∈ sc.names, y.2 = .free → y.1 ∈ capsN)
    (hcap : ∀ (j : Nat) (y : Str), capsN[j]? = some y → ∃ i : Nat, caps[j]? = some i ∧ X.N[i]? = some y ∧ sc.names.lookup y = some .free ∧ (X.env.kindOf y = some .cell ∨ X.env.kindOf y = some .free)) (hlen : caps.length = capsN.length)
    (hnd : (x :: capsN).Nodup) (hc : X.calm = true ∨ (hb = true ∧ ∀ s H, HOk X.prog X.w H s.heap → Gs H → HandQ X s)) (kW : ∀ J p cs Q H1, CW J p cs Q H1 → CompWG Gs J p tt te cs Q H1)
    (hsw : swapsWith (.ListComp elt [⟨.Name x px, iter, ifs, 0⟩] sc pos) (some (.Name y pos')) pos2.line X.env = pure true := by rfl)
    (hs : ∀ x, foldedSetIterable iter X.env x = pure x := by intro _; rfl) :
    PS X (.Assign [.Name y pos'] (.ListComp elt [⟨.Name x px, iter, ifs, 0⟩] sc pos) pos2) (tAsg (tCompC CW wi caps) (gName i)) := by
  intro pins s σ H D I h
  rw [exec_Assign_Name_used _ _ _ _ hsw, arm_evalThenUse_ListComp]
  refine wpAny_bind (wpAny_standAt (wpAny_bind (wpAny_bind (comp_go (use := some (assign (.Name y pos') X.env)) caps capsN hi ht he hkind hcell hnames hx hfr hcap hlen hnd hc kW hs I h fun C p H5 s5 ⟨m, hn⟩ I5 f q => ?_))))
  refine wpAny_assign_Name (store_ok2 I5 hN hiN (.inl hy) (show RelV (.ref p) (.ref p) from rfl) (fun s6 I6 ⟨a, sb, ha⟩ => ?_) (.inr hy))
  have nC : C ≠ a := by
    rcases ha with ha | ha
    · rw [ha]; exact f.2.1
    · exact fun z => f.2.2.2.2.1 y a ha z.symm
  obtain ⟨o, es, ep, ho, r⟩ := hn
  refine ⟨m, ⟨o, es, ep, (sb.2 C nC).trans ho, r⟩, fun h' sb' => ?_⟩
  have I7 := I6.turned (t' := s6.toks) (h' := h') (fun b o hb e => (sb'.2 b hb).trans e) f.1 f.2.1 f.2.2.2.1 f.2.2.2.2.1 f.2.2.2.2.2
  exact wpAny_pure (wpAny_pure ⟨_, H5, I7, q⟩)
theorem CompW.g {J : It} {p : Addr} {tt : TT} {te : TE} {cs : St} {Q : VK} {H1 : Hp} (h : CompW J p tt te cs Q H1) : CompWG (fun _ => True) J p tt te cs Q H1 := by
  obtain ⟨W, h0, h1⟩ := h
  refine ⟨W, h0, fun i m ys H2 w => ?_⟩
  rcases h1 i m ys H2 w with ⟨a, b⟩ | ⟨a, b⟩
  · exact .inl ⟨a, trivial, b⟩
  · exact .inr ⟨a, trivial, b⟩
theorem pe_comp {X : Cx} {elt iter : Expr} {ifs : List Expr} {x : Str} {px pos : Pos} {sc : Scope} {wi : TI} {tt : TT} {te : TE} (caps : List Nat) (capsN : List Str)
    (hi : PI X (.Name x px) iter wi)
    (ht : ∀ cl C s H ex pn, PTs (cxComp X (x :: capsN) sc cl C s H ex pn) ifs tt)
    (he : ∀ cl C s H ex pn, PE (cxComp X (x :: capsN) sc cl C s H ex pn) elt te)
    (hkind : sc.kind = .function) (hcell : ∀ y ∈ sc.names, y.2 ≠ .cell) (hnames : ∀ y ∈ sc.names, y.2 = .local → sc.names.lookup y.1 = some .local) (hx : sc.names.lookup x = some .local)
    (hfr : ∀ y ∈ sc.names, y.2 = .free → y.1 ∈ capsN)
    (hcap : ∀ (j : Nat) (y : Str), capsN[j]? = some y → ∃ i : Nat, caps[j]? = some i ∧ X.N[i]? = some y ∧ sc.names.lookup y = some .free ∧ (X.env.kindOf y = some .cell ∨ X.env.kindOf y = some .free)) (hlen : caps.length = capsN.length)
    (hnd : (x :: capsN).Nodup) (hc : X.calm = true)
    (hs : ∀ x, foldedSetIterable iter X.env x = pure x := by intro _; rfl) :
    PE X (.ListComp elt [⟨.Name x px, iter, ifs, 0⟩] sc pos) (tComp wi tt te caps) :=
  pe_compG (Gs := fun _ => True) (hb := false) (CW := fun J p cs Q H1 => CompW J p tt te cs Q H1) caps capsN hi ht he hkind hcell hnames hx hfr hcap hlen hnd (.inl hc) (fun _ _ _ _ _ h => h.g) hs

/-- a block over n items, by its word: turn, what is made so far, heap -/
theorem comp_by {J : It} {p : Addr} {tt : TT} {te : TE} {cs : St} {Q : VK} {H1 : Hp} (n : Nat) (Pv : Nat → List V → Hp → Prop) (h0 : Pv 0 [] (upd H1 p (.lst [])))
    (hs : ∀ i ys H, i < n → Pv i ys H → J.go i H ∧ ∀ v H3, J.yld i H v H3 → tt (some v :: cs) H3 fun b H4 => if b = true then te (some v :: cs) H4 fun y H5 => H5 p = some (.lst ys) ∧ ys.length < sizeLine ∧ Pv (i + 1) (ys ++ [y]) (upd H5 p (.lst (ys ++ [y]))) else Pv (i + 1) ys H4)
    (hd : ∀ ys H, Pv n ys H → J.stop n H ∧ Q (.ref p) H) : CompW J p tt te cs Q H1 := by
  refine ⟨fun i m ys H => m = n - i ∧ i ≤ n ∧ Pv i ys H, ⟨n, by simp, Nat.zero_le _, h0⟩, ?_⟩
  rintro i m ys H ⟨rfl, hi, pv⟩
  by_cases hlt : i < n
  · obtain ⟨g, st⟩ := hs i ys H hlt pv
    exact .inr ⟨g, Pv (i + 1), fun ys' H' p' => ⟨n - (i + 1), by omega, rfl, hlt, p'⟩, st⟩
  · have e : i = n := by omega
    subst e
    exact .inl (hd ys H pv)

/-! ### over a text's signs -/
def Its (z : Str) : It := ⟨fun i _ => i < z.length, fun i H x H' => H' = H ∧ ∃ c, z.cps[i]? = some c ∧ x = .str ⟨#[c]⟩, fun i _ => z.length ≤ i⟩
theorem turn_ascii {P : Program} {w : World} {K : PySem.W.Frag} {tg : Expr} (z : Str) (t : Tok) (it : Addr) : Turn P w K tg (Its z) [it] it (fun i h => h.IsStrIter it "str_ascii_iterator" z t i) where
  mem := by simp
  obj := fun i h st b hb => by
    have e : b = it := by simpa using hb
    subst e
    obtain ⟨o, e, c, d⟩ := st
    exact ⟨o, e, fun v z => by rw [d] at z; cases z⟩
  keep := fun i h h' st k => by
    obtain ⟨o, e, r⟩ := st
    exact ⟨o, k it (by simp) o e, r⟩
  item := by
    intro X hP hw hK s hc i pins σ H E I hf st hg
    subst hP hw hK
    obtain ⟨f0, f1, f2, f3, f4, f5⟩ := hf it (by simp)
    have hi : i < z.cps.size := hg
    refine wpAny_pyNext_ascii_item st (c := z.cps[i]) (by simp [hi]) fun h' st' sb => ?_
    have I1 : Inv X pins σ H { s with heap := h', toks := s.toks + 1 } := I.turned (fun b o hb e => (sb.2 b hb).trans e) f0 f1 f3 f4 f5
    obtain ⟨o, e, c, d⟩ := id st'
    exact ⟨_, rfl, go_of (s := { s with heap := h', toks := s.toks + 1 }) e c d (by decide) ⟨.str ⟨#[z.cps[i]]⟩, H, I1, ⟨_, rfl⟩, ⟨rfl, _, by simp [hi], rfl⟩, st', fun b hb => (hf b hb).1⟩⟩
  done := by
    intro X hP hw hK s hc i pins σ H E I hf st hg
    subst hP hw hK
    obtain ⟨f0, f1, f2, f3, f4, f5⟩ := hf it (by simp)
    have hi : z.cps.size ≤ i := hg
    exact wpAny_pyNext_ascii_end hc.none st (by simp [hi]) fun h' eb => ⟨rfl, I.turned (t' := s.toks) (fun b o hb e => eb b o hb e) f0 f1 f3 f4 f5⟩
  self := fun _ _ _ _ _ st h => wpAny_pyIter_striter_ascii st h
theorem turn_wide {P : Program} {w : World} {K : PySem.W.Frag} {tg : Expr} (z : Str) (t : Tok) (it : Addr) : Turn P w K tg (Its z) [it] it (fun i h => h.IsStrIter it "str_iterator" z t i) where
  mem := by simp
  obj := fun i h st b hb => by
    have e : b = it := by simpa using hb
    subst e
    obtain ⟨o, e, c, d⟩ := st
    exact ⟨o, e, fun v z => by rw [d] at z; cases z⟩
  keep := fun i h h' st k => by
    obtain ⟨o, e, r⟩ := st
    exact ⟨o, k it (by simp) o e, r⟩
  item := by
    intro X hP hw hK s hc i pins σ H E I hf st hg
    subst hP hw hK
    obtain ⟨f0, f1, f2, f3, f4, f5⟩ := hf it (by simp)
    have hi : i < z.cps.size := hg
    refine wpAny_pyNext_wide_item st (c := z.cps[i]) (by simp [hi]) fun h' st' sb => ?_
    have I1 : Inv X pins σ H { s with heap := h', toks := s.toks + 1 } := I.turned (fun b o hb e => (sb.2 b hb).trans e) f0 f1 f3 f4 f5
    obtain ⟨o, e, c, d⟩ := id st'
    exact ⟨_, rfl, go_of (s := { s with heap := h', toks := s.toks + 1 }) e c d (by decide) ⟨.str ⟨#[z.cps[i]]⟩, H, I1, ⟨_, rfl⟩, ⟨rfl, _, by simp [hi], rfl⟩, st', fun b hb => (hf b hb).1⟩⟩
  done := by
    intro X hP hw hK s hc i pins σ H E I hf st hg
    subst hP hw hK
    obtain ⟨f0, f1, f2, f3, f4, f5⟩ := hf it (by simp)
    have hi : z.cps.size ≤ i := hg
    exact wpAny_pyNext_wide_end hc.none st (by simp [hi]) fun h' eb => ⟨rfl, I.turned (t' := s.toks) (fun b o hb e => eb b o hb e) f0 f1 f3 f4 f5⟩
  self := fun _ _ _ _ _ st h => wpAny_pyIter_striter_wide st h
def iStr (tl : TE) : TI := fun σ H R => tl σ H fun x H1 => ∃ z, x = .str z ∧ R (Its z) H1
theorem pi_str {X : Cx} {tg l : Expr} {tl : TE} (hl : PE X l tl) : PI X tg l (iStr tl) := by
  intro pins s σ H R I h
  refine thn (hl pins s σ H _ I h) fun v s1 ⟨x, H1, I1, r1, q1⟩ => ?_
  obtain ⟨z, e, q⟩ := q1
  subst e
  obtain ⟨t, rfl⟩ := r1
  have hf : H1 s1.heap.objs.size = none := I1.hok.fresh (Nat.le_refl _)
  cases ha : z.cps.all (· < 128)
  · refine wpAny_pyIter_wide ha ?_
    exact ⟨s1.heap.objs.size, [s1.heap.objs.size], _, Its z, H1, rfl, I1.kept (t' := s1.toks) fun b u e => Heap.get?_push_of_some _ e, turn_wide z t _, ⟨_, Heap.get?_push_size _ rfl, rfl, rfl⟩, fun b hb => by
      have e : b = s1.heap.objs.size := by simpa using hb
      subst e
      exact I1.fpOk (Nat.le_refl _) hf, q⟩
  · refine wpAny_pyIter_ascii ha ?_
    exact ⟨s1.heap.objs.size, [s1.heap.objs.size], _, Its z, H1, rfl, I1.kept (t' := s1.toks) fun b u e => Heap.get?_push_of_some _ e, turn_ascii z t _, ⟨_, Heap.get?_push_size _ rfl, rfl, rfl⟩, fun b hb => by
      have e : b = s1.heap.objs.size := by simpa using hb
      subst e
      exact I1.fpOk (Nat.le_refl _) hf, q⟩

/-! ### isinstance -/
section
variable {X : Cx}
theorem call_isinst : CallR X (.builtin "isinstance") (fun vs H Q => ∃ x T t b, vs = [x, .ty T] ∧ TyOf X.K H x t ∧ PySem.W.kitOne X.K t (.type T) = some b ∧ Q (.bl b) H) := by
  intro pins s σ H xs us Q I r h
  obtain ⟨x, T, t, b, rfl, ty, e, q⟩ := h
  obtain ⟨u, v, rfl, rx, rv⟩ := r.two
  cases (show v = Value.type T from rv)
  exact isinst_ok I rx ty e fun tk => ⟨.bl b, H, I.tok tk, rfl, q⟩

/-! ### texts -/
theorem strsAre_of {ys : List Str} : ∀ {us : List Value}, Vals (ys.map V.str) us → StrsAre us ys := by
  induction ys with
  | nil => intro us r; rw [List.map_nil] at r; cases r; exact .nil
  | cons y ys ih =>
    intro us r
    rw [List.map_cons] at r
    cases r with
    | cons r1 r2 =>
      obtain ⟨t, e⟩ := r1
      subst e
      exact .cons y t (ih r2)
def rJoin (K : PySem.W.Frag) : V → List V → Hp → VK → Prop := fun x xs H Q => ∃ z p ys, x = .str z ∧ xs = [.ref p] ∧ SqL K H p (ys.map V.str) ∧ (ys.map (·.length)).sum + ys.length * z.length ≤ 16777216 ∧ Q (.str (Txt.join z ys)) H
theorem mt_join : MtR X "str.join" (rJoin X.K) := by
  intro pins s σ H x xs v us Q I rx rs h
  obtain ⟨z, p, ys, rfl, rfl, hq, hz, q⟩ := h
  obtain ⟨t, rfl⟩ := rx
  obtain ⟨u, rfl, ru⟩ := rs.one
  cases ru
  obtain ⟨its, r, pl, _⟩ := I.list hq
  exact join_list pl.isList (strsAre_of (by simpa using r)) hz fun t' k => ⟨.str _, H, I.tok k, ⟨_, rfl⟩, q⟩
/-! ### lists compared, flat items -/
/-! ### sum of a list of ints -/
/-! ### // by any written positive number -/
/-! ### tuples put together: whichever is empty -/
theorem cat_all {prog : Program} {w : World} {A : Around} {E : Value → Shared → Prop} {s : Shared} {t b : Addr} {vs ws : List Value} {Q : Value → Shared → Prop} (ht : IsTup s.heap t vs.toArray) (hb : IsTup s.heap b ws.toArray) (hv : vs = [])
    (h0 : Q (.ref b) s) : wpAny (model prog w) A (binaryOp .Add (.ref t) (.ref b)) Q E s := by
  obtain ⟨⟨cls, dd, data, sl⟩, ho, hc, n, hd⟩ := id ht
  obtain ⟨⟨cls2, dd2, data2, sl2⟩, ho2, hc2, n2, hd2⟩ := id hb
  simp only at hc hd hc2 hd2
  subst hc hd hc2 hd2
  exact concat_meets ⟨_, ho, rfl⟩ ⟨_, ho2, rfl⟩ noFill_tuple_add seq_tuple_add PySem.F.slot_tuple_add PySem.F.entry_tuple_add (PySem.F.args_tuple_add_2 _ _) (tuple_addW0 t b _ _ n n2 dd dd2 sl sl2 (by simp [hv])) ⟨ho, ho2, h0⟩
def rCatA : R2 := fun x y H Q => ∃ a b xs ys, x = .ref a ∧ y = .ref b ∧ H a = some (.tup xs) ∧ H b = some (.tup ys) ∧ xs.length + ys.length ≤ sizeLine ∧ ∀ r H', Same H H' → H' r = some (.tup (xs ++ ys)) → Q (.ref r) H'
theorem op_catA : OpR X (binaryOp .Add) rCatA := by
  intro pins s σ H x y v u Q I rx ry h
  obtain ⟨a, b, xs, ys, rfl, rfl, ha, hb, hz, q⟩ := h
  by_cases hx : xs = []
  · cases rx
    cases ry
    obtain ⟨its, r1, p1, _⟩ := I.tuple (SqT.of ha)
    obtain ⟨its2, r2, p2, _⟩ := I.tuple (SqT.of hb)
    refine cat_all p1 p2 (r1.nil_iff.mpr hx) ⟨.ref b, H, I, rfl, q b H (Same.refl H) ?_⟩
    rw [hx]
    exact hb
  · refine op_catT pins s σ H (.ref a) (.ref b) v u Q I rx ry ⟨a, b, xs, ys, rfl, rfl, SqT.of ha, SqT.of hb, hx, hz, fun e => q a H (Same.refl H) ?_, fun _ p hp => q p _ (fun c o e => by rw [upd_ne (ne_of_none e hp)]; exact e) upd_same⟩
    rw [e, List.append_nil]
    exact ha
end
end L2
namespace L2
open PySem PySem.Spec PyProof.Rows
/-! ### comprehensions whose target is any: a tuple of names -/
def CompWT (Gs : Hp → Prop) (g : TG) (k : Nat) (J : It) (p : Addr) (tt : TT) (te : TE) (cs : St) (Q : VK) (H1 : Hp) : Prop := ∃ W : Nat → Nat → List V → Hp → Prop, (∃ m, W 0 m [] (upd H1 p (.lst []))) ∧ ∀ i m ys H2, W i m ys H2 →
  (J.stop i H2 ∧ Gs H2 ∧ Q (.ref p) H2) ∨ (J.go i H2 ∧ Gs H2 ∧ ∃ N : List V → Hp → Prop, (∀ ys' H', N ys' H' → ∃ m', m' < m ∧ W (i + 1) m' ys' H') ∧
    ∀ v H3, J.yld i H2 v H3 → ∀ vs0 : St, vs0.length = k → g v (vs0 ++ cs) H3 fun σ' H' => (∃ vs' : St, σ' = vs' ++ cs ∧ vs'.length = k) ∧ tt σ' H' fun b H4 => if b = true then te σ' H4 fun y H5 => H5 p = some (.lst ys) ∧ ys.length < sizeLine ∧ N (ys ++ [y]) (upd H5 p (.lst (ys ++ [y]))) else N ys H4)
theorem comp_goT {X : Cx} {use : Option (Value → Sem Unit)} {Post : Value → Shared → Prop} {pins : List (Addr × Obj)} {s : Shared} {σ : St} {H : Hp} {Q : VK} {Gs : Hp → Prop} {hb : Bool} {CW : It → Addr → St → VK → Hp → Prop} {elt iter : Expr} {ifs : List Expr} {tg : Expr} {xs : List Str} {g : TG} {pos : Pos} {sc : Scope} {wi : TI} {tt : TT} {te : TE} (caps : List Nat) (capsN : List Str)
    (hi : PI X tg iter wi hb)
    (hg : ∀ cl C s H ex pn, PG (cxComp X (xs ++ capsN) sc cl C s H ex pn) tg g)
    (ht : ∀ cl C s H ex pn, PTs (cxComp X (xs ++ capsN) sc cl C s H ex pn) ifs tt)
    (he : ∀ cl C s H ex pn, PE (cxComp X (xs ++ capsN) sc cl C s H ex pn) elt te)
    (hkind : sc.kind = .function) (hcell : ∀ y ∈ sc.names, y.2 ≠ .cell) (hnames : ∀ y ∈ sc.names, y.2 = .local → sc.names.lookup y.1 = some .local)
    (hfr : ∀ y ∈ sc.names, y.2 = .free → y.1 ∈ capsN)
    (hcap : ∀ (j : Nat) (y : Str), capsN[j]? = some y → ∃ i : Nat, caps[j]? = some i ∧ X.N[i]? = some y ∧ sc.names.lookup y = some .free ∧ (X.env.kindOf y = some .cell ∨ X.env.kindOf y = some .free)) (hlen : caps.length = capsN.length)
    (hc : X.calm = true ∨ (hb = true ∧ ∀ s H, HOk X.prog X.w H s.heap → Gs H → HandQ X s)) (kW : ∀ J p cs Q H1, CW J p cs Q H1 → CompWT Gs g xs.length J p tt te cs Q H1)
    (hs : ∀ x, foldedSetIterable iter X.env x = pure x) (I : Inv X pins σ H s) (h : tCompC CW wi caps σ H Q)
    (fin : ∀ (C p : Addr) (H5 : Hp) (s5 : Shared), (∃ m, s5.heap.Ns C m) → Inv X pins σ H5 s5 → FpOk X pins H5 C → Q (.ref p) H5 → compPost (model X.prog X.w) X.A X.xe use Post (.ref p) C (.ok .next) s5) :
    wpAny (model X.prog X.w) X.A (comprehension (.ListComp elt [⟨tg, iter, ifs, 0⟩] sc pos) sc X.env (firstIterPos [⟨tg, iter, ifs, 0⟩] pos) (newList []) (firstAsync [⟨tg, iter, ifs, 0⟩]) (firstIter [⟨tg, iter, ifs, 0⟩] X.env) use) Post X.xe s := by
  have hEnd : ∀ s H, HOk X.prog X.w H s.heap → Gs H → EndQ hb X s := by
    rcases hc with hc | ⟨e, k⟩
    · exact fun _ _ _ _ => .inl (I.ok.hd hc)
    · exact fun s H o g => .inr ⟨e, k s H o g⟩
  obtain ⟨cl, hclos, hq2, hq3⟩ := closure_ok (env := X.env) (sc := sc) (fun y hy hf => by
    obtain ⟨j, hj⟩ := List.mem_iff_getElem?.mp (hfr y hy hf)
    obtain ⟨_, _, _, _, k⟩ := hcap j y.1 hj
    exact I.ok.has y.1 k)
  refine wpAny_comprehension_free (use := use) rfl hs hclos hkind hnames (thn (hi pins s σ H _ I h) fun v s1 h1 => thn h1 fun itv s2 h2 => ?_)
  obtain ⟨it, fp, tn, J, H2, e, I2, T, st2, f2, q⟩ := h2
  subst e
  refine wpAny_newObj_type (wpAny_newFunctionEnv hcell (by intro y hy; simp at hy) (fun h1 hns hsb => ?_) hkind)
  dsimp only at hns hsb ⊢
  obtain ⟨W, ⟨m0, w0⟩, turn⟩ := kW _ _ _ _ _ (q s2.heap.objs.size (I2.hok.fresh (Nat.le_refl _)))
  have I3 : Inv X pins σ (upd H2 s2.heap.objs.size (.lst [])) { s2 with heap := s2.heap.push { cls := .type "list", dict := none, data := .seq ([] : List Value).toArray }, toks := s2.toks } := I2.lnew (its := []) (ys := []) (t' := s2.toks) .nil (Nat.zero_le _)
  generalize hH3 : s2.heap.push { cls := .type "list", dict := none, data := .seq ([] : List Value).toArray } = g3 at hns hsb I3 ⊢
  have hsz3 : g3.objs.size = s2.heap.objs.size + 1 := by rw [← hH3, Heap.size_push]
  generalize hHp : upd H2 s2.heap.objs.size (.lst []) = Hp3 at w0 I3
  have hlt : ∀ b o, g3.get? b = some o → b ≠ g3.objs.size := fun b o e => Nat.ne_of_lt (Heap.lt_size e)
  have old : ∀ b o, g3.get? b = some o → h1.get? b = some o := fun b o e => hsb.extBut b o (hlt b o e) (Heap.get?_push_of_some _ e)
  have fpo : ∀ b ∈ fp, ∃ o, g3.get? b = some o := fun b hb => by
    obtain ⟨o, e, _⟩ := T.obj 0 s2.heap st2 b hb
    exact ⟨o, by rw [← hH3]; exact Heap.get?_push_of_some _ e⟩
  have fpC : ∀ b ∈ fp, b ≠ g3.objs.size := fun b hb => by obtain ⟨o, e⟩ := fpo b hb; exact hlt b o e
  have fpH : ∀ b ∈ fp, Hp3 b = none := fun b hb => by
    obtain ⟨o, e, _⟩ := T.obj 0 s2.heap st2 b hb
    rw [← hHp, upd_ne (Nat.ne_of_lt (Heap.lt_size e))]
    exact (f2 b hb).1
  have fsSub : ∀ b, b ≠ X.env.locals → b ∉ X.fs → b ∉ frs X.stack := fun b h1 h2 z => by
    rcases List.mem_cons.mp (I2.stkSub b z) with z | z
    · exact h1 z
    · exact h2 z
  -- the block's context
  have okc : (cxComp X (xs ++ capsN) sc cl g3.objs.size { s2 with heap := g3, toks := s2.toks } Hp3 fp (X.pn ++ pins)).Ok := by
    refine ⟨I3.ok.mod, hkind, I3.ok.glob, I3.ok.blt, Nat.le_refl _, fun y z c e1 e2 => I3.ok.inj y z c (hq2 y c e1) (hq2 z c e2), fun y hy => ?_, fun y c z => absurd z Bool.false_ne_true, I3.ok.hd, I3.ok.frames, .inl rfl, fun b hb => ⟨fpC b hb, fun y c e => (f2 b hb).2.2.2.2.1 y c (hq2 y c e)⟩,
      I3.bs, Nat.le_trans I3.ok.bsz I3.sz, fun b o e hb => ?_, fun b hb => fsSub b (f2 b hb).2.1 (f2 b hb).2.2.1, I3.stack, I3.stkFree⟩
    · have hy' : ∃ k, (relabel sc X.env).names.lookup y = some k ∧ (k = .cell ∨ k = .free) := by
        rcases hy with hy | hy
        · exact ⟨_, hy, .inl rfl⟩
        · exact ⟨_, hy, .inr rfl⟩
      obtain ⟨k, e, hk⟩ := hy'
      obtain ⟨k0, e0, hk0⟩ := relabel_look e
      have em := PySem.mem_of_lookup e0
      rcases hk0 with rfl | ⟨rfl, _⟩
      · rcases hk with rfl | rfl
        · exact absurd rfl (hcell _ em)
        · exact hq3 _ em rfl
      · exact hq3 _ em rfl
    · rcases (f2 b hb).2.2.2.1 with z | z
      · exact I3.ok.noex b o e z
      · have h1 : b < X.base.objs.size := Heap.lt_size e
        have h2 := I3.ok.bsz
        exact absurd (Nat.lt_of_lt_of_le h1 (Nat.le_trans h2 z)) (Nat.lt_irrefl _)
  have Ic : Inv (cxComp X (xs ++ capsN) sc cl g3.objs.size { s2 with heap := g3, toks := s2.toks } Hp3 fp (X.pn ++ pins)) [] (List.replicate xs.length none ++ capV σ caps) Hp3 { s2 with heap := h1, toks := s2.toks + ([] : List (Str × Value)).length } := by
    refine ⟨okc, rfl, I3.bare, Un.kept old, ⟨_, hns, fun i y v e1 e2 e3 => ?_⟩, fun y c e => ?_, I3.hok.fresh (Nat.le_refl _), fun y c e => I3.freeC y c (hq2 y c e), fun p hp => ?_, I3.hok.kept old, ?_⟩
    · by_cases hlt0 : i < xs.length
      · have e2 : (List.replicate xs.length (none : Option V) ++ capV σ caps)[i]? = some (some v) := e2
        rw [List.getElem?_append_left (by rw [List.length_replicate]; exact hlt0), List.getElem?_replicate, if_pos hlt0] at e2
        cases e2
      · have e1 : (xs ++ capsN)[i]? = some y := e1
        have e2 : (List.replicate xs.length (none : Option V) ++ capV σ caps)[i]? = some (some v) := e2
        rw [List.getElem?_append_right (Nat.le_of_not_lt hlt0)] at e1
        rw [List.getElem?_append_right (by rw [List.length_replicate]; exact Nat.le_of_not_lt hlt0), List.length_replicate] at e2
        generalize i - xs.length = j at e1 e2
        have e1' : capsN[j]? = some y := e1
        obtain ⟨i, c1, c2, c3, c4⟩ := hcap j y e1'
        have e2' : (capV σ caps)[j]? = some (some v) := e2
        have hv : σ[i]? = some (some v) := by
          unfold capV at e2'
          rw [List.getElem?_map, c1] at e2'
          have e4 : (σ[i]?).getD none = some v := Option.some.inj e2'
          cases e5 : σ[i]? with
          | none => rw [e5] at e4; cases e4
          | some w => rw [e5] at e4; exact congrArg some e4
        obtain ⟨m, _, hl⟩ := I3.loc
        have vis : Vis X.env.scope y := by
          rcases c4 with z | z
          · exact .inr (.inl z)
          · exact .inr (.inr z)
        obtain ⟨u, r, l⟩ := hl i y v c2 hv vis
        refine ⟨u, r, .inr ⟨relabel_free c3, ?_⟩⟩
        rcases l with ⟨lk, _⟩ | ⟨_, c, ec, o, ho, hd⟩
        · rcases c4 with z | z <;> (rw [lk] at z; cases z)
        · obtain ⟨c', e'⟩ := hq3 _ (PySem.mem_of_lookup c3) rfl
          have e'' := hq2 _ _ e'
          have e3' : (some c' : Option Addr) = some c := e''.symm.trans ec
          cases e3'
          exact ⟨c, e', o, old _ _ ho, hd⟩
    · obtain ⟨v, o, ho, hd⟩ := I3.cell y c (hq2 y c e)
      exact ⟨v, o, old _ _ ho, hd⟩
    · have hp' : p ∈ X.pn ++ pins := by simpa using hp
      obtain ⟨e1, e2, e3, e4, e5⟩ := I3.pin p hp'
      exact ⟨old _ _ e1, e2, hlt _ _ e1, fsSub _ e3 e4, e5⟩
    · show (List.replicate xs.length (none : Option V) ++ capV σ caps).length = (xs ++ capsN).length
      unfold capV
      rw [List.length_append, List.length_append, List.length_replicate, List.length_map, hlen]
  have stat : ∀ {H' : Hp}, (∀ b ∈ fp, H' b = none) → ∀ b ∈ fp, FpOk (cxComp X (xs ++ capsN) sc cl g3.objs.size { s2 with heap := g3, toks := s2.toks } Hp3 fp (X.pn ++ pins)) [] H' b := fun hn b hb =>
    ⟨hn b hb, fpC b hb, fsSub b (f2 b hb).2.1 (f2 b hb).2.2.1, .inl hb, fun y c e => (f2 b hb).2.2.2.2.1 y c (hq2 y c e), fun p hp => (f2 b hb).2.2.2.2.2 p (by simpa using hp)⟩
  -- behind the block
  have back : ∀ {pins5 : List (Addr × Obj)} {σ5 : St} {H5 : Hp} {s5 : Shared} {h' : Heap}, Inv (cxComp X (xs ++ capsN) sc cl g3.objs.size { s2 with heap := g3, toks := s2.toks } Hp3 fp (X.pn ++ pins)) pins5 σ5 H5 s5 → Heap.SameBut g3.objs.size s5.heap h' → Inv X pins σ H5 { s5 with heap := h' } := by
    intro pins5 σ5 H5 s5 h' I5 sb
    have un : Un (frs X.stack) fp Hp3 H5 g3 s5.heap := I5.base
    have fr : H5 g3.objs.size = none := I5.free
    have un' : Un (frs X.stack) fp Hp3 H5 g3 h' := ⟨fun b o e n hb hx => (sb.2 b (hlt b o e)).trans (un.keep b o e n hb hx),
      fun b o e n hb hx => by obtain ⟨sl, z⟩ := un.slot b o e n hb hx; exact ⟨sl, (sb.2 b (hlt b o e)).trans z⟩, un.free,
      fun b o e hx => by obtain ⟨o', z⟩ := un.there b o e hx; exact ⟨o', (sb.2 b (hlt b o e)).trans z⟩, un.tups, un.frzs, un.tbls⟩
    have hok : HOk X.prog X.w H5 h' := fun b u e => (I5.hok b u e).stay (fun c v hc' z => (sb.2 c (by
      rintro rfl
      rcases hc' with hc' | hc'
      · rw [hc', e] at fr; cases fr
      · rw [fr] at hc'; cases hc')).trans z) (fun _ z => z) (fun _ _ z => z)
    obtain ⟨hh, g, d, t, os⟩ := s5
    have eo : os = s2.os := I5.os
    subst eo
    have z := I3.call (h' := h') (g' := g) (d' := d) (t' := t) (ch := fp) un' hok I5.bare fun b hb => ⟨(f2 b hb).2.2.2.1, (f2 b hb).2.1, (f2 b hb).2.2.2.2.1, (f2 b hb).2.2.2.2.2⟩
    exact z
  have st4 : tn 0 h1 := T.keep 0 s2.heap h1 st2 fun b hb o e => old b o (by rw [← hH3]; exact Heap.get?_push_of_some _ e)
  have loop : codeAny (model X.prog X.w) X.A (.compLoop (.ListComp elt [⟨tg, iter, ifs, 0⟩] sc pos) 0 (.ref it) (.ref s2.heap.objs.size) (compEnvC sc cl g3.objs.size X.env))
      (compPost (model X.prog X.w) X.A X.xe use Post (.ref s2.heap.objs.size) g3.objs.size) { s2 with heap := h1, toks := s2.toks + ([] : List (Str × Value)).length } := by
    refine comp_loop (fun n s' => ∃ i ys v0 H', v0.length = xs.length ∧ Inv (cxComp X (xs ++ capsN) sc cl g3.objs.size { s2 with heap := g3, toks := s2.toks } Hp3 fp (X.pn ++ pins)) [] (v0 ++ capV σ caps) H' s' ∧ tn i s'.heap ∧ (∀ b ∈ fp, H' b = none) ∧ W i n ys H') ?_ m0 ⟨0, [], List.replicate xs.length none, Hp3, List.length_replicate, Ic, st4, fpH, w0⟩
    rintro n s' ⟨i, ys, v0, H', hv0, I', st', fr', w'⟩
    rcases turn i n ys H' w' with ⟨stop, gs, qn⟩ | ⟨go, gs, N, hN, step⟩
    · refine thn (T.done (cxComp X (xs ++ capsN) sc cl g3.objs.size { s2 with heap := g3, toks := s2.toks } Hp3 fp (X.pn ++ pins)) rfl rfl rfl s' (hEnd s' H' I'.hok gs) i [] _ H' NoX I' (stat fr') st' stop) fun r s5 ⟨hr, I5⟩ => ?_
      subst hr
      obtain ⟨m, hn, _⟩ := id I5.loc
      exact fin g3.objs.size s2.heap.objs.size H' s5 ⟨m, hn⟩ (back (h' := s5.heap) I5 ⟨rfl, fun _ _ => rfl⟩) (I3.fpOk (Nat.le_refl _) I5.free) qn
    · refine thn (T.item (cxComp X (xs ++ capsN) sc cl g3.objs.size { s2 with heap := g3, toks := s2.toks } Hp3 fp (X.pn ++ pins)) rfl rfl rfl s' (hEnd s' H' I'.hok gs) i [] _ H' NoX I' (stat fr') st' go) fun r s5 ⟨u, hr, h5⟩ => ?_
      subst hr
      refine thn h5 fun _ s6 ⟨v, H6, I6, r6, y6, st6, fr6⟩ => ?_
      have I6' := I6.pinned (stat fr6) (T.obj _ _ st6)
      have again : ∀ {σ7 v7 : St} {H7 : Hp} {s7 : Shared} {ys' : List V}, σ7 = v7 ++ capV σ caps → v7.length = xs.length → Inv (cxComp X (xs ++ capsN) sc cl g3.objs.size { s2 with heap := g3, toks := s2.toks } Hp3 fp (X.pn ++ pins)) ([] ++ pinsAt fp s6.heap) σ7 H7 s7 → N ys' H7 →
          ∃ m, m < n ∧ ∃ i ys v0 H', v0.length = xs.length ∧ Inv (cxComp X (xs ++ capsN) sc cl g3.objs.size { s2 with heap := g3, toks := s2.toks } Hp3 fp (X.pn ++ pins)) [] (v0 ++ capV σ caps) H' s7 ∧ tn i s7.heap ∧ (∀ b ∈ fp, H' b = none) ∧ W i m ys H' := by
        intro σ7 v7 H7 s7 ys' eσ hv7 I7 n7
        subst eσ
        obtain ⟨m', hm, w7⟩ := hN ys' H7 n7
        refine ⟨m', hm, i + 1, ys', v7, H7, hv7, I7.unpinned, T.keep _ _ _ st6 fun b hb o e => (I7.pin (b, o) (List.mem_append_right _ (List.mem_append_right _ (mem_pinsAt hb e)))).1, fun b hb => ?_, w7⟩
        obtain ⟨o, e, d⟩ := T.obj _ _ st6 b hb
        exact (I7.pin (b, o) (List.mem_append_right _ (List.mem_append_right _ (mem_pinsAt hb e)))).2.1
      refine thn (hg _ _ _ _ _ _ _ s6 _ H6 v u _ I6' r6 (step v H6 y6 v0 hv0)) fun _ s7 ⟨σ7, H7, I7, ⟨v7, e7, hv7⟩, q7⟩ => ?_
      refine thn (ht _ _ _ _ _ _ _ s7 _ H7 _ I7 q7) fun ok s8 ⟨H8, I8, q8⟩ => ?_
      cases ok with
      | false => exact again e7 hv7 I8 q8
      | true =>
        refine thn (he _ _ _ _ _ _ _ s8 _ H8 _ I8 q8) fun y s9 ⟨yv, H9, I9, r9, hp9, hz9, n9⟩ => ?_
        refine thn (mt_append (X := cxComp X (xs ++ capsN) sc cl g3.objs.size { s2 with heap := g3, toks := s2.toks } Hp3 fp (X.pn ++ pins)) _ s9 _ H9 (.ref s2.heap.objs.size) [yv] (.ref s2.heap.objs.size) [y] (fun _ H' => H' = upd H9 s2.heap.objs.size (.lst (ys ++ [yv]))) I9 rfl (.cons r9 .nil)
          ⟨s2.heap.objs.size, ys, yv, rfl, rfl, hp9, hz9, rfl⟩) fun _ s10 ⟨_, H10, I10, _, e10⟩ => ?_
        subst e10
        exact again e7 hv7 I10 n9
  exact codeAny_compStart_list loop (T.self X.A 0 _ _ _ st4 loop)

theorem pe_compT {X : Cx} {Gs : Hp → Prop} {hb : Bool} {CW : It → Addr → St → VK → Hp → Prop} {elt iter : Expr} {ifs : List Expr} {tg : Expr} {xs : List Str} {g : TG} {pos : Pos} {sc : Scope} {wi : TI} {tt : TT} {te : TE} (caps : List Nat) (capsN : List Str)
    (hi : PI X tg iter wi hb)
    (hg : ∀ cl C s H ex pn, PG (cxComp X (xs ++ capsN) sc cl C s H ex pn) tg g)
    (ht : ∀ cl C s H ex pn, PTs (cxComp X (xs ++ capsN) sc cl C s H ex pn) ifs tt)
    (he : ∀ cl C s H ex pn, PE (cxComp X (xs ++ capsN) sc cl C s H ex pn) elt te)
    (hkind : sc.kind = .function) (hcell : ∀ y ∈ sc.names, y.2 ≠ .cell) (hnames : ∀ y ∈ sc.names, y.2 = .local → sc.names.lookup y.1 = some .local)
    (hfr : ∀ y ∈ sc.names, y.2 = .free → y.1 ∈ capsN)
    (hcap : ∀ (j : Nat) (y : Str), capsN[j]? = some y → ∃ i : Nat, caps[j]? = some i ∧ X.N[i]? = some y ∧ sc.names.lookup y = some .free ∧ (X.env.kindOf y = some .cell ∨ X.env.kindOf y = some .free)) (hlen : caps.length = capsN.length)
    (hc : X.calm = true ∨ (hb = true ∧ ∀ s H, HOk X.prog X.w H s.heap → Gs H → HandQ X s)) (kW : ∀ J p cs Q H1, CW J p cs Q H1 → CompWT Gs g xs.length J p tt te cs Q H1)
    (hs : ∀ x, foldedSetIterable iter X.env x = pure x := by intro _; rfl) :
    PE X (.ListComp elt [⟨tg, iter, ifs, 0⟩] sc pos) (tCompC CW wi caps) := by
  intro pins s σ H Q I h
  rw [eval_ListComp]
  exact comp_goT (use := none) caps capsN hi hg ht he hkind hcell hnames hfr hcap hlen hc kW hs I h fun C p H5 s5 ⟨m, hn⟩ I5 f q => ⟨m, hn, fun h' sb => ⟨.ref p, H5, I5.turned (t' := s5.toks) (fun b o hb e => (sb.2 b hb).trans e) f.1 f.2.1 f.2.2.2.1 f.2.2.2.2.1 f.2.2.2.2.2, rfl, q⟩⟩
end L2
namespace L2
open PySem PySem.Spec PyProof.Rows

/-! ### an exception of an own class: its object, its traceback -/
section
variable {M : Model} {A : Around} {E : Value → Shared → Prop} {s : Shared}
end
end L2
namespace L2
open PySem PySem.Spec PyProof.Rows PySem.W PySem.Builtin PySem.Builtin.ObjectAttr

/-! ### a field of an exception of an own class is stored, read -/
section
variable {prog : Program} {w : World} {A : Around} {E : Value → Shared → Prop} {s : Shared} {K : Frag} {x C : Addr} {ox : Obj} {od : Option Obj} {R : Result → Shared → Prop}
end
end L2
namespace L2
open PySem PySem.Spec PyProof.Rows PySem.W

/-! ### an exception of an own class with an own __init__ is made -/
section
variable {prog : Program} {w : World} {A : Around} {E : Value → Shared → Prop} {h : Heap} {g : Array GenState} {d : Drawn} {t : Nat} {os : OsState} {nm q : Str} {C N fI : Addr} {bs bm bmB rest : List Value} {hdct : Bool} {sn : List Str} {sub : List Value}
  {ab : Bool} {col : Option Bool} {dd : Option Addr} {k0 k1 k2 k3 k5 : Option Value} {B newId initId : String}
end
end L2
namespace L2
open PySem PySem.Spec PyProof.Rows PySem.W
section
variable {M : Model} {A : Around} {E : Value → Shared → Prop} {h : Heap} {g : Array GenState} {d : Drawn} {t : Nat} {os : OsState} {nm q : Str} {C N : Addr} {bs bm : List Value} {hdct : Bool} {sn : List Str} {sub : List Value}
  {ab : Bool} {col : Option Bool} {dd : Option Addr} {k0 k1 k2 k3 k5 : Option Value} {newId : String} {env : Env}
variable {nm2 q2 : Str} {D N2 : Addr} {bs2 bm2 : List Value} {hdct2 : Bool} {sn2 : List Str} {sub2 : List Value} {ab2 : Bool} {col2 : Option Bool} {dd2 : Option Addr} {j0 j1 j2 j3 j5 : Option Value} {newId2 : String}
end
end L2
namespace L2
open PySem PySem.Spec PyProof.Rows PySem.W

/-! ### exceptions in the abstract heap -/
section
variable {P : Program} {w : World} {H : Hp} {h : Heap} {e C dx : Addr} {dd : Option Addr} {tb : Value} {fs : List (Str × V)}
end
section
variable {X : Cx} {pins : List (Addr × Obj)} {σ : St} {H : Hp} {s : Shared} {h' : Heap} {ea C T : Addr} {dd : Option Addr} {tb : Value}
end

/-! ### how an exception lies behind a call; within a body -/
section
variable {X : Cx} {pins : List (Addr × Obj)} {σ : St} {H : Hp} {s s' : Shared} {E : XK} {e : Value}
end
end L2
namespace L2
open PySem PySem.Spec PyProof.Rows PySem.W

/-! ### an own class of exceptions, by the text -/
section
variable {X : Cx} {CX : CXT} {k : Nat} {f C : Addr} {bm : List Value} {fd : FuncData} {ps : List Str} {sp : Sp} {dvs : List V} {ds : List Value} {E : XK} {x m : Str} {p pos apos : Pos} {e o : Expr} {es : List Expr} {ta : TE} {t : TA}
end

/-! ### its fields -/
section
variable {X : Cx} {pins : List (Addr × Obj)} {σ : St} {H : Hp} {s : Shared} {a C dx : Addr} {fs : List (Str × V)} {f : Str} {A : Around} {E : Value → Shared → Prop}
end
section
variable {X : Cx} {o e value : Expr} {f : Str} {pos pos' tpos : Pos} {ta tv : TE}
end
/-! ### an own exception class without an __init__ of its own -/
section
variable {X : Cx} {C : Addr} {bm : List Value} {x : Str} {p pos : Pos}
end
end L2
namespace L2
open PySem PySem.Spec PyProof.Rows PySem.W

/-! ### code whose exceptions are caught in the same body -/
section
variable {X : Cx} {k : Nat} {f C : Addr} {fd : FuncData} {ps : List Str} {sp : Sp} {dvs : List V} {ds : List Value} {E : XK} {x m : Str} {p pos apos : Pos} {e o : Expr} {es : List Expr} {ta : TE} {t : TA}
end

/-! ### try: .. except D as n: .. -/
section
variable {X : Cx} {pins : List (Addr × Obj)} {σ : St} {H : Hp} {s : Shared} {ea : Addr}
end
section
variable {X : Cx} {body suite : List Stmt} {b₀ : Stmt} {tb : TB} {ts : Addr → TS} {wn n : Str} {D : Addr} {bmD : List Value} {i : Nat} {np hpos pos : Pos}
end
end L2
namespace L2
open PySem PySem.Spec PyProof.Rows
section
variable {X : Cx}
/-- all(xs) of a list of truths -/
theorem bools_items : ∀ {bs : List Bool} {us : List Value}, Vals (bs.map V.bl) us → us = bs.map Value.bool
  | [], us, r => by
    rw [List.map_nil] at r
    cases r
    rfl
  | b :: bs, us, r => by
    rw [List.map_cons] at r
    cases r with
    | cons r1 r2 =>
      cases (show _ = Value.bool b from r1)
      rw [bools_items r2, List.map_cons]
theorem call_all (hh : X.A.handled = none) : CallR X (.builtin "all") (fun vs H Q => ∃ (p : Addr) (bs : List Bool), vs = [.ref p] ∧ SqL X.K H p (bs.map V.bl) ∧ Q (.bl (bs.all id)) H) := by
  intro pins s σ H xs us Q I r h
  obtain ⟨p, bs, rfl, hq, q⟩ := h
  obtain ⟨u, rfl, ru⟩ := r.one
  cases ru
  obtain ⟨its, r1, p1, _⟩ := I.list hq
  cases bools_items r1
  have hl : s.heap.IsList p (bs.map Value.bool).toArray := p1.isList
  have hlt : p < s.heap.objs.size := by obtain ⟨_, e, _⟩ := hl; exact Heap.lt_size e
  refine call_all_walk (wpAny_pyIter_list hl ?_)
  refine ⟨_, _, _, _, _, _, fun i => bs.getD i true, rfl, Walks.list (A := X.A.in1) hh _ p (Nat.ne_of_lt hlt) (bs.map Value.bool).toArray, ⟨⟨_, Heap.get?_push_size _ rfl, rfl, rfl⟩, hl.push _⟩, ?_, fun h' tk hk => ?_⟩
  · intro i v s' Q' E' hi hq'
    have hi' : (bs.map Value.bool)[i]? = some v := by simpa using hi
    rw [List.getElem?_map] at hi'
    cases e : bs[i]? with
    | none => rw [e] at hi'; cases hi'
    | some b =>
      rw [e] at hi'
      cases hi'
      have eb : bs.getD i true = b := by simp [List.getD, e]
      have hq2 : Q' b s' := by rw [← eb]; exact hq'
      exact wpAny_truthy_bool hq2
  · have ea : (List.range (bs.map Value.bool).toArray.size).all (fun i => bs.getD i true) = bs.all id := by
      have : (List.range bs.length).map (fun i => bs.getD i true) = bs := by
        apply List.ext_getElem
        · simp
        · intro n h1 h2
          simp [List.getD, List.getElem?_eq_getElem h2]
      calc _ = ((List.range bs.length).map (fun i => bs.getD i true)).all id := by rw [List.all_map]; simp
        _ = bs.all id := by rw [this]
    rw [ea]
    exact ⟨.bl _, H, I.kept (h' := h') (t' := tk) (fun b o e => hk b o (by simp; exact Nat.ne_of_lt (Heap.lt_size e)) (Heap.get?_push_of_some _ e)), rfl, q⟩
end
end L2
/-! ### general words over the layer -/
namespace L2
open PySem PySem.Spec PyProof.Rows
section
variable {P : Program} {w : World} {K : PySem.W.Frag} {mg : Str → Option Value} {base : Heap}
theorem same_new {H : Hp} {p : Addr} (h : H p = none) (o : HO) : Same H (upd H p o) := fun b u q => by rw [upd_ne (ne_of_none q h)]; exact q
theorem same_over {H H' : Hp} {p : Addr} (s : Same H H') (h : H p = none) (o : HO) : Same H (upd H' p o) := fun b u q => by rw [upd_ne (ne_of_none q h)]; exact s b u q
theorem small {n : Nat} (h : n ≤ 100000) : n < sizeLine := Nat.lt_of_le_of_lt h (by decide)
theorem take_snoc {α β : Type} (f : α → β) {l : List α} {i : Nat} {c : α} (h : l[i]? = some c) : (l.take (i + 1)).map f = (l.take i).map f ++ [f c] := by
  rw [List.take_add_one, h, List.map_append]
  rfl
theorem codes_at {x : Str} {i c : Nat} (h : x.cps[i]? = some c) : x.cps.toList[i]? = some c := by simpa using h
theorem codes_len (x : Str) : x.cps.toList.length = x.length := by simp [Str.length]
structure Has (K : PySem.W.Frag) (mg : Str → Option Value) (x : Str) (st : Stmt) (ps : List Str) (f : Addr) (fd : FuncData) : Prop where
  fn : Fun K x x st f fd
  bd : Binds K fd ps []
  nm : mg x = some (.ref f)
end
end L2
namespace L2
open PySem PyProof.Rows
/-! ### classes of exceptions by the text -/
end L2
namespace L2
open PySem PySem.Spec PyProof.Rows
/-! ### lists of pairs as tables -/
section
variable {κ : Type} [DecidableEq κ]
end


/-! ### a tracked dict, its keys ints and texts or tuples of these -/
section
variable {P : Program} {w : World} {H : Hp} {h : Heap} {a : Addr}
end

section
variable {X : Cx} {pins : List (Addr × Obj)} {σ : St} {H : Hp} {s : Shared} {a : Addr} {y v : V} {u r : Value} {o : Option V} {A : Around} {E : Value → Shared → Prop}

theorem Inv.big (I : Inv X pins σ H s) : sysModules < s.heap.objs.size := by
  have h : mainGlobals < s.heap.objs.size := (I.mod.glob.keeps I.bk).lt
  exact Nat.lt_trans (by decide) h

end

section
variable {X : Cx} {pins : List (Addr × Obj)} {σ : St} {H : Hp} {s : Shared} {a : Addr} {kvs : List (Key × V)} {k : Key} {u : Value} {A : Around} {E : Value → Shared → Prop}
end


/-! ### readings and rules -/
section
variable {X : Cx} {o i e value : Expr} {pos pos' tpos : Pos} {td ty tv : TE}
end


/-! ### displays -/
theorem dk_empty {P : Program} {w : World} {H : Hp} (h : Heap) (hb : sysModules < h.objs.size) : ObjOk P w H (h.push { cls := .type "dict", data := .dict #[] }) h.objs.size (.dK []) :=
  ⟨Nat.zero_le _, beq_eq_false_iff_ne.mpr (Ne.symm (Nat.ne_of_lt hb)), [], .nil, Heap.DictOf.new h⟩
/-- {}, to be a dict of the kind that is wanted -/
def tDNewK : TE := fun _ H Q => ∀ p, H p = none → Q (.ref p) (upd H p (.dK []))
section
variable {X : Cx} {pos : Pos}
theorem pe_dnewK : PE X (.Dict [] [] pos) tDNewK := fun pins s σ H Q I h =>
  wpAny_Dict_empty ⟨.ref s.heap.objs.size, _, I.laid (a := s.heap.objs.size) (o := .dK []) (t' := s.toks) (fun _ _ q => Heap.get?_push_of_some _ q) (Nat.le_refl _) (dk_empty s.heap I.big), rfl, h _ (I.hok.fresh (Nat.le_refl _))⟩
end

/-! ### methods -/
section
variable {X : Cx} {pins : List (Addr × Obj)} {σ : St} {H : Hp} {s : Shared} {a : Addr} {y d : V} {u r : Value} {o : Option V} {A : Around} {E : Value → Shared → Prop}
end

section
variable {X : Cx} {o e f : Expr} {apos cpos : Pos} {td ty tx : TE}
end

/-! ### dict(d): a copy -/
section
variable {X : Cx} {pins : List (Addr × Obj)} {σ : St} {H : Hp} {s : Shared} {a : Addr} {kvs : List (Key × V)} {A : Around} {E : Value → Shared → Prop}
end


section
variable {X : Cx} {pins : List (Addr × Obj)} {σ : St} {H : Hp} {s : Shared} {a : Addr} {y : V} {u : Value} {A : Around} {E : Value → Shared → Prop}
end
section
variable {X : Cx}
end
/-! ### a dict's pairs: keys that differ -/
section
variable {κ : Type} [DecidableEq κ]
end
end L2
namespace L2
open PySem PySem.Spec PyProof.Rows
/-! ### lists and tuples within one another that are equal -/
mutual
/-- equal things, n deep -/
def Eqv (K : PySem.W.Frag) (H : Hp) : Nat → V → V → Prop
  | 0, x, y => (flatV x = true ∧ flatV y = true ∧ eqV x y = true) ∨ ∃ a, x = .ref a ∧ y = .ref a
  | n + 1, x, y => (flatV x = true ∧ flatV y = true ∧ eqV x y = true) ∨ (∃ a, x = .ref a ∧ y = .ref a) ∨ EqvS K H n x y
/-- two tuples or two lists, item by item -/
def EqvS (K : PySem.W.Frag) (H : Hp) : Nat → V → V → Prop
  | n, x, y => ∃ a b xs ys, x = .ref a ∧ y = .ref b ∧ ((SqT K H a xs ∧ SqT K H b ys) ∨ (SqL K H a xs ∧ SqL K H b ys)) ∧ xs.length = ys.length ∧ ∀ (i : Nat) u v, xs[i]? = some u → ys[i]? = some v → Eqv K H n u v
end
section
variable {X : Cx} {pins : List (Addr × Obj)} {σ : St} {H : Hp} {s : Shared}
end
end L2
namespace L2
open PySem PySem.Spec PyProof.Rows
/-! ### what is a list or a tuple -/
def sqO (tu : Bool) (xs : List V) : HO := match tu with
  | false => .lst xs
  | true => .tup xs
def Sq (K : PySem.W.Frag) (tu : Bool) (H : Hp) (a : Addr) (xs : List V) : Prop := match tu with
  | false => SqL K H a xs
  | true => SqT K H a xs
def ItS (K : PySem.W.Frag) (tu : Bool) (a : Addr) : It := match tu with
  | false => Itl K a
  | true => Itt K a
/-- a comprehension over a list or a tuple -/
theorem comp_seq {K : PySem.W.Frag} {tu : Bool} {a p : Addr} {tt : TT} {te : TE} {cs : St} {Q : VK} {H1 : Hp} {xs : List V} (Pv : Nat → List V → Hp → Prop) (h0 : Pv 0 [] (upd H1 p (.lst [])))
    (hl : ∀ i ys H, i ≤ xs.length → Pv i ys H → Sq K tu H a xs)
    (hs : ∀ i x ys H, xs[i]? = some x → Pv i ys H → tt (some x :: cs) H fun b H4 => if b = true then te (some x :: cs) H4 fun y H5 => H5 p = some (.lst ys) ∧ ys.length < sizeLine ∧ Pv (i + 1) (ys ++ [y]) (upd H5 p (.lst (ys ++ [y]))) else Pv (i + 1) ys H4)
    (hd : ∀ ys H, Pv xs.length ys H → Q (.ref p) H) : CompW (ItS K tu a) p tt te cs Q H1 := by
  refine comp_by xs.length Pv h0 ?_ ?_
  · intro i ys H hi pv
    have q := hl i ys H (Nat.le_of_lt hi) pv
    cases tu with
    | false =>
      refine ⟨⟨xs, xs[i], q, by simp [hi]⟩, fun v H3 y => ?_⟩
      obtain ⟨e, y⟩ := y
      subst e
      exact hs i v ys _ (y xs q) pv
    | true =>
      refine ⟨⟨xs, xs[i], q, by simp [hi]⟩, fun v H3 y => ?_⟩
      obtain ⟨e, y⟩ := y
      subst e
      exact hs i v ys _ (y xs q) pv
  · intro ys H pv
    have q := hl _ ys H (Nat.le_refl _) pv
    cases tu with
    | false => exact ⟨⟨xs, q, Nat.le_refl _⟩, hd ys H pv⟩
    | true => exact ⟨⟨xs, q, Nat.le_refl _⟩, hd ys H pv⟩
def tCompR (g : TG) (k : Nat) (wi : TI) (tt : TT) (te : TE) (caps : List Nat) : TE := fun σ H Q => wi σ H fun J H1 => ∀ p, H1 p = none → CompWT (fun _ => True) g k J p tt te (capV σ caps) Q H1
theorem pe_compR {X : Cx} {elt iter : Expr} {ifs : List Expr} {tg : Expr} {g : TG} {pos : Pos} {sc : Scope} {wi : TI} {tt : TT} {te : TE} (xs : List Str) (caps : List Nat) (capsN : List Str)
    (hi : PI X tg iter wi)
    (hg : ∀ cl C s H ex pn, PG (cxComp X (xs ++ capsN) sc cl C s H ex pn) tg g)
    (ht : ∀ cl C s H ex pn, PTs (cxComp X (xs ++ capsN) sc cl C s H ex pn) ifs tt)
    (he : ∀ cl C s H ex pn, PE (cxComp X (xs ++ capsN) sc cl C s H ex pn) elt te)
    (hkind : sc.kind = .function) (hcell : ∀ y ∈ sc.names, y.2 ≠ .cell) (hnames : ∀ y ∈ sc.names, y.2 = .local → sc.names.lookup y.1 = some .local)
    (hfr : ∀ y ∈ sc.names, y.2 = .free → y.1 ∈ capsN)
    (hcap : ∀ (j : Nat) (y : Str), capsN[j]? = some y → ∃ i : Nat, caps[j]? = some i ∧ X.N[i]? = some y ∧ sc.names.lookup y = some .free ∧ (X.env.kindOf y = some .cell ∨ X.env.kindOf y = some .free)) (hlen : caps.length = capsN.length)
    (hc : X.calm = true)
    (hs : ∀ x, foldedSetIterable iter X.env x = pure x := by intro _; rfl) :
    PE X (.ListComp elt [⟨tg, iter, ifs, 0⟩] sc pos) (tCompR g xs.length wi tt te caps) :=
  pe_compT (Gs := fun _ => True) (hb := false) (CW := fun J p cs Q H1 => CompWT (fun _ => True) g xs.length J p tt te cs Q H1) caps capsN hi hg ht he hkind hcell hnames hfr hcap hlen (.inl hc) (fun _ _ _ _ _ h => h) hs
theorem ps_setC1 {X : Cx} {elt iter : Expr} {ifs : List Expr} {x y : Str} {px pos pos' pos2 : Pos} {sc : Scope} {wi : TI} {tt : TT} {te : TE} {i : Nat} (hN : X.N.Nodup) (hiN : X.N[i]? = some y) (hy : X.env.scope.names.lookup y = some .local) (caps : List Nat) (capsN : List Str)
    (hi : PI X (.Name x px) iter wi)
    (ht : ∀ cl C s H ex pn, PTs (cxComp X (x :: capsN) sc cl C s H ex pn) ifs tt)
    (he : ∀ cl C s H ex pn, PE (cxComp X (x :: capsN) sc cl C s H ex pn) elt te)
    (hkind : sc.kind = .function) (hcell : ∀ y ∈ sc.names, y.2 ≠ .cell) (hnames : ∀ y ∈ sc.names, y.2 = .local → sc.names.lookup y.1 = some .local) (hx : sc.names.lookup x = some .local)
    (hfr : ∀ y ∈ sc.names, y.2 = .free → y.1 ∈ capsN)
    (hcap : ∀ (j : Nat) (y : Str), capsN[j]? = some y → ∃ i : Nat, caps[j]? = some i ∧ X.N[i]? = some y ∧ sc.names.lookup y = some .free ∧ (X.env.kindOf y = some .cell ∨ X.env.kindOf y = some .free)) (hlen : caps.length = capsN.length)
    (hnd : (x :: capsN).Nodup) (hc : X.calm = true)
    (hsw : swapsWith (.ListComp elt [⟨.Name x px, iter, ifs, 0⟩] sc pos) (some (.Name y pos')) pos2.line X.env = pure true := by rfl)
    (hs : ∀ x, foldedSetIterable iter X.env x = pure x := by intro _; rfl) :
    PS X (.Assign [.Name y pos'] (.ListComp elt [⟨.Name x px, iter, ifs, 0⟩] sc pos) pos2) (tAsg (tComp wi tt te caps) (gName i)) :=
  ps_setC (Gs := fun _ => True) (hb := false) (CW := fun J p cs Q H1 => CompW J p tt te cs Q H1) hN hiN hy caps capsN hi ht he hkind hcell hnames hx hfr hcap hlen hnd (.inl hc) (fun _ _ _ _ _ h => h.g) hsw hs
/-! ### l != [] -/
section
variable {X : Cx}
end
/-! ### rules within a comprehension, K told -/
section
variable {X : Cx} {K : PySem.W.Frag}
theorem ix_tupK (h : X.K = K) : IxR X (rIxT K) := by
  subst h
  exact ix_tup
end
/-! ### tuples of flat things in a list -/
end L2
namespace L2
open PySem PySem.Spec PyProof.Rows
/-! ### rows of stretches, as numbers -/
theorem take_next {α : Type} {rs : List α} {i : Nat} {r : α} (h : rs[i]? = some r) : rs.take (i + 1) = rs.take i ++ [r] := by
  rw [List.take_add_one, h]
  rfl
/-! ### whole numbers from b on -/
/-! ### gaps -/
/-! ### rows in the heap -/
end L2
namespace L2
open PySem PySem.Spec PyProof.Rows PySem.W

/-! ### try with several clauses, with or without a name; with an else -/
section
variable {X : Cx} {rest : List ExceptHandler} {suite : List Stmt} {b₀ : Stmt} {ts : Addr → TS} {tr : THs} {wn n : Str} {D : Addr} {bmD : List Value} {i : Nat} {np hpos pos : Pos}
end
end L2
namespace L2
open PySem PySem.Spec PyProof.Rows PySem.W

/-! ### loops in a def that may raise -/
section
variable {X : Cx} {E : XK}
end

/-! ### methods and makings that raise, within a try's body -/
section
variable {X : Cx} {k : Nat} {f C : Addr} {fd : FuncData} {ps : List Str} {sp : Sp} {dvs : List V} {ds : List Value} {x m : Str} {p pos apos : Pos} {e o : Expr} {es : List Expr} {ta : TE} {t : TA}
end
end L2
/-! ### things of any kind; is_whole, is_within -/
namespace L2
open PySem PySem.Spec PyProof.Rows
def Ty0 (H : Hp) (x : V) : Prop := (∃ n, x = .int n) ∨ (∃ z, x = .str z) ∨ (∃ b, x = .bl b) ∨ x = .non ∨ (∃ a xs, x = .ref a ∧ H a = some (.lst xs)) ∨ (∃ a xs, x = .ref a ∧ H a = some (.tup xs)) ∨ (∃ a kvs, x = .ref a ∧ H a = some (.dK kvs))
def isI0 : V → Bool
  | .int _ => true
  | .bl _ => true
  | _ => false
def isB0 : V → Bool
  | .bl _ => true
  | _ => false
section
variable (K : PySem.W.Frag)
theorem k0_ii : PySem.W.kitOne K (.type "int") (.type "int") = some true := by kernel_rfl
theorem k0_ib : PySem.W.kitOne K (.type "int") (.type "bool") = some false := by kernel_rfl
theorem k0_si : PySem.W.kitOne K (.type "str") (.type "int") = some false := by kernel_rfl
theorem k0_sb : PySem.W.kitOne K (.type "str") (.type "bool") = some false := by kernel_rfl
theorem k0_bi : PySem.W.kitOne K (.type "bool") (.type "int") = some true := by kernel_rfl
theorem k0_bb : PySem.W.kitOne K (.type "bool") (.type "bool") = some true := by kernel_rfl
theorem k0_ni : PySem.W.kitOne K (.type "NoneType") (.type "int") = some false := by kernel_rfl
theorem k0_nb : PySem.W.kitOne K (.type "NoneType") (.type "bool") = some false := by kernel_rfl
theorem k0_li : PySem.W.kitOne K (.type "list") (.type "int") = some false := by kernel_rfl
theorem k0_lb : PySem.W.kitOne K (.type "list") (.type "bool") = some false := by kernel_rfl
theorem k0_ti : PySem.W.kitOne K (.type "tuple") (.type "int") = some false := by kernel_rfl
theorem k0_tb : PySem.W.kitOne K (.type "tuple") (.type "bool") = some false := by kernel_rfl
theorem k0_di : PySem.W.kitOne K (.type "dict") (.type "int") = some false := by kernel_rfl
theorem k0_db : PySem.W.kitOne K (.type "dict") (.type "bool") = some false := by kernel_rfl
end
theorem Ty0.ty {K : PySem.W.Frag} {H : Hp} {x : V} (h : Ty0 H x) : ∃ t, TyOf K H x t ∧ PySem.W.kitOne K t (.type "int") = some (isI0 x) ∧ PySem.W.kitOne K t (.type "bool") = some (isB0 x) := by
  rcases h with ⟨n, rfl⟩ | ⟨z, rfl⟩ | ⟨b, rfl⟩ | rfl | ⟨a, z, rfl, q⟩ | ⟨a, z, rfl, q⟩ | ⟨a, z, rfl, q⟩
  · exact ⟨_, .int n, k0_ii K, k0_ib K⟩
  · exact ⟨_, .str z, k0_si K, k0_sb K⟩
  · exact ⟨_, .bl b, k0_bi K, k0_bb K⟩
  · exact ⟨_, .non, k0_ni K, k0_nb K⟩
  · exact ⟨_, .lst q, k0_li K, k0_lb K⟩
  · exact ⟨_, .tup q, k0_ti K, k0_tb K⟩
  · exact ⟨_, .dK q, k0_di K, k0_db K⟩
def who0 (x : V) : Bool := isI0 x && !isB0 x
def wth0 (x : V) (l h : Int) : Bool := match x with
  | .int n => decide (l ≤ n) && decide (n ≤ h)
  | _ => false
def spWho0 : Sp := fun vs H Q _ => ∃ x, vs = [x] ∧ Ty0 H x ∧ Q (.bl (who0 x)) H
def spWth0 : Sp := fun vs H Q _ => ∃ x l h, vs = [x, .int l, .int h] ∧ Ty0 H x ∧ Q (.bl (wth0 x l h)) H
/-! ### methods; classes of exceptions -/
end L2
/-! ### a floor -/
namespace FL
open PySem L2 PyProof.Rows
structure FS where
  n : Int
  kp : List (Key × V)
  ks : List (Key × V)
  ws : List V
  d : Bool
  l : V
section
variable {C p pc sp wr : Addr} {H H' : Hp} {st st' : FS}
end
structure Cl where
  F : Addr
  W : Addr
  PG : Addr
  NF : Addr
  NP : Addr
  NI : Addr
  SO : Addr
/-! ### what each of its methods promises -/
end FL
namespace L2
open PySem PySem.Spec PyProof.Rows
section
variable {X : Cx}
end
end L2
namespace FL
open PySem L2 PyProof.Rows
/-! ### what the law keeps beside a floor -/
structure LS where
  bn : List (Key × V)
  bd : List (Key × V)
  dn : List V
  lf : Int
  dk : Bool
section
variable {H H' : Hp} {q b a d : Addr} {ls : LS}
end
section
variable {H : Hp} {q b a d : Addr} {ls : LS}
end
/-! ### both tell the same -/
section
variable {st : FS} {ls : LS} {m : Nat} {i : Int} {v : V}
/-! ### a floor and what is kept beside it -/
structure AD where
  p : Addr
  pc : Addr
  sp : Addr
  wr : Addr
  q : Addr
  b : Addr
  a : Addr
  d : Addr
section
variable {R R' : FS → LS → Prop} {c : Cl} {H H' : Hp} {A B : AD} {n : Int}
end
end
end FL
/-! ### sorted, min and max of lists, min of three -/
namespace L2
open PySem PySem.Spec PyProof.Rows
section
variable {X : Cx}
end
end L2
/-! ### a dict's keys as a list, sorted -/
namespace L2
open PySem PySem.Spec PyProof.Rows PySem.W
section
variable {X : Cx}
end
end L2
/-! ### d.update(e), both dicts of ints and texts -/
namespace L2
open PySem PySem.Spec PyProof.Rows
section
variable {X : Cx} {pins : List (Addr × Obj)} {σ : St} {H : Hp} {s : Shared} {a b : Addr} {A : Around} {E : Value → Shared → Prop}
end
section
variable {X : Cx} {o e : Expr} {apos cpos : Pos} {td ty : TE}
end
end L2
/-! ### several records of ours turn; zip of two lists, its pairs taken apart at once -/
namespace L2
open PySem PySem.Spec PyProof.Rows
section
variable {X : Cx} {pins : List (Addr × Obj)} {σ : St} {H : Hp} {s : Shared} {h' : Heap}
/-- untracked records of ours have turned -/
theorem Inv.turns {t' : Nat} {W : List Addr} (I : Inv X pins σ H s) (hW : ∀ b ∈ W, FpOk X pins H b) (k : ∀ b o, b ∉ W → s.heap.get? b = some o → h'.get? b = some o) : Inv X pins σ H { s with heap := h', toks := t' } := by
  have nit : ∀ b u, H b = some u → b ∉ W := fun b u e z => by
    have q := (hW b z).1
    rw [q] at e
    cases e
  have lW : X.env.locals ∉ W := fun z => (hW _ z).2.1 rfl
  refine I.step (g' := s.gens) (d' := s.drawn) (ch := W) (fun b hb => ?_) (fun b o _ _ hc e _ => k b o hc e) (fun b o _ _ hc e _ => ⟨o.slots, k b o hc e⟩) (fun _ _ _ _ n => n) (fun b o hc e => ⟨o, k b o hc e⟩) (fun _ _ e => e) (fun _ _ _ e => e)
    (fun b ps e => ⟨#[], by rw [e]; simp⟩) (fun m hm => ?_) (fun b u e => ?_) I.bare
  · obtain ⟨_, a2, _, a4, a5, a6⟩ := hW b hb
    exact ⟨a4, a2, a5, a6⟩
  · obtain ⟨o, es, ep, ho, r⟩ := hm
    exact ⟨o, es, ep, k _ o lW ho, r⟩
  · refine (I.hok b u e).stay (fun c v hc q => k c v ?_ q) (fun _ q => q) fun _ _ q => q
    rcases hc with z | z
    · exact z ▸ nit b u e
    · exact nit c _ z
/-- the same, and a new object is tracked -/
theorem Inv.turnsLaid {t' : Nat} {W : List Addr} {T : Addr} {o : HO} (I : Inv X pins σ H s) (hW : ∀ b ∈ W, FpOk X pins H b) (k : ∀ b u, b ∉ W → s.heap.get? b = some u → h'.get? b = some u) (hT : s.heap.objs.size ≤ T)
    (new : ObjOk X.prog X.w (upd H T o) h' T o) : Inv X pins σ (upd H T o) { s with heap := h', toks := t' } := by
  have nT := I.hok.fresh hT
  have nit : ∀ b u, H b = some u → b ∉ W := fun b u e z => by
    have q := (hW b z).1
    rw [q] at e
    cases e
  have lW : X.env.locals ∉ W := fun z => (hW _ z).2.1 rfl
  refine I.step (g' := s.gens) (d' := s.drawn) (ch := W) (fun b hb => ?_) (fun b o _ _ hc e _ => k b o hc e) (fun b o _ _ hc e _ => ⟨o.slots, k b o hc e⟩)
    (fun b o _ e n => by rw [upd_ne (Nat.ne_of_lt (Nat.lt_of_lt_of_le (Heap.lt_size e) hT))]; exact n) (fun b o hc e => ⟨o, k b o hc e⟩)
    (fun b xs e => by rw [upd_ne (ne_of_none e nT)]; exact e) (fun b _ _ e => by rw [upd_ne (ne_of_none e nT)]; exact e)
    (fun b ps e => ⟨#[], by rw [upd_ne (ne_of_none e nT), e]; simp⟩) (fun m hm => ?_) (fun b u e => ?_) I.bare
  · obtain ⟨_, a2, _, a4, a5, a6⟩ := hW b hb
    exact ⟨a4, a2, a5, a6⟩
  · obtain ⟨o, es, ep, ho, r⟩ := hm
    exact ⟨o, es, ep, k _ o lW ho, r⟩
  · by_cases hb : b = T
    · subst hb
      rw [upd_same] at e
      cases e
      exact new
    · rw [upd_ne hb] at e
      refine (I.hok b u e).stay (fun c v hc q => k c v ?_ q) (fun c q => by rw [upd_ne (ne_of_none q nT)]; exact q) fun c xs q => by rw [upd_ne (ne_of_none q nT)]; exact q
      rcases hc with z | z
      · exact z ▸ nit b u e
      · exact nit c _ z
end
/-- the lists at a and b side by side -/
def Itz (K : PySem.W.Frag) (a b : Addr) : It :=
  ⟨fun i H => ∃ xs ys x y, SqL K H a xs ∧ SqL K H b ys ∧ xs[i]? = some x ∧ ys[i]? = some y,
   fun i H v H' => ∃ t x y, v = .ref t ∧ H t = none ∧ H' = upd H t (.tup [x, y]) ∧ (∀ xs, SqL K H a xs → xs[i]? = some x) ∧ ∀ ys, SqL K H b ys → ys[i]? = some y,
   fun i H => ∃ xs ys, SqL K H a xs ∧ SqL K H b ys ∧ (xs.length ≤ i ∨ ys.length ≤ i)⟩
/-- what a zip's records are -/
structure ZipAt (z TI TO i1 i2 a b : Addr) (i : Nat) (h : Heap) : Prop where
  zip : IsZip h z TI TO .none
  its : IsPair h TI (.ref i1) (.ref i2)
  own : ∃ u v, IsPair h TO u v
  it1 : h.IsListIter i1 a i
  it2 : h.IsListIter i2 b i
theorem ZipAt.apart {z TI TO i1 i2 a b : Addr} {i : Nat} {h : Heap} {p q : Array Value} (Z : ZipAt z TI TO i1 i2 a b i h) (ha : h.IsList a p) (hb : h.IsList b q) (t : TI ≠ TO) (n : i1 ≠ i2) : ZipApart z TI TO i1 i2 a b := by
  obtain ⟨hz, hI, ⟨u, v, hO⟩, ⟨o1, e1, c1, _⟩, ⟨o2, e2, c2, _⟩⟩ := Z
  obtain ⟨oa, ea, ca, _⟩ := ha
  obtain ⟨ob, eb, cb, _⟩ := hb
  have ne : ∀ {x y : Addr} {o o' : Obj}, h.get? x = some o → h.get? y = some o' → o.cls ≠ o'.cls → x ≠ y := fun e e' hc z => by
    subst z
    rw [e] at e'
    cases e'
    exact hc rfl
  refine ⟨ne hI hz ?_, ne hO hz ?_, ne e1 hz ?_, ne e2 hz ?_, t, ne hI e1 ?_, ne hI e2 ?_, ne hO e1 ?_, ne hO e2 ?_, n, ne ea hz ?_, ne ea hO ?_, ne ea e1 ?_, ne ea e2 ?_, ne eb hz ?_, ne eb hO ?_, ne eb e1 ?_, ne eb e2 ?_⟩ <;> simp [c1, c2, ca, cb]
theorem turn_zip {P : Program} {w : World} {K : PySem.W.Frag} {elts : List Expr} {x1} {tp : Pos} {z TI TO i1 i2 a b : Addr} (t : TI ≠ TO) (n : i1 ≠ i2) :
    Turn P w K (.Tuple elts x1 tp) (Itz K a b) [z, TI, TO, i1, i2] z (ZipAt z TI TO i1 i2 a b) where
  mem := by simp
  obj := fun i h Z c hc => by
    obtain ⟨hz, hI, ⟨u, v, hO⟩, ⟨o1, e1, _, d1⟩, ⟨o2, e2, _, d2⟩⟩ := Z
    simp only [List.mem_cons, List.not_mem_nil, or_false] at hc
    rcases hc with rfl | rfl | rfl | rfl | rfl
    · exact ⟨_, hz, fun v q => by cases q⟩
    · exact ⟨_, hI, fun v q => by cases q⟩
    · exact ⟨_, hO, fun v q => by cases q⟩
    · exact ⟨_, e1, fun v q => by rw [d1] at q; cases q⟩
    · exact ⟨_, e2, fun v q => by rw [d2] at q; cases q⟩
  keep := fun i h h' Z k => by
    obtain ⟨hz, hI, ⟨u, v, hO⟩, j1, j2⟩ := Z
    exact ⟨k z (by simp) _ hz, k TI (by simp) _ hI, ⟨u, v, k TO (by simp) _ hO⟩, j1.at fun o e => k i1 (by simp) o e, j2.at fun o e => k i2 (by simp) o e⟩
  item := by
    intro X hP hw hK s hc i pins σ H E I hf Z hg
    subst hP hw hK
    obtain ⟨xs, ys, x, y, qa, qb, gx, gy⟩ := hg
    obtain ⟨its, rv, p, _⟩ := I.list qa
    obtain ⟨jts, rw', p', _⟩ := I.list qb
    obtain ⟨u, hu, ru⟩ := rv.get gx
    obtain ⟨v, hv, rv'⟩ := rw'.get gy
    have D := Z.apart p.isList p'.isList t n
    obtain ⟨hz, hI, ⟨e1, e2, hO⟩, j1, j2⟩ := Z
    refine wpAny_pyNext_zip_item D hz hI hO j1 j2 p.isList p'.isList (x := u) (y := v) (by simpa using hu) (by simpa using hv) fun h1 a1 a2 a3 a4 a5 a6 kp => ?_
    refine ⟨_, rfl, wpAny_letOwnedTupleGo_zip a1 fun h2 b1 sb => ?_⟩
    have lz := Heap.lt_size hz
    have T2 : IsPair h2 s.heap.objs.size u v := sb.extBut _ _ (Nat.ne_of_gt lz) a5
    have nT := I.hok.fresh (Nat.le_refl s.heap.objs.size)
    have I1 : Inv X pins σ (upd H s.heap.objs.size (.tup [x, y])) { s with heap := h2 } := I.turnsLaid (W := [z, TI, TO, i1, i2]) (t' := s.toks) (T := s.heap.objs.size) (o := .tup [x, y]) hf
      (fun c o hc e => by
        simp only [List.mem_cons, List.not_mem_nil, or_false, not_or] at hc
        exact sb.extBut _ _ hc.1 (kp c o hc.1 hc.2.2.1 hc.2.2.2.1 hc.2.2.2.2 e)) (Nat.le_refl _) ⟨by show 2 ≤ sizeLine; decide, [u, v], .cons ru (.cons rv' .nil), ⟨_, T2, rfl, _, rfl⟩⟩
    refine ⟨.ref s.heap.objs.size, _, I1, rfl, ⟨_, x, y, rfl, nT, rfl, fun zs hq => by rw [I.list_inj hq qa]; exact gx, fun zs hq => by rw [I.list_inj hq qb]; exact gy⟩, ?_, fun c hc => ?_⟩
    · exact ⟨b1, sb.extBut _ _ D.TIz (kp _ _ D.TIz D.TITO D.TIi1 D.TIi2 hI), ⟨_, _, sb.extBut _ _ D.TOz a2⟩, a3.extBut sb.extBut D.i1z, a4.extBut sb.extBut D.i2z⟩
    · have lt : c < s.heap.objs.size := by
        simp only [List.mem_cons, List.not_mem_nil, or_false] at hc
        obtain ⟨o1, f1, _⟩ := j1
        obtain ⟨o2, f2, _⟩ := j2
        rcases hc with rfl | rfl | rfl | rfl | rfl
        · exact lz
        · exact Heap.lt_size hI
        · exact Heap.lt_size hO
        · exact Heap.lt_size f1
        · exact Heap.lt_size f2
      rw [upd_ne (Nat.ne_of_lt lt)]
      exact (hf c hc).1
  done := by
    intro X hP hw hK s hc i pins σ H E I hf Z hg
    subst hP hw hK
    obtain ⟨xs, ys, qa, qb, hx⟩ := hg
    obtain ⟨its, rv, p, _⟩ := I.list qa
    obtain ⟨jts, rw', p', _⟩ := I.list qb
    have D := Z.apart p.isList p'.isList t n
    obtain ⟨hz, hI, ⟨e1, e2, hO⟩, j1, j2⟩ := Z
    have l1 := rv.length
    have l2 := rw'.length
    refine wpAny_pyNext_zip_end hc.none D hz hI hO j1 j2 p.isList p'.isList (hx.imp (fun q => by simp; omega) fun q => by simp; omega) fun h' kp => ⟨rfl, I.turns (t' := s.toks) (W := [z, TI, TO, i1, i2]) hf fun c o hc e => ?_⟩
    simp only [List.mem_cons, List.not_mem_nil, or_false, not_or] at hc
    exact kp c o hc.1 hc.2.2.1 hc.2.2.2.1 hc.2.2.2.2 e
  self := fun _ _ _ _ _ st h => wpAny_pyIter_zip st.zip h
def iZip (K : PySem.W.Frag) (ta : TA) : TI := fun σ H R => ta σ H fun vs H1 => ∃ a b xs ys, vs = [.ref a, .ref b] ∧ SqL K H1 a xs ∧ SqL K H1 b ys ∧ R (Itz K a b) H1
theorem pi_zip {X : Cx} {elts : List Expr} {x1} {tp : Pos} {a b : Expr} {ta : TA} {p pos : Pos} (hg : Gl X "zip") (hm : X.mg "zip" = none) (ha : PA X [a, b] ta) (hs : starEach [a, b] X.env = [(false, eval a X.env), (false, eval b X.env)] := by rfl) (hs2 : starEach [b] X.env = [(false, eval b X.env)] := by rfl) :
    PI X (.Tuple elts x1 tp) (.Call (.Name "zip" p) [a, b] [] pos) (iZip X.K ta) := by
  intro pins s σ H R I h
  refine Call_ (ld_blt I hg hm boot_zip (PyProof.Rows.callWith_type1 (thn (ha pos pins s σ H _ I h) fun us s1 ⟨vs, H1, I1, r1, q1⟩ => ?_) (by rw [hs, hs2]) (by rw [hs2]; rfl)))
  obtain ⟨a, b, xs, ys, e, qa, qb, q⟩ := q1
  subst e
  cases r1 with
  | cons r rr =>
    cases rr with
    | cons r' rr =>
      cases rr
      cases r
      cases r'
      obtain ⟨its, rv, p, _⟩ := I1.list qa
      obtain ⟨jts, rw', p', _⟩ := I1.list qb
      refine call_zip_2 p.isList p'.isList fun h' z1 z2 z3 z4 z5 z6 kp => wpAny_pyIter_zip z1 ?_
      refine ⟨_, [_, s1.heap.objs.size + 2, s1.heap.objs.size + 3, s1.heap.objs.size, s1.heap.objs.size + 1], _, _, H1, rfl, I1.kept (t' := s1.toks) kp, turn_zip (by simp) (by simp), ⟨z1, z2, ⟨_, _, z3⟩, z4, z5⟩, fun c hc => ?_, q⟩
      have le : s1.heap.objs.size ≤ c := by
        simp only [List.mem_cons, List.not_mem_nil, or_false] at hc
        rcases hc with rfl | rfl | rfl | rfl | rfl <;> omega
      exact I1.fpOk le (I1.hok.fresh le)
end L2
/-! ### zip of two tuples, its pairs taken apart at once -/
namespace L2
open PySem PySem.Spec PyProof.Rows
section
variable {prog : Program} {w : World} {A : Around} {E : Value → Shared → Prop} {s : Shared}
end
end L2

namespace L2
open PySem PySem.Spec PyProof.Rows
section
variable {prog : Program} {w : World} {A : Around} {E : Value → Shared → Prop} {s : Shared}
end
end L2
namespace L2
open PySem PySem.Spec PyProof.Rows
/-! ### rows by cells, and joined -/
/-! ### lists of rows compared -/
section
variable {X : Cx} {pins : List (Addr × Obj)} {σ : St} {H : Hp} {s : Shared}
end
/-! ### a slice of a tuple, perhaps the whole -/
end L2
namespace L2
open PySem PySem.Spec PyProof.Rows
/-! ### things that are no tuples -/
def NotT (H : Hp) (x : V) : Prop := (∃ n, x = .int n) ∨ (∃ z, x = .str z) ∨ (∃ b, x = .bl b) ∨ x = .non ∨ (∃ a xs, x = .ref a ∧ H a = some (.lst xs)) ∨ (∃ a kvs, x = .ref a ∧ H a = some (.dK kvs))
section
variable (K : PySem.W.Frag)
theorem k0_it : PySem.W.kitOne K (.type "int") (.type "tuple") = some false := by kernel_rfl
theorem k0_st : PySem.W.kitOne K (.type "str") (.type "tuple") = some false := by kernel_rfl
theorem k0_bt : PySem.W.kitOne K (.type "bool") (.type "tuple") = some false := by kernel_rfl
theorem k0_nt : PySem.W.kitOne K (.type "NoneType") (.type "tuple") = some false := by kernel_rfl
theorem k0_lt : PySem.W.kitOne K (.type "list") (.type "tuple") = some false := by kernel_rfl
theorem k0_dt : PySem.W.kitOne K (.type "dict") (.type "tuple") = some false := by kernel_rfl
theorem k0_tt : PySem.W.kitOne K (.type "tuple") (.type "tuple") = some true := by kernel_rfl
end
theorem NotT.kit {K : PySem.W.Frag} {H : Hp} {x : V} (h : NotT H x) : ∃ t, TyOf K H x t ∧ PySem.W.kitOne K t (.type "tuple") = some false := by
  rcases h with ⟨n, rfl⟩ | ⟨z, rfl⟩ | ⟨b, rfl⟩ | rfl | ⟨a, z, rfl, q⟩ | ⟨a, z, rfl, q⟩
  · exact ⟨_, .int n, k0_it K⟩
  · exact ⟨_, .str z, k0_st K⟩
  · exact ⟨_, .bl b, k0_bt K⟩
  · exact ⟨_, .non, k0_nt K⟩
  · exact ⟨_, .lst q, k0_lt K⟩
  · exact ⟨_, .dK q, k0_dt K⟩
/-! ### a stretch, or what is none -/
/-! ### loops over two tuples at once, comprehensions over a tuple -/
theorem comp_tup {K : PySem.W.Frag} {a p : Addr} {tt : TT} {te : TE} {cs : St} {Q : VK} {H1 : Hp} {xs : List V} (Pv : Nat → List V → Hp → Prop) (h0 : Pv 0 [] (upd H1 p (.lst [])))
    (hl : ∀ i ys H, i ≤ xs.length → Pv i ys H → SqT K H a xs)
    (hs : ∀ i x ys H, xs[i]? = some x → Pv i ys H → tt (some x :: cs) H fun b H4 => if b = true then te (some x :: cs) H4 fun y H5 => H5 p = some (.lst ys) ∧ ys.length < sizeLine ∧ Pv (i + 1) (ys ++ [y]) (upd H5 p (.lst (ys ++ [y]))) else Pv (i + 1) ys H4)
    (hd : ∀ ys H, Pv xs.length ys H → Q (.ref p) H) : CompW (Itt K a) p tt te cs Q H1 := comp_seq (tu := true) Pv h0 hl hs hd
theorem cutV_one (xs : List V) : cutV xs (some 1) none = xs.drop 1 := by
  unfold cutV
  have e : HT.sIx xs.length 0 (some 1) = min 1 xs.length := HT.sIx_nat _ _ 1
  rw [e, HT.sIx_none]
  cases xs with
  | nil => rfl
  | cons x t =>
    have : min 1 (x :: t).length = 1 := by simp
    rw [this]
    exact List.take_of_length_le (by simp)
end L2
namespace HT
open PySem PySem.Spec PyProof.Rows
section
variable {prog : Program} {w : World} {A : Around} {E : Value → Shared → Prop} {s : Shared}
/-- the whole of a tuple, as a slice: itself -/
theorem getItem_tuple_all {t sl : Addr} {items : Array Value} {vl vu : Value} {lo hi : Option Int} {Q : Value → Shared → Prop} (ht : IsTup s.heap t items) (hs : s.heap.IsSliceOf sl vl vu .none) (pl : IsPart vl lo) (pu : IsPart vu hi)
    (hw : sIx items.size 0 lo = 0 ∧ sIx items.size items.size hi = items.size) (h : Q (.ref t) s) : wpAny (model prog w) A (getItem (.ref t) (.ref sl)) Q E s := by
  obtain ⟨os, hos, hcs, hds⟩ := id hs
  have hTs : s.TypeIs (.ref sl) "slice" := ⟨os, hos, hcs⟩
  unfold getItem
  try with_reducible refine wpAny_holding ?_
  first | refine wpAny_bind (wpAny_pure ?_) | skip
  refine wpAny_bind (wpAny_sequenceKey ht.typeIs (by decide) ?_)
  refine wpAny_bind (wpAny_callSpecial?_slot (name := Str.ofString "__getitem__") ht.typeIs PyProof.Rows.slot_tuple_getitem
    (wpAny_call_entry PyProof.Rows.slot_tuple_getitem ht.typeIs entry_tuple_getitem ?_ (args_tuple_getitem _ _)))
  show wpAny _ _ (Builtin.Tuple.tupleItemsOf (.ref t) >>= _) _ _ s
  refine wpAny_bind (tupleItemsOf_ ht ?_)
  refine wpAny_bind (wpAny_typeOf hTs ?_)
  rw [if_pos (by decide)]
  refine wpAny_bind (sliceApplied_gen hs pl pu ?_)
  have hyes : (((sIx items.size 0 lo : Nat) : Int) == 0 && (1 : Int) == 1 && (sIx items.size items.size hi - sIx items.size 0 lo) == items.size) = true := by
    rw [hw.1, hw.2]
    simp
  show wpAny _ _ (if (((sIx items.size 0 lo : Nat) : Int) == 0 && (1 : Int) == 1 && (sIx items.size items.size hi - sIx items.size 0 lo) == items.size) = true then _ else _) _ _ s
  rw [if_pos hyes]
  refine wpAny_bind (m := Builtin.Tuple.tupleIsExact _) (wpAny_bind (wpAny_typeOf ht.typeIs (wpAny_pure ?_)))
  rw [if_pos (by decide)]
  refine wpAny_bind (wpAny_rule ?_)
  exact wpAny_bind (wpAny_pure (wpAny_pure ⟨_, rfl, wpAny_pure h⟩))
end
end HT
namespace L2
open PySem PySem.Spec PyProof.Rows
section
variable {X : Cx}
theorem cutV_all {xs : List V} {lo hi : Option Int} (hw : HT.sIx xs.length 0 lo = 0 ∧ HT.sIx xs.length xs.length hi = xs.length) : cutV xs lo hi = xs := by
  unfold cutV
  rw [hw.1, hw.2]
  simp
/-- a slice of a tuple, perhaps the whole -/
def rSlW : V → Option Int → Option Int → Hp → VK → Prop := fun x lo hi H Q => ∃ a xs, x = .ref a ∧ H a = some (.tup xs) ∧ ∀ b H', Same H H' → H' b = some (.tup (cutV xs lo hi)) → Q (.ref b) H'
theorem sl_tupW : SlR X rSlW := by
  intro pins s σ H x v vl vu lo hi sl Q I rx hs pl pu h
  obtain ⟨a, xs, rfl, hx, q⟩ := h
  by_cases hw : HT.sIx xs.length 0 lo = 0 ∧ HT.sIx xs.length xs.length hi = xs.length
  · cases rx
    obtain ⟨its, r, ht, hz⟩ := I.tuple (SqT.of (K := X.K) hx)
    have hlen : its.toArray.size = xs.length := by rw [List.size_toArray]; exact r.length.symm
    exact ⟨"tuple", _, PyProof.Rows.slot_tuple_getitem.lookup, ht.typeIs, HT.getItem_tuple_all ht hs pl pu (by rw [hlen]; exact hw) ⟨.ref a, H, I, rfl, q a H (Same.refl H) (by rw [cutV_all hw]; exact hx)⟩⟩
  · exact sl_tup pins s σ H (.ref a) v vl vu lo hi sl Q I rx hs pl pu ⟨a, xs, rfl, SqT.of hx, hw, fun p hp => q p _ (fun b u e => by rw [upd_ne (ne_of_none e hp)]; exact e) upd_same⟩
end
end L2
namespace L2
open PySem PySem.Spec PyProof.Rows
/-! ### a dict of cells -/
/-! ### a row's cells rise -/
/-! ### the law's loop over a thing -/
end L2
namespace L2
open PySem PySem.Spec PyProof.Rows
/-! ### a tidied row is a tidy row -/
end L2
namespace L2
open PySem PySem.Spec PyProof.Rows
/-! ### a row laid over a row -/
/-! ### cells -/
/-! ### a dict of cells, in whatever order -/
end L2
set_option maxHeartbeats 1000000
/-! ### range(a, b, 8) -/
namespace L2
open PySem PySem.Spec PyProof.Rows
section
variable {X : Cx} {tg : Expr}
end
end L2
/-! ### enumerate(a list), its pairs taken apart at once -/
namespace L2
open PySem PySem.Spec PyProof.Rows
end L2
namespace L2
open PySem PySem.Spec PyProof.Rows
/-! ### things of any kind, to any depth -/
inductive Tr : Type
  | int (n : Int) | str (s : Str) | bl (b : Bool) | non | dct | tup (l : List Tr) | lst (l : List Tr)
mutual
def At (H : Hp) : Tr → V → Prop
  | .int n, v => v = .int n
  | .str s, v => v = .str s
  | .bl b, v => v = .bl b
  | .non, v => v = .non
  | .dct, v => ∃ a kvs, v = .ref a ∧ H a = some (.dK kvs)
  | .tup l, v => ∃ a vs, v = .ref a ∧ H a = some (.tup vs) ∧ Ats H l vs
  | .lst l, v => ∃ a vs, v = .ref a ∧ H a = some (.lst vs) ∧ Ats H l vs
def Ats (H : Hp) : List Tr → List V → Prop
  | [], vs => vs = []
  | t :: ts, vs => ∃ v ws, vs = v :: ws ∧ At H t v ∧ Ats H ts ws
end
mutual
def dep : Tr → Nat
  | .tup l => deps l + 1
  | .lst l => deps l + 1
  | _ => 0
def deps : List Tr → Nat
  | [] => 0
  | t :: ts => max (dep t) (deps ts)
end
mutual
def frz : Tr → Tr
  | .lst l => .tup (frzs l)
  | t => t
def frzs : List Tr → List Tr
  | [] => []
  | t :: ts => frz t :: frzs ts
end
mutual
theorem At.mono {H H' : Hp} (s : Same H H') : ∀ {t : Tr} {v : V}, At H t v → At H' t v
  | .int n, v, h => by unfold At at *; exact h
  | .str n, v, h => by unfold At at *; exact h
  | .bl n, v, h => by unfold At at *; exact h
  | .non, v, h => by unfold At at *; exact h
  | .dct, v, h => by
    unfold At at *
    obtain ⟨a, kvs, e, h⟩ := h
    exact ⟨a, kvs, e, s _ _ h⟩
  | .tup l, v, h => by
    unfold At at *
    obtain ⟨a, vs, e, h, k⟩ := h
    exact ⟨a, vs, e, s _ _ h, Ats.mono s k⟩
  | .lst l, v, h => by
    unfold At at *
    obtain ⟨a, vs, e, h, k⟩ := h
    exact ⟨a, vs, e, s _ _ h, Ats.mono s k⟩
theorem Ats.mono {H H' : Hp} (s : Same H H') : ∀ {l : List Tr} {vs : List V}, Ats H l vs → Ats H' l vs
  | [], vs, h => by unfold Ats at *; exact h
  | t :: ts, vs, h => by
    unfold Ats at *
    obtain ⟨v, ws, e, h, k⟩ := h
    exact ⟨v, ws, e, At.mono s h, Ats.mono s k⟩
end
theorem Ats.len {H : Hp} : ∀ {l : List Tr} {vs : List V}, Ats H l vs → vs.length = l.length
  | [], vs, h => by
    unfold Ats at h
    rw [h]
    rfl
  | t :: ts, vs, h => by
    unfold Ats at h
    obtain ⟨v, ws, rfl, _, k⟩ := h
    rw [List.length_cons, List.length_cons, Ats.len k]
theorem Ats.get {H : Hp} : ∀ {l : List Tr} {vs : List V} {i : Nat} {v : V}, Ats H l vs → vs[i]? = some v → ∃ t, l[i]? = some t ∧ At H t v
  | [], vs, i, v, h, e => by
    unfold Ats at h
    subst h
    cases e
  | t :: ts, vs, i, v, h, e => by
    unfold Ats at h
    obtain ⟨w, ws, rfl, h, k⟩ := h
    cases i with
    | zero => cases e; exact ⟨t, rfl, h⟩
    | succ i =>
      obtain ⟨t', h1, h2⟩ := Ats.get k (show ws[i]? = some v from e)
      exact ⟨t', h1, h2⟩
theorem Ats.at {H : Hp} : ∀ {l : List Tr} {vs : List V} {i : Nat} {t : Tr}, Ats H l vs → l[i]? = some t → ∃ v, vs[i]? = some v ∧ At H t v
  | [], vs, i, t, h, e => by cases e
  | u :: ts, vs, i, t, h, e => by
    unfold Ats at h
    obtain ⟨w, ws, rfl, h, k⟩ := h
    cases i with
    | zero => cases e; exact ⟨w, rfl, h⟩
    | succ i =>
      obtain ⟨v', h1, h2⟩ := Ats.at k (show ts[i]? = some t from e)
      exact ⟨v', h1, h2⟩
theorem Ats.nil (H : Hp) : Ats H [] [] := by unfold Ats; rfl
theorem Ats.cons {H : Hp} {t : Tr} {ts : List Tr} {v : V} {vs : List V} (h : At H t v) (k : Ats H ts vs) : Ats H (t :: ts) (v :: vs) := by
  unfold Ats
  exact ⟨v, vs, rfl, h, k⟩
theorem Ats.app {H : Hp} {us : List Tr} {ws : List V} (k : Ats H us ws) : ∀ {l : List Tr} {vs : List V}, Ats H l vs → Ats H (l ++ us) (vs ++ ws)
  | [], vs, h => by
    unfold Ats at h
    subst h
    exact k
  | t :: ts, vs, h => by
    unfold Ats at h
    obtain ⟨v, vs, rfl, h, k2⟩ := h
    exact Ats.cons h (Ats.app k k2)
theorem Ats.take {H : Hp} : ∀ {l : List Tr} {vs : List V} (n : Nat), Ats H l vs → Ats H (l.take n) (vs.take n)
  | [], vs, n, h => by
    unfold Ats at h
    subst h
    simp only [List.take_nil]
    exact Ats.nil H
  | t :: ts, vs, 0, h => Ats.nil H
  | t :: ts, vs, n + 1, h => by
    unfold Ats at h
    obtain ⟨v, ws, rfl, h, k⟩ := h
    exact Ats.cons h (Ats.take n k)
theorem Ats.drop {H : Hp} : ∀ {l : List Tr} {vs : List V} (n : Nat), Ats H l vs → Ats H (l.drop n) (vs.drop n)
  | l, vs, 0, h => h
  | [], vs, n + 1, h => by
    unfold Ats at h
    subst h
    exact Ats.nil H
  | t :: ts, vs, n + 1, h => by
    unfold Ats at h
    obtain ⟨v, ws, rfl, h, k⟩ := h
    exact Ats.drop n k
/-- what a thing is -/
theorem At.ty0 {H : Hp} {t : Tr} {v : V} (h : At H t v) : Ty0 H v := by
  cases t with
  | int n => unfold At at h; exact .inl ⟨n, h⟩
  | str n => unfold At at h; exact .inr (.inl ⟨n, h⟩)
  | bl n => unfold At at h; exact .inr (.inr (.inl ⟨n, h⟩))
  | non => unfold At at h; exact .inr (.inr (.inr (.inl h)))
  | dct =>
    unfold At at h
    obtain ⟨a, kvs, e, h⟩ := h
    exact .inr (.inr (.inr (.inr (.inr (.inr ⟨a, kvs, e, h⟩)))))
  | tup l =>
    unfold At at h
    obtain ⟨a, vs, e, h, _⟩ := h
    exact .inr (.inr (.inr (.inr (.inr (.inl ⟨a, vs, e, h⟩)))))
  | lst l =>
    unfold At at h
    obtain ⟨a, vs, e, h, _⟩ := h
    exact .inr (.inr (.inr (.inr (.inl ⟨a, vs, e, h⟩))))
def isTup : Tr → Bool
  | .tup _ => true
  | _ => false
theorem At.notT {H : Hp} {t : Tr} {v : V} (h : At H t v) (hn : isTup t = false) : NotT H v := by
  cases t with
  | int n => unfold At at h; exact .inl ⟨n, h⟩
  | str n => unfold At at h; exact .inr (.inl ⟨n, h⟩)
  | bl n => unfold At at h; exact .inr (.inr (.inl ⟨n, h⟩))
  | non => unfold At at h; exact .inr (.inr (.inr (.inl h)))
  | dct =>
    unfold At at h
    obtain ⟨a, kvs, e, h⟩ := h
    exact .inr (.inr (.inr (.inr (.inr ⟨a, kvs, e, h⟩))))
  | tup l => cases hn
  | lst l =>
    unfold At at h
    obtain ⟨a, vs, e, h, _⟩ := h
    exact .inr (.inr (.inr (.inr (.inl ⟨a, vs, e, h⟩))))
theorem At.tup {H : Hp} {l : List Tr} {v : V} (h : At H (.tup l) v) : ∃ a vs, v = .ref a ∧ H a = some (.tup vs) ∧ Ats H l vs := by
  unfold At at h
  exact h
theorem At.lst {H : Hp} {l : List Tr} {v : V} (h : At H (.lst l) v) : ∃ a vs, v = .ref a ∧ H a = some (.lst vs) ∧ Ats H l vs := by
  unfold At at h
  exact h
theorem At.mkT {H : Hp} {l : List Tr} {a : Addr} {vs : List V} (h : H a = some (.tup vs)) (k : Ats H l vs) : At H (.tup l) (.ref a) := by
  unfold At
  exact ⟨a, vs, rfl, h, k⟩
theorem At.mkL {H : Hp} {l : List Tr} {a : Addr} {vs : List V} (h : H a = some (.lst vs)) (k : Ats H l vs) : At H (.lst l) (.ref a) := by
  unfold At
  exact ⟨a, vs, rfl, h, k⟩
theorem At.int {H : Hp} (n : Int) : At H (.int n) (.int n) := by unfold At; rfl
theorem At.str {H : Hp} (n : Str) : At H (.str n) (.str n) := by unfold At; rfl
theorem At.bl {H : Hp} (n : Bool) : At H (.bl n) (.bl n) := by unfold At; rfl
theorem At.non {H : Hp} : At H .non .non := by unfold At; rfl
def wthT (t : Tr) (l h : Int) : Bool := match t with
  | .int n => decide (l ≤ n) && decide (n ≤ h)
  | _ => false
theorem At.wth {H : Hp} {t : Tr} {v : V} (h : At H t v) (l k : Int) : wth0 v l k = wthT t l k := by
  cases t with
  | int n => unfold At at h; subst h; rfl
  | str n => unfold At at h; subst h; rfl
  | bl n => unfold At at h; subst h; rfl
  | non => unfold At at h; subst h; rfl
  | dct =>
    unfold At at h
    obtain ⟨a, kvs, rfl, h⟩ := h
    rfl
  | tup l =>
    obtain ⟨a, vs, rfl, _⟩ := h.tup
    rfl
  | lst l =>
    obtain ⟨a, vs, rfl, _⟩ := h.lst
    rfl
/-! ### stretches out of trees -/
end L2
namespace L2
open PySem PySem.Spec PyProof.Rows
/-! ### words among the trees; what kind a tree is of -/
def sigS : Str := Str.ofString "abcdefghijklmnopqrstuvwxyz0123456789"
def okc (c : Nat) : Bool := (decide (97 ≤ c) && decide (c ≤ 122)) || (decide (48 ≤ c) && decide (c ≤ 57))
def isw (x : Str) : Bool := decide (1 ≤ x.length) && decide (x.length ≤ 8) && x.cps.toList.all okc
theorem sig_codes : sigS.cps.toList = [97, 98, 99, 100, 101, 102, 103, 104, 105, 106, 107, 108, 109, 110, 111, 112, 113, 114, 115, 116, 117, 118, 119, 120, 121, 122, 48, 49, 50, 51, 52, 53, 54, 55, 56, 57] := by decide +kernel
theorem in_sig (c : Nat) : (!(Builtin.Str.occurrences sigS ⟨#[c]⟩ 0 sigS.length 1).isEmpty) = okc c := by
  rw [StrLaws.found_one, sig_codes]
  unfold okc
  rw [← Bool.decide_and, ← Bool.decide_and, ← Bool.decide_or]
  refine decide_eq_decide.mpr ?_
  simp only [List.mem_cons, List.not_mem_nil, or_false]
  omega
theorem isw_len {x : Str} (h : ¬ (1 ≤ x.length ∧ x.length ≤ 8)) : isw x = false := by
  unfold isw
  rw [← Bool.decide_and, decide_eq_false h, Bool.false_and]
theorem isw_all {x : Str} (h : 1 ≤ x.length ∧ x.length ≤ 8) : isw x = x.cps.toList.all okc := by
  unfold isw
  rw [← Bool.decide_and, decide_eq_true h, Bool.true_and]
def wordT : Tr → Bool
  | .str z => isw z
  | _ => false
def isStrT : Tr → Bool
  | .str _ => true
  | _ => false
def isLstT : Tr → Bool
  | .lst _ => true
  | _ => false
section
variable (K : PySem.W.Frag)
theorem kt_is : PySem.W.kitOne K (.type "int") (.type "str") = some false := by kernel_rfl
theorem kt_ss : PySem.W.kitOne K (.type "str") (.type "str") = some true := by kernel_rfl
theorem kt_bs : PySem.W.kitOne K (.type "bool") (.type "str") = some false := by kernel_rfl
theorem kt_ns : PySem.W.kitOne K (.type "NoneType") (.type "str") = some false := by kernel_rfl
theorem kt_ls : PySem.W.kitOne K (.type "list") (.type "str") = some false := by kernel_rfl
theorem kt_ts : PySem.W.kitOne K (.type "tuple") (.type "str") = some false := by kernel_rfl
theorem kt_ds : PySem.W.kitOne K (.type "dict") (.type "str") = some false := by kernel_rfl
theorem kt_il : PySem.W.kitOne K (.type "int") (.type "list") = some false := by kernel_rfl
theorem kt_sl : PySem.W.kitOne K (.type "str") (.type "list") = some false := by kernel_rfl
theorem kt_bl : PySem.W.kitOne K (.type "bool") (.type "list") = some false := by kernel_rfl
theorem kt_nl : PySem.W.kitOne K (.type "NoneType") (.type "list") = some false := by kernel_rfl
theorem kt_ll : PySem.W.kitOne K (.type "list") (.type "list") = some true := by kernel_rfl
theorem kt_tl : PySem.W.kitOne K (.type "tuple") (.type "list") = some false := by kernel_rfl
theorem kt_dl : PySem.W.kitOne K (.type "dict") (.type "list") = some false := by kernel_rfl
end
theorem At.ty {K : PySem.W.Frag} {H : Hp} {t : Tr} {v : V} (h : At H t v) : ∃ ty, TyOf K H v ty ∧ PySem.W.kitOne K ty (.type "tuple") = some (isTup t) ∧ PySem.W.kitOne K ty (.type "str") = some (isStrT t) ∧ PySem.W.kitOne K ty (.type "list") = some (isLstT t) := by
  cases t with
  | int n => unfold At at h; subst h; exact ⟨_, .int n, k0_it K, kt_is K, kt_il K⟩
  | str n => unfold At at h; subst h; exact ⟨_, .str n, k0_st K, kt_ss K, kt_sl K⟩
  | bl n => unfold At at h; subst h; exact ⟨_, .bl n, k0_bt K, kt_bs K, kt_bl K⟩
  | non => unfold At at h; subst h; exact ⟨_, .non, k0_nt K, kt_ns K, kt_nl K⟩
  | dct =>
    unfold At at h
    obtain ⟨a, kvs, rfl, e⟩ := h
    exact ⟨_, .dK e, k0_dt K, kt_ds K, kt_dl K⟩
  | tup l =>
    obtain ⟨a, vs, rfl, e, _⟩ := h.tup
    exact ⟨_, .tup e, k0_tt K, kt_ts K, kt_tl K⟩
  | lst l =>
    obtain ⟨a, vs, rfl, e, _⟩ := h.lst
    exact ⟨_, .lst e, k0_lt K, kt_ls K, kt_ll K⟩
/-- things that can be told apart from a text by what they are -/
def flatT : Tr → Bool
  | .int _ => true
  | .str _ => true
  | .bl _ => true
  | .non => true
  | _ => false
def vT : Tr → V
  | .int n => .int n
  | .str s => .str s
  | .bl b => .bl b
  | _ => .non
theorem At.flat {H : Hp} {t : Tr} {v : V} (h : At H t v) (hf : flatT t = true) : v = vT t := by
  cases t with
  | int n => unfold At at h; exact h
  | str n => unfold At at h; exact h
  | bl n => unfold At at h; exact h
  | non => unfold At at h; exact h
  | dct => cases hf
  | tup l => cases hf
  | lst l => cases hf
def strIs (t : Tr) (z : Str) : Bool := match t with
  | .str y => decide (y = z)
  | _ => false
theorem flat_is {t : Tr} (hf : flatT t = true) (z : Str) : scal (vT t) (.str z) = true ∧ decide (vT t = .str z) = strIs t z := by
  cases t with
  | int n => exact ⟨rfl, decide_eq_false (by intro h; cases h)⟩
  | str y =>
    refine ⟨rfl, ?_⟩
    show decide (V.str y = V.str z) = decide (y = z)
    exact decide_eq_decide.mpr ⟨fun h => by injection h, fun h => by rw [h]⟩
  | bl n => exact ⟨rfl, decide_eq_false (by intro h; cases h)⟩
  | non => exact ⟨rfl, decide_eq_false (by intro h; cases h)⟩
  | dct => cases hf
  | tup l => cases hf
  | lst l => cases hf
end L2
namespace L2
open PySem PySem.Spec PyProof.Rows
/-! ### trees of tuples only; lists frozen -/
mutual
def nl : Tr → Bool
  | .lst _ => false
  | .dct => false
  | .tup l => nls l
  | _ => true
def nls : List Tr → Bool
  | [] => true
  | t :: ts => nl t && nls ts
end
mutual
theorem At.keepT {H H' : Hp} (k : ∀ q u, H q = some (.tup u) → H' q = some (.tup u)) : ∀ {t : Tr} {v : V}, nl t = true → At H t v → At H' t v
  | .int n, v, _, h => by unfold At at *; exact h
  | .str n, v, _, h => by unfold At at *; exact h
  | .bl n, v, _, h => by unfold At at *; exact h
  | .non, v, _, h => by unfold At at *; exact h
  | .dct, v, n, h => by unfold nl at n; cases n
  | .lst l, v, n, h => by unfold nl at n; cases n
  | .tup l, v, n, h => by
    unfold nl at n
    unfold At at *
    obtain ⟨a, vs, e, h, z⟩ := h
    exact ⟨a, vs, e, k _ _ h, Ats.keepT k n z⟩
theorem Ats.keepT {H H' : Hp} (k : ∀ q u, H q = some (.tup u) → H' q = some (.tup u)) : ∀ {l : List Tr} {vs : List V}, nls l = true → Ats H l vs → Ats H' l vs
  | [], vs, _, h => by unfold Ats at *; exact h
  | t :: ts, vs, n, h => by
    unfold nls at n
    rw [Bool.and_eq_true] at n
    unfold Ats at *
    obtain ⟨v, ws, e, h, z⟩ := h
    exact ⟨v, ws, e, At.keepT k n.1 h, Ats.keepT k n.2 z⟩
end
theorem nls_of : ∀ {l : List Tr}, (∀ t ∈ l, nl t = true) → nls l = true
  | [], _ => rfl
  | t :: ts, h => by
    unfold nls
    rw [h t (List.mem_cons_self ..), nls_of fun u hu => h u (List.mem_cons_of_mem _ hu)]
    rfl
end L2
namespace L2
open PySem PySem.Spec PyProof.Rows
def g2 (K : PySem.W.Frag) : TG := gTup K 2 (gCons (gName 0) (gCons (gName 1) gNil))
theorem comp_zip2 {K : PySem.W.Frag} {a b p : Addr} {tt : TT} {te : TE} {cs : St} {Q : VK} {H1 : Hp} {xs ys : List V} (Pv : Nat → List V → Hp → Prop) (h0 : Pv 0 [] (upd H1 p (.lst [])))
    (hl : ∀ i zs H, Pv i zs H → SqL K H a xs ∧ SqL K H b ys)
    (hs : ∀ i x y t zs H, xs[i]? = some x → ys[i]? = some y → Pv i zs H → H t = none → tt (some x :: some y :: cs) (upd H t (.tup [x, y])) fun bb H4 => if bb = true then te (some x :: some y :: cs) H4 fun z H5 => H5 p = some (.lst zs) ∧ zs.length < sizeLine ∧ Pv (i + 1) (zs ++ [z]) (upd H5 p (.lst (zs ++ [z]))) else Pv (i + 1) zs H4)
    (hd : ∀ zs H, Pv (min xs.length ys.length) zs H → Q (.ref p) H) : CompWT (fun _ => True) (g2 K) 2 (Itz K a b) p tt te cs Q H1 := by
  refine ⟨fun i m zs H => m = min xs.length ys.length - i ∧ i ≤ min xs.length ys.length ∧ Pv i zs H, ⟨min xs.length ys.length, by simp, Nat.zero_le _, h0⟩, ?_⟩
  rintro i m zs H ⟨rfl, hi, pv⟩
  obtain ⟨q1, q2⟩ := hl i zs H pv
  by_cases hlt : i < min xs.length ys.length
  · have l1 : i < xs.length := by omega
    have l2 : i < ys.length := by omega
    refine .inr ⟨⟨xs, ys, xs[i], ys[i], q1, q2, by simp [l1], by simp [l2]⟩, trivial, Pv (i + 1), fun ys' H' p' => ⟨min xs.length ys.length - (i + 1), by omega, rfl, hlt, p'⟩, fun v H3 y => ?_⟩
    obtain ⟨t, x, y, rfl, ht, rfl, hx, hy⟩ := y
    intro vs0 hv
    match vs0, hv with
    | [w1, w2], _ => exact ⟨t, _, rfl, SqT.of upd_same, rfl, x, _, rfl, y, _, rfl, rfl, ⟨[some x, some y], rfl, rfl⟩, hs i x y t zs H (hx xs q1) (hy ys q2) pv ht⟩
  · have e : i = min xs.length ys.length := by omega
    subst e
    refine .inl ⟨⟨xs, ys, q1, q2, by omega⟩, trivial, hd zs H pv⟩
end L2
/-! ### a set's table: its places rise -/
namespace L2
open PySem
def Rise (xs : Array Nat) : Prop := ∀ (i j : Nat) (a b : Nat), i < j → xs[i]? = some a → xs[j]? = some b → a < b
theorem below_go {xs : Array Nat} {j : Nat} (r : Rise xs) : ∀ (f lo hi : Nat), hi ≤ xs.size → lo ≤ hi → hi - lo ≤ f → (∀ (i a : Nat), i < lo → xs[i]? = some a → a < j) → (∀ (i a : Nat), hi ≤ i → xs[i]? = some a → j ≤ a) →
    SetTable.below.go xs j f lo hi ≤ xs.size ∧ (∀ (i a : Nat), i < SetTable.below.go xs j f lo hi → xs[i]? = some a → a < j) ∧ ∀ (i a : Nat), SetTable.below.go xs j f lo hi ≤ i → xs[i]? = some a → j ≤ a := by
  intro f
  induction f with
  | zero =>
    intro lo hi h1 h2 h3 hl hr
    have e : lo = hi := by omega
    subst e
    exact ⟨h1, hl, hr⟩
  | succ f ih =>
    intro lo hi h1 h2 h3 hl hr
    unfold SetTable.below.go
    by_cases lt : lo < hi
    · rw [if_pos lt]
      have hm : (lo + hi) / 2 < xs.size := by omega
      have em : xs[(lo + hi) / 2]? = some (xs[(lo + hi) / 2]) := Array.getElem?_eq_getElem hm
      have ed : xs.getD ((lo + hi) / 2) j = xs[(lo + hi) / 2] := by simp [Array.getD, hm]
      dsimp only
      rw [ed]
      by_cases c : xs[(lo + hi) / 2] < j
      · rw [if_pos c]
        refine ih _ _ h1 (by omega) (by omega) (fun i a hi' ea => ?_) hr
        rcases Nat.lt_or_ge i ((lo + hi) / 2) with q | q
        · exact Nat.lt_trans (r i _ a _ q ea em) c
        · have e : i = (lo + hi) / 2 := by omega
          subst e
          rw [em] at ea
          cases ea
          exact c
      · rw [if_neg c]
        refine ih _ _ (by omega) (by omega) (by omega) hl (fun i a hi' ea => ?_)
        rcases Nat.lt_or_ge ((lo + hi) / 2) i with q | q
        · have := r _ i _ a q em ea
          omega
        · have e : i = (lo + hi) / 2 := by omega
          subst e
          rw [em] at ea
          cases ea
          omega
    · rw [if_neg lt]
      have e : lo = hi := by omega
      subst e
      exact ⟨h1, hl, hr⟩
theorem below_at {xs : Array Nat} {j : Nat} (r : Rise xs) : SetTable.below xs j ≤ xs.size ∧ (∀ (i a : Nat), i < SetTable.below xs j → xs[i]? = some a → a < j) ∧ ∀ (i a : Nat), SetTable.below xs j ≤ i → xs[i]? = some a → j ≤ a :=
  below_go r _ _ _ (Nat.le_refl _) (Nat.zero_le _) (Nat.le_refl _) (fun i a h => absurd h (Nat.not_lt_zero _)) fun i a h e => by
    have := (Array.getElem?_eq_some_iff.mp e).1
    omega
theorem toList_insertAt {α : Type} (xs : Array α) (p : Nat) (x : α) : (SetTable.insertAt xs p x).toList = xs.toList.take p ++ x :: xs.toList.drop p := by
  unfold SetTable.insertAt
  have : (xs.toList.drop p).take (xs.size - p) = xs.toList.drop p := List.take_of_length_le (by simp)
  simp [this]
theorem rise_iff (xs : Array Nat) : Rise xs ↔ xs.toList.Pairwise (· < ·) := by
  rw [List.pairwise_iff_getElem]
  constructor
  · intro r i j hi hj h
    exact r i j _ _ h (by simp) (by simp)
  · intro r i j a b h ha hb
    obtain ⟨h1, e1⟩ := Array.getElem?_eq_some_iff.mp ha
    obtain ⟨h2, e2⟩ := Array.getElem?_eq_some_iff.mp hb
    have := r i j (by simpa using h1) (by simpa using h2) h
    simpa [e1, e2] using this
/-- a new place put where it belongs -/
theorem rise_insert {xs : Array Nat} {j : Nat} (r : Rise xs) (hn : j ∉ xs.toList) : Rise (SetTable.insertAt xs (SetTable.below xs j) j) := by
  obtain ⟨hp, hl, hr⟩ := below_at (j := j) r
  rw [rise_iff] at r ⊢
  rw [toList_insertAt]
  generalize SetTable.below xs j = p at hp hl hr
  rw [List.pairwise_append]
  refine ⟨r.sublist (List.take_sublist _ _), List.pairwise_cons.mpr ⟨fun b hb => ?_, r.sublist (List.drop_sublist _ _)⟩, fun a ha b hb => ?_⟩
  · obtain ⟨i, hi, e⟩ := List.getElem_of_mem hb
    rw [List.getElem_drop] at e
    have e2 : xs[p + i]? = some b := by rw [← e, ← Array.getElem?_toList]; exact List.getElem?_eq_getElem _
    have := hr (p + i) b (by omega) e2
    have : b ≠ j := fun z => hn (z ▸ List.mem_of_mem_drop hb)
    omega
  · obtain ⟨i, hi, e⟩ := List.getElem_of_mem ha
    rw [List.getElem_take] at e
    have hi' : i < p := by simp at hi; omega
    have e2 : xs[i]? = some a := by rw [← e, ← Array.getElem?_toList]; exact List.getElem?_eq_getElem _
    have lt := hl i a hi' e2
    rcases List.mem_cons.mp hb with z | z
    · rw [z]; exact lt
    · obtain ⟨k, hk, e'⟩ := List.getElem_of_mem z
      rw [List.getElem_drop] at e'
      have e3 : xs[p + k]? = some b := by rw [← e', ← Array.getElem?_toList]; exact List.getElem?_eq_getElem _
      have := hr (p + k) b (by omega) e3
      omega
/-- the first place at or behind slot -/
theorem below_after {xs : Array Nat} {i a : Nat} (r : Rise xs) (h : xs[i]? = some a) : SetTable.below xs (a + 1) = i + 1 := by
  obtain ⟨hp, hl, hr⟩ := below_at (j := a + 1) r
  have hi := (Array.getElem?_eq_some_iff.mp h).1
  rcases Nat.lt_trichotomy (SetTable.below xs (a + 1)) (i + 1) with q | q | q
  · have := hr i a (by omega) h
    omega
  · exact q
  · have lt : i + 1 < xs.size := by omega
    have e := Array.getElem?_eq_getElem lt
    have h1 := hl (i + 1) _ q e
    have h2 := r i (i + 1) a _ (Nat.lt_succ_self _) h e
    omega
theorem below_zero {xs : Array Nat} (r : Rise xs) : SetTable.below xs 0 = 0 := by
  obtain ⟨hp, hl, hr⟩ := below_at (j := 0) r
  rcases Nat.eq_zero_or_pos (SetTable.below xs 0) with q | q
  · exact q
  · have lt : 0 < xs.size := by omega
    have := hl 0 _ q (Array.getElem?_eq_getElem lt)
    omega
end L2
/-! ### adding to a set keeps its places rising, and no dummies -/
namespace L2
open PySem
structure TabOk (L : Bool) (t : SetTable) : Prop where
  rise : Rise t.place
  bare : t.dummies = #[]
  led : t.led = L
theorem below_mem {xs : Array Nat} {j : Nat} (r : Rise xs) (h : j ∈ xs.toList) : xs[SetTable.below xs j]? = some j := by
  obtain ⟨hp, hl, hr⟩ := below_at (j := j) r
  obtain ⟨i, hi, e⟩ := List.getElem_of_mem h
  have e2 : xs[i]? = some j := by rw [← e, ← Array.getElem?_toList]; exact List.getElem?_eq_getElem _
  rcases Nat.lt_trichotomy i (SetTable.below xs j) with q | q | q
  · have := hl i j q e2
    omega
  · rw [← q]; exact e2
  · have hi' := (Array.getElem?_eq_some_iff.mp e2).1
    have lt : SetTable.below xs j < xs.size := by omega
    have e3 := Array.getElem?_eq_getElem lt
    have h1 := hr _ _ (Nat.le_refl _) e3
    have h2 := r _ i _ j q e3 e2
    omega
theorem slot_bare {t : SetTable} {j : Nat} (hb : t.dummies = #[]) : t.slot j ≠ .dummy := by
  unfold SetTable.slot
  have : SetTable.has t.dummies j = false := by rw [hb]; rfl
  dsimp only
  split
  · intro z; cases z
  · rw [this]; intro z; simp at z
theorem slot_empty {t : SetTable} {j : Nat} (r : Rise t.place) (h : t.slot j = .empty) : j ∉ t.place.toList := fun m => by
  unfold SetTable.slot at h
  have := below_mem r m
  simp [this] at h
theorem probe_bare {t : SetTable} {ha : Nat → Int} {h : Int} (hb : t.dummies = #[]) : ∀ (f : Nat) (p : SetTable.Probe) (j : Nat) (d : Option Nat), p.dummy = none → SetTable.probe.go t ha h f p = some (.empty j d) → d = none ∧ t.slot j = .empty := by
  intro f
  induction f with
  | zero => intro p j d _ e; cases e
  | succ f ih =>
    intro p j d hp e
    have adv : (t.advance p).dummy = none := by
      unfold SetTable.advance
      split
      · exact hp
      · exact hp
    unfold SetTable.probe.go at e
    split at e
    · rename_i q
      cases e
      exact ⟨hp, q⟩
    · rename_i q
      exact absurd q (slot_bare hb)
    · split at e
      · cases e
      · exact ih _ j d adv e
theorem range_rise (n : Nat) : Rise (Array.range n) := by
  rw [rise_iff, Array.toList_range]
  exact List.pairwise_lt_range
theorem standIn_ok {L : Bool} {t : SetTable} (o : TabOk L t) (n : Nat) : TabOk L (t.standIn n) := ⟨range_rise n, rfl, o.led⟩
theorem put_ok {L : Bool} {t : SetTable} {j : Nat} (o : TabOk L t) (h : j ∉ t.place.toList) : TabOk L (t.put j).1 := by
  refine ⟨rise_insert o.rise h, ?_, o.led⟩
  have : SetTable.has t.dummies j = false := by rw [o.bare]; rfl
  show (if SetTable.has t.dummies j = true then _ else t.dummies) = #[]
  rw [this, o.bare]
  rfl
theorem lay_ok {L : Bool} {t : SetTable} {es : Array (Int × Value)} {h : Int} {x : Value} (o : TabOk L t) : TabOk L (layNew t es h x).2.1 := by
  unfold layNew
  cases e : t.freeSlot h with
  | none => exact standIn_ok o _
  | some r =>
    obtain ⟨j, d⟩ := r
    have hj : j ∉ t.place.toList := by
      unfold SetTable.freeSlot at e
      split at e
      · rename_i j' d' q
        obtain ⟨hd, hs⟩ := probe_bare o.bare _ _ j' d' rfl q
        subst hd
        cases e
        exact slot_empty o.rise hs
      · cases e
    have k := put_ok o hj
    dsimp only
    unfold SetTable.orStandIn
    split
    · exact k
    · exact standIn_ok k _
theorem live_rise {f : Nat → Option Nat} (n : Nat) : Rise (((List.range n).filterMap fun j => (f j).map (j, ·)).map (·.1)).toArray := by
  rw [rise_iff]
  have e : ((List.range n).filterMap fun j => (f j).map (j, ·)).map (·.1) = (List.range n).filter fun j => (f j).isSome := by
    induction (List.range n) with
    | nil => rfl
    | cons a l ih =>
      rw [List.filterMap_cons, List.filter_cons]
      cases q : f a with
      | none => simpa using ih
      | some v => simpa using ih
  rw [show (((List.range n).filterMap fun j => (f j).map (j, ·)).map (·.1)).toArray.toList = (List.range n).filter fun j => (f j).isSome from e]
  exact List.pairwise_lt_range.sublist List.filter_sublist
theorem relay_ok {L : Bool} {t : SetTable} {es : Array (Int × Value)} {n : Nat} (o : TabOk L t) : TabOk L (relayAll t es n).2.1 := by
  unfold relayAll
  cases e : t.relaid (es.map (·.1)) n with
  | none => exact standIn_ok o _
  | some r =>
    obtain ⟨t', order⟩ := r
    have k : TabOk L t' := by
      unfold SetTable.relaid SetTable.laid at e
      cases q : SetTable.layClean (SetTable.sizeAbove n - 1) (es.map (·.1)) with
      | none => rw [q] at e; cases e
      | some owner =>
        rw [q] at e
        cases e
        exact ⟨live_rise _, rfl, o.led⟩
    dsimp only
    split
    · exact k
    · exact standIn_ok o _
end L2
/-! ### a set by the list of its members, in the order of its table -/
namespace L2
open PySem PyProof.Rows
section
variable {prog : Program} {w : World} {K : Type} [DecidableEq K] (knd : KeyKind prog w K)
def ElOk (k : K) (e : Int × Value) : Prop := knd.is k e.2 = true ∧ e.1 = knd.hash k ∧ e.2.scannable = true
inductive Els : List K → List (Int × Value) → Prop
  | nil : Els [] []
  | cons {k : K} {e : Int × Value} {ks : List K} {es : List (Int × Value)} : ElOk knd k e → Els ks es → Els (k :: ks) (e :: es)
def SetL (h : Heap) (a : Addr) (ks : List K) : Prop :=
  ∃ o es ep t, h.get? a = some o ∧ o.ExactSet ∧ o.data = .set es ep t ∧ Els knd ks es.toList ∧ ks.Nodup ∧ es.size < scanBound ∧ t.fits es.size = true ∧ TabOk (!w.params.followText "set-order") t
variable {knd}
theorem Els.length {ks : List K} {es : List (Int × Value)} (x : Els knd ks es) : ks.length = es.length := by
  induction x with
  | nil => rfl
  | cons _ _ ih => simp [ih]
theorem Els.elems {ks : List K} {es : List (Int × Value)} (x : Els knd ks es) : ElemsOf knd es := by
  induction x with
  | nil => intro e he; cases he
  | @cons k e ks es h _ ih =>
    intro e' he
    rcases List.mem_cons.mp he with z | z
    · subst z; exact ⟨⟨k, h.1, h.2.1⟩, h.2.2⟩
    · exact ih e' z
theorem Els.mem {ks : List K} {es : List (Int × Value)} (x : Els knd ks es) (k : K) : k ∈ ks ↔ ∃ e ∈ es, knd.is k e.2 = true := by
  induction x with
  | nil => simp
  | @cons k' e ks es h _ ih =>
    rw [List.mem_cons, ih]
    constructor
    · rintro (z | ⟨e', he, q⟩)
      · subst z; exact ⟨e, List.mem_cons_self, h.1⟩
      · exact ⟨e', List.mem_cons_of_mem _ he, q⟩
    · rintro ⟨e', he, q⟩
      rcases List.mem_cons.mp he with z | z
      · subst z; exact .inl (knd.inj _ k k' q h.1)
      · exact .inr ⟨e', z, q⟩
theorem Els.perm {es es' : List (Int × Value)} (p : List.Perm es' es) : ∀ {ks : List K}, Els knd ks es → ∃ ks', ks'.Perm ks ∧ Els knd ks' es' := by
  induction p with
  | nil => intro ks x; exact ⟨ks, List.Perm.refl _, x⟩
  | cons e _ ih =>
    intro ks x
    cases x with
    | cons h r =>
      obtain ⟨ks', q, y⟩ := ih r
      exact ⟨_, q.cons _, .cons h y⟩
  | swap e f l =>
    intro ks x
    cases x with
    | cons h r => cases r with
      | cons h' r' => exact ⟨_, List.Perm.swap _ _ _, .cons h' (.cons h r')⟩
  | trans _ _ ih1 ih2 =>
    intro ks x
    obtain ⟨k1, q1, y1⟩ := ih2 x
    obtain ⟨k2, q2, y2⟩ := ih1 y1
    exact ⟨k2, q2.trans q1, y2⟩
theorem SetL.setOf {h : Heap} {a : Addr} {ks : List K} (x : SetL knd h a ks) : h.SetOf knd a (fun k => decide (k ∈ ks)) ks.length := by
  obtain ⟨o, es, ep, t, e, ex, d, el, nd, b, f, ok⟩ := x
  exact ⟨o, es, ep, t, e, ex, d, el.elems, fun k => by rw [decide_eq_true_iff]; exact el.mem k, b, f, by rw [el.length]; simp⟩
theorem SetL.at {h h' : Heap} {a : Addr} {ks : List K} (x : SetL knd h a ks) (k : ∀ o, h.get? a = some o → h'.get? a = some o) : SetL knd h' a ks := by
  obtain ⟨o, es, ep, t, e, r⟩ := x
  exact ⟨o, es, ep, t, k o e, r⟩
variable {A : Around} {E : Value → Shared → Prop} {s : Shared}
theorem store_setL {h : Heap} {a : Addr} {o : Obj} {es es' : Array (Int × Value)} {ep : Nat} {t t' : SetTable} {ks : List K} (ho : h.get? a = some o) (hex : o.ExactSet) (hd : o.data = .set es ep t) (el : Els knd ks es'.toList) (nd : ks.Nodup)
    (hb : es'.size < scanBound) (hf : t'.fits es'.size = true) (ok : TabOk (!w.params.followText "set-order") t') :
    (h.update a (Obj.putSet es' t')).get? a = some { o with data := .set es' (ep + 1) t' } ∧ SetL knd (h.update a (Obj.putSet es' t')) a ks := by
  have g : (h.update a (Obj.putSet es' t')).get? a = some { o with data := .set es' (ep + 1) t' } := by
    have q := Heap.get?_update_self (Obj.putSet es' t') ho (by rw [putSet_of es' t' hd]; rfl)
    rw [putSet_of es' t' hd] at q
    exact q
  exact ⟨g, _, es', ep + 1, t', g, hex, rfl, el, nd, hb, hf, ok⟩
/-- what stands behind the laying of a new element -/
theorem tail_setL {g : Bool → Sem Unit} (hg : ∀ (b : Bool) (s₁ : Shared) (Q' : Unit → Shared → Prop), Q' () s₁ → wpAny (model prog w) A (g b) Q' E s₁) {a : Addr} {o : Obj} {es es1 : Array (Int × Value)} {ep : Nat} {t t2 : SetTable} {ks : List K}
    (ho : s.heap.get? a = some o) (hex : o.ExactSet) (hd : o.data = .set es ep t) (el : Els knd ks es1.toList) (nd : ks.Nodup) (hb : es1.size < scanBound) (hf : t2.fits es1.size = true) (ok : TabOk (!w.params.followText "set-order") t2) {wasDummy : Bool} {R : Option Bool → Shared → Prop}
    (h : ∀ h' ks', Heap.SameBut a s.heap h' → ks'.Perm ks → SetL knd h' a ks' → R (some true) { s with heap := h' }) :
    wpAny (model prog w) A (do
        storeSet a es1 t2
        if (!wasDummy && t2.tooFull) = true then do
            g (relayAll t2 es1 (SetTable.grown es1.size)).2.2
            storeSet a (relayAll t2 es1 (SetTable.grown es1.size)).1 (relayAll t2 es1 (SetTable.grown es1.size)).2.1
            pure (some true)
          else pure (some true)) R E s := by
  obtain ⟨ho1, hS1⟩ := store_setL (knd := knd) ho hex hd el nd hb hf ok
  have sb := Heap.SameBut.update s.heap a (Obj.putSet es1 t2)
  refine wpAny_bind (wpAny_storeSet_of ho hd ?_ (fits_of_scanBound hb))
  split
  · have hp := relayAll_perm t2 es1 (SetTable.grown es1.size)
    have hfr := relayAll_fits t2 es1 (SetTable.grown es1.size)
    have okr : TabOk (!w.params.followText "set-order") (relayAll t2 es1 (SetTable.grown es1.size)).2.1 := relay_ok ok
    generalize relayAll t2 es1 (SetTable.grown es1.size) = Y at hp hfr okr ⊢
    obtain ⟨es2, t3, gv⟩ := Y
    obtain ⟨ks2, q2, el2⟩ := el.perm hp
    have z : es2.size = es1.size := by rw [← Array.length_toList, hp.length_eq, Array.length_toList]
    have hb2 : es2.size < scanBound := by rw [z]; exact hb
    refine wpAny_bind (hg _ _ _ (wpAny_bind (wpAny_storeSet_of ho1 rfl ?_ (fits_of_scanBound hb2))))
    obtain ⟨_, hS2⟩ := store_setL (knd := knd) ho1 hex rfl el2 (q2.nodup_iff.mpr nd) hb2 hfr okr
    exact wpAny_pure (h _ ks2 (sb.trans (Heap.SameBut.update _ a _)) q2 hS2)
  · exact wpAny_pure (h _ ks sb (List.Perm.refl _) hS1)
/-- an element added -/
theorem add_setL {a : Addr} {ks : List K} {k : K} {x : Value} {Q : Bool → Shared → Prop} (hkey : knd.is k x = true) (hsc : x.scannable = true) (hS : SetL knd s.heap a ks) (room : ks.length + 1 < scanBound)
    (h : ∀ b h' ks', Heap.SameBut a s.heap h' → ks'.Perm (if k ∈ ks then ks else ks ++ [k]) → SetL knd h' a ks' → Q b { s with heap := h' }) : wpAny (model prog w) A (setAddHashed a x (knd.hash k)) Q E s := by
  have hS0 := hS
  obtain ⟨o, es, ep, t, ho, hex, hd, el, nd, hb, hf, ok⟩ := hS
  have hel := el.elems
  have hl := el.length
  have hb1 : es.size + 1 < scanBound := by rw [hl] at room; simpa using room
  unfold setAddHashed setAddHashedIn
  refine wpAny_holding (wpAny_bind (wpAny_setState_of ho hd hf ?_))
  dsimp only
  rw [byScan_of hsc hb hel]
  simp only [↓reduceIte]
  unfold setAddByScan
  refine wpAny_bind (wpAny_bind (wpAny_rule (wpAny_bind (wpAny_setScan_of hkey ho hd hf hel ?_))))
  cases hr : List.findIdx? (fun e => knd.is k e.2) es.toList with
  | some j =>
    obtain ⟨hj, hpj, _⟩ := List.findIdx?_eq_some_iff_getElem.mp hr
    have hk : k ∈ ks := (el.mem k).mpr ⟨es.toList[j], List.getElem_mem hj, hpj⟩
    dsimp only
    have e : s = { s with heap := s.heap } := by cases s; rfl
    rw [e]
    exact wpAny_pure (wpAny_pure (h _ s.heap ks (Heap.SameBut.refl a s.heap) (by rw [if_pos hk]) hS0))
  | none =>
    have hk : k ∉ ks := fun m => by
      obtain ⟨e, he, hp⟩ := (el.mem k).mp m
      have q := List.findIdx?_eq_none_iff.mp hr e he
      rw [hp] at q
      cases q
    dsimp only
    have hperm := layNew_perm t es (knd.hash k) x
    have hfits := layNew_fits t es (knd.hash k) x
    have hok : TabOk (!w.params.followText "set-order") (layNew t es (knd.hash k) x).2.1 := lay_ok ok
    generalize layNew t es (knd.hash k) x = Y at hperm hfits hok ⊢
    obtain ⟨es1, t1, wd, gv⟩ := Y
    dsimp only at hperm hfits hok ⊢
    rw [Array.toList_push] at hperm
    have elp : Els knd (ks ++ [k]) (es.toList ++ [(knd.hash k, x)]) := by
      clear hr hperm hS0 hl room h nd hk
      generalize es.toList = l at el
      induction el with
      | nil => exact .cons ⟨hkey, rfl, hsc⟩ .nil
      | cons hh _ ih => exact .cons hh (ih )
    obtain ⟨ks1, q1, el1⟩ := elp.perm hperm
    have nd1 : ks1.Nodup := q1.nodup_iff.mpr (by
      rw [List.nodup_append]
      exact ⟨nd, by simp, fun a ha b hb z => hk (by rw [List.mem_singleton] at hb; rw [← hb, ← z]; exact ha)⟩)
    have hb2 : es1.size < scanBound := by rw [← Array.length_toList, hperm.length_eq, List.length_append, Array.length_toList]; simpa using hb1
    have fin : ∀ h' ks', Heap.SameBut a s.heap h' → ks'.Perm ks1 → SetL knd h' a ks' → Q true { s with heap := h' } := fun h' ks' sb p hs => h true h' ks' sb (by rw [if_neg hk]; exact p.trans q1) hs
    refine wpAny_bind (?_ : wpAny (model prog w) A (match gv with | true => rule "set.scan.the-table-gave-way" | false => pure ()) _ E s)
    have gw : ∀ (b : Bool) (s₁ : Shared) (Q' : Unit → Shared → Prop), Q' () s₁ → wpAny (model prog w) A (match b with | true => rule "set.scan.the-table-gave-way" | false => pure ()) Q' E s₁ := fun b s₁ Q' hq => by
      cases b
      · exact wpAny_pure hq
      · exact wpAny_rule hq
    refine gw _ _ _ ?_
    split
    · refine wpAny_bind ?_
      rw [hashByValue_scannable 8 hsc]
      refine wpAny_pure ?_
      refine tail_setL gw ho hex hd el1 nd1 hb2 ?_ ?_ fun h' ks' sb p hs => ?_
      · split
        · exact hfits
        · exact SetTable.fits_plain_off hfits
      · split
        · exact hok
        · exact ⟨hok.rise, hok.bare, hok.led⟩
      · exact wpAny_pure (fin h' ks' sb p hs)
    · refine wpAny_bind (wpAny_pure ?_)
      simp only [↓reduceIte]
      exact tail_setL gw ho hex hd el1 nd1 hb2 hfits hok fun h' ks' sb p hs => wpAny_pure (fin h' ks' sb p hs)
end
end L2
/-! ### set(a list) -/
namespace L2
open PySem PyProof.Rows
section
variable {prog : Program} {w : World} {K : Type} [DecidableEq K] {knd : KeyKind prog w K}
theorem added {ks ks' : List K} {k : K} (p : ks'.Perm (if k ∈ ks then ks else ks ++ [k])) : (∀ x, x ∈ ks' ↔ x ∈ ks ∨ x = k) ∧ ks'.length ≤ ks.length + 1 := by
  by_cases h : k ∈ ks
  · rw [if_pos h] at p
    exact ⟨fun x => by rw [p.mem_iff]; exact ⟨.inl, fun z => z.elim id fun e => e ▸ h⟩, by rw [p.length_eq]; omega⟩
  · rw [if_neg h] at p
    exact ⟨fun x => by rw [p.mem_iff]; simp, by rw [p.length_eq]; simp⟩
variable {A : Around} {E : Value → Shared → Prop}
theorem fill_loop {R : Result → Shared → Prop} {I : Addr} {fp wr : List Addr} {G : Array GenState → Array GenState → Prop} {n : Nat} {P : Nat → Value → Prop} {St : Nat → Shared → Prop} (W : WalksS prog w A.in1 I fp wr G n P St) (S : Addr) (nS : S ∉ fp)
    (val : Nat → K) (hv : ∀ i v, P i v → knd.is (val i) v = true ∧ v.scannable = true) (hb : n + 1 < scanBound) : ∀ (m i : Nat) (s : Shared) (ks : List K), n - i = m → i ≤ n → St i s → SetL knd s.heap S ks → ks.length ≤ i →
      (∀ s' ks', Moved (S :: wr) G s s' → SetL knd s'.heap S ks' → (∀ x, x ∈ ks' ↔ x ∈ ks ∨ ∃ j, i ≤ j ∧ j < n ∧ x = val j) → R (.ok (.ret .none)) s') → codeAny (model prog w) A (.builtin "set.update.loop" ⟨[.ref S, .ref I], []⟩) R s := by
  have nw : S ∉ wr := fun z => nS (W.sub _ z)
  have up : ∀ b ∈ wr, b ∈ S :: wr := fun b z => List.mem_cons_of_mem _ z
  intro m
  induction m with
  | zero =>
    intro i s ks hm hi st hS _ q
    have e : i = n := by omega
    subst e
    refine codeAny_builtin F.entry_set_update_loop ?_
    rw [Around.under_plainId F.plain_set_update_loop _]
    show wpAny (model prog w) A.in1 (pyNext (.ref I) >>= _) _ _ s
    refine wpAny_bind (W.done s _ _ st fun s' mv => ?_)
    show wpAny (model prog w) A.in1 (ret Value.none) _ _ s'
    exact wpAny_pure (q s' ks (mv.mono up) (hS.at fun o e => mv.heap S o nw e) fun x => ⟨.inl, fun z => z.elim id fun ⟨j, h1, h2, _⟩ => absurd h2 (by omega)⟩)
  | succ m ih =>
    intro i s ks hm hi st hS hl q
    have lt : i < n := by omega
    refine codeAny_builtin F.entry_set_update_loop ?_
    rw [Around.under_plainId F.plain_set_update_loop _]
    show wpAny (model prog w) A.in1 (pyNext (.ref I) >>= _) _ _ s
    refine wpAny_bind (W.item i s _ _ lt st fun v s' hP st' mv => ?_)
    obtain ⟨hk, hsc⟩ := hv i v hP
    have hS1 : SetL knd s'.heap S ks := hS.at fun o e => mv.heap S o nw e
    show wpAny (model prog w) A.in1 (holding [v] (setAdd S v) >>= _) _ _ s'
    refine wpAny_bind (wpAny_holding ?_)
    unfold setAdd
    refine wpAny_holding (wpAny_bind (knd.pyHash (k := val i) hk ?_))
    refine add_setL (knd := knd) (s := { s' with toks := s'.toks + 1 }) hk hsc hS1 (by omega) fun b h' ks' sb p hs => ?_
    obtain ⟨hm', hl'⟩ := added p
    refine wpAny_pure ⟨plainId_quiet F.plain_set_update_loop _, ih (i + 1) _ ks' (by omega) lt (W.frame _ s' _ _ st' (Nat.le_succ _) fun c hc o e => ?_) hs (by omega) fun s'' ks'' mv' hs' hx => ?_⟩
    · rw [sb.2 c fun z : c = S => nS (z ▸ hc)]
      exact e
    · refine q s'' ks'' (Moved.trans W.gtrans ((mv.mono up).then_heap (Nat.le_succ _) fun c o hc e => ?_) mv') hs' fun x => ?_
      · rw [sb.2 c fun z : c = S => hc (by rw [z]; exact List.mem_cons_self)]
        exact e
      · rw [hx, hm']
        constructor
        · rintro ((z | z) | ⟨j, h1, h2, e⟩)
          · exact .inl z
          · exact .inr ⟨i, Nat.le_refl _, lt, z⟩
          · exact .inr ⟨j, by omega, h2, e⟩
        · rintro (z | ⟨j, h1, h2, e⟩)
          · exact .inl (.inl z)
          · rcases Nat.eq_or_lt_of_le h1 with z | z
            · exact .inl (.inr (z ▸ e))
            · exact .inr ⟨j, z, h2, e⟩
variable {s : Shared}
abbrev bareSet (w : World) : Obj := { cls := .type "set", dict := none, data := .set #[] 0 (.fresh 0 0 (!w.params.followText "set-order")) }
theorem bareSet_ok {h : Heap} {a : Addr} (e : h.get? a = some (bareSet w)) : SetL knd h a [] :=
  ⟨_, #[], 0, _, e, ⟨rfl, rfl, rfl⟩, rfl, .nil, .nil, by decide, rfl, ⟨fun i j a b _ h _ => (by cases h), rfl, rfl⟩⟩
theorem new_set1 (a : Value) {Q : Value → Shared → Prop} (q : Q (.ref s.heap.objs.size) { s with heap := s.heap.push (bareSet w) }) : codeAny (model prog w) A (.call (.builtin "set.__new__") ⟨[.type "set", a], []⟩) (wants Q E) s := by
  refine codeAny_of_tree ?_
  show wpAny (model prog w) A.in1 (do checkBuiltinCall "set.__new__" ⟨[.type "set", a], []⟩; again (.builtin "set.__new__" ⟨[.type "set", a], []⟩)) _ _ s
  refine wpAny_bind (wpAny_of_eq (F.newCall_set_1 a) (wpAny_pure ⟨plainId_quiet F.plain_set_new _, codeAny_builtin F.entry_set_new ?_⟩))
  rw [Around.under_plainId F.plain_set_new _]
  unfold Builtin.«set.__new__» Builtin.Frozenset.newClass
  have hsub := sub_set_self
  obtain ⟨hp, g, d, tk, os⟩ := s
  dsimp only
  wp_walk
  refine wpAny_askSetting (wpAny_pure ?_)
  dsimp only
  simp only [newObj]
  refine wpAny_bind (wpAny_alloc (wpAny_pure ?_))
  exact wpAny_pure q
set_option maxHeartbeats 3200000 in
/-- set(l) -/
theorem call_setL {l : Addr} {items : Array Value} {Q : Value → Shared → Prop} (hh : A.handled = none) (hl : s.heap.IsList l items) (val : Nat → K) (hv : ∀ (i : Nat) (v : Value), items[i]? = some v → knd.is (val i) v = true ∧ v.scannable = true) (hb : items.size + 1 < scanBound)
    (q : ∀ (h' : Heap) (tk : Nat) (ks : List K), SetL knd h' s.heap.objs.size ks → (∀ x, x ∈ ks ↔ ∃ j, j < items.size ∧ x = val j) → (∀ b o, b < s.heap.objs.size → s.heap.get? b = some o → h'.get? b = some o) → Q (.ref s.heap.objs.size) { s with heap := h', toks := tk }) :
    wpAny (model prog w) A (call (.type "set") [.ref l]) Q E s := by
  obtain ⟨c, tl, hmro⟩ := F.called_set.mro
  have hmade := F.called_set.made
  have hsub := F.called_set.sub
  refine wpAny_call (codeAny_of_tree ?_)
  show wpAny (model prog w) _ (callAny (.type "set") _) _ _ _
  refine wpAny_pure ⟨Code.quiet_builtin _ (by decide +kernel), codeAny_builtin F.entry_type_call ?_⟩
  rw [Around.under_plain (weight_type_call_type "set" [.ref l] []) rfl]
  have h1 := F.called_set.notType
  have h2 := F.called_set.canCreate
  have hct := F.typeCall_set_1 (.ref l)
  repeat (any_goals (first | assumption | wp_step))
  refine codeAny_mono (new_set1 (.ref l) (E := E) (Q := fun ob s₁ => ob = .ref s.heap.objs.size ∧ s₁ = { s with heap := s.heap.push (bareSet w) }) ⟨rfl, rfl⟩) fun r s₁ hr => ?_
  cases r with
  | error e => exact hr
  | ok fl =>
    cases fl with
    | ret ob =>
      obtain ⟨rfl, rfl⟩ := hr
      have hS : (s.heap.push (bareSet w)).get? s.heap.objs.size = some (bareSet w) := Heap.get?_push_size _ rfl
      have hT : Shared.TypeIs { s with heap := s.heap.push (bareSet w) } (.ref s.heap.objs.size) "set" := ⟨_, hS, rfl⟩
      have hli := F.called_set.init.lookup
      have hbi := F.called_set.init.bind (.ref s.heap.objs.size)
      repeat (any_goals (first | assumption | wp_step))
      refine codeAny_mono (codeAny_call_builtin (R := wants (fun r s₂ => r = .none ∧ ∃ h' tk ks, s₂ = { s with heap := h', toks := tk } ∧ SetL knd h' s.heap.objs.size ks ∧ (∀ x, x ∈ ks ↔ ∃ j, j < items.size ∧ x = val j) ∧ (∀ b o, b < s.heap.objs.size → s.heap.get? b = some o → h'.get? b = some o)) E)
        F.called_set.init.plain F.entry_set_init (check_set_init_1 hT ?_)) fun r₂ s₂ hr₂ => ?_
      · obtain ⟨ol, hol, hcl, nl, hdl⟩ := hl
        obtain ⟨ocls, odict, odata, oslots⟩ := ol
        simp only at hcl hdl
        subst hcl hdl
        have hol' : (s.heap.push (bareSet w)).get? l = some { cls := .type "list", dict := odict, data := .seq items nl, slots := oslots } := Heap.get?_push_of_some _ hol
        have hsls := F.sub_list_set
        have hslf := F.sub_list_frozenset
        have hne : (Value.type "list" == Value.type "dict") = false := by decide
        have hl1 : (s.heap.push (bareSet w)).IsList l items := ⟨_, hol', rfl, nl, rfl⟩
        unfold Builtin.«set.__init__» noKeywords Builtin.Frozenset.updateFrom
        generalize hPI : pyIter = PI
        wp_walk
        subst hPI
        refine wpAny_pyIter_list hl1 (wpAny_bind (wpAny_runValue ?_))
        have hlS : l < s.heap.objs.size := Heap.lt_size hol
        have hh3 : A.in1.in1.in1.handled = none := by simp [hh]
        have hneI : l ≠ (s.heap.push (bareSet w)).objs.size := by
          rw [Heap.size_push]
          exact Nat.ne_of_lt (Nat.lt_succ_of_lt hlS)
        have hSf : s.heap.objs.size ∉ [(s.heap.push (bareSet w)).objs.size, l] := by
          rw [Heap.size_push]
          simp only [List.mem_cons, List.mem_singleton, List.not_mem_nil, or_false, not_or]
          exact ⟨Nat.ne_of_lt (Nat.lt_succ_self _), Nat.ne_of_gt hlS⟩
        refine fill_loop (knd := knd) ((Walks.list hh3 _ l hneI items).toS) s.heap.objs.size hSf val hv hb (items.size - 0) 0 _ [] (by omega) (Nat.zero_le _) ⟨⟨_, Heap.get?_push_size _ rfl, rfl, rfl⟩, hl1.push _⟩
          (bareSet_ok (Heap.get?_push_of_some _ hS)) (Nat.le_refl _) fun s' ks' mv hs hx => ?_
        obtain ⟨h', g', d', tk', os'⟩ := s'
        have eg : g' = s.gens := mv.gens
        have ed : d' = s.drawn := mv.drawn
        have eo : os' = s.os := mv.os
        subst eg ed eo
        show wpAny (model prog w) _ _ _ _ _
        refine wpAny_pure ?_
        show wpAny (model prog w) _ (ret Value.none) _ _ _
        refine wpAny_pure ⟨rfl, h', tk', ks', rfl, hs, fun x => ?_, fun b o hb e => ?_⟩
        · rw [hx]
          constructor
          · rintro (z | ⟨j, _, h2, e⟩)
            · cases z
            · exact ⟨j, h2, e⟩
          · rintro ⟨j, h2, e⟩
            exact .inr ⟨j, Nat.zero_le _, h2, e⟩
        · have hb1 : b ≠ s.heap.objs.size := Nat.ne_of_lt hb
          have hb2 : b ≠ (s.heap.push (bareSet w)).objs.size := by
            rw [Heap.size_push]
            exact Nat.ne_of_lt (Nat.lt_succ_of_lt hb)
          exact mv.heap b o (by simp only [List.mem_cons, List.mem_singleton, List.not_mem_nil, or_false, not_or]; exact ⟨hb1, hb2⟩) (Heap.get?_push_of_some _ (Heap.get?_push_of_some _ e))
      · cases r₂ with
        | error e => exact hr₂
        | ok fl₂ =>
          cases fl₂ with
          | ret r =>
            obtain ⟨rfl, h', tk, ks, rfl, hs, hx, hk'⟩ := hr₂
            repeat (any_goals (first | assumption | wp_step))
            exact q _ _ _ hs hx hk'
          | _ => exact hr₂.elim
    | _ => exact hr.elim
end
end L2
/-! ### a set walked -/
namespace L2
open PySem PyProof.Rows
theorem sl_setit_next : Slot "set_iterator" "__next__" "set_iterator.__next__" :=
  .of (owner := "set_iterator") (n := "__next__") (by rw [typeLookup_type, builtinLookup_eq_fast]; kernel_rfl) (by decide +kernel) (by decide +kernel) (by decide +kernel) (by first | exact .inl (by decide +kernel) | exact .inr (by decide +kernel)) (by rw [isSubtype_type]; kernel_rfl)
theorem en_setit_next : entryFor table "set_iterator.__next__" = some Builtin.«set_iterator.__next__» := entryFor_of_tree (by kernel_rfl)
theorem ar_setit_next (a : Value) : argsOk "set_iterator.__next__" ⟨[a], []⟩ := by unfold argsOk; kernel_rfl
theorem en_set_iter : entryFor table "set.__iter__" = some Builtin.«frozenset.__iter__» :=
  entryFor_alias (id' := "frozenset.__iter__") (by kernel_rfl) rfl (by decide +kernel) (by kernel_rfl)
/-- the iterator's record -/
abbrev SetIt (h : Heap) (it a : Addr) (f : Value) (i n ep : Nat) : Prop :=
  h.get? it = some { cls := .type "set_iterator", dict := none, data := .fields #[f, .int i 0, .ref a, .int n 0, .int ep 0], slots := #[] }
section
variable {prog : Program} {w : World} {A : Around} {E : Value → Shared → Prop} {s : Shared}
/-- one turn by the table's places -/
theorem setit_item {it a : Addr} {o : Obj} {es : Array (Int × Value)} {ep sl i j : Nat} {t : SetTable} {x : Int × Value} {Q : Option Value → Shared → Prop} (hne : a ≠ it) (hi : SetIt s.heap it a (.int sl 0) i es.size ep) (ho : s.heap.get? a = some o) (hd : o.data = .set es ep t) (hf : t.fits es.size = true)
    (hb : w.params.followText "set-order" = false) (hpl : t.plain = true ∨ es.size ≤ 1) (hled : t.led = true) (hbl : SetTable.below t.place sl = i) (hx : es[i]? = some x) (hj : t.place[i]? = some j)
    (q : ∀ g, SetIt g it a (.int ((j + 1 : Nat) : Int) 0) (i + 1) es.size ep → Heap.SameBut it s.heap g → Q (some x.2) { s with heap := g }) : wpAny (model prog w) A (pyNext (.ref it)) Q E s := by
  have T : s.TypeIs (.ref it) "set_iterator" := ⟨_, hi, rfl⟩
  unfold pyNext
  refine wpAny_bind (wpAny_attempt (wpAny_callSpecial?_slot (name := Str.ofString "__next__") T sl_setit_next (wpAny_call_entry sl_setit_next T en_setit_next ?_ (ar_setit_next _))))
  unfold Builtin.«set_iterator.__next__»
  refine wpAny_bind (m := slotArgs "__next__" 0 _) (wpAny_pure ?_)
  refine wpAny_bind (wpAny_fieldsOf hi rfl ?_)
  dsimp only
  unfold setEntries
  refine wpAny_bind (wpAny_bind (wpAny_setState_of ho hd hf (wpAny_pure ?_)))
  rw [if_neg (by simp)]
  unfold setNext
  refine wpAny_bind (wpAny_bind (wpAny_setState_of ho hd hf ?_))
  unfold setsByText
  refine wpAny_bind (wpAny_bind (wpAny_askSetting (wpAny_pure ?_)))
  show wpAny (model prog w) _ (if w.params.followText "set-order" = true then _ else _) _ _ s
  rw [hb, if_neg Bool.false_ne_true]
  have nd : (!t.plain && decide (es.size > 1)) = false := by
    rcases hpl with z | z
    · rw [z]; rfl
    · rw [decide_eq_false (Nat.not_lt.mpr z), Bool.and_false]
  show wpAny (model prog w) _ (if (!t.plain && decide (es.size > 1)) = true then _ else _) _ _ s
  rw [nd, if_neg Bool.false_ne_true]
  show wpAny (model prog w) _ ((if (!t.led && !es.isEmpty) = true then unsupported "set:maker-not-led" else pure ()) >>= _) _ _ s
  rw [hled]
  refine wpAny_bind (wpAny_pure (wpAny_pure ?_))
  have e1 : SetTable.below t.place ((sl : Int)).toNat = i := by rw [Int.toNat_natCast]; exact hbl
  rw [e1, hx, hj]
  refine wpAny_bind (wpAny_setField_rec hi (by simp) fun g1 i1 s1 => ?_)
  replace i1 : SetIt g1 it a (.int ((j + 1 : Nat) : Int) 0) i es.size ep := i1
  refine wpAny_bind (wpAny_setField_rec i1 (by simp) fun g2 i2 s2 => ?_)
  exact wpAny_pure ⟨_, rfl, wpAny_pure (q g2 i2 (s1.trans s2))⟩
/-- no more by the table's places -/
theorem setit_end {it a : Addr} {o : Obj} {es : Array (Int × Value)} {ep sl : Nat} {t : SetTable} {Q : Option Value → Shared → Prop} (hh : A.handled = none) (hi : SetIt s.heap it a (.int sl 0) es.size es.size ep) (ho : s.heap.get? a = some o) (hd : o.data = .set es ep t) (hf : t.fits es.size = true)
    (hb : w.params.followText "set-order" = false) (hpl : t.plain = true ∨ es.size ≤ 1) (hled : t.led = true) (hbl : SetTable.below t.place sl = es.size)
    (q : ∀ g, Heap.ExtBut it s.heap g → Q none { s with heap := g }) : wpAny (model prog w) A (pyNext (.ref it)) Q E s := by
  have T : s.TypeIs (.ref it) "set_iterator" := ⟨_, hi, rfl⟩
  unfold pyNext
  refine wpAny_bind (wpAny_attempt (wpAny_callSpecial?_slot (name := Str.ofString "__next__") T sl_setit_next (wpAny_call_entry sl_setit_next T en_setit_next ?_ (ar_setit_next _))))
  unfold Builtin.«set_iterator.__next__»
  refine wpAny_bind (m := slotArgs "__next__" 0 _) (wpAny_pure ?_)
  refine wpAny_bind (wpAny_fieldsOf hi rfl ?_)
  dsimp only
  unfold setEntries
  refine wpAny_bind (wpAny_bind (wpAny_setState_of ho hd hf (wpAny_pure ?_)))
  rw [if_neg (by simp)]
  unfold setNext
  refine wpAny_bind (wpAny_bind (wpAny_setState_of ho hd hf ?_))
  unfold setsByText
  refine wpAny_bind (wpAny_bind (wpAny_askSetting (wpAny_pure ?_)))
  show wpAny (model prog w) _ (if w.params.followText "set-order" = true then _ else _) _ _ s
  rw [hb, if_neg Bool.false_ne_true]
  have nd : (!t.plain && decide (es.size > 1)) = false := by
    rcases hpl with z | z
    · rw [z]; rfl
    · rw [decide_eq_false (Nat.not_lt.mpr z), Bool.and_false]
  show wpAny (model prog w) _ (if (!t.plain && decide (es.size > 1)) = true then _ else _) _ _ s
  rw [nd, if_neg Bool.false_ne_true]
  show wpAny (model prog w) _ ((if (!t.led && !es.isEmpty) = true then unsupported "set:maker-not-led" else pure ()) >>= _) _ _ s
  rw [hled]
  refine wpAny_bind (wpAny_pure (wpAny_pure ?_))
  have e1 : SetTable.below t.place ((sl : Int)).toNat = es.size := by rw [Int.toNat_natCast]; exact hbl
  rw [e1, show es[es.size]? = none by simp]
  refine wpAny_bind (wpAny_setField_rec hi (by simp) fun g1 i1 s1 => ?_)
  refine wpAny_bind ?_
  simp only [newExc, newTuple]
  refine wpAny_bind (wpAny_newObj_type ?_ (by size_fits))
  refine wpAny_bind (m := firstArgMember _ _) (wpAny_of_eq (a := Value.none) (by simp only [firstArgMember]; rfl) ?_)
  refine wpAny_newObj_type ?_ (by size_fits)
  simp only [raiseNew]
  refine wpAny_bind (wpAny_handled ?_)
  rw [show A.in1.handled = none from hh]
  refine wpAny_bind (wpAny_pure (wpAny_throw ?_))
  refine wpAny_bind (wpAny_isInstance (T := "StopIteration") (b := true) ⟨_, Heap.get?_push_size _ rfl, rfl⟩ isSubtype_stop ?_)
  exact wpAny_pure (q _ ((s1.extBut.push _).push _))
end
end L2
namespace L2
open PySem PyProof.Rows
theorem erase_perm {α : Type} : ∀ (l : List α) (i : Nat) (h : i < l.length), (l[i] :: l.eraseIdx i).Perm l
  | a :: l, 0, _ => List.Perm.refl _
  | a :: l, i + 1, h => by
    have h' : i < l.length := by simpa using h
    rw [List.eraseIdx_cons_succ, List.getElem_cons_succ]
    exact (List.Perm.swap _ _ _).trans ((erase_perm l i h').cons a)
theorem pick_go {α : Type} (next : Nat → Nat) : ∀ (f k : Nat) (left : List α) (out : Array α), left.length = f → (pickOrder.go next f k left out).toList.Perm (out.toList ++ left) := by
  intro f
  induction f with
  | zero =>
    intro k left out h
    have e : left = [] := List.length_eq_zero_iff.mp h
    subst e
    unfold pickOrder.go
    simp
  | succ f ih =>
    intro k left out h
    unfold pickOrder.go
    have lt : next k % left.length < left.length := Nat.mod_lt _ (by omega)
    rw [List.getElem?_eq_getElem lt]
    dsimp only
    refine (ih (k + 1) _ _ (by rw [List.length_eraseIdx_of_lt lt]; omega)).trans ?_
    rw [Array.toList_push, List.append_assoc]
    refine List.Perm.append_left _ ?_
    exact erase_perm left _ lt
theorem pick_perm {α : Type} (next : Nat → Nat) (xs : Array α) : (pickOrder next xs).toList.Perm xs.toList := by
  have := pick_go next xs.size 0 xs.toList #[] (by simp)
  simpa [pickOrder] using this
section
variable {prog : Program} {w : World} {A : Around} {E : Value → Shared → Prop} {s : Shared}
/-- one turn by the text's order -/
theorem settx_item {it a : Addr} {o : Obj} {es : Array (Int × Value)} {ep sl i : Nat} {t : SetTable} {x : Int × Value} {Q : Option Value → Shared → Prop} (hi : SetIt s.heap it a (.int sl 0) i es.size ep) (ho : s.heap.get? a = some o) (hd : o.data = .set es ep t) (hf : t.fits es.size = true)
    (hb : w.params.followText "set-order" = true) (hx : (pickOrder (w.params.setOrder a ep) es)[i]? = some x)
    (q : ∀ g, SetIt g it a (.int sl 0) (i + 1) es.size ep → Heap.SameBut it s.heap g → Q (some x.2) { s with heap := g }) : wpAny (model prog w) A (pyNext (.ref it)) Q E s := by
  have T : s.TypeIs (.ref it) "set_iterator" := ⟨_, hi, rfl⟩
  unfold pyNext
  refine wpAny_bind (wpAny_attempt (wpAny_callSpecial?_slot (name := Str.ofString "__next__") T sl_setit_next (wpAny_call_entry sl_setit_next T en_setit_next ?_ (ar_setit_next _))))
  unfold Builtin.«set_iterator.__next__»
  refine wpAny_bind (m := slotArgs "__next__" 0 _) (wpAny_pure ?_)
  refine wpAny_bind (wpAny_fieldsOf hi rfl ?_)
  dsimp only
  unfold setEntries
  refine wpAny_bind (wpAny_bind (wpAny_setState_of ho hd hf (wpAny_pure ?_)))
  rw [if_neg (by simp)]
  unfold setNext
  refine wpAny_bind (wpAny_bind (wpAny_setState_of ho hd hf ?_))
  unfold setsByText
  refine wpAny_bind (wpAny_bind (wpAny_askSetting (wpAny_pure ?_)))
  show wpAny (model prog w) _ (if w.params.followText "set-order" = true then _ else _) _ _ s
  rw [hb, if_pos rfl]
  dsimp only
  rw [if_neg (by simp)]
  unfold setWalk setsByText
  refine wpAny_bind (wpAny_bind (wpAny_setState_of ho hd hf ?_))
  refine wpAny_bind (wpAny_bind (wpAny_askSetting (wpAny_pure ?_)))
  show wpAny (model prog w) _ (if w.params.followText "set-order" = true then _ else _) _ _ s
  rw [hb, if_pos rfl]
  refine wpAny_bind (wpAny_askSetting (wpAny_pure (wpAny_pure ?_)))
  have e1 : (pickOrder (w.params.setOrder a ep) es)[((i : Int)).toNat]? = some x := by rw [Int.toNat_natCast]; exact hx
  show wpAny (model prog w) _ (match ((pickOrder (w.params.setOrder a ep) es)[((i : Int)).toNat]?).map (fun e => (e.2, ((sl : Int)).toNat)) with | some (x, next) => _ | none => _) _ _ s
  rw [e1]
  refine wpAny_bind (wpAny_setField_rec hi (by simp) fun g1 i1 s1 => ?_)
  replace i1 : SetIt g1 it a (.int sl 0) i es.size ep := i1
  refine wpAny_bind (wpAny_setField_rec i1 (by simp) fun g2 i2 s2 => ?_)
  exact wpAny_pure ⟨_, rfl, wpAny_pure (q g2 i2 (s1.trans s2))⟩
theorem settx_end {it a : Addr} {o : Obj} {es : Array (Int × Value)} {ep sl : Nat} {t : SetTable} {Q : Option Value → Shared → Prop} (hh : A.handled = none) (hi : SetIt s.heap it a (.int sl 0) es.size es.size ep) (ho : s.heap.get? a = some o) (hd : o.data = .set es ep t) (hf : t.fits es.size = true)
    (hb : w.params.followText "set-order" = true) (q : ∀ g, Heap.ExtBut it s.heap g → Q none { s with heap := g }) : wpAny (model prog w) A (pyNext (.ref it)) Q E s := by
  have T : s.TypeIs (.ref it) "set_iterator" := ⟨_, hi, rfl⟩
  unfold pyNext
  refine wpAny_bind (wpAny_attempt (wpAny_callSpecial?_slot (name := Str.ofString "__next__") T sl_setit_next (wpAny_call_entry sl_setit_next T en_setit_next ?_ (ar_setit_next _))))
  unfold Builtin.«set_iterator.__next__»
  refine wpAny_bind (m := slotArgs "__next__" 0 _) (wpAny_pure ?_)
  refine wpAny_bind (wpAny_fieldsOf hi rfl ?_)
  dsimp only
  unfold setEntries
  refine wpAny_bind (wpAny_bind (wpAny_setState_of ho hd hf (wpAny_pure ?_)))
  rw [if_neg (by simp)]
  unfold setNext
  refine wpAny_bind (wpAny_bind (wpAny_setState_of ho hd hf ?_))
  unfold setsByText
  refine wpAny_bind (wpAny_bind (wpAny_askSetting (wpAny_pure ?_)))
  show wpAny (model prog w) _ (if w.params.followText "set-order" = true then _ else _) _ _ s
  rw [hb, if_pos rfl]
  dsimp only
  rw [if_neg (by simp)]
  unfold setWalk setsByText
  refine wpAny_bind (wpAny_bind (wpAny_setState_of ho hd hf ?_))
  refine wpAny_bind (wpAny_bind (wpAny_askSetting (wpAny_pure ?_)))
  show wpAny (model prog w) _ (if w.params.followText "set-order" = true then _ else _) _ _ s
  rw [hb, if_pos rfl]
  refine wpAny_bind (wpAny_askSetting (wpAny_pure (wpAny_pure ?_)))
  have z : (pickOrder (w.params.setOrder a ep) es).size = es.size := by rw [← Array.length_toList, (pick_perm _ es).length_eq, Array.length_toList]
  have e1 : (pickOrder (w.params.setOrder a ep) es)[((es.size : Nat) : Int).toNat]? = none := by rw [Int.toNat_natCast, ← z]; simp
  show wpAny (model prog w) _ (match ((pickOrder (w.params.setOrder a ep) es)[((es.size : Nat) : Int).toNat]?).map (fun e => (e.2, ((sl : Int)).toNat)) with | some (x, next) => _ | none => _) _ _ s
  rw [e1]
  refine wpAny_bind (wpAny_setField_rec hi (by simp) fun g1 i1 s1 => ?_)
  refine wpAny_bind ?_
  simp only [newExc, newTuple]
  refine wpAny_bind (wpAny_newObj_type ?_ (by size_fits))
  refine wpAny_bind (m := firstArgMember _ _) (wpAny_of_eq (a := Value.none) (by simp only [firstArgMember]; rfl) ?_)
  refine wpAny_newObj_type ?_ (by size_fits)
  simp only [raiseNew]
  refine wpAny_bind (wpAny_handled ?_)
  rw [show A.in1.handled = none from hh]
  refine wpAny_bind (wpAny_pure (wpAny_throw ?_))
  refine wpAny_bind (wpAny_isInstance (T := "StopIteration") (b := true) ⟨_, Heap.get?_push_size _ rfl, rfl⟩ isSubtype_stop ?_)
  exact wpAny_pure (q _ ((s1.extBut.push _).push _))
end
end L2
namespace L2
open PySem PyProof.Rows
section
variable {prog : Program} {w : World} {A : Around} {E : Value → Shared → Prop} {s : Shared}
theorem wpAny_choose' {src : Source} {n : Nat} {Q : Nat → Shared → Prop} (hn : n ≠ 0) (q : ∀ i d, i < n → Q i { s with drawn := d }) : wpAny (model prog w) A (choose src n) Q E s := fun Γ p _ => by
  unfold choose
  rw [Sem.wp_choose]
  exact ⟨hn, q _ _ (Nat.mod_lt _ (Nat.pos_of_ne_zero hn))⟩
theorem draw_order {α : Type} : ∀ (n : Nat) (xs : List α) (s : Shared) (Q : List α → Shared → Prop), xs.length = n → (∀ ys d, ys.Perm xs → Q ys { s with drawn := d }) → wpAny (model prog w) A (drawOrder n xs) Q E s := by
  intro n
  induction n with
  | zero =>
    intro xs s Q h q
    have e : xs = [] := List.length_eq_zero_iff.mp h
    subst e
    unfold drawOrder
    have := q [] s.drawn (List.Perm.refl _)
    exact wpAny_pure this
  | succ n ih =>
    intro xs s Q h q
    cases xs with
    | nil => cases h
    | cons x xs =>
      unfold drawOrder
      refine wpAny_bind (wpAny_choose' (by simp) fun i d hi => ?_)
      rw [List.getElem?_eq_getElem hi]
      refine wpAny_bind (ih _ _ _ (by rw [List.length_eraseIdx_of_lt hi]; omega) fun ys d' p => wpAny_pure ?_)
      exact q _ d' ((p.cons _).trans (erase_perm _ _ hi))
/-- one turn by a drawn order -/
theorem setdr_item {it a T : Addr} {o ot : Obj} {es : Array (Int × Value)} {ep i p m : Nat} {t : SetTable} {us : Array Value} {tk : Tok} {x : Int × Value} {Q : Option Value → Shared → Prop} (hi : SetIt s.heap it a (.ref T) i es.size ep) (hT : s.heap.get? T = some ot) (ht : ot.data = .seq us m) (hu : us[i]? = some (.int p tk))
    (ho : s.heap.get? a = some o) (hd : o.data = .set es ep t) (hf : t.fits es.size = true) (hx : es[p]? = some x)
    (q : ∀ g, SetIt g it a (.ref T) (i + 1) es.size ep → Heap.SameBut it s.heap g → Q (some x.2) { s with heap := g }) : wpAny (model prog w) A (pyNext (.ref it)) Q E s := by
  have Ti : s.TypeIs (.ref it) "set_iterator" := ⟨_, hi, rfl⟩
  unfold pyNext
  refine wpAny_bind (wpAny_attempt (wpAny_callSpecial?_slot (name := Str.ofString "__next__") Ti sl_setit_next (wpAny_call_entry sl_setit_next Ti en_setit_next ?_ (ar_setit_next _))))
  unfold Builtin.«set_iterator.__next__»
  refine wpAny_bind (m := slotArgs "__next__" 0 _) (wpAny_pure ?_)
  refine wpAny_bind (wpAny_fieldsOf hi rfl ?_)
  dsimp only
  unfold setEntries
  refine wpAny_bind (wpAny_bind (wpAny_setState_of ho hd hf (wpAny_pure ?_)))
  rw [if_neg (by simp)]
  refine wpAny_bind (wpAny_seqItems hT ht ?_)
  have e1 : us[((i : Int)).toNat]? = some (.int p tk) := by rw [Int.toNat_natCast]; exact hu
  dsimp only
  rw [e1]
  dsimp only
  unfold setNextDrawn
  refine wpAny_bind (wpAny_bind (wpAny_setState_of ho hd hf ?_))
  dsimp only
  rw [if_neg (by simp)]
  have e2 : es[((p : Int)).toNat]? = some x := by rw [Int.toNat_natCast]; exact hx
  rw [e2]
  refine wpAny_pure ?_
  refine wpAny_bind (wpAny_setField_rec hi (by simp) fun g2 i2 s2 => ?_)
  exact wpAny_pure ⟨_, rfl, wpAny_pure (q g2 i2 s2)⟩
theorem setdr_end {it a T : Addr} {o ot : Obj} {es : Array (Int × Value)} {ep m : Nat} {t : SetTable} {us : Array Value} {Q : Option Value → Shared → Prop} (hh : A.handled = none) (hi : SetIt s.heap it a (.ref T) es.size es.size ep) (hT : s.heap.get? T = some ot) (ht : ot.data = .seq us m) (hu : us.size = es.size)
    (ho : s.heap.get? a = some o) (hd : o.data = .set es ep t) (hf : t.fits es.size = true) (q : ∀ g, Heap.ExtBut it s.heap g → Q none { s with heap := g }) : wpAny (model prog w) A (pyNext (.ref it)) Q E s := by
  have Ti : s.TypeIs (.ref it) "set_iterator" := ⟨_, hi, rfl⟩
  unfold pyNext
  refine wpAny_bind (wpAny_attempt (wpAny_callSpecial?_slot (name := Str.ofString "__next__") Ti sl_setit_next (wpAny_call_entry sl_setit_next Ti en_setit_next ?_ (ar_setit_next _))))
  unfold Builtin.«set_iterator.__next__»
  refine wpAny_bind (m := slotArgs "__next__" 0 _) (wpAny_pure ?_)
  refine wpAny_bind (wpAny_fieldsOf hi rfl ?_)
  dsimp only
  unfold setEntries
  refine wpAny_bind (wpAny_bind (wpAny_setState_of ho hd hf (wpAny_pure ?_)))
  rw [if_neg (by simp)]
  refine wpAny_bind (wpAny_seqItems hT ht ?_)
  have e1 : us[((es.size : Nat) : Int).toNat]? = none := by rw [Int.toNat_natCast, ← hu]; simp
  dsimp only
  rw [e1]
  refine wpAny_bind (wpAny_setField_rec hi (by simp) fun g0 i0 s0 => ?_)
  refine wpAny_bind (wpAny_setField_rec i0 (by simp) fun g1 i1 s1 => ?_)
  refine wpAny_bind ?_
  simp only [newExc, newTuple]
  refine wpAny_bind (wpAny_newObj_type ?_ (by size_fits))
  refine wpAny_bind (m := firstArgMember _ _) (wpAny_of_eq (a := Value.none) (by simp only [firstArgMember]; rfl) ?_)
  refine wpAny_newObj_type ?_ (by size_fits)
  simp only [raiseNew]
  refine wpAny_bind (wpAny_handled ?_)
  rw [show A.in1.handled = none from hh]
  refine wpAny_bind (wpAny_pure (wpAny_throw ?_))
  refine wpAny_bind (wpAny_isInstance (T := "StopIteration") (b := true) ⟨_, Heap.get?_push_size _ rfl, rfl⟩ isSubtype_stop ?_)
  exact wpAny_pure (q _ (((s0.trans s1).extBut.push _).push _))
end
end L2
namespace L2
open PySem PyProof.Rows
theorem sl_setit_iter : Slot "set_iterator" "__iter__" "set_iterator.__iter__" :=
  .of (owner := "set_iterator") (n := "__iter__") (by rw [typeLookup_type, builtinLookup_eq_fast]; kernel_rfl) (by decide +kernel) (by decide +kernel) (by decide +kernel) (by first | exact .inl (by decide +kernel) | exact .inr (by decide +kernel)) (by rw [isSubtype_type]; kernel_rfl)
theorem en_setit_iter : entryFor table "set_iterator.__iter__" = some Builtin.«dict_keyiterator.__iter__» :=
  entryFor_alias (id' := "dict_keyiterator.__iter__") (by kernel_rfl) (by first | rfl | decide +kernel | (unfold String.splitOn; simp +decide [String.splitOnAux])) (by decide +kernel) (by kernel_rfl)
theorem ar_setit_iter (a : Value) : argsOk "set_iterator.__iter__" ⟨[a], []⟩ := by unfold argsOk; kernel_rfl
section
variable {prog : Program} {w : World} {A : Around} {E : Value → Shared → Prop} {s : Shared}
theorem setit_self {it a : Addr} {f : Value} {i n ep : Nat} {Q : Value → Shared → Prop} (h : SetIt s.heap it a f i n ep) (q : Q (.ref it) s) : wpAny (model prog w) A (pyIter (.ref it)) Q E s := by
  have T : s.TypeIs (.ref it) "set_iterator" := ⟨_, h, rfl⟩
  refine wpAny_pyIter_slot T sl_setit_iter (wpAny_call_entry sl_setit_iter T en_setit_iter ?_ (ar_setit_iter _))
  show wpAny (model prog w) _ (ret (.ref it)) _ _ s
  exact wpAny_pure ⟨_, rfl, "set_iterator", _, T, sl_setit_next.lookup, q⟩
variable {K : Type} [DecidableEq K] {knd : KeyKind prog w K}
theorem Els.get {ks : List K} {es : List (Int × Value)} (x : Els knd ks es) : ∀ {i : Nat} {e : Int × Value}, es[i]? = some e → ∃ k, ks[i]? = some k ∧ knd.is k e.2 = true := by
  induction x with
  | nil => intro i e h; simp at h
  | @cons k e' ks es h _ ih =>
    intro i e hi
    cases i with
    | zero =>
      have : e' = e := by simpa using hi
      subst this
      exact ⟨k, rfl, h.1⟩
    | succ i => simpa using ih (i := i) (e := e) (by simpa using hi)
abbrev Gives (knd : KeyKind prog w K) (ks : List K) : Nat → Value → Prop := fun i v => ∃ k, ks[i]? = some k ∧ knd.is k v = true
/-- by the table's places -/
theorem walk_places {I a : Addr} {o : Obj} {es : Array (Int × Value)} {ep : Nat} {t : SetTable} {ks : List K} (hh : A.handled = none) (hne : a ≠ I) (hd : o.data = .set es ep t) (hf : t.fits es.size = true) (hb : w.params.followText "set-order" = false) (hpl : t.plain = true ∨ es.size ≤ 1) (ok : TabOk true t) (el : Els knd ks es.toList) :
    Walks prog w A I [I, a] [I] ks.length (Gives knd ks) (fun i h => ∃ sl : Nat, SetIt h I a (.int sl 0) i es.size ep ∧ SetTable.below t.place sl = i ∧ h.get? a = some o) := by
  have z : ks.length = es.size := by rw [el.length]; simp
  have zp : t.place.size = es.size := by
    unfold SetTable.fits at hf
    simp only [Bool.and_eq_true, beq_iff_eq] at hf
    exact hf.1
  refine ⟨fun b hb => by simp at hb; simp [hb], fun i h h' st k => ?_, fun i s Q E hi st q => ?_, fun s Q E st q => ?_, fun i s Q E st q => ?_⟩
  · obtain ⟨sl, h1, h2, h3⟩ := st
    exact ⟨sl, k I (by simp) _ h1, h2, k a (by simp) _ h3⟩
  · obtain ⟨sl, h1, h2, h3⟩ := st
    have hx : es[i]? = some es[i] := Array.getElem?_eq_getElem (by omega)
    have hj : t.place[i]? = some t.place[i] := Array.getElem?_eq_getElem (by omega)
    obtain ⟨k, hk, his⟩ := el.get (i := i) (e := es[i]) (by rw [Array.getElem?_toList]; exact hx)
    exact setit_item hne h1 h3 hd hf hb hpl ok.led h2 hx hj fun g g1 sb => q _ g s.toks ⟨k, hk, his⟩ ⟨_, g1, below_after ok.rise hj, (sb.2 a hne).trans h3⟩ fun b o hb e => (sb.2 b fun z => hb (by simp [z])).trans e
  · obtain ⟨sl, h1, h2, h3⟩ := st
    rw [z] at h1 h2
    exact setit_end hh h1 h3 hd hf hb hpl ok.led h2 fun g eb => q g s.toks fun b o hb e => eb b o (fun z => hb (by simp [z])) e
  · obtain ⟨sl, h1, _⟩ := st
    exact setit_self h1 q
/-- by the text's order -/
theorem walk_text {I a : Addr} {o : Obj} {es : Array (Int × Value)} {ep : Nat} {t : SetTable} {ks : List K} (hh : A.handled = none) (hne : a ≠ I) (hd : o.data = .set es ep t) (hf : t.fits es.size = true) (hb : w.params.followText "set-order" = true) (el : Els knd ks (pickOrder (w.params.setOrder a ep) es).toList) :
    Walks prog w A I [I, a] [I] ks.length (Gives knd ks) (fun i h => SetIt h I a (.int (0 : Nat) 0) i es.size ep ∧ h.get? a = some o) := by
  have zo : (pickOrder (w.params.setOrder a ep) es).size = es.size := by rw [← Array.length_toList, (pick_perm _ es).length_eq, Array.length_toList]
  have z : ks.length = es.size := by rw [el.length, ← zo]; simp
  refine ⟨fun b hb => by simp at hb; simp [hb], fun i h h' st k => ?_, fun i s Q E hi st q => ?_, fun s Q E st q => ?_, fun i s Q E st q => ?_⟩
  · exact ⟨k I (by simp) _ st.1, k a (by simp) _ st.2⟩
  · have hx : (pickOrder (w.params.setOrder a ep) es)[i]? = some (pickOrder (w.params.setOrder a ep) es)[i] := Array.getElem?_eq_getElem (by omega)
    obtain ⟨k, hk, his⟩ := el.get (i := i) (e := (pickOrder (w.params.setOrder a ep) es)[i]) (by rw [Array.getElem?_toList]; exact hx)
    exact settx_item st.1 st.2 hd hf hb hx fun g g1 sb => q _ g s.toks ⟨k, hk, his⟩ ⟨g1, (sb.2 a hne).trans st.2⟩ fun b o hb e => (sb.2 b fun z => hb (by simp [z])).trans e
  · obtain ⟨h1, h3⟩ := st
    rw [z] at h1
    exact settx_end hh h1 h3 hd hf hb fun g eb => q g s.toks fun b o hb e => eb b o (fun z => hb (by simp [z])) e
  · exact setit_self st.1 q
theorem filterMap_get {α β : Type} {f : α → Option β} : ∀ {ys : List α} (h : ∀ y ∈ ys, (f y).isSome) (i : Nat), (ys.filterMap f)[i]? = ys[i]?.bind f
  | [], _, i => by simp
  | y :: ys, h, i => by
    obtain ⟨b, hb⟩ := Option.isSome_iff_exists.mp (h y List.mem_cons_self)
    rw [List.filterMap_cons, hb]
    cases i with
    | zero => simp [hb]
    | succ i => simpa using filterMap_get (fun z hz => h z (List.mem_cons_of_mem _ hz)) i
/-- by a drawn order -/
theorem walk_drawn {I a T : Addr} {o ot : Obj} {es : Array (Int × Value)} {ep m : Nat} {t : SetTable} {ks : List K} {ys : List Nat} (hh : A.handled = none) (hne : a ≠ I) (hTI : T ≠ I) (hd : o.data = .set es ep t) (hf : t.fits es.size = true) (ht : ot.data = .seq (ys.map fun (i : Nat) => rawInt i).toArray m) (hy : ys.Perm (List.range es.size))
    (el : Els knd ks (ys.filterMap (es[·]?))) : Walks prog w A I [I, a, T] [I] ks.length (Gives knd ks) (fun i h => SetIt h I a (.ref T) i es.size ep ∧ h.get? T = some ot ∧ h.get? a = some o) := by
  have hs : ∀ y ∈ ys, (es[y]?).isSome := fun y h => by
    have : y < es.size := List.mem_range.mp (hy.mem_iff.mp h)
    rw [Array.getElem?_eq_getElem this]
    rfl
  have ly : ys.length = es.size := by rw [hy.length_eq, List.length_range]
  have z : ks.length = es.size := by
    rw [el.length, (hy.filterMap _).length_eq, filterMap_getElem?_range es]
    simp
  refine ⟨fun b hb => by simp at hb; simp [hb], fun i h h' st k => ?_, fun i s Q E hi st q => ?_, fun s Q E st q => ?_, fun i s Q E st q => ?_⟩
  · exact ⟨k I (by simp) _ st.1, k T (by simp) _ st.2.1, k a (by simp) _ st.2.2⟩
  · have li : i < ys.length := by omega
    have hyi : ys[i]? = some ys[i] := List.getElem?_eq_getElem li
    have lp : ys[i] < es.size := List.mem_range.mp (hy.mem_iff.mp (List.getElem_mem li))
    have hx : es[ys[i]]? = some es[ys[i]] := Array.getElem?_eq_getElem lp
    obtain ⟨k, hk, his⟩ := el.get (i := i) (e := es[ys[i]]) (by rw [filterMap_get hs, hyi]; exact hx)
    have hu : ((ys.map fun (i : Nat) => rawInt i).toArray)[i]? = some (.int (ys[i] : Nat) 0) := by simp [hyi, rawInt]
    exact setdr_item st.1 st.2.1 ht hu st.2.2 hd hf hx fun g g1 sb => q _ g s.toks ⟨k, hk, his⟩ ⟨g1, (sb.2 T hTI).trans st.2.1, (sb.2 a hne).trans st.2.2⟩ fun b o hb e => (sb.2 b fun z => hb (by simp [z])).trans e
  · obtain ⟨h1, h2, h3⟩ := st
    rw [z] at h1
    exact setdr_end hh h1 h2 ht (by simp [ly]) h3 hd hf fun g eb => q g s.toks fun b o hb e => eb b o (fun z => hb (by simp [z])) e
  · exact setit_self st.1 q
end
end L2
namespace L2
open PySem PyProof.Rows
section
variable {prog : Program} {w : World} {A : Around} {E : Value → Shared → Prop} {s : Shared} {K : Type} [DecidableEq K] {knd : KeyKind prog w K}
/-- iter(a set): its members in some order -/
theorem iter_setL {a : Addr} {ks : List K} {Q : Value → Shared → Prop} {B : Around} (hh : B.handled = none) (hS : SetL knd s.heap a ks)
    (q : ∀ (I : Addr) (fp : List Addr) (St : Nat → Heap → Prop) (ks' : List K) (g : Heap) (d : Drawn), ks'.Perm ks → Walks prog w B I fp [I] ks'.length (Gives knd ks') St → St 0 g → s.heap.objs.size ≤ I → (∀ b ∈ fp, b = a ∨ s.heap.objs.size ≤ b) → (∀ b ∈ fp, b < g.objs.size) →
      (∀ b o, s.heap.get? b = some o → g.get? b = some o) → Q (.ref I) { s with heap := g, drawn := d }) : wpAny (model prog w) A (pyIter (.ref a)) Q E s := by
  have hT := hS.setOf.typeIs
  obtain ⟨o, es, ep, t, ho, hex, hd, el, nd, hb, hf, ok⟩ := hS
  have la := Heap.lt_size ho
  refine wpAny_pyIter_slot hT F.slot_set_iter (wpAny_call_entry F.slot_set_iter hT en_set_iter ?_ (F.args_set_iter_1 _))
  unfold Builtin.«frozenset.__iter__»
  refine wpAny_bind (m := Builtin.Frozenset.slot0 "__iter__" _) (wpAny_pure ?_)
  unfold Builtin.Frozenset.sizeOf setEntries setDrawn setsByText
  refine wpAny_bind (wpAny_bind (wpAny_bind (wpAny_setState_of ho hd hf (wpAny_pure (wpAny_pure ?_)))))
  refine wpAny_bind (wpAny_bind (wpAny_setState_of ho hd hf ?_))
  refine wpAny_bind (wpAny_bind (wpAny_askSetting (wpAny_pure (wpAny_pure ?_))))
  have mk : ∀ (f : Value) (s1 : Shared), s1.heap.get? a = some o → ∀ R : Value → Shared → Prop, R (.ref s1.heap.objs.size) { s1 with heap := s1.heap.push { cls := .type "set_iterator", data := .fields #[f, .int (0 : Nat) 0, .ref a, .int es.size 0, .int ep 0] } } →
      wpAny (model prog w) A.in1 (do
        let e ← setEpoch a
        let v ← newFields "set_iterator" [f, rawInt 0, Value.ref a, rawInt es.size, rawInt e]
        ret v) (fun fin s' => ∃ v, fin = Fin.done (Flow.ret v) ∧ ∃ T' r, s'.TypeIs v T' ∧ typeLookup (Value.type T') (Str.ofString "__next__") = pure (some r) ∧ R v s') E s1 := fun f s1 h1 R hR => by
    refine wpAny_bind (wpAny_setEpoch_of h1 hd hf ?_)
    exact wpAny_bind (wpAny_newObj_type (wpAny_pure ⟨_, rfl, "set_iterator", _, ⟨_, Heap.get?_push_size _ rfl, rfl⟩, sl_setit_next.lookup, hR⟩))
  have hzn : es.size ≤ sizeLine := fits_of_scanBound hb
  show wpAny (model prog w) _ (if (!w.params.followText "set-order" && (!t.plain && decide (es.size > 1))) = true then _ else _) _ _ s
  have kp1 : ∀ (u : Obj) (b : Addr) (x : Obj), s.heap.get? b = some x → (s.heap.push u).get? b = some x := fun u b x e => Heap.get?_push_of_some _ e
  have lt1 : ∀ (u : Obj) (b : Addr), b ∈ [s.heap.objs.size, a] → b < (s.heap.push u).objs.size := fun u b hb => by
    rw [Heap.size_push]
    rcases List.mem_cons.mp hb with z | z
    · rw [z]; exact Nat.lt_succ_self _
    · rw [List.mem_singleton.mp z]; exact Nat.lt_succ_of_lt la
  have fp1 : ∀ b ∈ [s.heap.objs.size, a], b = a ∨ s.heap.objs.size ≤ b := fun b hb => by
    rcases List.mem_cons.mp hb with z | z
    · exact .inr (Nat.le_of_eq z.symm)
    · exact .inl (List.mem_singleton.mp z)
  cases hbt : w.params.followText "set-order" with
  | true =>
    rw [if_neg (by simp)]
    refine wpAny_bind (wpAny_pure (mk (rawInt 0) s ho Q ?_))
    obtain ⟨ks', p, el'⟩ := el.perm (pick_perm (w.params.setOrder a ep) es)
    exact q s.heap.objs.size [s.heap.objs.size, a] _ ks' _ s.drawn p (walk_text hh (Nat.ne_of_lt la) hd hf hbt el') ⟨Heap.get?_push_size _ rfl, kp1 _ _ _ ho⟩ (Nat.le_refl _) fp1 (lt1 _) (kp1 _)
  | false =>
    rw [hbt] at ok
    cases hdr : (!t.plain && decide (es.size > 1)) with
    | false =>
      rw [if_neg (by simp)]
      refine wpAny_bind (wpAny_pure (mk (rawInt 0) s ho Q ?_))
      have hpl : t.plain = true ∨ es.size ≤ 1 := by
        rcases Bool.and_eq_false_iff.mp hdr with z | z
        · exact .inl (by simpa using z)
        · exact .inr (Nat.not_lt.mp (of_decide_eq_false z))
      exact q s.heap.objs.size [s.heap.objs.size, a] _ ks _ s.drawn (List.Perm.refl _) (walk_places hh (Nat.ne_of_lt la) hd hf hbt hpl ok el) ⟨0, Heap.get?_push_size _ rfl, below_zero ok.rise, kp1 _ _ _ ho⟩ (Nat.le_refl _) fp1 (lt1 _) (kp1 _)
    | true =>
      rw [if_pos (by decide)]
      refine wpAny_bind (draw_order _ _ _ _ (by simp) fun ys d p => ?_)
      have ly : ys.length = es.size := by rw [p.length_eq]; simp
      refine wpAny_bind (wpAny_newTuple ?_ (by simp [ly]; exact hzn))
      obtain ⟨ks', p', el'⟩ := el.perm (show (ys.filterMap (es[·]?)).Perm es.toList from (p.filterMap _).trans (by rw [filterMap_getElem?_range es]))
      refine mk _ _ (kp1 _ _ _ ho) Q ?_
      have nT : s.heap.objs.size ≠ (s.heap.push { cls := .type "tuple", data := .seq (ys.map fun (i : Nat) => rawInt i).toArray }).objs.size := by
        rw [Heap.size_push]
        exact Nat.ne_of_lt (Nat.lt_succ_self _)
      have na : a ≠ (s.heap.push { cls := .type "tuple", data := .seq (ys.map fun (i : Nat) => rawInt i).toArray }).objs.size := by
        rw [Heap.size_push]
        exact Nat.ne_of_lt (Nat.lt_succ_of_lt la)
      refine q (s.heap.push { cls := .type "tuple", data := .seq (ys.map fun (i : Nat) => rawInt i).toArray }).objs.size [_, a, s.heap.objs.size] _ ks' _ d p' (walk_drawn hh na nT hd hf rfl p el') ⟨Heap.get?_push_size _ rfl, Heap.get?_push_of_some _ (Heap.get?_push_size _ rfl), Heap.get?_push_of_some _ (kp1 _ _ _ ho)⟩ ?_ ?_ ?_ fun b x e => Heap.get?_push_of_some _ (kp1 _ b x e)
      · rw [Heap.size_push]
        exact Nat.le_succ _
      · intro b hb
        simp only [List.mem_cons, List.not_mem_nil, or_false] at hb
        rcases hb with z | z | z
        · rw [z, Heap.size_push]; exact .inr (Nat.le_succ _)
        · exact .inl z
        · exact .inr (Nat.le_of_eq z.symm)
      · intro b hb
        simp only [List.mem_cons, List.not_mem_nil, or_false] at hb
        rw [Heap.size_push, Heap.size_push]
        rcases hb with z | z | z
        · rw [z, Heap.size_push]; exact Nat.lt_succ_self _
        · rw [z]; exact Nat.lt_succ_of_lt (Nat.lt_succ_of_lt la)
        · rw [z]; exact Nat.lt_succ_of_lt (Nat.lt_succ_self _)
end
end L2
namespace L2
open PySem PyProof.Rows
section
variable {prog : Program} {w : World} {A : Around} {E : Value → Shared → Prop} {s : Shared}
theorem hint_set {r : Addr} {Q : Bool → Shared → Prop} (hT : s.TypeIs (.ref r) "set") (q : Q false s) : wpAny (model prog w) A (Builtin.List.listLengthHint (.ref r)) Q E s := by
  unfold Builtin.List.listLengthHint
  refine wpAny_bind (wpAny_specialOf hT PySem.F.slot_set_len.lookup ?_)
  generalize hid : ("set.__len__" : String) = id0
  wp_delta
  rw [show splitId id0 = some ("set", "__len__") by subst hid; decide +kernel]
  subst hid
  refine wpAny_bind (wpAny_isInstance (T := "set") (b := true) hT (by rw [isSubtype_type]; kernel_rfl) ?_)
  refine wpAny_ite_split (fun z => absurd z (by decide)) fun _ => wpAny_ite_split (fun _ => ?_) fun z => absurd (by decide +kernel) z
  exact wpAny_bind (wpAny_typeOf hT (wpAny_pure q))
variable {K : Type} [DecidableEq K] {knd : KeyKind prog w K}
/-- a set's members put behind an empty list -/
theorem ext_setL {R : Result → Shared → Prop} {a S : Addr} {ks : List K} {c : Nat} {res : Value} (hh : A.handled = none) (hS : SetL knd s.heap a ks) (hn : ks.length ≤ sizeLine) (ne : S ≠ a) (hl : s.heap.get? S = some { cls := .type "list", data := .seq #[] c })
    (q : ∀ ks' h' d tk acc c', ks'.Perm ks → (∀ b o, b ≠ S → s.heap.get? b = some o → h'.get? b = some o) → h'.get? S = some { cls := .type "list", dict := none, data := .seq acc c', slots := #[] } → ItemsOf (Gives knd ks') acc ks'.length → R (.ok (.ret res)) { s with heap := h', drawn := d, toks := tk }) :
    wpAny (model prog w) A.in1 (Builtin.List.listExtendWith (.ref S) (.ref a) res) (fun fin s' => match fin with | .done f => R (.ok f) s' | .again c' => c'.quiet = true ∧ codeAny (model prog w) A c' R s') (fun e s' => R (.error e) s') s := by
  have hT := hS.setOf.typeIs
  unfold Builtin.List.listExtendWith
  refine wpAny_bind (wpAny_typeOf (T := "set") hT ?_)
  have h1 : Builtin.List.listSameRef (.ref S) (.ref a) = false := by simp [Builtin.List.listSameRef, ne]
  have h2 : (Value.type "set" == Value.type "list") = false := by decide
  have h3 : (Value.type "set" == Value.type "tuple") = false := by decide
  simp only [h1, h2, h3, Bool.or_false, Bool.false_eq_true, if_false]
  refine wpAny_bind (iter_setL (B := A.in1) hh hS fun I fp St ks' g d p W st hI hfp hlt kp => ?_)
  have lS := Heap.lt_size hl
  have nI : S ≠ I := fun z => absurd (Nat.lt_of_lt_of_le lS hI) (by rw [z]; exact Nat.lt_irrefl _)
  have nf : S ∉ fp := fun m => by
    rcases hfp S m with z | z
    · exact ne z
    · exact absurd (Nat.lt_of_lt_of_le lS z) (Nat.lt_irrefl _)
  have key : ∀ (h : Heap) (c1 tk : Nat), St 0 h → (∀ b o, b ≠ S → s.heap.get? b = some o → h.get? b = some o) → h.get? S = some { cls := .type "list", data := .seq #[] c1 } →
      codeAny (model prog w) A (.builtin "list.extend.loop" ⟨[.ref S, .ref I, res], []⟩) R { s with heap := h, drawn := d, toks := tk } := by
    intro h c1 tk hst hk hS1
    refine codeAny_extend_loopS W.toS (by rw [p.length_eq]; exact hn) S nf res ks'.length 0 _ #[] c1 rfl (Nat.zero_le _) hst hS1 (ItemsOf.nil _) fun s' acc' c' hm hS' hacc => ?_
    rw [Moved.eq_with hm]
    refine q ks' s'.heap d s'.toks acc' c' p (fun b o hb e => hm.heap b o (fun hmem => ?_) (hk b o hb e)) hS' hacc
    rcases List.mem_cons.mp hmem with z | z
    · exact hb z
    · exact absurd (Nat.lt_of_lt_of_le (Heap.lt_size e) hI) (by rw [List.mem_singleton.mp z]; exact Nat.lt_irrefl _)
  have hS1 := kp _ _ hl
  have hT1 : Shared.TypeIs { s with heap := g, drawn := d } (.ref a) "set" := by
    obtain ⟨o, e, hc⟩ := hT
    exact ⟨o, kp _ _ e, hc⟩
  refine wpAny_bind (wpAny_holding (hint_set hT1 ?_))
  refine wpAny_ite_split (fun _ => ?_) (fun _ => wpAny_pure ⟨plainId_quiet PySem.F.plain_extend_loop _, key g c s.toks st (fun b o _ e => kp b o e) hS1⟩)
  refine wpAny_bind (wpAny_rule (wpAny_bind ?_))
  show wpAny (model prog w) _ (updateSeq S (·.push .none) >>= fun _ => updateSeq S (·.pop)) _ _ _
  refine wpAny_bind (wpAny_updateSeq hS1 rfl ?_)
  have hS2 := Heap.get?_update_self (Obj.mapSeq (·.push Value.none)) hS1 rfl
  refine wpAny_updateSeq (hz := by seq_fits) hS2 rfl ?_
  have hS3 := Heap.get?_update_self (Obj.mapSeq (·.pop)) hS2 rfl
  refine wpAny_pure ⟨plainId_quiet PySem.F.plain_extend_loop _, key _ _ _ ?_ (fun b o hb e => ?_) hS3⟩
  · refine W.frame 0 _ _ st fun b hb o e => ?_
    have hbS : b ≠ S := fun z => nf (z ▸ hb)
    exact (Heap.get?_update_other _ _ (Ne.symm hbS)).trans ((Heap.get?_update_other _ _ (Ne.symm hbS)).trans e)
  · exact (Heap.get?_update_other _ _ (Ne.symm hb)).trans ((Heap.get?_update_other _ _ (Ne.symm hb)).trans (kp b o e))
/-- collected -/
theorem coll_setL {a : Addr} {ks : List K} {Q : List Value → Shared → Prop} (hh : A.handled = none) (hS : SetL knd s.heap a ks) (hn : ks.length ≤ sizeLine)
    (q : ∀ ks' h' d tk acc, ks'.Perm ks → (∀ b o, s.heap.get? b = some o → h'.get? b = some o) → s.heap.objs.size < h'.objs.size → ItemsOf (Gives knd ks') acc ks'.length → Q acc.toList { s with heap := h', drawn := d, toks := tk }) : wpAny (model prog w) A (collect (.ref a)) Q E s := by
  have la : a < s.heap.objs.size := by
    obtain ⟨o, es, ep, t, ho, _⟩ := hS
    exact Heap.lt_size ho
  unfold collect
  refine wpAny_bind (wpAny_runValue (codeAny_builtin PySem.F.entry_proto_collect ?_))
  rw [Around.under_plainId PySem.F.plain_proto_collect _]
  have new : (s.heap.push { cls := .type "list", data := .seq ([] : List Value).toArray }).get? s.heap.objs.size = some { cls := .type "list", data := .seq #[] 0 } := Heap.get?_push_size _ rfl
  have hS1 : SetL knd (s.heap.push { cls := .type "list", data := .seq ([] : List Value).toArray }) a ks := hS.at fun o e => Heap.get?_push_of_some _ e
  have key : ∀ R : Result → Shared → Prop, (∀ ks' h' d tk acc c, ks'.Perm ks → (∀ b o, b ≠ s.heap.objs.size → (s.heap.push { cls := .type "list", data := .seq ([] : List Value).toArray }).get? b = some o → h'.get? b = some o) →
      h'.get? s.heap.objs.size = some { cls := .type "list", dict := none, data := .seq acc c, slots := #[] } → ItemsOf (Gives knd ks') acc ks'.length → R (.ok (.ret (.ref s.heap.objs.size))) { s with heap := h', drawn := d, toks := tk }) →
      codeAny (model prog w) A (.builtin "list.__iadd__" ⟨[.ref s.heap.objs.size, .ref a], []⟩) R { s with heap := s.heap.push { cls := .type "list", data := .seq ([] : List Value).toArray } } := by
    intro R hR
    refine codeAny_builtin PySem.F.entry_list_iadd ?_
    rw [Around.under_plainId PySem.F.plain_list_iadd _]
    exact ext_setL (s := { s with heap := s.heap.push { cls := .type "list", data := .seq ([] : List Value).toArray } }) hh hS1 hn (Nat.ne_of_gt la) new fun ks' h' d tk acc c p kp hL it => hR ks' h' d tk acc c p kp hL it
  show wpAny (model prog w) A.in1 (newList [] >>= fun x => again (.builtin "list.__iadd__" ⟨[x, .ref a], []⟩)) _ _ s
  refine wpAny_bind (wpAny_newObj_type (wpAny_pure ⟨plainId_quiet PySem.F.plain_list_iadd _, key _ fun ks' h' d tk acc c p kp hL it => ?_⟩))
  show wpAny (model prog w) A (load s.heap.objs.size >>= _) Q E { s with heap := h', drawn := d, toks := tk }
  refine wpAny_bind (wpAny_load hL (wpAny_pure ?_))
  exact q ks' h' d tk acc p (fun b o e => kp b o (Nat.ne_of_lt (Heap.lt_size e)) (Heap.get?_push_of_some _ e)) (Heap.lt_size hL) it
end
end L2
/-! ### sorted(set(a list of ints)) -/
namespace L2
open PySem PySem.Spec PyProof.Rows
theorem Inv.drew {X : Cx} {pins : List (Addr × Obj)} {σ : St} {H : Hp} {s : Shared} (I : Inv X pins σ H s) (d : Drawn) : Inv X pins σ H { s with drawn := d } :=
  ⟨I.ok, I.os, I.bare, I.base, I.loc, I.cell, I.free, I.freeC, I.pin, I.hok, I.len⟩
theorem nodup_le {α : Type} [DecidableEq α] : ∀ {ks ns : List α}, ks.Nodup → (∀ k ∈ ks, k ∈ ns) → ks.length ≤ ns.length
  | [], _, _, _ => Nat.zero_le _
  | k :: ks, ns, nd, h => by
    obtain ⟨n1, n2⟩ := List.nodup_cons.mp nd
    have m := h k List.mem_cons_self
    have := nodup_le (ns := ns.erase k) n2 fun x hx => (List.mem_erase_of_ne (a := x) (b := k) fun z => n1 (by rw [← z]; exact hx)).mpr (h x (List.mem_cons_of_mem _ hx))
    rw [List.length_erase_of_mem m] at this
    have := List.length_pos_of_mem m
    simp only [List.length_cons]
    omega
section
variable {X : Cx} {e : Expr} {te : TE}
end
end L2
/-! ### trees compared with texts, is True, numbers or texts rising -/
namespace L2
open PySem PySem.Spec PyProof.Rows
def noD : Tr → Bool
  | .dct => false
  | _ => true
section
variable {X : Cx}
def rEqTr : R2 := fun x y H Q => ∃ t z, At H t x ∧ y = .str z ∧ noD t = true ∧ Q (.bl (strIs t z)) H
theorem op_eqTr (hu : X.A.units < cLine) : OpR X (compareOp .Eq) rEqTr := by
  intro pins s σ H x y v u Q I rx ry h
  obtain ⟨t, z, ht, rfl, hn, q⟩ := h
  cases t with
  | dct => cases hn
  | tup l =>
    unfold At at ht
    obtain ⟨a, vs, rfl, ha, _⟩ := ht
    cases rx
    obtain ⟨tk, rfl⟩ := ry
    obtain ⟨its, r, p, _⟩ := I.tuple (SqT.of ha)
    exact SeqAt.RcAt.tuple_str z tk p hu X.prog X.w _ _ ⟨.bl false, H, I, rfl, q⟩
  | lst l =>
    unfold At at ht
    obtain ⟨a, vs, rfl, ha, _⟩ := ht
    cases rx
    obtain ⟨tk, rfl⟩ := ry
    obtain ⟨its, r, p, _⟩ := I.list (SqL.of ha)
    exact SeqAt.RcAt.list_str z tk p.isList hu X.prog X.w _ _ ⟨.bl false, H, I, rfl, q⟩
  | int n =>
    unfold At at ht
    subst ht
    have k := flat_is (t := .int n) rfl z
    exact op_eq pins s σ H _ _ v u Q I rx ry ⟨k.1, by show Q (.bl (decide (vT (.int n) = .str z))) H; rw [k.2]; exact q⟩
  | str n =>
    unfold At at ht
    subst ht
    have k := flat_is (t := .str n) rfl z
    exact op_eq pins s σ H _ _ v u Q I rx ry ⟨k.1, by show Q (.bl (decide (vT (.str n) = .str z))) H; rw [k.2]; exact q⟩
  | bl n =>
    unfold At at ht
    subst ht
    have k := flat_is (t := .bl n) rfl z
    exact op_eq pins s σ H _ _ v u Q I rx ry ⟨k.1, by show Q (.bl (decide (vT (.bl n) = .str z))) H; rw [k.2]; exact q⟩
  | non =>
    unfold At at ht
    subst ht
    have k := flat_is (t := .non) rfl z
    exact op_eq pins s σ H _ _ v u Q I rx ry ⟨k.1, by show Q (.bl (decide (vT .non = .str z))) H; rw [k.2]; exact q⟩
theorem op_mulB : OpR X (binaryOp .Mult) (rI (fun i j => IntMulOk i j) fun i j => .int (i * j)) := opI fun _ _ _ _ _ _ _ hc q => mul_int q hc
theorem op_in_seqK {K : PySem.W.Frag} (hk : X.K = K) : OpR X (compareOp .In) (rIn K false) := by
  subst hk
  exact op_in_seq
/-- x is True, x is not True: of truths -/
theorem op_isB : OpR X (compareOp .Is) (fun x y H Q => ∃ c d, x = .bl c ∧ y = .bl d ∧ Q (.bl (c == d)) H) := by
  intro pins s σ H x y v u Q I rx ry h
  obtain ⟨c, d, rfl, rfl, q⟩ := h
  cases rx
  cases ry
  exact is_bool ⟨.bl (c == d), H, I, rfl, q⟩
theorem op_notB : OpR X (compareOp .IsNot) (fun x y H Q => ∃ c d, x = .bl c ∧ y = .bl d ∧ Q (.bl (c != d)) H) := by
  intro pins s σ H x y v u Q I rx ry h
  obtain ⟨c, d, rfl, rfl, q⟩ := h
  cases rx
  cases ry
  exact isnot_bool ⟨.bl (c != d), H, I, rfl, q⟩
/-- x < y of two numbers or of two texts -/
def ltO : V → V → Option Bool
  | .int i, .int j => some (decide (i < j))
  | .str i, .str j => some (decide (i.cps.toList < j.cps.toList))
  | _, _ => none
theorem op_ltO : OpR X (compareOp .Lt) (fun x y H Q => ∃ b, ltO x y = some b ∧ Q (.bl b) H) := by
  intro pins s σ H x y v u Q I rx ry h
  obtain ⟨b, e, q⟩ := h
  unfold ltO at e
  split at e
  · cases e
    exact op_lt pins s σ H _ _ v u Q I rx ry ⟨_, _, rfl, rfl, q⟩
  · cases e
    exact op_lt_str pins s σ H _ _ v u Q I rx ry ⟨_, _, rfl, rfl, q⟩
  · cases e
end
end L2
set_option maxHeartbeats 4000000
namespace K51
open PySem L2
/-! ### what is a top, by trees -/
def numT (t : Tr) : Bool := wthT t 0 4294967295
def isI (t : Tr) (n : Int) : Bool := match t with
  | .int m => decide (m = n)
  | _ => false
def lineP (t : Tr) : Bool := match t with
  | .tup [a, b, c] => numT a && numT b && (strIs c "" || wordT c)
  | _ => false
def headP (t : Tr) : Bool := match t with
  | .tup [a, b, c, d, e, f] => wordT a && numT b && (numT c && wthT d 2 599 && numT f) && (if isI c 0 = true then strIs e "" && isI f 0 else wordT e && wthT f 1 4294967295)
  | _ => false
def fst0 (t : Tr) : V := match t with
  | .tup (a :: _) => vT a
  | _ => .non
def snd0 (t : Tr) : V := match t with
  | .tup (_ :: a :: _) => vT a
  | _ => .non
def risV : List V → Bool
  | a :: b :: t => (ltO a b == some true) && risV (b :: t)
  | _ => true
def linesP (t : Tr) : Bool := match t with
  | .tup l => l.all lineP && risV (l.map fst0)
  | _ => false
def headsP (t ls : Tr) : Bool := match t, ls with
  | .tup l, .tup k => decide (l.length ≤ 12) && l.all headP && (risV (l.map fst0) && l.all fun h => inV (snd0 h) (k.map fst0))
  | _, _ => false
def parT (t : Tr) (p : Int) : Bool := match t with
  | .int n => decide (n % 2 = p)
  | _ => false
def topP (t : Tr) (p : Int) : Bool := match t with
  | .tup [a, s, w, ls, hs] => strIs a "top" && (wthT s 1 4294967295 && parT s p && wordT w) && (linesP ls && headsP hs ls)
  | _ => false
/-- what must be known of things so that they can be compared -/
def lineFl (t : Tr) : Bool := match t with
  | .tup [_, _, c] => noD c
  | _ => true
def headFl (t : Tr) : Bool := match t with
  | .tup [_, _, _, _, e, _] => noD e
  | _ => true
def allFl (f : Tr → Bool) (t : Tr) : Bool := match t with
  | .tup l => l.all f
  | _ => true
def topFl (t : Tr) : Bool := match t with
  | .tup [a, _, _, ls, hs] => flatT a && allFl lineFl ls && allFl headFl hs
  | _ => true
theorem risV_at : ∀ {l : List V} {i : Nat} {a b : V}, risV l = true → l[i]? = some a → l[i + 1]? = some b → ltO a b = some true
  | [], _, _, _, _, h, _ => by cases h
  | [_], 0, _, _, _, _, h => by cases h
  | [_], i + 1, _, _, _, h, _ => by cases h
  | x :: y :: t, 0, a, b, r, h1, h2 => by
    cases h1
    cases h2
    unfold risV at r
    rw [Bool.and_eq_true] at r
    exact beq_iff_eq.mp r.1
  | x :: y :: t, i + 1, a, b, r, h1, h2 => by
    unfold risV at r
    rw [Bool.and_eq_true] at r
    exact risV_at (l := y :: t) (i := i) r.2 h1 h2
theorem risV_of : ∀ {l : List V}, (∀ (i : Nat) a b, l[i]? = some a → l[i + 1]? = some b → ltO a b = some true) → risV l = true
  | [], _ => rfl
  | [_], _ => rfl
  | x :: y :: t, h => by
    unfold risV
    rw [h 0 x y rfl rfl, risV_of (l := y :: t) fun i a b ha hb => h (i + 1) a b ha hb]
    rfl
theorem no_risV {l : List V} {i : Nat} {a b : V} (h1 : l[i]? = some a) (h2 : l[i + 1]? = some b) (h : ltO a b ≠ some true) : risV l = false := by
  rw [Bool.eq_false_iff]
  intro z
  exact h (risV_at z h1 h2)
theorem ltO_irr (a : V) : ltO a a ≠ some true := by
  intro h
  cases a with
  | int i =>
    injection h with h
    have := of_decide_eq_true h
    omega
  | str i =>
    injection h with h
    exact List.lt_irrefl _ (of_decide_eq_true h)
  | _ => cases h
theorem ltO_asy {a b : V} (h : ltO a b = some true) : ltO b a ≠ some true := by
  intro k
  cases a with
  | int i =>
    cases b with
    | int j =>
      injection h with h
      injection k with k
      have := of_decide_eq_true h
      have := of_decide_eq_true k
      omega
    | _ => cases h
  | str i =>
    cases b with
    | str j =>
      injection h with h
      injection k with k
      exact List.lt_irrefl _ (List.lt_trans (of_decide_eq_true h) (of_decide_eq_true k))
    | _ => cases h
  | _ => cases h
theorem all_no {l : List Tr} {f : Tr → Bool} {i : Nat} {t : Tr} (h : l[i]? = some t) (k : f t = false) : l.all f = false := by
  rw [Bool.eq_false_iff]
  intro z
  have := List.all_eq_true.mp z t (List.mem_of_getElem? h)
  rw [k] at this
  cases this
theorem lines_at {l : List Tr} {i : Nat} {t : Tr} (h : l[i]? = some t) (k : lineP t = false) : linesP (.tup l) = false := by
  show (l.all lineP && _) = false
  rw [all_no h k, Bool.false_and]
theorem lines_ris {l : List Tr} (k : risV (l.map fst0) = false) : linesP (.tup l) = false := by
  show (_ && risV (l.map fst0)) = false
  rw [k, Bool.and_false]
theorem heads_at {l : List Tr} {ls : Tr} {i : Nat} {t : Tr} (h : l[i]? = some t) (k : headP t = false) : headsP (.tup l) ls = false := by
  cases ls with
  | tup m =>
    show (_ && l.all headP && _) = false
    rw [all_no h k, Bool.and_false, Bool.false_and]
  | _ => rfl
theorem heads_ris {l : List Tr} {ls : Tr} (k : risV (l.map fst0) = false) : headsP (.tup l) ls = false := by
  cases ls with
  | tup m =>
    show (_ && (risV (l.map fst0) && _)) = false
    rw [k, Bool.false_and, Bool.and_false]
  | _ => rfl
theorem heads_known {l m : List Tr} {i : Nat} {t : Tr} (h : l[i]? = some t) (k : inV (snd0 t) (m.map fst0) = false) : headsP (.tup l) (.tup m) = false := by
  show (_ && (_ && l.all fun h => inV (snd0 h) (m.map fst0))) = false
  rw [all_no (f := fun h => inV (snd0 h) (m.map fst0)) h k, Bool.and_false, Bool.and_false]
theorem get_set {l : List Tr} {i : Nat} {t : Tr} (h : i < l.length) : (l.set i t)[i]? = some t := by
  rw [List.getElem?_set, if_pos rfl, if_pos h]
theorem twice_risV {l : List V} {i : Nat} {a : V} (h : l[i]? = some a) : risV (l.take i ++ [a] ++ l.drop i) = false := by
  have li := (List.getElem?_eq_some_iff.mp h).1
  have lt : (l.take i).length = i := by rw [List.length_take]; omega
  refine no_risV (i := i) (a := a) (b := a) ?_ ?_ (ltO_irr a)
  · rw [List.append_assoc, List.getElem?_append_right (by omega), lt, Nat.sub_self]
    rfl
  · rw [List.append_assoc, List.getElem?_append_right (by omega), lt, Nat.add_sub_cancel_left]
    show (l.drop i)[0]? = some a
    rw [List.getElem?_drop]
    exact h
theorem swap_risV {l : List V} {i : Nat} {a b : V} (r : risV l = true) (h1 : l[i]? = some a) (h2 : l[i + 1]? = some b) : risV (l.take i ++ [b, a] ++ l.drop (i + 2)) = false := by
  have li := (List.getElem?_eq_some_iff.mp h1).1
  have lt : (l.take i).length = i := by rw [List.length_take]; omega
  refine no_risV (i := i) (a := b) (b := a) ?_ ?_ (ltO_asy (risV_at r h1 h2))
  · rw [List.append_assoc, List.getElem?_append_right (by omega), lt, Nat.sub_self]
    rfl
  · rw [List.append_assoc, List.getElem?_append_right (by omega), lt, Nat.add_sub_cancel_left]
    rfl
end K51
namespace K51
open PySem L2 PyProof.Rows
def top (i : Nat) : Stmt := PySem.Challenge.pw_clonewood_k51_what_is_a_top.main.body.getD i (.Pass ⟨0, 0, 0, 0⟩)
abbrev sWho : Stmt := top 4
abbrev sWth : Stmt := top 5
abbrev sSta : Stmt := top 6
abbrev sTof : Stmt := top 7
abbrev sRis : Stmt := top 8
abbrev sWor : Stmt := top 9
abbrev sItp : Stmt := top 13
abbrev sNum : Stmt := top 16
abbrev sLin : Stmt := top 17
abbrev sHea : Stmt := top 18
abbrev sAls : Stmt := top 19
abbrev sAhs : Stmt := top 20
abbrev sTop : Stmt := top 21
abbrev sCel : Stmt := top 23
abbrev sMix : Stmt := top 24
abbrev sWds : Stmt := top 25
abbrev sNbr : Stmt := top 26
abbrev sLls : Stmt := top 27
abbrev sLhs : Stmt := top 28
abbrev sWit : Stmt := top 29
abbrev sNno : Stmt := top 30
abbrev sNwo : Stmt := top 31
abbrev sBli : Stmt := top 32
abbrev sBhe : Stmt := top 33
abbrev sBad : Stmt := top 34
abbrev sLaw : Stmt := top 35
/-- what the top has of names -/
structure Txt (mg : Str → Option Value) : Prop where
  isi : mg "isinstance" = none
  int : mg "int" = none
  bol : mg "bool" = none
  str : mg "str" = none
  len : mg "len" = none
  rng : mg "range" = none
  lst : mg "list" = none
  tup : mg "tuple" = none
  all : mg "all" = none
  zip : mg "zip" = none
  srt : mg "sorted" = none
  set : mg "set" = none
  sgn : ∃ t, mg "SIGNS" = some (.str sigS t)
  msg : ∃ t, mg "MOST_SIGNS" = some (.int 8 t)
  grt : ∃ t, mg "GREATEST" = some (.int 4294967295 t)
  fp : ∃ t, mg "FIRST_PLACE" = some (.int 2 t)
  lp : ∃ t, mg "LAST_PLACE" = some (.int 599 t)
  mhe : ∃ t, mg "MOST_HEADS" = some (.int 12 t)
section
variable (K : PySem.W.Frag)
theorem kit_tt : PySem.W.kitOne K (.type "tuple") (.type "tuple") = some true := by kernel_rfl
end
end K51
set_option maxHeartbeats 4000000
namespace K51
open PySem L2
mutual
def sm : Tr → Bool
  | .str z => decide (z.length ≤ 100)
  | .tup l => decide (l.length ≤ 100) && sms l
  | .lst l => decide (l.length ≤ 100) && sms l
  | _ => true
def sms : List Tr → Bool
  | [] => true
  | t :: ts => sm t && sms ts
end
theorem sms_mem : ∀ {l : List Tr} {t : Tr}, sms l = true → t ∈ l → sm t = true
  | u :: ts, t, h, m => by
    unfold sms at h
    rw [Bool.and_eq_true] at h
    cases m with
    | head => exact h.1
    | tail _ m => exact sms_mem h.2 m
theorem sm_tup {l : List Tr} (h : sm (.tup l) = true) : l.length ≤ 100 ∧ ∀ t ∈ l, sm t = true := by
  unfold sm at h
  rw [Bool.and_eq_true, decide_eq_true_eq] at h
  exact ⟨h.1, fun t m => sms_mem h.2 m⟩
theorem at_tup {H : Hp} {l : List Tr} {vs : List V} {i : Nat} {t : Tr} (k : Ats H l vs) (e : l[i]? = some t) : ∃ v, atI vs (i : Int) = some v ∧ At H t v := by
  obtain ⟨v, hv, h⟩ := k.at e
  exact ⟨v, atI_nat hv, h⟩
section
variable {P : Program} {w : World} {K : PySem.W.Frag} {mg : Str → Option Value} {base : Heap} {f fWho fWth fTof fItp fSta fWor fRis fNum fLin fHea fAls fAhs : Addr} {fd dWho dWth dTof dItp dSta dWor dRis dNum dLin dHea dAls dAhs : FuncData}
theorem scWho : FnScope ["thing"] ["thing"] (defScope sWho) := ⟨rfl, rfl, rfl, by decide +kernel, rfl, by decide +kernel, by decide +kernel⟩
theorem ok_Who (F : Fun K "is_whole" "is_whole" sWho f fd) (T : Txt mg) : FnOk P w K mg base CX0 1 f fd ["thing"] spWho0 := by
  refine F.ok scWho (fun vs H Q E h => ?_) (fun cdv A outer s H vs Q E hr h => ?_)
  · obtain ⟨x, rfl, _⟩ := h
    rfl
  obtain ⟨x, rfl, hT, q⟩ := h
  obtain ⟨t, ty, k1, k2⟩ := hT.ty (K := K)
  refine ⟨_, (pss_one (ps_ret (pe_and (pe_callB call_isinst rfl T.isi PyProof.Rows.boot_isinstance (pa_cons (pv 0) (pa_cons (pe_bltn (v := .ty "int") rfl T.int PyProof.Rows.boot_int rfl) pa_nil))) (pe_one (pe_not (pe_callB call_isinst rfl T.isi PyProof.Rows.boot_isinstance (pa_cons (pv 0) (pa_cons (pe_bltn (v := .ty "bool") rfl T.bol PyProof.Rows.boot_bool rfl) pa_nil)))))))), ?_⟩
  refine ⟨_, rfl, x, "int", t, isI0 x, rfl, ty, k1, _, rfl, ?_⟩
  unfold who0 at q
  refine ite2 (fun c => ?_) (fun c => ?_)
  · refine ⟨_, rfl, x, "bool", t, isB0 x, rfl, ty, k2, _, rfl, ?_⟩
    rw [c] at q
    exact q
  · rw [Bool.not_eq_true] at c
    rw [c] at q
    exact q
theorem scWth : FnScope ["thing", "low", "high"] ["thing", "low", "high"] (defScope sWth) := ⟨rfl, rfl, rfl, by decide +kernel, rfl, by decide +kernel, by decide +kernel⟩
theorem ok_Wth (F : Fun K "is_within" "is_within" sWth f fd) {fW : Addr} {dW : FuncData} (hWho : Has K mg "is_whole" sWho ["thing"] fW dW) (GWho : FnOk P w K mg base CX0 1 fW dW ["thing"] spWho0) : FnOk P w K mg base CX0 2 f fd ["thing", "low", "high"] spWth0 := by
  refine F.ok scWth (fun vs H Q E h => ?_) (fun cdv A outer s H vs Q E hr h => ?_)
  · obtain ⟨x, l, h, rfl, _⟩ := h
    rfl
  obtain ⟨x, l, h, rfl, hT, q⟩ := h
  refine ⟨_, (pss_one (ps_ret (pe_and (pe_call GWho (hr.mono (by decide)) rfl hWho.nm hWho.fn.kp hWho.bd .nil pass0 (pa_cons (pv 0) pa_nil)) (pe_one (pe_chain op_le op_le (pv 1) (pv 0) (pv 2)))))), ?_⟩
  refine ⟨_, rfl, x, rfl, hT, _, rfl, ?_⟩
  rcases hT with ⟨n, rfl⟩ | ⟨z, rfl⟩ | ⟨b, rfl⟩ | rfl | ⟨a, z, rfl, _⟩ | ⟨a, z, rfl, _⟩ | ⟨a, z, rfl, _⟩
  · refine iteT ?_
    refine ⟨_, rfl, _, rfl, _, _, rfl, rfl, _, rfl, ?_⟩
    have q' : Q (.bl (decide (l ≤ n) && decide (n ≤ h))) H := q
    refine ite2 (fun c => ?_) (fun c => ?_)
    · rw [c] at q'
      exact ⟨_, rfl, _, _, rfl, rfl, q'⟩
    · rw [Bool.not_eq_true] at c
      rw [c] at q'
      exact q'
  all_goals exact iteF q
/-! ### is_tuple_of -/
theorem dec_len (a b : Nat) : decide (V.int ((a : Nat) : Int) = V.int ((b : Nat) : Int)) = decide (a = b) := decide_eq_decide.mpr ⟨fun h => by injection h with h; omega, fun h => by rw [h]⟩
theorem dec_int (a b : Int) : decide (V.int a = V.int b) = decide (a = b) := decide_eq_decide.mpr ⟨fun h => by injection h, fun h => by rw [h]⟩
def spTof : Sp := fun vs H Q _ => ∃ (x : V) (n : Nat), vs = [x, .int (n : Int)] ∧ ((∃ q xs, x = .ref q ∧ H q = some (.tup xs) ∧ Q (.bl (decide (xs.length = n))) H) ∨ (NotT H x ∧ Q (.bl false) H))
theorem scTof : FnScope ["thing", "many"] ["thing", "many"] (defScope sTof) := ⟨rfl, rfl, rfl, by decide +kernel, rfl, by decide +kernel, by decide +kernel⟩
theorem ok_Tof (F : Fun K "is_tuple_of" "is_tuple_of" sTof f fd) (T : Txt mg) : FnOk P w K mg base CX0 1 f fd ["thing", "many"] spTof := by
  refine F.ok scTof (fun vs H Q E h => ?_) (fun cdv A outer s H vs Q E hr h => ?_)
  · obtain ⟨x, n, rfl, _⟩ := h
    rfl
  obtain ⟨x, n, rfl, h⟩ := h
  refine ⟨_, (pss_one (ps_ret (pe_and (pe_callB call_isinst rfl T.isi PyProof.Rows.boot_isinstance (pa_cons (pv 0) (pa_cons (pe_bltn (v := .ty "tuple") rfl T.tup PyProof.Rows.boot_tuple rfl) pa_nil))) (pe_one (pe_cmpR op_eq (pe_callB call_len_seq rfl T.len PySem.boot_len (pa_cons (pv 0) pa_nil)) (pv 1) (nomark _)))))), ?_⟩
  rcases h with ⟨q, xs, rfl, hq, qq⟩ | ⟨hN, qq⟩
  · refine ⟨_, rfl, _, _, _, true, rfl, .tup hq, kit_tt K, _, rfl, iteT ?_⟩
    refine ⟨_, rfl, q, _, rfl, .inr (SqT.of hq), _, rfl, rfl, ?_⟩
    rw [dec_len]
    exact qq
  · obtain ⟨t, ty, k⟩ := hN.kit (K := K)
    exact ⟨_, rfl, x, _, t, false, rfl, ty, k, _, rfl, iteF qq⟩
/-! ### end_of, end_in_piece, goes_on -/
def spItp : Sp := fun vs H Q _ => ∃ x, vs = [x] ∧ Ty0 H x ∧ Q (.bl (wth0 x 2 599)) H
theorem scItp : FnScope ["thing"] ["thing"] (defScope sItp) := ⟨rfl, rfl, rfl, by decide +kernel, rfl, by decide +kernel, by decide +kernel⟩
theorem ok_Itp (F : Fun K "is_tree_place" "is_tree_place" sItp f fd) (hWth : Has K mg "is_within" sWth ["thing", "low", "high"] fWth dWth) (GWth : FnOk P w K mg base CX0 2 fWth dWth ["thing", "low", "high"] spWth0) (T : Txt mg) : FnOk P w K mg base CX0 3 f fd ["thing"] spItp := by
  refine F.ok scItp (fun vs H Q E h => ?_) (fun cdv A outer s H vs Q E hr h => ?_)
  · obtain ⟨x, rfl, _⟩ := h
    rfl
  obtain ⟨x, rfl, hT, qq⟩ := h
  obtain ⟨t1, fp⟩ := T.fp
  obtain ⟨t2, lp⟩ := T.lp
  refine ⟨_, (pss_one (ps_ret (pe_call GWth (hr.mono (by decide)) rfl hWth.nm hWth.fn.kp hWth.bd .nil pass0 (pa_cons (pv 0) (pa_cons (pe_glob (v := .int 2) rfl fp ⟨_, rfl⟩) (pa_cons (pe_glob (v := .int 599) rfl lp ⟨_, rfl⟩) pa_nil)))))), ?_⟩
  exact ⟨_, rfl, x, 2, 599, rfl, hT, qq⟩
def spSta : Sp := fun vs H Q _ => ∃ x t, vs = [x] ∧ At H t x ∧ Q (.bl (wthT t 1 4294967295)) H
theorem scSta : FnScope ["thing"] ["thing"] (defScope sSta) := ⟨rfl, rfl, rfl, by decide +kernel, rfl, by decide +kernel, by decide +kernel⟩
theorem ok_Sta (F : Fun K "is_stamp" "is_stamp" sSta f fd) (hWth : Has K mg "is_within" sWth ["thing", "low", "high"] fWth dWth) (GWth : FnOk P w K mg base CX0 2 fWth dWth ["thing", "low", "high"] spWth0) (T : Txt mg) : FnOk P w K mg base CX0 3 f fd ["thing"] spSta := by
  refine F.ok scSta (fun vs H Q E h => ?_) (fun cdv A outer s H vs Q E hr h => ?_)
  · obtain ⟨x, t, rfl, _⟩ := h
    rfl
  obtain ⟨x, t, rfl, hx, q⟩ := h
  obtain ⟨t1, grt⟩ := T.grt
  refine ⟨_, (pss_one (ps_ret (pe_call GWth (hr.mono (by decide)) rfl hWth.nm hWth.fn.kp hWth.bd .nil pass0 (pa_cons (pv 0) (pa_cons pe_int (pa_cons (pe_glob (v := .int 4294967295) rfl grt ⟨_, rfl⟩) pa_nil)))))), ?_⟩
  rw [← hx.wth] at q
  exact ⟨_, rfl, x, 1, 4294967295, rfl, hx.ty0, q⟩
def spWor : Sp := fun vs H Q _ => ∃ x t, vs = [x] ∧ At H t x ∧ sm t = true ∧ ∀ H', Same H H' → Q (.bl (wordT t)) H'
theorem scWor : FnScope ["thing"] ["thing"] (defScope sWor) := ⟨rfl, rfl, rfl, by decide +kernel, rfl, by decide +kernel, by decide +kernel⟩
theorem ok_Wor (F : Fun K "is_word" "is_word" sWor f fd) (T : Txt mg) : FnOk P w K mg base CX0 1 f fd ["thing"] spWor := by
  refine F.ok scWor (fun vs H Q E h => ?_) (fun cdv A outer s H vs Q E hr h => ?_)
  · obtain ⟨x, t, rfl, _⟩ := h
    rfl
  obtain ⟨x, t, rfl, hx, hs, q⟩ := h
  obtain ⟨ty, ht, _, k3, _⟩ := hx.ty (K := K)
  obtain ⟨t1, sgn⟩ := T.sgn
  obtain ⟨t2, msg⟩ := T.msg
  refine ⟨_, (pss_cons (ps_if (PW.pt (pw_or (pt_not (pt_val (pe_callB call_isinst rfl T.isi PyProof.Rows.boot_isinstance (pa_cons (pv 0) (pa_cons (pe_bltn (v := .ty "str") rfl T.str PyProof.Rows.boot_str rfl) pa_nil))))) (pw_or1 (pt_not (pt_chain op_le op_le pe_int (pe_callB call_len_str rfl T.len PySem.boot_len (pa_cons (pv 0) pa_nil)) (pe_glob (v := .int 8) rfl msg ⟨_, rfl⟩))))))
    (pss_one (ps_ret pe_bl))
    pss_nil)
    (pss_one (ps_ret (pe_callB (call_all hr.hd) rfl T.all PyProof.Rows.boot_all (pa_cons (pe_comp [] [] (pi_str (pv 0)) (fun _ _ _ _ _ _ => pts_nil)
          (fun _ _ _ _ _ _ => (pe_cmpR op_in_str (pv 0) (pe_glob (v := .str sigS) rfl sgn ⟨_, rfl⟩) rfl))
          rfl (by decide +kernel) (by decide +kernel) rfl (by decide +kernel) (fun _ _ z => nomatch z) rfl (by decide +kernel) rfl) pa_nil))))), ?_⟩
  refine ⟨_, rfl, x, "str", ty, isStrT t, rfl, ht, k3, _, rfl, ?_⟩
  cases e : isStrT t with
  | false =>
    have : wordT t = false := by cases t <;> first | rfl | cases e
    rw [this] at q
    exact iteT (iteT (q H (Same.refl H)))
  | true =>
    cases t with
    | str z =>
      have ex : x = .str z := by unfold At at hx; exact hx
      subst ex
      have hz : z.length ≤ 100 := by unfold sm at hs; exact of_decide_eq_true hs
      refine iteF ?_
      refine ⟨_, rfl, z, rfl, Nat.le_of_lt (small (by omega)), _, _, rfl, rfl, _, rfl, ?_⟩
      refine ite2 (fun c => ?_) (fun c => ?_)
      · have c1 : (1 : Int) ≤ (z.length : Int) := of_decide_eq_true c
        refine ⟨_, _, rfl, rfl, _, rfl, ?_⟩
        refine ite2 (fun d => ?_) (fun d => ?_)
        · have d1 : ¬ (z.length : Int) ≤ 8 := fun e => by rw [decide_eq_true e] at d; cases d
          have e : wordT (.str z) = false := isw_len (by omega)
          rw [e] at q
          exact q H (Same.refl H)
        · have d1 : (z.length : Int) ≤ 8 := by
            by_cases e : (z.length : Int) ≤ 8
            · exact e
            · rw [decide_eq_false e] at d; exact absurd rfl d
          refine ⟨_, rfl, z, rfl, fun p hp => comp_by z.length (fun i ys H2 => ys = (z.cps.toList.take i).map (fun c => V.bl (okc c)) ∧ H2 = upd H p (.lst ys)) ⟨rfl, rfl⟩ ?_ ?_⟩
          · rintro i ys H2 hi ⟨rfl, rfl⟩
            refine ⟨hi, ?_⟩
            rintro v H3 ⟨rfl, c', hc', rfl⟩
            refine ttT ?_
            refine ⟨_, rfl, _, _, rfl, rfl, upd_same, ?_, ?_, upd_upd⟩
            · rw [List.length_map, List.length_take, codes_len]
              exact small (by omega)
            · rw [in_sig]
              exact (take_snoc (fun c => V.bl (okc c)) (codes_at hc')).symm
          · rintro ys H2 ⟨rfl, rfl⟩
            have e : (z.cps.toList.take z.length) = z.cps.toList := List.take_of_length_le (by rw [codes_len]; exact Nat.le_refl _)
            refine ⟨Nat.le_refl _, p, z.cps.toList.map okc, rfl, SqL.of ?_, ?_⟩
            · rw [upd_same, e, List.map_map]
              rfl
            · have e2 : wordT (.str z) = (z.cps.toList.map okc).all id := by
                rw [List.all_map]
                exact isw_all (by omega)
              rw [← e2]
              exact q _ (same_new hp _)
      · have c1 : ¬ (1 : Int) ≤ (z.length : Int) := fun e => c (decide_eq_true e)
        have e : wordT (.str z) = false := isw_len (by omega)
        rw [e] at q
        exact ⟨_, rfl, iteT (q H (Same.refl H))⟩
    | _ => cases e
def spNum : Sp := fun vs H Q _ => ∃ x t, vs = [x] ∧ At H t x ∧ Q (.bl (numT t)) H
theorem scNum : FnScope ["thing"] ["thing"] (defScope sNum) := ⟨rfl, rfl, rfl, by decide +kernel, rfl, by decide +kernel, by decide +kernel⟩
theorem ok_Num (F : Fun K "is_number" "is_number" sNum f fd) (hWth : Has K mg "is_within" sWth ["thing", "low", "high"] fWth dWth) (GWth : FnOk P w K mg base CX0 2 fWth dWth ["thing", "low", "high"] spWth0) (T : Txt mg) : FnOk P w K mg base CX0 3 f fd ["thing"] spNum := by
  refine F.ok scNum (fun vs H Q E h => ?_) (fun cdv A outer s H vs Q E hr h => ?_)
  · obtain ⟨x, t, rfl, _⟩ := h
    rfl
  obtain ⟨x, t, rfl, hx, q⟩ := h
  obtain ⟨t1, grt⟩ := T.grt
  refine ⟨_, (pss_one (ps_ret (pe_call GWth (hr.mono (by decide)) rfl hWth.nm hWth.fn.kp hWth.bd .nil pass0 (pa_cons (pv 0) (pa_cons pe_int (pa_cons (pe_glob (v := .int 4294967295) rfl grt ⟨_, rfl⟩) pa_nil)))))), ?_⟩
  unfold numT at q
  rw [← hx.wth] at q
  exact ⟨_, rfl, x, 0, 4294967295, rfl, hx.ty0, q⟩
def spRis : Sp := fun vs H Q _ => ∃ (p : Addr) (xs : List V), vs = [.ref p] ∧ H p = some (.lst xs) ∧ xs.length ≤ 100 ∧ (∀ (i : Nat) a b, xs[i]? = some a → xs[i + 1]? = some b → ∃ c, ltO a b = some c) ∧ ∀ H', Same H H' → Q (.bl (risV xs)) H'
def pairB (zs : List V) (i : Nat) : Bool := match zs[i]?, zs[i + 1]? with
  | some a, some b => ltO a b == some true
  | _, _ => true
theorem ris_all : ∀ zs : List V, ((List.range (min zs.length (zs.drop 1).length)).map (pairB zs)).all id = risV zs
  | [] => rfl
  | [a] => rfl
  | a :: b :: t => by
    have ih := ris_all (b :: t)
    have e1 : min (a :: b :: t).length ((a :: b :: t).drop 1).length = t.length + 1 := by simp
    have e2 : min (b :: t).length ((b :: t).drop 1).length = t.length := by simp
    rw [e2] at ih
    rw [e1, List.range_succ_eq_map, List.map_cons, List.all_cons, List.map_map]
    show ((ltO a b == some true) && ((List.range t.length).map (pairB (a :: b :: t) ∘ Nat.succ)).all id) = ((ltO a b == some true) && risV (b :: t))
    rw [← ih]
    rfl
theorem scRis : FnScope ["things"] ["things"] (defScope sRis) := ⟨rfl, rfl, rfl, by decide +kernel, rfl, by decide +kernel, by decide +kernel⟩
theorem ok_Ris (F : Fun K "is_rising" "is_rising" sRis f fd) (T : Txt mg) : FnOk P w K mg base CX0 1 f fd ["things"] spRis := by
  refine F.ok scRis (fun vs H Q E h => ?_) (fun cdv A outer s H vs Q E hr h => ?_)
  · obtain ⟨p, zs, rfl, _⟩ := h
    rfl
  obtain ⟨p, zs, rfl, hp, hl, hc, q⟩ := h
  refine ⟨_, (pss_one (ps_ret (pe_callB (call_all hr.hd) rfl T.all PyProof.Rows.boot_all (pa_cons (pe_compR (g := g2 K) ["one", "other"] [] [] (pi_zip rfl T.zip (pa_cons (pv 0) (pa_cons (pe_slice sl_list (pv 0) (po_some pe_int) po_none) pa_nil))) (fun _ _ _ _ _ _ => pg_tup rfl (pgs_cons (pg_name (i := 0) (show (["one", "other"] : List Str).Nodup by decide +kernel) rfl (Or.inl rfl)) (pgs_cons (pg_name (i := 1) (show (["one", "other"] : List Str).Nodup by decide +kernel) rfl (Or.inl rfl)) pgs_nil))) (fun _ _ _ _ _ _ => pts_nil)
          (fun _ _ _ _ _ _ => (pe_cmpR op_ltO (pv 0) (pv 1) (nomark _)))
          rfl (by decide +kernel) (by decide +kernel) (by decide +kernel) (fun _ _ z => nomatch z) rfl rfl) pa_nil)))), ?_⟩
  refine ⟨_, rfl, _, rfl, 1, rfl, p, _, rfl, SqL.of hp, fun b hb => ?_⟩
  rw [cutV_one]
  have s1 := same_new hb (HO.lst ((zs).drop 1))
  have hb2 : upd H b (HO.lst ((zs).drop 1)) b = some (.lst ((zs).drop 1)) := upd_same
  revert s1 hb2
  generalize upd H b (HO.lst ((zs).drop 1)) = H1
  intro s1 hb2
  refine ⟨p, b, _, _, rfl, SqL.of (s1 _ _ hp), SqL.of hb2, fun pk hpk => ?_⟩
  refine comp_zip2 (K := K) (a := p) (b := b) (xs := zs) (ys := (zs).drop 1) (fun i us H2 => Same H1 H2 ∧ H2 pk = some (.lst us) ∧ us = ((List.range i).map (pairB zs)).map V.bl) ⟨same_new hpk _, upd_same, rfl⟩ (fun i us H2 h2 => ⟨SqL.of (h2.1 _ _ (s1 _ _ hp)), SqL.of (h2.1 _ _ hb2)⟩) ?_ ?_
  · rintro i x y t us H2 hx hy ⟨s2, e2, rfl⟩ ht
    rw [List.getElem?_drop, Nat.add_comm] at hy
    have s3 := same_new ht (HO.tup [x, y])
    have hi : i < zs.length := (List.getElem?_eq_some_iff.mp hx).1
    obtain ⟨c, ec⟩ := hc i x y hx hy
    refine ttT ⟨_, rfl, _, rfl, c, ec, s3 _ _ e2, small (by simp; omega), same_over (s2.trans s3) hpk _, upd_same, ?_⟩
    rw [List.range_succ, List.map_append, List.map_append]
    have ep : pairB zs i = c := by
      unfold pairB
      rw [hx, hy]
      show (ltO x y == some true) = c
      rw [ec]
      cases c <;> rfl
    show _ = _ ++ [V.bl (pairB zs i)]
    rw [ep]
  · rintro us H2 ⟨s2, e2, rfl⟩
    have el : min (zs).length ((zs).drop 1).length = min zs.length (zs.drop 1).length := by
      simp only [List.length_map, List.length_drop]
    rw [el] at e2
    refine ⟨pk, _, rfl, SqL.of e2, ?_⟩
    rw [ris_all]
    exact q H2 (s1.trans s2)
end
end K51
set_option maxHeartbeats 4000000
namespace K51
open PySem L2
section
variable {P : Program} {w : World} {K : PySem.W.Frag} {mg : Str → Option Value} {base : Heap} {f fWho fWth fTof fItp fSta fWor fRis fNum fLin fHea fAls fAhs : Addr} {fd dWho dWth dTof dItp dSta dWor dRis dNum dLin dHea dAls dAhs : FuncData}
def spLin : Sp := fun vs H Q _ => ∃ x t, vs = [x] ∧ At H t x ∧ sm t = true ∧ lineFl t = true ∧ ∀ H', Same H H' → Q (.bl (lineP t)) H'
theorem scLin : FnScope ["thing"] ["thing"] (defScope sLin) := ⟨rfl, rfl, rfl, by decide +kernel, rfl, by decide +kernel, by decide +kernel⟩
theorem ok_Lin (F : Fun K "is_line" "is_line" sLin f fd) (hTof : Has K mg "is_tuple_of" sTof ["thing", "many"] fTof dTof) (GTof : FnOk P w K mg base CX0 1 fTof dTof ["thing", "many"] spTof)
    (hNum : Has K mg "is_number" sNum ["thing"] fNum dNum) (GNum : FnOk P w K mg base CX0 3 fNum dNum ["thing"] spNum)
    (hWor : Has K mg "is_word" sWor ["thing"] fWor dWor) (GWor : FnOk P w K mg base CX0 1 fWor dWor ["thing"] spWor) (T : Txt mg) : FnOk P w K mg base CX0 4 f fd ["thing"] spLin := by
  refine F.ok scLin (fun vs H Q E h => ?_) (fun cdv A outer s H vs Q E hr h => ?_)
  · obtain ⟨x, t, rfl, _⟩ := h
    rfl
  obtain ⟨x, t, rfl, hx, hs, hf, q⟩ := h
  refine ⟨_, (pss_cons (ps_if (PW.pt (pw_or (pt_not (pt_val (pe_call GTof (hr.mono (by decide)) rfl hTof.nm hTof.fn.kp hTof.bd .nil pass0 (pa_cons (pv 0) (pa_cons pe_int pa_nil))))) (pw_or (pt_not (pt_val (pe_call GNum (hr.mono (by decide)) rfl hNum.nm hNum.fn.kp hNum.bd .nil pass0 (pa_cons (pe_ix ix_tup (pv 0) pe_int (fun _ _ => rfl)) pa_nil)))) (pw_or1 (pt_not (pt_val (pe_call GNum (hr.mono (by decide)) rfl hNum.nm hNum.fn.kp hNum.bd .nil pass0 (pa_cons (pe_ix ix_tup (pv 0) pe_int (fun _ _ => rfl)) pa_nil))))))))
    (pss_one (ps_ret pe_bl))
    pss_nil)
    (pss_one (ps_ret (pe_or (pe_cmpR (op_eqTr (hu_of hr |> Nat.lt_of_succ_lt)) (pe_ix ix_tup (pv 0) pe_int (fun _ _ => rfl)) pe_str (nomark _)) (pe_one (pe_call GWor (hr.mono (by decide)) rfl hWor.nm hWor.fn.kp hWor.bd .nil pass0 (pa_cons (pe_ix ix_tup (pv 0) pe_int (fun _ _ => rfl)) pa_nil))))))), ?_⟩
  have no : ∀ l, t = .tup l → l.length ≠ 3 → lineP t = false := fun l e h3 => by
    subst e
    unfold lineP
    split
    · next h => injection h with h; subst h; exact absurd rfl h3
    · rfl
  cases et : isTup t with
  | false =>
    have : lineP t = false := by cases t <;> first | rfl | cases et
    rw [this] at q
    exact ⟨_, rfl, x, 3, rfl, .inr ⟨hx.notT et, _, rfl, iteT (q H (Same.refl H))⟩⟩
  | true =>
    cases t with
    | tup l =>
      obtain ⟨a, vs, rfl, ha, k⟩ := hx.tup
      have ln := k.len
      refine ⟨_, rfl, _, 3, rfl, .inl ⟨a, vs, rfl, ha, ?_⟩⟩
      by_cases h3 : l.length = 3
      · rw [decide_eq_true (show vs.length = 3 by omega)]
        refine ⟨_, rfl, iteF ?_⟩
        match l, h3 with
        | [c0, c1, c2], _ =>
          obtain ⟨v0, e0, z0⟩ := at_tup k (i := 0) (t := c0) rfl
          obtain ⟨v1, e1, z1⟩ := at_tup k (i := 1) (t := c1) rfl
          obtain ⟨v2, e2, z2⟩ := at_tup k (i := 2) (t := c2) rfl
          have hf2 : noD c2 = true := hf
          have el : lineP (.tup [c0, c1, c2]) = (numT c0 && numT c1 && (strIs c2 "" || wordT c2)) := rfl
          rw [el] at q
          refine ⟨_, rfl, a, vs, 0, v0, rfl, rfl, SqT.of ha, e0, v0, c0, rfl, z0, ?_⟩
          cases n0 : numT c0 with
          | false =>
            rw [n0] at q
            exact ⟨_, rfl, iteT (q H (Same.refl H))⟩
          | true =>
            rw [n0] at q
            refine ⟨_, rfl, iteF ?_⟩
            refine ⟨_, rfl, a, vs, 1, v1, rfl, rfl, SqT.of ha, e1, v1, c1, rfl, z1, ?_⟩
            cases n1 : numT c1 with
            | false =>
              rw [n1] at q
              exact ⟨_, rfl, iteT (q H (Same.refl H))⟩
            | true =>
              rw [n1] at q
              refine ⟨_, rfl, iteF ?_⟩
              refine ⟨_, rfl, a, vs, 2, v2, rfl, rfl, SqT.of ha, e2, c2, _, z2, rfl, hf2, ?_⟩
              refine ⟨_, rfl, ?_⟩
              cases s2 : strIs c2 (Str.ofString "") with
              | true =>
                rw [s2] at q
                exact iteT (q H (Same.refl H))
              | false =>
                rw [s2] at q
                exact iteF ⟨_, rfl, a, vs, 2, v2, rfl, rfl, SqT.of ha, e2, v2, c2, rfl, z2, (sm_tup hs).2 c2 (by simp), q⟩
      · rw [decide_eq_false (show ¬ vs.length = 3 by omega)]
        rw [no l rfl h3] at q
        exact ⟨_, rfl, iteT (q H (Same.refl H))⟩
    | _ => cases et
theorem num_int {t : Tr} (h : numT t = true) : ∃ n, t = .int n := by
  cases t with
  | int n => exact ⟨n, rfl⟩
  | _ => cases h
def spHea : Sp := fun vs H Q _ => ∃ x t, vs = [x] ∧ At H t x ∧ sm t = true ∧ headFl t = true ∧ ∀ H', Same H H' → Q (.bl (headP t)) H'
theorem scHea : FnScope ["thing"] ["thing"] (defScope sHea) := ⟨rfl, rfl, rfl, by decide +kernel, rfl, by decide +kernel, by decide +kernel⟩
theorem ok_Hea (F : Fun K "is_head" "is_head" sHea f fd) (hTof : Has K mg "is_tuple_of" sTof ["thing", "many"] fTof dTof) (GTof : FnOk P w K mg base CX0 1 fTof dTof ["thing", "many"] spTof)
    (hNum : Has K mg "is_number" sNum ["thing"] fNum dNum) (GNum : FnOk P w K mg base CX0 3 fNum dNum ["thing"] spNum)
    (hSta : Has K mg "is_stamp" sSta ["thing"] fSta dSta) (GSta : FnOk P w K mg base CX0 3 fSta dSta ["thing"] spSta)
    (hItp : Has K mg "is_tree_place" sItp ["thing"] fItp dItp) (GItp : FnOk P w K mg base CX0 3 fItp dItp ["thing"] spItp)
    (hWor : Has K mg "is_word" sWor ["thing"] fWor dWor) (GWor : FnOk P w K mg base CX0 1 fWor dWor ["thing"] spWor) (T : Txt mg) : FnOk P w K mg base CX0 4 f fd ["thing"] spHea := by
  refine F.ok scHea (fun vs H Q E h => ?_) (fun cdv A outer s H vs Q E hr h => ?_)
  · obtain ⟨x, t, rfl, _⟩ := h
    rfl
  obtain ⟨x, t, rfl, hx, hs, hf, q⟩ := h
  refine ⟨_, (pss_cons (ps_if (PW.pt (pw_or (pt_not (pt_val (pe_call GTof (hr.mono (by decide)) rfl hTof.nm hTof.fn.kp hTof.bd .nil pass0 (pa_cons (pv 0) (pa_cons pe_int pa_nil))))) (pw_or (pt_not (pt_val (pe_call GWor (hr.mono (by decide)) rfl hWor.nm hWor.fn.kp hWor.bd .nil pass0 (pa_cons (pe_ix ix_tup (pv 0) pe_int (fun _ _ => rfl)) pa_nil)))) (pw_or1 (pt_not (pt_val (pe_call GNum (hr.mono (by decide)) rfl hNum.nm hNum.fn.kp hNum.bd .nil pass0 (pa_cons (pe_ix ix_tup (pv 0) pe_int (fun _ _ => rfl)) pa_nil))))))))
    (pss_one (ps_ret pe_bl))
    pss_nil)
    (pss_cons (ps_if (PW.pt (pw_or (pt_not (pt_val (pe_call GNum (hr.mono (by decide)) rfl hNum.nm hNum.fn.kp hNum.bd .nil pass0 (pa_cons (pe_ix ix_tup (pv 0) pe_int (fun _ _ => rfl)) pa_nil)))) (pw_or (pt_not (pt_val (pe_call GItp (hr.mono (by decide)) rfl hItp.nm hItp.fn.kp hItp.bd .nil pass0 (pa_cons (pe_ix ix_tup (pv 0) pe_int (fun _ _ => rfl)) pa_nil)))) (pw_or1 (pt_not (pt_val (pe_call GNum (hr.mono (by decide)) rfl hNum.nm hNum.fn.kp hNum.bd .nil pass0 (pa_cons (pe_ix ix_tup (pv 0) pe_int (fun _ _ => rfl)) pa_nil))))))))
    (pss_one (ps_ret pe_bl))
    pss_nil)
    (pss_cons (ps_if (pt_cmpR op_eq (pe_ix ix_tup (pv 0) pe_int (fun _ _ => rfl)) pe_int (nomark _))
    (pss_one (ps_ret (pe_and (pe_cmpR (op_eqTr (hu_of hr |> Nat.lt_of_succ_lt)) (pe_ix ix_tup (pv 0) pe_int (fun _ _ => rfl)) pe_str (nomark _)) (pe_one (pe_cmpR op_eq (pe_ix ix_tup (pv 0) pe_int (fun _ _ => rfl)) pe_int (nomark _))))))
    pss_nil)
    (pss_one (ps_ret (pe_and (pe_call GWor (hr.mono (by decide)) rfl hWor.nm hWor.fn.kp hWor.bd .nil pass0 (pa_cons (pe_ix ix_tup (pv 0) pe_int (fun _ _ => rfl)) pa_nil)) (pe_one (pe_call GSta (hr.mono (by decide)) rfl hSta.nm hSta.fn.kp hSta.bd .nil pass0 (pa_cons (pe_ix ix_tup (pv 0) pe_int (fun _ _ => rfl)) pa_nil))))))))), ?_⟩
  have no : ∀ l, t = .tup l → l.length ≠ 6 → headP t = false := fun l e h3 => by
    subst e
    unfold headP
    split
    · next h => injection h with h; subst h; exact absurd rfl h3
    · rfl
  cases et : isTup t with
  | false =>
    have : headP t = false := by cases t <;> first | rfl | cases et
    rw [this] at q
    exact ⟨_, rfl, x, 6, rfl, .inr ⟨hx.notT et, _, rfl, iteT (q H (Same.refl H))⟩⟩
  | true =>
    cases t with
    | tup l =>
      obtain ⟨a, vs, rfl, ha, k⟩ := hx.tup
      have ln := k.len
      refine ⟨_, rfl, _, 6, rfl, .inl ⟨a, vs, rfl, ha, ?_⟩⟩
      by_cases h3 : l.length = 6
      · rw [decide_eq_true (show vs.length = 6 by omega)]
        refine ⟨_, rfl, iteF ?_⟩
        match l, h3 with
        | [c0, c1, c2, c3, c4, c5], _ =>
          obtain ⟨v0, e0, z0⟩ := at_tup k (i := 0) (t := c0) rfl
          obtain ⟨v1, e1, z1⟩ := at_tup k (i := 1) (t := c1) rfl
          obtain ⟨v2, e2, z2⟩ := at_tup k (i := 2) (t := c2) rfl
          obtain ⟨v3, e3, z3⟩ := at_tup k (i := 3) (t := c3) rfl
          obtain ⟨v4, e4, z4⟩ := at_tup k (i := 4) (t := c4) rfl
          obtain ⟨v5, e5, z5⟩ := at_tup k (i := 5) (t := c5) rfl
          have hf2 : noD c4 = true := hf
          have el : headP (.tup [c0, c1, c2, c3, c4, c5]) = (wordT c0 && numT c1 && (numT c2 && wthT c3 2 599 && numT c5) && (if isI c2 0 = true then strIs c4 "" && isI c5 0 else wordT c4 && wthT c5 1 4294967295)) := rfl
          rw [el] at q
          refine ⟨_, rfl, a, vs, 0, v0, rfl, rfl, SqT.of ha, e0, v0, c0, rfl, z0, (sm_tup hs).2 c0 (by simp), fun H1 s1 => ?_⟩
          have ha1 := s1 _ _ ha
          cases w0 : wordT c0 with
          | false =>
            rw [w0] at q
            exact ⟨_, rfl, iteT (q H1 s1)⟩
          | true =>
          rw [w0] at q
          refine ⟨_, rfl, iteF ?_⟩
          refine ⟨_, rfl, a, vs, 1, v1, rfl, rfl, SqT.of ha1, e1, v1, c1, rfl, z1.mono s1, ?_⟩
          cases n1 : numT c1 with
          | false =>
            rw [n1] at q
            exact ⟨_, rfl, iteT (q H1 s1)⟩
          | true =>
          rw [n1] at q
          refine ⟨_, rfl, iteF ?_⟩
          refine ⟨_, rfl, a, vs, 2, v2, rfl, rfl, SqT.of ha1, e2, v2, c2, rfl, z2.mono s1, ?_⟩
          cases n2 : numT c2 with
          | false =>
            rw [n2] at q
            exact ⟨_, rfl, iteT (q H1 s1)⟩
          | true =>
          rw [n2] at q
          refine ⟨_, rfl, iteF ?_⟩
          refine ⟨_, rfl, a, vs, 3, v3, rfl, rfl, SqT.of ha1, e3, v3, rfl, (z3.mono s1).ty0, ?_⟩
          rw [z3.wth]
          cases n3 : wthT c3 2 599 with
          | false =>
            rw [n3] at q
            exact ⟨_, rfl, iteT (q H1 s1)⟩
          | true =>
          rw [n3] at q
          refine ⟨_, rfl, iteF ?_⟩
          refine ⟨_, rfl, a, vs, 5, v5, rfl, rfl, SqT.of ha1, e5, v5, c5, rfl, z5.mono s1, ?_⟩
          cases n5 : numT c5 with
          | false =>
            rw [n5] at q
            exact ⟨_, rfl, iteT (q H1 s1)⟩
          | true =>
          rw [n5] at q
          refine ⟨_, rfl, iteF ?_⟩
          obtain ⟨n, rfl⟩ := num_int n2
          obtain ⟨m, rfl⟩ := num_int n5
          have u2 := z2
          have u5 := z5
          unfold At at u2 u5
          subst u2
          subst u5
          refine ⟨_, rfl, a, vs, 2, _, rfl, rfl, SqT.of ha1, e2, rfl, _, rfl, ?_⟩
          rw [dec_int]
          have ei : isI (.int n) 0 = decide (n = 0) := rfl
          have ej : isI (.int m) 0 = decide (m = 0) := rfl
          rw [ei, ej] at q
          cases d0 : decide (n = 0) with
          | true =>
            rw [d0] at q
            refine iteT ?_
            refine ⟨_, rfl, a, vs, 4, v4, rfl, rfl, SqT.of ha1, e4, c4, _, z4.mono s1, rfl, hf2, ?_⟩
            refine ⟨_, rfl, ?_⟩
            cases s4 : strIs c4 (Str.ofString "") with
            | false =>
              rw [s4] at q
              exact iteF (q H1 s1)
            | true =>
              rw [s4] at q
              refine iteT ⟨_, rfl, a, vs, 5, _, rfl, rfl, SqT.of ha1, e5, rfl, ?_⟩
              rw [dec_int]
              exact q H1 s1
          | false =>
            rw [d0] at q
            refine iteF ?_
            refine ⟨_, rfl, a, vs, 4, v4, rfl, rfl, SqT.of ha1, e4, v4, c4, rfl, z4.mono s1, (sm_tup hs).2 c4 (by simp), fun H2 s2 => ?_⟩
            refine ⟨_, rfl, ?_⟩
            cases s4 : wordT c4 with
            | false =>
              rw [s4] at q
              exact iteF (q H2 (s1.trans s2))
            | true =>
              rw [s4] at q
              exact iteT ⟨_, rfl, a, vs, 5, _, rfl, rfl, SqT.of (s2 _ _ ha1), e5, _, _, rfl, (z5.mono s1).mono s2, q H2 (s1.trans s2)⟩
      · rw [decide_eq_false (show ¬ vs.length = 6 by omega)]
        rw [no l rfl h3] at q
        exact ⟨_, rfl, iteT (q H (Same.refl H))⟩
    | _ => cases et
end
end K51
set_option maxHeartbeats 4000000
namespace K51
open PySem L2
theorem line_form {t : Tr} (h : lineP t = true) : ∃ n b c, t = .tup [.int n, b, c] := by
  unfold lineP at h
  split at h
  · next c0 c1 c2 =>
    rw [Bool.and_eq_true, Bool.and_eq_true] at h
    obtain ⟨n, rfl⟩ := num_int h.1.1
    exact ⟨n, c1, c2, rfl⟩
  · cases h
theorem head_form {t : Tr} (h : headP t = true) : ∃ z n c d e f, t = .tup [.str z, .int n, c, d, e, f] := by
  unfold headP at h
  split at h
  · next c0 c1 c2 c3 c4 c5 =>
    rw [Bool.and_eq_true, Bool.and_eq_true, Bool.and_eq_true] at h
    obtain ⟨n, rfl⟩ := num_int h.1.1.2
    cases c0 with
    | str z => exact ⟨z, n, c2, c3, c4, c5, rfl⟩
    | _ => cases h.1.1.1
  · cases h
theorem all_get {l : List Tr} {f : Tr → Bool} (h : l.all f = true) {i : Nat} {t : Tr} (e : l[i]? = some t) : f t = true := List.all_eq_true.mp h t (List.mem_of_getElem? e)
theorem lines_cmp {l : List Tr} (h : l.all lineP = true) (i : Nat) (a b : V) (ha : (l.map fst0)[i]? = some a) (hb : (l.map fst0)[i + 1]? = some b) : ∃ c, ltO a b = some c := by
  rw [List.getElem?_map] at ha hb
  obtain ⟨t, ht, rfl⟩ := Option.map_eq_some_iff.mp ha
  obtain ⟨u, hu, rfl⟩ := Option.map_eq_some_iff.mp hb
  obtain ⟨n, _, _, rfl⟩ := line_form (all_get h ht)
  obtain ⟨m, _, _, rfl⟩ := line_form (all_get h hu)
  exact ⟨_, rfl⟩
theorem heads_cmp {l : List Tr} (h : l.all headP = true) (i : Nat) (a b : V) (ha : (l.map fst0)[i]? = some a) (hb : (l.map fst0)[i + 1]? = some b) : ∃ c, ltO a b = some c := by
  rw [List.getElem?_map] at ha hb
  obtain ⟨t, ht, rfl⟩ := Option.map_eq_some_iff.mp ha
  obtain ⟨u, hu, rfl⟩ := Option.map_eq_some_iff.mp hb
  obtain ⟨z, _, _, _, _, _, rfl⟩ := head_form (all_get h ht)
  obtain ⟨y, _, _, _, _, _, rfl⟩ := head_form (all_get h hu)
  exact ⟨_, rfl⟩
section
variable {P : Program} {w : World} {K : PySem.W.Frag} {mg : Str → Option Value} {base : Heap} {f fWho fWth fTof fItp fSta fWor fRis fNum fLin fHea fAls fAhs : Addr} {fd dWho dWth dTof dItp dSta dWor dRis dNum dLin dHea dAls dAhs : FuncData}
def spAls : Sp := fun vs H Q _ => ∃ x t, vs = [x] ∧ At H t x ∧ sm t = true ∧ allFl lineFl t = true ∧ ∀ H', Same H H' → Q (.bl (linesP t)) H'
theorem scAls : FnScope ["thing"] ["thing"] (defScope sAls) := ⟨rfl, rfl, rfl, by decide +kernel, rfl, by decide +kernel, by decide +kernel⟩
theorem ok_Als (F : Fun K "are_lines" "are_lines" sAls f fd) (hLin : Has K mg "is_line" sLin ["thing"] fLin dLin) (GLin : FnOk P w K mg base CX0 4 fLin dLin ["thing"] spLin)
    (hRis : Has K mg "is_rising" sRis ["things"] fRis dRis) (GRis : FnOk P w K mg base CX0 1 fRis dRis ["things"] spRis) (T : Txt mg) : FnOk P w K mg base CX0 5 f fd ["thing"] spAls := by
  refine F.ok scAls (fun vs H Q E h => ?_) (fun cdv A outer s H vs Q E hr h => ?_)
  · obtain ⟨x, t, rfl, _⟩ := h
    rfl
  obtain ⟨x, t, rfl, hx, hs, hf, q⟩ := h
  refine ⟨_, (pss_cons (ps_if (PW.pt (pw_or (pt_not (pt_val (pe_callB call_isinst rfl T.isi PyProof.Rows.boot_isinstance (pa_cons (pv 0) (pa_cons (pe_bltn (v := .ty "tuple") rfl T.tup PyProof.Rows.boot_tuple rfl) pa_nil))))) (pw_or1 (pt_not (pt_val (pe_callB (call_all hr.hd) rfl T.all PyProof.Rows.boot_all (pa_cons (pe_comp [] [] (pi_tup (pv 0)) (fun _ _ _ _ _ _ => pts_nil)
          (fun _ _ _ _ _ _ => (pe_call GLin (hr.mono (by decide)) rfl hLin.nm hLin.fn.kp hLin.bd .nil pass0 (pa_cons (pv 0) pa_nil)))
          rfl (by decide +kernel) (by decide +kernel) rfl (by decide +kernel) (fun _ _ z => nomatch z) rfl (by decide +kernel) rfl) pa_nil)))))))
    (pss_one (ps_ret pe_bl))
    pss_nil)
    (pss_one (ps_ret (pe_call GRis (hr.mono (by decide)) rfl hRis.nm hRis.fn.kp hRis.bd .nil pass0 (pa_cons (pe_comp [] [] (pi_tup (pv 0)) (fun _ _ _ _ _ _ => pts_nil)
          (fun _ _ _ _ _ _ => (pe_ix (ix_tupK (K := K) rfl) (pv 0) pe_int (fun _ _ => rfl)))
          rfl (by decide +kernel) (by decide +kernel) rfl (by decide +kernel) (fun _ _ z => nomatch z) rfl (by decide +kernel) rfl) pa_nil))))), ?_⟩
  obtain ⟨ty, ht, k2, _⟩ := hx.ty (K := K)
  refine ⟨_, rfl, x, "tuple", ty, isTup t, rfl, ht, k2, _, rfl, ?_⟩
  cases e : isTup t with
  | false =>
    have : linesP t = false := by cases t <;> first | rfl | cases e
    rw [this] at q
    exact iteT (q H (Same.refl H))
  | true =>
    cases t with
    | tup l =>
      refine iteF ?_
      obtain ⟨a, ws, rfl, ha, k⟩ := hx.tup
      have ln := k.len
      have hl := sm_tup hs
      have hfl : ∀ t ∈ l, lineFl t = true := List.all_eq_true.mp hf
      refine ⟨_, rfl, a, rfl, ⟨_, SqT.of ha⟩, fun p hp => ?_⟩
      refine comp_tup (K := K) (a := a) (xs := ws) (fun i us H2 => Same H H2 ∧ H2 p = some (.lst us) ∧ us = ((l.take i).map lineP).map V.bl) ⟨same_new hp _, upd_same, rfl⟩ (fun i us H2 _ h2 => SqT.of (h2.1 _ _ ha)) ?_ ?_
      · rintro i x us H2 hx ⟨s2, e4, rfl⟩
        obtain ⟨t, ht, hat⟩ := (k.mono s2).get hx
        have li : i < l.length := (List.getElem?_eq_some_iff.mp ht).1
        have mt := List.mem_of_getElem? ht
        refine ttT ⟨_, rfl, x, t, rfl, hat, hl.2 t mt, hfl t mt, fun H3 s3 => ⟨s3 _ _ e4, small (by simp; omega), same_over (s2.trans s3) hp _, upd_same, ?_⟩⟩
        rw [take_next ht, List.map_append, List.map_append]
        rfl
      · rintro us H2 ⟨s2, e4, rfl⟩
        rw [ln, List.take_length] at e4
        refine ⟨p, _, rfl, SqL.of e4, ?_⟩
        rw [List.all_map]
        have ea : (l.all (id ∘ lineP)) = l.all lineP := rfl
        rw [ea]
        have el : linesP (.tup l) = (l.all lineP && risV (l.map fst0)) := rfl
        rw [el] at q
        cases eall : l.all lineP with
        | false =>
          rw [eall] at q
          exact ⟨_, rfl, iteT (q H2 s2)⟩
        | true =>
          rw [eall] at q
          refine ⟨_, rfl, iteF ?_⟩
          have a3' := s2 _ _ ha
          refine ⟨_, rfl, a, rfl, ⟨_, SqT.of a3'⟩, fun p2 hp2 => ?_⟩
          refine comp_tup (K := K) (a := a) (xs := ws) (fun i us H5 => Same H2 H5 ∧ H5 p2 = some (.lst us) ∧ us = (l.take i).map fst0) ⟨same_new hp2 _, upd_same, rfl⟩ (fun i us H5 _ h5 => SqT.of (h5.1 _ _ a3')) ?_ ?_
          · rintro i x us H5 hx ⟨s5, e5, rfl⟩
            obtain ⟨t, ht, hat⟩ := ((k.mono s2).mono s5).get hx
            have li : i < l.length := (List.getElem?_eq_some_iff.mp ht).1
            obtain ⟨n, b, c, rfl⟩ := line_form (all_get eall ht)
            obtain ⟨ax, wx, rfl, hax, kx⟩ := hat.tup
            obtain ⟨v0, ev0, hv0⟩ := at_tup kx (i := 0) (t := .int n) rfl
            have : v0 = .int n := by unfold At at hv0; exact hv0
            subst this
            refine ttT ⟨_, rfl, ax, wx, 0, _, rfl, rfl, SqT.of hax, ev0, e5, small (by simp; omega), same_over s5 hp2 _, upd_same, ?_⟩
            rw [take_next ht, List.map_append]
            rfl
          · rintro us H5 ⟨s5, e5, rfl⟩
            rw [ln, List.take_length] at e5
            exact ⟨p2, l.map fst0, rfl, e5, by rw [List.length_map]; omega, lines_cmp eall, fun H6 s6 => q H6 (s2.trans (s5.trans s6))⟩
    | _ => cases e
def spAhs : Sp := fun vs H Q _ => ∃ x y t k, vs = [x, y] ∧ At H t x ∧ At H (.tup k) y ∧ sm t = true ∧ k.length ≤ 100 ∧ allFl headFl t = true ∧ k.all lineP = true ∧ ∀ H', Same H H' → Q (.bl (headsP t (.tup k))) H'
theorem scAhs : FnScope ["thing", "lines", "known"] ["thing", "lines"] (defScope sAhs) := ⟨rfl, rfl, rfl, by decide +kernel, rfl, by decide +kernel, by decide +kernel⟩
theorem ok_Ahs (F : Fun K "are_heads" "are_heads" sAhs f fd) (hHea : Has K mg "is_head" sHea ["thing"] fHea dHea) (GHea : FnOk P w K mg base CX0 4 fHea dHea ["thing"] spHea)
    (hRis : Has K mg "is_rising" sRis ["things"] fRis dRis) (GRis : FnOk P w K mg base CX0 1 fRis dRis ["things"] spRis) (T : Txt mg) : FnOk P w K mg base CX0 5 f fd ["thing", "lines"] spAhs := by
  refine F.ok scAhs (fun vs H Q E h => ?_) (fun cdv A outer s H vs Q E hr h => ?_)
  · obtain ⟨x, y, t, m, rfl, _⟩ := h
    rfl
  obtain ⟨x, y, t, m, rfl, hx, hy, hs, hm, hf, hall, q⟩ := h
  obtain ⟨t1, mhe⟩ := T.mhe
  refine ⟨_, (pss_cons (ps_if (PW.pt (pw_or (pt_not (pt_val (pe_callB call_isinst rfl T.isi PyProof.Rows.boot_isinstance (pa_cons (pv 0) (pa_cons (pe_bltn (v := .ty "tuple") rfl T.tup PyProof.Rows.boot_tuple rfl) pa_nil))))) (pw_or (pt_cmpR op_gt (pe_callB call_len_seq rfl T.len PySem.boot_len (pa_cons (pv 0) pa_nil)) (pe_glob (v := .int 12) rfl mhe ⟨_, rfl⟩) (nomark _)) (pw_or1 (pt_not (pt_val (pe_callB (call_all hr.hd) rfl T.all PyProof.Rows.boot_all (pa_cons (pe_comp [] [] (pi_tup (pv 0)) (fun _ _ _ _ _ _ => pts_nil)
          (fun _ _ _ _ _ _ => (pe_call GHea (hr.mono (by decide)) rfl hHea.nm hHea.fn.kp hHea.bd .nil pass0 (pa_cons (pv 0) pa_nil)))
          rfl (by decide +kernel) (by decide +kernel) rfl (by decide +kernel) (fun _ _ z => nomatch z) rfl (by decide +kernel) rfl) pa_nil))))))))
    (pss_one (ps_ret pe_bl))
    pss_nil)
    (pss_cons (ps_set (i := 2) scAhs.nd rfl (Or.inr rfl) (pe_comp [] [] (pi_tup (pv 1)) (fun _ _ _ _ _ _ => pts_nil)
          (fun _ _ _ _ _ _ => (pe_ix (ix_tupK (K := K) rfl) (pv 0) pe_int (fun _ _ => rfl)))
          rfl (by decide +kernel) (by decide +kernel) rfl (by decide +kernel) (fun _ _ z => nomatch z) rfl (by decide +kernel) rfl))
    (pss_one (ps_ret (pe_and (pe_call GRis (hr.mono (by decide)) rfl hRis.nm hRis.fn.kp hRis.bd .nil pass0 (pa_cons (pe_comp [] [] (pi_tup (pv 0)) (fun _ _ _ _ _ _ => pts_nil)
          (fun _ _ _ _ _ _ => (pe_ix (ix_tupK (K := K) rfl) (pv 0) pe_int (fun _ _ => rfl)))
          rfl (by decide +kernel) (by decide +kernel) rfl (by decide +kernel) (fun _ _ z => nomatch z) rfl (by decide +kernel) rfl) pa_nil)) (pe_one (pe_callB (call_all hr.hd) rfl T.all PyProof.Rows.boot_all (pa_cons (pe_comp [2] ["known"] (pi_tup (pv 0)) (fun _ _ _ _ _ _ => pts_nil)
          (fun _ _ _ _ _ _ => (pe_cmpR (op_in_seqK (K := K) rfl) (pe_ix (ix_tupK (K := K) rfl) (pv 0) pe_int (fun _ _ => rfl)) (pv 1) rfl))
          rfl (by decide +kernel) (by decide +kernel) rfl (by decide +kernel) (fun j y hj => by
            match j, hj with
            | 0, hj => cases hj; exact ⟨2, rfl, rfl, rfl, .inl rfl⟩) rfl (by decide +kernel) rfl) pa_nil)))))))), ?_⟩
  obtain ⟨ty, ht, k2, _⟩ := hx.ty (K := K)
  obtain ⟨b, wy, rfl, hb, ky⟩ := hy.tup
  have lny := ky.len
  refine ⟨_, rfl, x, "tuple", ty, isTup t, rfl, ht, k2, _, rfl, ?_⟩
  cases e : isTup t with
  | false =>
    have : headsP t (.tup m) = false := by cases t <;> first | rfl | cases e
    rw [this] at q
    exact iteT (q H (Same.refl H))
  | true =>
    cases t with
    | tup l =>
      refine iteF ?_
      obtain ⟨a, ws, rfl, ha, k⟩ := hx.tup
      have ln := k.len
      have hl := sm_tup hs
      have hfl : ∀ t ∈ l, headFl t = true := List.all_eq_true.mp hf
      have el : headsP (.tup l) (.tup m) = (decide (l.length ≤ 12) && l.all headP && (risV (l.map fst0) && l.all fun h => inV (snd0 h) (m.map fst0))) := rfl
      rw [el] at q
      refine ⟨_, rfl, a, ws, rfl, .inr (SqT.of ha), _, _, rfl, rfl, _, rfl, ?_⟩
      by_cases h8 : l.length ≤ 12
      · have e8 : decide ((ws.length : Int) > 12) = false := decide_eq_false (by omega)
        rw [e8]
        rw [decide_eq_true h8] at q
        refine iteF ?_
        refine ⟨_, rfl, a, rfl, ⟨_, SqT.of ha⟩, fun p hp => ?_⟩
        refine comp_tup (K := K) (a := a) (xs := ws) (fun i us H2 => Same H H2 ∧ H2 p = some (.lst us) ∧ us = ((l.take i).map headP).map V.bl) ⟨same_new hp _, upd_same, rfl⟩ (fun i us H2 _ h2 => SqT.of (h2.1 _ _ ha)) ?_ ?_
        · rintro i x us H2 hx ⟨s2, e4, rfl⟩
          obtain ⟨t, ht, hat⟩ := (k.mono s2).get hx
          have li : i < l.length := (List.getElem?_eq_some_iff.mp ht).1
          have mt := List.mem_of_getElem? ht
          refine ttT ⟨_, rfl, x, t, rfl, hat, hl.2 t mt, hfl t mt, fun H3 s3 => ⟨s3 _ _ e4, small (by simp; omega), same_over (s2.trans s3) hp _, upd_same, ?_⟩⟩
          rw [take_next ht, List.map_append, List.map_append]
          rfl
        · rintro us H2 ⟨s2, e4, rfl⟩
          rw [ln, List.take_length] at e4
          refine ⟨p, _, rfl, SqL.of e4, ?_⟩
          rw [List.all_map]
          have ea : (l.all (id ∘ headP)) = l.all headP := rfl
          rw [ea]
          cases eall : l.all headP with
          | false =>
            rw [eall] at q
            exact ⟨_, rfl, iteT (q H2 s2)⟩
          | true =>
            rw [eall] at q
            refine ⟨_, rfl, iteF ?_⟩
            have ha2 := s2 _ _ ha
            have hb2 := s2 _ _ hb
            refine ⟨_, rfl, b, rfl, ⟨_, SqT.of hb2⟩, fun pk hpk => ?_⟩
            refine comp_tup (K := K) (a := b) (xs := wy) (fun i us H5 => Same H2 H5 ∧ H5 pk = some (.lst us) ∧ us = (m.take i).map fst0) ⟨same_new hpk _, upd_same, rfl⟩ (fun i us H5 _ h5 => SqT.of (h5.1 _ _ hb2)) ?_ ?_
            · rintro i x us H5 hx ⟨s5, e5, rfl⟩
              obtain ⟨t, ht, hat⟩ := ((ky.mono s2).mono s5).get hx
              have li : i < m.length := (List.getElem?_eq_some_iff.mp ht).1
              obtain ⟨n, b, c, rfl⟩ := line_form (all_get hall ht)
              obtain ⟨ax, wx, rfl, hax, kx⟩ := hat.tup
              obtain ⟨v0, ev0, hv0⟩ := at_tup kx (i := 0) (t := .int n) rfl
              have : v0 = .int n := by unfold At at hv0; exact hv0
              subst this
              refine ttT ⟨_, rfl, ax, wx, 0, _, rfl, rfl, SqT.of hax, ev0, e5, small (by simp; omega), same_over s5 hpk _, upd_same, ?_⟩
              rw [take_next ht, List.map_append]
              rfl
            · rintro us H5 ⟨s5, e5, rfl⟩
              rw [lny, List.take_length] at e5
              have ha5 := s5 _ _ ha2
              refine ⟨_, rfl, a, rfl, ⟨_, SqT.of ha5⟩, fun p2 hp2 => ?_⟩
              refine comp_tup (K := K) (a := a) (xs := ws) (fun i us H6 => Same H5 H6 ∧ H6 p2 = some (.lst us) ∧ us = (l.take i).map fst0) ⟨same_new hp2 _, upd_same, rfl⟩ (fun i us H6 _ h6 => SqT.of (h6.1 _ _ ha5)) ?_ ?_
              · rintro i x us H6 hx ⟨s6, e6, rfl⟩
                obtain ⟨t, ht, hat⟩ := (((k.mono s2).mono s5).mono s6).get hx
                have li : i < l.length := (List.getElem?_eq_some_iff.mp ht).1
                obtain ⟨z, n, c2, c3, c4, c5, rfl⟩ := head_form (all_get eall ht)
                obtain ⟨ax, wx, rfl, hax, kx⟩ := hat.tup
                obtain ⟨v0, ev0, hv0⟩ := at_tup kx (i := 0) (t := .str z) rfl
                have : v0 = .str z := by unfold At at hv0; exact hv0
                subst this
                refine ttT ⟨_, rfl, ax, wx, 0, _, rfl, rfl, SqT.of hax, ev0, e6, small (by simp; omega), same_over s6 hp2 _, upd_same, ?_⟩
                rw [take_next ht, List.map_append]
                rfl
              · rintro us H6 ⟨s6, e6, rfl⟩
                rw [ln, List.take_length] at e6
                refine ⟨p2, l.map fst0, rfl, e6, by rw [List.length_map]; omega, heads_cmp eall, fun H7 s7 => ?_⟩
                refine ⟨_, rfl, ?_⟩
                have sA := s2.trans (s5.trans (s6.trans s7))
                cases er : risV (l.map fst0) with
                | false =>
                  rw [er] at q
                  exact iteF (q H7 sA)
                | true =>
                  rw [er] at q
                  refine iteT ?_
                  have ha7 := sA _ _ ha
                  have e57 := (s6.trans s7) _ _ e5
                  have mfl : (m.map fst0).all flatV = true := by
                    rw [List.all_eq_true]
                    intro v mv
                    obtain ⟨u, mu, rfl⟩ := List.mem_map.mp mv
                    obtain ⟨n, b, c, rfl⟩ := line_form (List.all_eq_true.mp hall u mu)
                    rfl
                  refine ⟨_, rfl, a, rfl, ⟨_, SqT.of ha7⟩, fun p3 hp3 => ?_⟩
                  refine comp_tup (K := K) (a := a) (xs := ws) (fun i us H8 => Same H7 H8 ∧ H8 p3 = some (.lst us) ∧ us = ((l.take i).map fun h => inV (snd0 h) (m.map fst0)).map V.bl) ⟨same_new hp3 _, upd_same, rfl⟩ (fun i us H8 _ h8 => SqT.of (h8.1 _ _ ha7)) ?_ ?_
                  · rintro i x us H8 hx ⟨s8, e8', rfl⟩
                    obtain ⟨t, ht, hat⟩ := ((k.mono sA).mono s8).get hx
                    have li : i < l.length := (List.getElem?_eq_some_iff.mp ht).1
                    obtain ⟨z, n, c2, c3, c4, c5, rfl⟩ := head_form (all_get eall ht)
                    obtain ⟨ax, wx, rfl, hax, kx⟩ := hat.tup
                    obtain ⟨v1, ev1, hv1⟩ := at_tup kx (i := 1) (t := .int n) rfl
                    have : v1 = .int n := by unfold At at hv1; exact hv1
                    subst this
                    refine ttT ⟨_, rfl, ax, wx, 1, _, rfl, rfl, SqT.of hax, ev1, _, rfl, pk, _, rfl, .inl (SqL.of (s8 _ _ e57)), rfl, mfl, e8', small (by simp; omega), same_over s8 hp3 _, upd_same, ?_⟩
                    rw [take_next ht, List.map_append, List.map_append]
                    rfl
                  · rintro us H8 ⟨s8, e8', rfl⟩
                    rw [ln, List.take_length] at e8'
                    refine ⟨p3, _, rfl, SqL.of e8', ?_⟩
                    rw [List.all_map]
                    exact q H8 (sA.trans s8)
      · have e8 : decide ((ws.length : Int) > 12) = true := decide_eq_true (by omega)
        rw [e8]
        rw [decide_eq_false h8] at q
        exact iteT (iteT (q H (Same.refl H)))
    | _ => cases e
end
end K51
set_option maxHeartbeats 4000000
namespace K51
open PySem L2
section
variable {P : Program} {w : World} {K : PySem.W.Frag} {mg : Str → Option Value} {base : Heap} {f fWho fWth fTof fItp fSta fWor fRis fNum fLin fHea fAls fAhs : Addr} {fd dWho dWth dTof dItp dSta dWor dRis dNum dLin dHea dAls dAhs : FuncData}
def spTop : Sp := fun vs H Q _ => ∃ x t p, vs = [x, .int p] ∧ At H t x ∧ sm t = true ∧ topFl t = true ∧ ∀ H', Same H H' → Q (.bl (topP t p)) H'
theorem linesP_all {l : List Tr} (h : linesP (.tup l) = true) : l.all lineP = true := by
  have h' : (l.all lineP && risV (l.map fst0)) = true := h
  rw [Bool.and_eq_true] at h'
  exact h'.1
theorem scTop : FnScope ["thing", "place"] ["thing", "place"] (defScope sTop) := ⟨rfl, rfl, rfl, by decide +kernel, rfl, by decide +kernel, by decide +kernel⟩
theorem ok_Top (F : Fun K "is_top" "is_top" sTop f fd) (hTof : Has K mg "is_tuple_of" sTof ["thing", "many"] fTof dTof) (GTof : FnOk P w K mg base CX0 1 fTof dTof ["thing", "many"] spTof)
    (hSta : Has K mg "is_stamp" sSta ["thing"] fSta dSta) (GSta : FnOk P w K mg base CX0 3 fSta dSta ["thing"] spSta)
    (hWor : Has K mg "is_word" sWor ["thing"] fWor dWor) (GWor : FnOk P w K mg base CX0 1 fWor dWor ["thing"] spWor)
    (hAls : Has K mg "are_lines" sAls ["thing"] fAls dAls) (GAls : FnOk P w K mg base CX0 5 fAls dAls ["thing"] spAls)
    (hAhs : Has K mg "are_heads" sAhs ["thing", "lines"] fAhs dAhs) (GAhs : FnOk P w K mg base CX0 5 fAhs dAhs ["thing", "lines"] spAhs) (T : Txt mg) : FnOk P w K mg base CX0 6 f fd ["thing", "place"] spTop := by
  refine F.ok scTop (fun vs H Q E h => ?_) (fun cdv A outer s H vs Q E hr h => ?_)
  · obtain ⟨x, t, p, rfl, _⟩ := h
    rfl
  obtain ⟨x, t, p, rfl, hx, hs, hf, q⟩ := h
  refine ⟨_, (pss_cons (ps_if (PW.pt (pw_or (pt_not (pt_val (pe_call GTof (hr.mono (by decide)) rfl hTof.nm hTof.fn.kp hTof.bd .nil pass0 (pa_cons (pv 0) (pa_cons pe_int pa_nil))))) (pw_or1 (pt_cmpR op_ne (pe_ix ix_tup (pv 0) pe_int (fun _ _ => rfl)) pe_str (nomark _)))))
    (pss_one (ps_ret pe_bl))
    pss_nil)
    (pss_cons (ps_if (PW.pt (pw_or (pt_not (pt_val (pe_call GSta (hr.mono (by decide)) rfl hSta.nm hSta.fn.kp hSta.bd .nil pass0 (pa_cons (pe_ix ix_tup (pv 0) pe_int (fun _ _ => rfl)) pa_nil)))) (pw_or (pt_cmpR op_ne (pe_op op_mod (pe_ix ix_tup (pv 0) pe_int (fun _ _ => rfl)) pe_int) (pv 1) (nomark _)) (pw_or1 (pt_not (pt_val (pe_call GWor (hr.mono (by decide)) rfl hWor.nm hWor.fn.kp hWor.bd .nil pass0 (pa_cons (pe_ix ix_tup (pv 0) pe_int (fun _ _ => rfl)) pa_nil))))))))
    (pss_one (ps_ret pe_bl))
    pss_nil)
    (pss_one (ps_ret (pe_and (pe_call GAls (hr.mono (by decide)) rfl hAls.nm hAls.fn.kp hAls.bd .nil pass0 (pa_cons (pe_ix ix_tup (pv 0) pe_int (fun _ _ => rfl)) pa_nil)) (pe_one (pe_call GAhs (hr.mono (by decide)) rfl hAhs.nm hAhs.fn.kp hAhs.bd .nil pass0 (pa_cons (pe_ix ix_tup (pv 0) pe_int (fun _ _ => rfl)) (pa_cons (pe_ix ix_tup (pv 0) pe_int (fun _ _ => rfl)) pa_nil))))))))), ?_⟩
  have no : ∀ l, t = .tup l → l.length ≠ 5 → topP t p = false := fun l e h3 => by
    subst e
    unfold topP
    split
    · next h => injection h with h; subst h; exact absurd rfl h3
    · rfl
  cases et : isTup t with
  | false =>
    have : topP t p = false := by cases t <;> first | rfl | cases et
    rw [this] at q
    exact ⟨_, rfl, x, 5, rfl, .inr ⟨hx.notT et, _, rfl, iteT (q H (Same.refl H))⟩⟩
  | true =>
    cases t with
    | tup l =>
      obtain ⟨a, vs, rfl, ha, k⟩ := hx.tup
      have ln := k.len
      refine ⟨_, rfl, _, 5, rfl, .inl ⟨a, vs, rfl, ha, ?_⟩⟩
      by_cases h3 : l.length = 5
      · rw [decide_eq_true (show vs.length = 5 by omega)]
        refine ⟨_, rfl, iteF ?_⟩
        match l, h3 with
        | [c0, c1, c2, c3, c4], _ =>
          obtain ⟨v0, e0, z0⟩ := at_tup k (i := 0) (t := c0) rfl
          obtain ⟨v1, e1, z1⟩ := at_tup k (i := 1) (t := c1) rfl
          obtain ⟨v2, e2, z2⟩ := at_tup k (i := 2) (t := c2) rfl
          obtain ⟨v3, e3, z3⟩ := at_tup k (i := 3) (t := c3) rfl
          obtain ⟨v4, e4, z4⟩ := at_tup k (i := 4) (t := c4) rfl
          have hf' : (flatT c0 && allFl lineFl c3 && allFl headFl c4) = true := hf
          rw [Bool.and_eq_true, Bool.and_eq_true] at hf'
          obtain ⟨⟨f0, f3⟩, f4⟩ := hf'
          have hs' := (sm_tup hs).2
          have el : topP (.tup [c0, c1, c2, c3, c4]) p = (strIs c0 "top" && (wthT c1 1 4294967295 && parT c1 p && wordT c2) && (linesP c3 && headsP c4 c3)) := rfl
          rw [el] at q
          have ev0 := z0.flat f0
          subst ev0
          have fi := flat_is f0 (Str.ofString "top")
          refine ⟨_, rfl, a, vs, 0, _, rfl, rfl, SqT.of ha, e0, fi.1, ?_⟩
          rw [fi.2]
          cases s0 : strIs c0 (Str.ofString "top") with
          | false =>
            rw [s0] at q
            exact ⟨_, rfl, iteT (q H (Same.refl H))⟩
          | true =>
          rw [s0] at q
          refine ⟨_, rfl, iteF ?_⟩
          refine ⟨_, rfl, a, vs, 1, v1, rfl, rfl, SqT.of ha, e1, v1, c1, rfl, z1, ?_⟩
          cases n1 : wthT c1 1 4294967295 with
          | false =>
            rw [n1] at q
            exact ⟨_, rfl, iteT (q H (Same.refl H))⟩
          | true =>
          rw [n1] at q
          refine ⟨_, rfl, iteF ?_⟩
          obtain ⟨n, rfl⟩ : ∃ n, c1 = .int n := by
            cases c1 with
            | int n => exact ⟨n, rfl⟩
            | _ => cases n1
          have u1 := z1
          unfold At at u1
          subst u1
          refine ⟨_, rfl, a, vs, 1, _, rfl, rfl, SqT.of ha, e1, _, _, rfl, rfl, (by show (0 : Int) < 2; decide), _, rfl, rfl, ?_⟩
          rw [dec_int]
          have ep : parT (.int n) p = decide (n % 2 = p) := rfl
          rw [ep] at q
          cases dp : decide (n % 2 = p) with
          | false =>
            rw [dp] at q
            exact ⟨_, rfl, iteT (q H (Same.refl H))⟩
          | true =>
          rw [dp] at q
          refine ⟨_, rfl, iteF ?_⟩
          refine ⟨_, rfl, a, vs, 2, v2, rfl, rfl, SqT.of ha, e2, v2, c2, rfl, z2, hs' c2 (by simp), fun H1 s1 => ?_⟩
          cases w2 : wordT c2 with
          | false =>
            rw [w2] at q
            exact ⟨_, rfl, iteT (q H1 s1)⟩
          | true =>
          rw [w2] at q
          refine ⟨_, rfl, iteF ?_⟩
          have ha1 := s1 _ _ ha
          refine ⟨_, rfl, a, vs, 3, v3, rfl, rfl, SqT.of ha1, e3, v3, c3, rfl, z3.mono s1, hs' c3 (by simp), f3, fun H2 s2 => ?_⟩
          refine ⟨_, rfl, ?_⟩
          cases l3 : linesP c3 with
          | false =>
            rw [l3] at q
            exact iteF (q H2 (s1.trans s2))
          | true =>
          rw [l3] at q
          refine iteT ?_
          have ha2 := s2 _ _ ha1
          cases c3 with
          | tup m =>
            exact ⟨_, rfl, a, vs, 4, v4, rfl, rfl, SqT.of ha2, e4, _, rfl, a, vs, 3, v3, rfl, rfl, SqT.of ha2, e3, v4, v3, c4, m, rfl, (z4.mono s1).mono s2, (z3.mono s1).mono s2, hs' c4 (by simp), (sm_tup (hs' (.tup m) (by simp))).1, f4, linesP_all l3, fun H3 s3 => q H3 (s1.trans (s2.trans s3))⟩
          | _ => cases l3
      · rw [decide_eq_false (show ¬ vs.length = 5 by omega)]
        rw [no l rfl h3] at q
        exact ⟨_, rfl, iteT (q H (Same.refl H))⟩
    | _ => cases et
end
end K51
set_option maxHeartbeats 4000000
namespace K51
open PySem L2
theorem cut_to (xs : List V) (n : Nat) : cutV xs none (some (n : Int)) = xs.take n := by
  unfold cutV
  rw [HT.sIx_none, HT.sIx_nat, Nat.sub_zero, List.drop_zero, ← List.take_eq_take_min]
theorem cut_from (xs : List V) (n : Nat) : cutV xs (some (n : Int)) none = xs.drop n := by
  unfold cutV
  rw [HT.sIx_none, HT.sIx_nat]
  rcases Nat.le_total n xs.length with z | z
  · rw [Nat.min_eq_left z]
    exact List.take_of_length_le (by rw [List.length_drop]; omega)
  · rw [Nat.min_eq_right z, List.drop_eq_nil_of_le z]
    simp
/-- no number: none of the kinds of numbers that are asked for -/
def NoN (t : Tr) : Prop := sm t = true ∧ numT t = false ∧ (∀ n, t ≠ .int n ∨ (n < 0 ∨ 4294967295 < n))
theorem NoN.wth {t : Tr} (h : NoN t) {lo hi : Int} (h0 : 0 ≤ lo) (h1 : hi ≤ 4294967295) : wthT t lo hi = false := by
  cases t with
  | int n =>
    have : n < 0 ∨ 4294967295 < n := by
      rcases h.2.2 n with z | z
      · exact absurd rfl z
      · exact z
    show (decide (lo ≤ n) && decide (n ≤ hi)) = false
    rcases this with z | z
    · rw [decide_eq_false (by omega), Bool.false_and]
    · rw [decide_eq_false (show ¬ n ≤ hi by omega), Bool.and_false]
  | _ => rfl
def NoW (t : Tr) : Prop := sm t = true ∧ wordT t = false ∧ strIs t "" = false ∧ noD t = true
section
variable {P : Program} {w : World} {K : PySem.W.Frag} {mg : Str → Option Value} {base : Heap} {f fMix : Addr} {fd dMix : FuncData}
def spCel (K : PySem.W.Frag) : Sp := fun vs H Q _ => ∃ (a : Addr) (ns : List Int) (k : Int), vs = [.ref a, .int k] ∧ 0 ≤ k ∧ SqL K H a (ns.map V.int) ∧ ∀ z : Int, Q (.int z) H
theorem scCel : FnScope ["_law_script", "_law_k"] ["_law_script", "_law_k"] (defScope sCel) := ⟨rfl, rfl, rfl, by decide +kernel, rfl, by decide +kernel, by decide +kernel⟩
theorem ok_Cel (F : Fun K "_law_at" "_law_at" sCel f fd) (T : Txt mg) : FnOk P w K mg base CX0 1 f fd ["_law_script", "_law_k"] (spCel K) := by
  refine F.ok scCel (fun vs H Q E h => ?_) (fun cdv A outer s H vs Q E hr h => ?_)
  · obtain ⟨a, ns, k, rfl, _⟩ := h
    rfl
  obtain ⟨a, ns, k, rfl, h0, hS, q⟩ := h
  refine ⟨_, (pss_cons (ps_if (pt_cmpR op_lt (pv 1) (pe_callB call_len_seq rfl T.len PySem.boot_len (pa_cons (pv 0) pa_nil)) (nomark _))
    (pss_one (ps_ret (pe_ix ix_list (pv 0) (pv 1) (fun _ _ => rfl))))
    pss_nil)
    (pss_one (ps_ret pe_int))), ?_⟩
  refine ⟨_, rfl, _, rfl, a, _, rfl, .inl hS, _, _, rfl, rfl, _, rfl, ?_⟩
  refine ite2 (fun c => ?_) (fun c => ?_)
  · have c' : k < (((ns.map V.int).length : Nat) : Int) := of_decide_eq_true c
    rw [List.length_map] at c'
    obtain ⟨j, rfl⟩ := Int.eq_ofNat_of_zero_le h0
    have hk : j < ns.length := by omega
    exact ⟨_, rfl, _, rfl, a, _, _, .int ns[j], rfl, rfl, hS, atI_nat (by simp [hk]), q _⟩
  · exact q 0
def spMix : Sp := fun vs H Q _ => ∃ (c k : Int), vs = [.int c, .int k] ∧ 0 ≤ k ∧ k ≤ 1000 ∧ ∀ z : Int, 0 ≤ z → z < 2147483587 → Q (.int z) H
theorem scMix : FnScope ["_law_cell", "_law_k", "_law_rest", "_law_j", "_law_number_here"] ["_law_cell", "_law_k"] (defScope sMix) := ⟨rfl, rfl, rfl, by decide +kernel, rfl, by decide +kernel, by decide +kernel⟩
theorem ok_Mix (F : Fun K "_law_mix" "_law_mix" sMix f fd) (T : Txt mg) : FnOk P w K mg base CX0 1 f fd ["_law_cell", "_law_k"] spMix := by
  refine F.ok scMix (fun vs H Q E h => ?_) (fun cdv A outer s H vs Q E hr h => ?_)
  · obtain ⟨c, k, rfl, _⟩ := h
    rfl
  obtain ⟨c, k, rfl, k0, k1, q⟩ := h
  refine ⟨_, (pss_cons (ps_if (PW.pt (pw_and (pt_cmpR op_eq (pe_op op_mod (pv 0) pe_int) pe_int (nomark _)) (pw_and1 (pt_cmpR op_gt (pv 0) pe_int (nomark _)))))
    (pss_cons (ps_set (i := 2) scMix.nd rfl (Or.inl rfl) (pe_op op_fdiv (pv 0) pe_int))
    (pss_cons (ps_for PassesOwn.never rfl (pi_range1 rfl T.rng (pa_cons (pv 1) pa_nil)) (pg_name (i := 3) scMix.nd rfl (Or.inl rfl))
    (pss_one (ps_set (i := 2) scMix.nd rfl (Or.inl rfl) (pe_op op_fdiv (pv 2) pe_int))))
    (pss_one (ps_ret (pe_op op_mod (pv 2) pe_int)))))
    pss_nil)
    (pss_cons (ps_set (i := 4) scMix.nd rfl (Or.inl rfl) (pe_op op_mod (pe_op op_mul (pe_op op_add (pe_op op_add (pe_op op_mod (pv 0) pe_int) (pe_op op_mul pe_int (pv 1))) pe_int) (pe_op op_add (pe_op op_add (pe_op op_mod (pv 0) pe_int) (pe_op op_mul pe_int (pv 1))) pe_int)) pe_int))
    (pss_one (ps_ret (pe_op op_mod (pe_op op_mul (pv 4) (pv 4)) pe_int))))), ?_⟩
  refine ⟨_, rfl, _, _, rfl, rfl, (by show (0 : Int) < 2; decide), rfl, _, rfl, ite2 (fun c1 => ?A) (fun c1 => iteF ?B1)⟩
  case' A =>
    refine ⟨_, rfl, _, _, rfl, rfl, _, rfl, ite2 (fun c2 => ?C) (fun c2 => ?B2)⟩
  case C =>
    refine ⟨_, rfl, _, _, rfl, rfl, ⟨by decide, by decide⟩, ?_⟩
    refine ⟨_, rfl, k, rfl, by omega, by omega, ?_⟩
    refine for_range (lo := 0) (n := k.toNat) (fun j σ H2 => ∃ (z : Int) (o : Option V), σ = [some (.int c), some (.int k), some (.int z), o, none] ∧ H2 = H) ⟨_, _, rfl, rfl⟩ ?_ ?_
    · rintro j σ H2 hj ⟨z, o, rfl, rfl⟩
      exact ⟨_, rfl, _, _, rfl, rfl, ⟨by decide, by decide⟩, _, _, rfl, rfl⟩
    · rintro σ H2 ⟨z, o, rfl, rfl⟩
      exact ⟨_, rfl, _, _, rfl, rfl, (by show (0 : Int) < 1000003; decide), q _ (by show (0 : Int) ≤ z % 1000003; omega) (by show z % 1000003 < 2147483587; omega)⟩
  case B1 | B2 =>
    refine ⟨_, rfl, _, _, rfl, rfl, (by show (0 : Int) < 1000003; decide), _, rfl, _, _, rfl, rfl, .inl ⟨by decide, by decide⟩, _, _, rfl, rfl, _, _, rfl, rfl, _, rfl, _, _, rfl, rfl, (by show (0 : Int) < 65537; decide), _, rfl, _, _, rfl, rfl, .inl ⟨by decide, by decide⟩, _, _, rfl, rfl, _, _, rfl, rfl, _, _, rfl, rfl, .inl ⟨by omega, by omega⟩, _, _, rfl, rfl, (by show (0 : Int) < 2147483629; decide), ?_⟩
    have b0 := Int.emod_nonneg ((c % 1000003 + 31 * k + 7) * (c % 65537 + 7919 * k + 11)) (show (2147483629 : Int) ≠ 0 by decide)
    have b1 := Int.emod_lt_of_pos ((c % 1000003 + 31 * k + 7) * (c % 65537 + 7919 * k + 11)) (show (0 : Int) < 2147483629 by decide)
    dsimp only
    generalize (c % 1000003 + 31 * k + 7) * (c % 65537 + 7919 * k + 11) % 2147483629 = n2 at b0 b1
    exact ⟨_, rfl, _, rfl, _, _, rfl, rfl, .inl ⟨by omega, by omega⟩, _, _, rfl, rfl, (by show (0 : Int) < 2147483587; decide), q _ (Int.emod_nonneg _ (by decide)) (Int.emod_lt_of_pos _ (by decide))⟩
def spNbr : Sp := fun vs H Q _ => ∃ c : Int, vs = [.int c] ∧ 0 ≤ c ∧ ∀ (z : Int) H', 1 ≤ z → z ≤ 4294967295 → Same H H' → Q (.int z) H'
theorem scNbr : FnScope ["_law_cell"] ["_law_cell"] (defScope sNbr) := ⟨rfl, rfl, rfl, by decide +kernel, rfl, by decide +kernel, by decide +kernel⟩
theorem ok_Nbr (F : Fun K "_law_number" "_law_number" sNbr f fd) (T : Txt mg) : FnOk P w K mg base CX0 1 f fd ["_law_cell"] spNbr := by
  refine F.ok scNbr (fun vs H Q E h => ?_) (fun cdv A outer s H vs Q E hr h => ?_)
  · obtain ⟨c, rfl, _⟩ := h
    rfl
  obtain ⟨c, rfl, c0, q⟩ := h
  refine ⟨_, (pss_one (ps_ret (pe_ix ix_list (pe_lst (pa_cons (pe_op op_add pe_int (pe_op op_mod (pe_op op_fdiv (pv 0) pe_int) pe_int)) (pa_cons (pe_op op_add pe_int (pe_op op_mod (pe_op op_fdiv (pv 0) pe_int) pe_int)) (pa_cons pe_int pa_nil)))) (pe_op op_mod (pv 0) pe_int) (fun _ _ => rfl)))), ?_⟩
  refine ⟨_, rfl, _, _, rfl, rfl, ⟨by decide, by decide⟩, _, _, rfl, rfl, (by show (0 : Int) < 9; decide), _, _, rfl, rfl, _, rfl, _, _, rfl, rfl, ⟨by decide, by decide⟩, _, _, rfl, rfl, (by show (0 : Int) < 4294967295; decide), _, _, rfl, rfl, (by show 3 ≤ sizeLine; decide), fun p hp => ?_⟩
  have s1 := same_new hp (HO.lst [V.int (1 + c / 3 % 9), V.int (1 + c / 3 % 4294967295), V.int 4294967295])
  have hp1 : upd H p (HO.lst [V.int (1 + c / 3 % 9), V.int (1 + c / 3 % 4294967295), V.int 4294967295]) p = some (.lst [V.int (1 + c / 3 % 9), V.int (1 + c / 3 % 4294967295), V.int 4294967295]) := upd_same
  obtain ⟨z, e, z0, z1⟩ : ∃ z : Int, atI [V.int (1 + c / 3 % 9), V.int (1 + c / 3 % 4294967295), V.int 4294967295] (c % 3) = some (.int z) ∧ 1 ≤ z ∧ z ≤ 4294967295 := by
    obtain e | e | e : c % 3 = 0 ∨ c % 3 = 1 ∨ c % 3 = 2 := by omega
    · exact ⟨_, by rw [e]; rfl, by omega, by omega⟩
    · exact ⟨_, by rw [e]; rfl, by omega, by omega⟩
    · exact ⟨4294967295, by rw [e]; rfl, by decide, by decide⟩
  exact ⟨_, rfl, _, _, rfl, rfl, (by show (0 : Int) < 3; decide), p, _, _, .int z, rfl, rfl, SqL.of hp1, e, q z _ z0 z1 s1⟩
def spWit : Sp := fun vs H Q _ => ∃ x y l t k, vs = [x, .int ((k : Nat) : Int), y] ∧ At H (.tup l) x ∧ At H t y ∧ k < l.length ∧ l.length ≤ 100 ∧ ∀ r H', Same H H' → At H' (.tup (l.set k t)) r → Q r H'
theorem scWit : FnScope ["_law_row", "_law_at_here", "_law_thing"] ["_law_row", "_law_at_here", "_law_thing"] (defScope sWit) := ⟨rfl, rfl, rfl, by decide +kernel, rfl, by decide +kernel, by decide +kernel⟩
theorem ok_Wit (F : Fun K "_law_with" "_law_with" sWit f fd) (T : Txt mg) : FnOk P w K mg base CX0 1 f fd ["_law_row", "_law_at_here", "_law_thing"] spWit := by
  refine F.ok scWit (fun vs H Q E h => ?_) (fun cdv A outer s H vs Q E hr h => ?_)
  · obtain ⟨x, y, l, t, k, rfl, _⟩ := h
    rfl
  obtain ⟨x, y, l, t, k, rfl, hx, hy, hk, hl, q⟩ := h
  obtain ⟨a, ws, rfl, ha, kw⟩ := hx.tup
  have ln := kw.len
  refine ⟨_, (pss_one (ps_ret (pe_op op_catA (pe_op op_catA (pe_slice sl_tupW (pv 0) po_none (po_some (pv 1))) (pe_tup (pa_cons (pv 2) pa_nil))) (pe_slice sl_tupW (pv 0) (po_some (pe_op op_add (pv 1) pe_int)) po_none)))), ?_⟩
  refine ⟨_, rfl, _, rfl, _, rfl, a, ws, rfl, ha, fun b1 H1 s1 e1 => ?_⟩
  rw [cut_to] at e1
  refine ⟨_, rfl, (by show 1 ≤ sizeLine; decide), fun p2 hp2 => ?_⟩
  have s2 := same_new hp2 (HO.tup [y])
  refine ⟨b1, p2, _, _, rfl, rfl, s2 _ _ e1, upd_same, Nat.le_of_lt (small (by rw [List.length_take]; show _ + 1 ≤ _; omega)), fun r1 H3 s3 e3 => ?_⟩
  have s13 := s1.trans (s2.trans s3)
  refine ⟨_, rfl, _, rfl, _, _, rfl, rfl, _, rfl, a, ws, rfl, s13 _ _ ha, fun b2 H4 s4 e4 => ?_⟩
  rw [show (k : Int) + 1 = ((k + 1 : Nat) : Int) from by omega, cut_from] at e4
  refine ⟨r1, b2, _, _, rfl, rfl, s4 _ _ e3, e4, Nat.le_of_lt (small (by rw [List.length_append, List.length_take, List.length_drop]; show _ + 1 + _ ≤ _; omega)), fun r H5 s5 e5 => q (.ref r) H5 (s13.trans (s4.trans s5)) ?_⟩
  have sA := s13.trans (s4.trans s5)
  rw [List.set_eq_take_append_cons_drop, if_pos hk]
  have e5' : H5 r = some (.tup (ws.take k ++ y :: ws.drop (k + 1))) := by
    rw [e5]
    simp
  have kA := Ats.mono sA kw
  exact At.mkT e5' (Ats.app (Ats.cons (hy.mono sA) (kA.drop (k + 1))) (kA.take k))
end
end K51
/-! ### parts of a display or of a call: no star -/
namespace L2
open PySem PySem.Spec PyProof.Rows
def noStar : Expr → Bool
  | .Starred .. => false
  | _ => true
theorem star_cons {e : Expr} (h : noStar e = true) (es : List Expr) (env : Env) : starEach (e :: es) env = (false, eval e env) :: starEach es env := by
  cases e with
  | Starred => cases h
  | _ => rfl
section
variable {X : Cx} {e : Expr} {es : List Expr} {te : TE} {t : TA}
theorem pc (ha : PE X e te) (hr : PA X es t) (hs : noStar e = true := by rfl) : PA X (e :: es) (tCons te t) := pa_cons ha hr (star_cons hs es X.env)
end
end L2
set_option maxHeartbeats 4000000
namespace K51
open PySem L2
theorem NoN.of {t : Tr} (hs : sm t = true) (h : ∀ n, t ≠ .int n) : NoN t := ⟨hs, by cases t <;> first | rfl | exact absurd rfl (h _), fun n => .inl (h n)⟩
theorem NoN.int {n : Int} (h : n < 0 ∨ 4294967295 < n) : NoN (.int n) := by
  refine ⟨rfl, ?_, fun m => ?_⟩
  · show (decide (0 ≤ n) && decide (n ≤ 4294967295)) = false
    rcases h with z | z
    · rw [decide_eq_false (by omega), Bool.false_and]
    · rw [decide_eq_false (show ¬ n ≤ 4294967295 by omega), Bool.and_false]
  · by_cases z : n = m
    · subst z
      exact .inr h
    · exact .inl fun e => z (by injection e)
section
variable {P : Program} {w : World} {K : PySem.W.Frag} {mg : Str → Option Value} {base : Heap} {f fMix : Addr} {fd dMix : FuncData}
def spNno : Sp := fun vs H Q _ => ∃ c : Int, vs = [.int c] ∧ ∀ v t H', Same H H' → At H' t v → NoN t → Q v H'
theorem scNno : FnScope ["_law_cell"] ["_law_cell"] (defScope sNno) := ⟨rfl, rfl, rfl, by decide +kernel, rfl, by decide +kernel, by decide +kernel⟩
theorem ok_Nno (F : Fun K "_law_no_number" "_law_no_number" sNno f fd) (T : Txt mg) : FnOk P w K mg base CX0 1 f fd ["_law_cell"] spNno := by
  refine F.ok scNno (fun vs H Q E h => ?_) (fun cdv A outer s H vs Q E hr h => ?_)
  · obtain ⟨c, rfl, _⟩ := h
    rfl
  obtain ⟨c, rfl, q⟩ := h
  refine ⟨_, (pss_one (ps_ret (pe_ix ix_list (by refine' pe_lst ?p0; (case p0 => (refine' pc ?q0 ?p1; (case q0 => exact (pe_un un_neg pe_int)); (case p1 => (refine' pc ?q1 ?p2; (case q1 => exact pe_int); (case p2 => (refine' pc ?q2 ?p3; (case q2 => exact pe_non); (case p3 => (refine' pc ?q3 ?p4; (case q3 => exact pe_str); (case p4 => (refine' pc ?q4 ?p5; (case q4 => exact pe_bl); (case p5 => (refine' pc ?q5 ?p6; (case q5 => exact pe_bl); (case p6 => (refine' pc ?q6 ?p7; (case q6 => exact (pe_tup (pc pe_int pa_nil))); (case p7 => (refine' pc ?q7 ?p8; (case q7 => exact (pe_lst (pc pe_int pa_nil))); (case p8 => (refine' pc ?q8 ?p9; (case q8 => exact (pe_op op_mulB (pe_op op_pow pe_int pe_int) (pe_op op_pow pe_int pe_int))); (case p9 => (refine' pc ?q9 ?p10; (case q9 => exact pe_str); (case p10 => (refine' pc ?q10 ?p11; (case q10 => exact pe_dnewK); (case p11 => exact pa_nil)))))))))))))))))))))))) (pe_op op_mod (pv 0) pe_int) (fun _ _ => rfl)))), ?_⟩
  refine ⟨_, rfl, (by show 1 ≤ sizeLine; decide), fun p1 hp1 => ?_⟩
  have s1 := same_new hp1 (HO.tup [V.int 1])
  refine ⟨(by show 1 ≤ sizeLine; decide), fun p2 hp2 => ?_⟩
  have s2 := same_new hp2 (HO.lst [V.int 1])
  refine ⟨_, _, rfl, rfl, ⟨by decide, by decide, by decide⟩, _, _, rfl, rfl, ⟨by decide, by decide, by decide⟩, _, _, rfl, rfl, PySem.IntMulOk.of_bits (by decide +kernel) (by decide +kernel), ?_⟩
  intro p3 hp3
  have s3 := same_new hp3 (HO.dK [])
  refine ⟨(by show 11 ≤ sizeLine; decide), fun p4 hp4 => ?_⟩
  have big : ((10 : Int) ^ Int.toNat 40 * (10 : Int) ^ Int.toNat 40) > 4294967295 := by decide +kernel
  dsimp only at hp4 ⊢
  generalize (10 : Int) ^ Int.toNat 40 * (10 : Int) ^ Int.toNat 40 = bg at big hp4 ⊢
  have s4 := same_new hp4 (HO.lst [V.int (-1), V.int 4294967296, V.non, V.str "1", V.bl true, V.bl false, V.ref p1, V.ref p2, V.int bg, V.str "", V.ref p3])
  have e4 : upd (upd (upd (upd H p1 (HO.tup [V.int 1])) p2 (HO.lst [V.int 1])) p3 (HO.dK [])) p4 (HO.lst [V.int (-1), V.int 4294967296, V.non, V.str "1", V.bl true, V.bl false, V.ref p1, V.ref p2, V.int bg, V.str "", V.ref p3]) p4 = some (.lst [V.int (-1), V.int 4294967296, V.non, V.str "1", V.bl true, V.bl false, V.ref p1, V.ref p2, V.int bg, V.str "", V.ref p3]) := upd_same
  have e1 := s4 _ _ (s3 _ _ (s2 _ _ (upd_same (H := H) (a := p1) (o := HO.tup [V.int 1]))))
  have e2 := s4 _ _ (s3 _ _ (upd_same (H := upd H p1 (HO.tup [V.int 1])) (a := p2) (o := HO.lst [V.int 1])))
  have e3 := s4 _ _ (upd_same (H := upd (upd H p1 (HO.tup [V.int 1])) p2 (HO.lst [V.int 1])) (a := p3) (o := HO.dK []))
  have sA := s1.trans (s2.trans (s3.trans s4))
  revert sA e1 e2 e3 e4
  generalize upd (upd (upd (upd H p1 (HO.tup [V.int 1])) p2 (HO.lst [V.int 1])) p3 (HO.dK [])) p4 (HO.lst [V.int (-1), V.int 4294967296, V.non, V.str "1", V.bl true, V.bl false, V.ref p1, V.ref p2, V.int bg, V.str "", V.ref p3]) = H4
  intro e4 e1 e2 e3 sA
  obtain ⟨v, t, e, hv, nt⟩ : ∃ v t, atI [V.int (-1), V.int 4294967296, V.non, V.str "1", V.bl true, V.bl false, V.ref p1, V.ref p2, V.int bg, V.str "", V.ref p3] (c % 11) = some v ∧ At H4 t v ∧ NoN t := by
    obtain e | e | e | e | e | e | e | e | e | e | e : c % 11 = 0 ∨ c % 11 = 1 ∨ c % 11 = 2 ∨ c % 11 = 3 ∨ c % 11 = 4 ∨ c % 11 = 5 ∨ c % 11 = 6 ∨ c % 11 = 7 ∨ c % 11 = 8 ∨ c % 11 = 9 ∨ c % 11 = 10 := by omega
    · exact ⟨_, .int (-1), by rw [e]; rfl, At.int _, NoN.int (.inl (by decide))⟩
    · exact ⟨_, .int 4294967296, by rw [e]; rfl, At.int _, NoN.int (.inr (by decide))⟩
    · exact ⟨_, .non, by rw [e]; rfl, At.non, NoN.of rfl fun _ z => by cases z⟩
    · exact ⟨_, .str "1", by rw [e]; rfl, At.str _, NoN.of (by decide +kernel) fun _ z => by cases z⟩
    · exact ⟨_, .bl true, by rw [e]; rfl, At.bl _, NoN.of rfl fun _ z => by cases z⟩
    · exact ⟨_, .bl false, by rw [e]; rfl, At.bl _, NoN.of rfl fun _ z => by cases z⟩
    · exact ⟨_, .tup [.int 1], by rw [e]; rfl, At.mkT e1 (Ats.cons (At.int _) (Ats.nil _)), NoN.of (by decide +kernel) fun _ z => by cases z⟩
    · exact ⟨_, .lst [.int 1], by rw [e]; rfl, At.mkL e2 (Ats.cons (At.int _) (Ats.nil _)), NoN.of (by decide +kernel) fun _ z => by cases z⟩
    · exact ⟨_, .int bg, by rw [e]; rfl, At.int _, NoN.int (.inr big)⟩
    · exact ⟨_, .str "", by rw [e]; rfl, At.str _, NoN.of (by decide +kernel) fun _ z => by cases z⟩
    · exact ⟨_, .dct, by rw [e]; rfl, (by unfold At; exact ⟨_, _, rfl, e3⟩), NoN.of rfl fun _ z => by cases z⟩
  exact ⟨_, rfl, _, _, rfl, rfl, (by show (0 : Int) < 11; decide), p4, _, _, v, rfl, rfl, SqL.of e4, e, q v t H4 sA hv nt⟩
def spNwo : Sp := fun vs H Q _ => ∃ c : Int, vs = [.int c] ∧ ∀ v t H', Same H H' → At H' t v → NoW t → Q v H'
theorem scNwo : FnScope ["_law_cell"] ["_law_cell"] (defScope sNwo) := ⟨rfl, rfl, rfl, by decide +kernel, rfl, by decide +kernel, by decide +kernel⟩
theorem ok_Nwo (F : Fun K "_law_no_word" "_law_no_word" sNwo f fd) (T : Txt mg) : FnOk P w K mg base CX0 1 f fd ["_law_cell"] spNwo := by
  refine F.ok scNwo (fun vs H Q E h => ?_) (fun cdv A outer s H vs Q E hr h => ?_)
  · obtain ⟨c, rfl, _⟩ := h
    rfl
  obtain ⟨c, rfl, q⟩ := h
  refine' ⟨_, ?x, ?main⟩
  case x =>
    refine' pss_one ?y
    case y =>
      refine' ps_ret ?e
      case e =>
        with_reducible refine' pe_ix ix_list ?l ?i ?h
        case i => exact pe_op op_mod (pv 0) pe_int
        case h => exact fun _ _ => rfl
        case l =>
          with_reducible refine' pe_lst ?p0
          case p0 =>
            with_reducible refine' pc ?q0 ?p1 ?h0
            case h0 => rfl
            case q0 => exact pe_str
            case p1 =>
              with_reducible refine' pc ?q1 ?p2 ?h1
              case h1 => rfl
              case q1 => exact pe_str
              case p2 =>
                with_reducible refine' pc ?q2 ?p3 ?h2
                case h2 => rfl
                case q2 => exact pe_str
                case p3 =>
                  with_reducible refine' pc ?q3 ?p4 ?h3
                  case h3 => rfl
                  case q3 => exact pe_non
                  case p4 =>
                    with_reducible refine' pc ?q4 ?p5 ?h4
                    case h4 => rfl
                    case q4 => exact pe_int
                    case p5 =>
                      with_reducible refine' pc ?q5 ?p6 ?h5
                      case h5 => rfl
                      case q5 => exact pe_str
                      case p6 =>
                        with_reducible refine' pc ?q6 ?p7 ?h6
                        case h6 => rfl
                        case q6 => exact pe_lst (pc pe_str pa_nil)
                        case p7 =>
                          with_reducible refine' pc ?q7 ?p8 ?h7
                          case h7 => rfl
                          case q7 => exact pe_tup (pc pe_str pa_nil)
                          case p8 =>
                            with_reducible refine' pc ?q8 ?p9 ?h8
                            case h8 => rfl
                            case q8 => exact pe_str
                            case p9 =>
                              with_reducible refine' pc ?q9 ?p10 ?h9
                              case h9 => rfl
                              case q9 => exact pe_bl
                              case p10 =>
                                exact pa_nil
  case main =>
    refine ⟨(by show 1 ≤ sizeLine; decide), fun p1 hp1 => ?_⟩
    have s1 := same_new hp1 (HO.lst [V.str "a"])
    refine ⟨(by show 1 ≤ sizeLine; decide), fun p2 hp2 => ?_⟩
    have s2 := same_new hp2 (HO.tup [V.str "a"])
    refine ⟨(by show 10 ≤ sizeLine; decide), fun p4 hp4 => ?_⟩
    have s4 := same_new hp4 (HO.lst [V.str "A", V.str "a b", V.str "abcdefghi", V.non, V.int 5, V.str "a/b", V.ref p1, V.ref p2, V.str "a-", V.bl true])
    have e4 : upd (upd (upd H p1 (HO.lst [V.str "a"])) p2 (HO.tup [V.str "a"])) p4 (HO.lst [V.str "A", V.str "a b", V.str "abcdefghi", V.non, V.int 5, V.str "a/b", V.ref p1, V.ref p2, V.str "a-", V.bl true]) p4 = some (.lst [V.str "A", V.str "a b", V.str "abcdefghi", V.non, V.int 5, V.str "a/b", V.ref p1, V.ref p2, V.str "a-", V.bl true]) := upd_same
    have e1 := s4 _ _ (s2 _ _ (upd_same (H := H) (a := p1) (o := HO.lst [V.str "a"])))
    have e2 := s4 _ _ (upd_same (H := upd H p1 (HO.lst [V.str "a"])) (a := p2) (o := HO.tup [V.str "a"]))
    have sA := s1.trans (s2.trans s4)
    revert sA e1 e2 e4
    generalize upd (upd (upd H p1 (HO.lst [V.str "a"])) p2 (HO.tup [V.str "a"])) p4 (HO.lst [V.str "A", V.str "a b", V.str "abcdefghi", V.non, V.int 5, V.str "a/b", V.ref p1, V.ref p2, V.str "a-", V.bl true]) = H4
    intro e4 e1 e2 sA
    obtain ⟨v, t, e, hv, nt⟩ : ∃ v t, atI [V.str "A", V.str "a b", V.str "abcdefghi", V.non, V.int 5, V.str "a/b", V.ref p1, V.ref p2, V.str "a-", V.bl true] (c % 10) = some v ∧ At H4 t v ∧ NoW t := by
      obtain e | e | e | e | e | e | e | e | e | e : c % 10 = 0 ∨ c % 10 = 1 ∨ c % 10 = 2 ∨ c % 10 = 3 ∨ c % 10 = 4 ∨ c % 10 = 5 ∨ c % 10 = 6 ∨ c % 10 = 7 ∨ c % 10 = 8 ∨ c % 10 = 9 := by omega
      · exact ⟨_, .str "A", by rw [e]; rfl, At.str _, by unfold NoW; decide +kernel⟩
      · exact ⟨_, .str "a b", by rw [e]; rfl, At.str _, by unfold NoW; decide +kernel⟩
      · exact ⟨_, .str "abcdefghi", by rw [e]; rfl, At.str _, by unfold NoW; decide +kernel⟩
      · exact ⟨_, .non, by rw [e]; rfl, At.non, ⟨rfl, rfl, rfl, rfl⟩⟩
      · exact ⟨_, .int 5, by rw [e]; rfl, At.int _, ⟨rfl, rfl, rfl, rfl⟩⟩
      · exact ⟨_, .str "a/b", by rw [e]; rfl, At.str _, by unfold NoW; decide +kernel⟩
      · exact ⟨_, .lst [.str "a"], by rw [e]; rfl, At.mkL e1 (Ats.cons (At.str _) (Ats.nil _)), by unfold NoW; decide +kernel⟩
      · exact ⟨_, .tup [.str "a"], by rw [e]; rfl, At.mkT e2 (Ats.cons (At.str _) (Ats.nil _)), by unfold NoW; decide +kernel⟩
      · exact ⟨_, .str "a-", by rw [e]; rfl, At.str _, by unfold NoW; decide +kernel⟩
      · exact ⟨_, .bl true, by rw [e]; rfl, At.bl _, ⟨rfl, rfl, rfl, rfl⟩⟩
    exact ⟨_, rfl, _, _, rfl, rfl, (by show (0 : Int) < 10; decide), p4, _, _, v, rfl, rfl, SqL.of e4, e, q v t H4 sA hv nt⟩
end
end K51
set_option maxHeartbeats 4000000
namespace K51
open PySem L2
/-! ### lines, good and bad -/
theorem sms_of : ∀ {l : List Tr}, (∀ t ∈ l, sm t = true) → sms l = true
  | [], _ => rfl
  | t :: ts, h => by
    unfold sms
    rw [h t (List.mem_cons_self ..), sms_of fun u hu => h u (List.mem_cons_of_mem _ hu)]
    rfl
theorem sm_mkT {l : List Tr} (h : l.length ≤ 100) (k : ∀ t ∈ l, sm t = true) : sm (.tup l) = true := by
  unfold sm
  rw [decide_eq_true h, sms_of k]
  rfl
theorem sm_mkL {l : List Tr} (h : l.length ≤ 100) (k : ∀ t ∈ l, sm t = true) : sm (.lst l) = true := by
  unfold sm
  rw [decide_eq_true h, sms_of k]
  rfl
def LineF (t : Tr) : Prop := ∃ n b z, t = .tup [.int n, .int b, .str z] ∧ z.length ≤ 100
theorem LineF.sm {t : Tr} (h : LineF t) : sm t = true := by
  obtain ⟨n, b, z, rfl, hz⟩ := h
  refine sm_mkT (by show (3 : Nat) ≤ 100; decide) fun t m => ?_
  simp only [List.mem_cons, List.not_mem_nil, or_false] at m
  rcases m with rfl | rfl | rfl
  · rfl
  · rfl
  · unfold K51.sm
    exact decide_eq_true hz
theorem LineF.fl {t : Tr} (h : LineF t) : lineFl t = true := by
  obtain ⟨n, b, z, rfl, hz⟩ := h
  rfl
structure GoodL (l : List Tr) : Prop where
  ok : linesP (.tup l) = true
  fm : ∀ t ∈ l, LineF t
  l1 : 1 ≤ l.length
  l6 : l.length ≤ 6
theorem GoodL.ris {l : List Tr} (g : GoodL l) : risV (l.map fst0) = true := by
  have h : (l.all lineP && risV (l.map fst0)) = true := g.ok
  rw [Bool.and_eq_true] at h
  exact h.2
/-- what the bad ones are -/
structure BadL (t : Tr) : Prop where
  no : linesP t = false
  sm : K51.sm t = true
  fl : allFl lineFl t = true
theorem GoodL.set {l : List Tr} (g : GoodL l) {i : Nat} {u : Tr} (hi : i < l.length) (hu : lineP u = false) (hs : sm u = true) (hf : lineFl u = true) : BadL (.tup (l.set i u)) := by
  refine ⟨lines_at (get_set hi) hu, sm_mkT (by rw [List.length_set]; have := g.l6; omega) fun t m => ?_, List.all_eq_true.mpr fun t m => ?_⟩
  · rcases List.mem_or_eq_of_mem_set m with m | rfl
    · exact (g.fm t m).sm
    · exact hs
  · rcases List.mem_or_eq_of_mem_set m with m | rfl
    · exact (g.fm t m).fl
    · exact hf
theorem GoodL.of {l m : List Tr} (g : GoodL l) (hm : ∀ t ∈ m, t ∈ l) (hl : m.length ≤ 100) (hr : risV (m.map fst0) = false) : BadL (.tup m) :=
  ⟨lines_ris hr, sm_mkT hl fun t h => (g.fm t (hm t h)).sm, List.all_eq_true.mpr fun t h => (g.fm t (hm t h)).fl⟩
section
variable {P : Program} {w : World} {K : PySem.W.Frag} {mg : Str → Option Value} {base : Heap} {f fWit fNno fNwo : Addr} {fd dWit dNno dNwo : FuncData}
def spBli : Sp := fun vs H Q _ => ∃ (c : Int) (x : V) (l : List Tr), vs = [.int c, x] ∧ 0 ≤ c ∧ At H (.tup l) x ∧ GoodL l ∧ ∀ r t H', Same H H' → At H' t r → BadL t → Q r H'
theorem scBli : FnScope ["_law_cell", "_law_rows", "_law_at_here", "_law_row"] ["_law_cell", "_law_rows"] (defScope sBli) := ⟨rfl, rfl, rfl, by decide +kernel, rfl, by decide +kernel, by decide +kernel⟩
theorem ok_Bli (F : Fun K "_law_bad_lines" "_law_bad_lines" sBli f fd) (hWit : Has K mg "_law_with" sWit ["_law_row", "_law_at_here", "_law_thing"] fWit dWit) (GWit : FnOk P w K mg base CX0 1 fWit dWit ["_law_row", "_law_at_here", "_law_thing"] spWit)
    (hNno : Has K mg "_law_no_number" sNno ["_law_cell"] fNno dNno) (GNno : FnOk P w K mg base CX0 1 fNno dNno ["_law_cell"] spNno)
    (hNwo : Has K mg "_law_no_word" sNwo ["_law_cell"] fNwo dNwo) (GNwo : FnOk P w K mg base CX0 1 fNwo dNwo ["_law_cell"] spNwo) (T : Txt mg) : FnOk P w K mg base CX0 2 f fd ["_law_cell", "_law_rows"] spBli := by
  refine F.ok scBli (fun vs H Q E h => ?_) (fun cdv A outer s H vs Q E hr h => ?_)
  · obtain ⟨c, x, l, rfl, _⟩ := h
    rfl
  obtain ⟨c, x, l, rfl, c0, hx, g, q⟩ := h
  obtain ⟨a, ws, rfl, ha, kw⟩ := hx.tup
  have ln := kw.len
  have l1 := g.l1
  have l6 := g.l6
  refine ⟨_, (pss_cons (ps_set (i := 2) scBli.nd rfl (Or.inl rfl) (pe_op op_mod (pe_op op_fdiv (pv 0) pe_int) (pe_callB call_len_seq rfl T.len PySem.boot_len (pc (pv 1) pa_nil))))
    (pss_cons (ps_set (i := 3) scBli.nd rfl (Or.inl rfl) (pe_ix ix_tup (pv 1) (pv 2) (fun _ _ => rfl)))
    (pss_cons (ps_if (pt_cmpR op_lt (pe_op op_mod (pv 0) pe_int) pe_int (nomark _))
    (pss_one (ps_ret (pe_op op_catA (pe_op op_catA (pe_slice sl_tupW (pv 1) po_none (po_some (pv 2))) (pe_tup (pc (pv 3) pa_nil))) (pe_slice sl_tupW (pv 1) (po_some (pv 2)) po_none))))
    pss_nil)
    (pss_cons (ps_if (PW.pt (pw_and (pt_cmpR op_eq (pe_op op_mod (pv 0) pe_int) pe_int (nomark _)) (pw_and1 (pt_cmpR op_lt (pe_op op_add (pv 2) pe_int) (pe_callB call_len_seq rfl T.len PySem.boot_len (pc (pv 1) pa_nil)) (nomark _)))))
    (pss_one (ps_ret (pe_op op_catA (pe_op op_catA (pe_slice sl_tupW (pv 1) po_none (po_some (pv 2))) (pe_tup (pc (pe_ix ix_tup (pv 1) (pe_op op_add (pv 2) pe_int) (fun _ _ => rfl)) (pc (pv 3) pa_nil)))) (pe_slice sl_tupW (pv 1) (po_some (pe_op op_add (pv 2) pe_int)) po_none))))
    pss_nil)
    (pss_cons (ps_if (pt_cmpR op_eq (pe_op op_mod (pv 0) pe_int) pe_int (nomark _))
    (pss_one (ps_ret (pe_call GWit (hr.mono (by decide)) rfl hWit.nm hWit.fn.kp hWit.bd .nil pass0 (pc (pv 1) (pc (pv 2) (pc (pe_callTy call_list_of rfl T.lst PyProof.Rows.boot_list (pc (pv 3) pa_nil)) pa_nil))))))
    pss_nil)
    (pss_cons (ps_if (pt_cmpR op_eq (pe_op op_mod (pv 0) pe_int) pe_int (nomark _))
    (pss_one (ps_ret (pe_call GWit (hr.mono (by decide)) rfl hWit.nm hWit.fn.kp hWit.bd .nil pass0 (pc (pv 1) (pc (pv 2) (pc (pe_ix ix_list (by refine' pe_lst ?p0; (case p0 => (refine' pc ?q0 ?p1; (case q0 => exact (pe_op op_catA (pv 3) (pe_tup (pc pe_int pa_nil)))); (case p1 => (refine' pc ?q1 ?p2; (case q1 => exact (pe_slice sl_tupW (pv 3) po_none (po_some pe_int))); (case p2 => (refine' pc ?q2 ?p3; (case q2 => exact pe_non); (case p3 => (refine' pc ?q3 ?p4; (case q3 => exact (pe_tup pa_nil)); (case p4 => exact pa_nil)))))))))) (pe_op op_mod (pe_op op_fdiv (pv 0) pe_int) pe_int) (fun _ _ => rfl)) pa_nil))))))
    pss_nil)
    (pss_cons (ps_if (pt_cmpR op_eq (pe_op op_mod (pv 0) pe_int) pe_int (nomark _))
    (pss_one (ps_ret (pe_call GWit (hr.mono (by decide)) rfl hWit.nm hWit.fn.kp hWit.bd .nil pass0 (pc (pv 1) (pc (pv 2) (pc (pe_call GWit (hr.mono (by decide)) rfl hWit.nm hWit.fn.kp hWit.bd .nil pass0 (pc (pv 3) (pc pe_int (pc (pe_call GNwo (hr.mono (by decide)) rfl hNwo.nm hNwo.fn.kp hNwo.bd .nil pass0 (pc (pe_op op_fdiv (pv 0) pe_int) pa_nil)) pa_nil)))) pa_nil))))))
    pss_nil)
    (pss_one (ps_ret (pe_call GWit (hr.mono (by decide)) rfl hWit.nm hWit.fn.kp hWit.bd .nil pass0 (pc (pv 1) (pc (pv 2) (pc (pe_call GWit (hr.mono (by decide)) rfl hWit.nm hWit.fn.kp hWit.bd .nil pass0 (pc (pv 3) (pc (pe_op op_mod (pe_op op_fdiv (pv 0) pe_int) pe_int) (pc (pe_call GNno (hr.mono (by decide)) rfl hNno.nm hNno.fn.kp hNno.bd .nil pass0 (pc (pe_op op_fdiv (pv 0) pe_int) pa_nil)) pa_nil)))) pa_nil))))))))))))), ?_⟩
  refine ⟨_, rfl, _, _, rfl, rfl, ⟨by decide, by decide⟩, _, rfl, a, ws, rfl, .inr (SqT.of ha), _, _, rfl, rfl, (by show (0 : Int) < (ws.length : Int); omega), ?_⟩
  have b0 := Int.emod_nonneg (c / 8) (show (ws.length : Int) ≠ 0 by omega)
  have b1 := Int.emod_lt_of_pos (c / 8) (show 0 < (ws.length : Int) by omega)
  dsimp only
  generalize c / 8 % (ws.length : Int) = at' at b0 b1
  obtain ⟨i, rfl⟩ := Int.eq_ofNat_of_zero_le b0
  have li : i < l.length := by omega
  obtain ⟨u, hu⟩ : ∃ u, l[i]? = some u := ⟨_, List.getElem?_eq_getElem li⟩
  obtain ⟨v, ev, hv⟩ := at_tup kw hu
  refine ⟨_, rfl, _, rfl, a, ws, _, v, rfl, rfl, SqT.of ha, ev, ?_⟩
  have mu := List.mem_of_getElem? hu
  obtain ⟨n, b, z, rfl, hz⟩ := g.fm u mu
  obtain ⟨ar, wr, rfl, har, kr⟩ := hv.tup
  -- one line exchanged
  have setL : ∀ {y t H1}, Same H H1 → At H1 t y → lineP t = false → sm t = true → lineFl t = true → spWit [.ref a, .int (i : Int), y] H1 Q E0 := fun {y t H1} s1 hy hp hs hf => ⟨_, y, l, t, i, rfl, hx.mono s1, hy, li, by omega, fun r H' s' hr => q r _ H' (s1.trans s') hr (g.set li hp hs hf)⟩
  refine ⟨_, rfl, _, _, rfl, rfl, (by show (0 : Int) < 8; decide), _, _, rfl, rfl, _, rfl, ite2 (fun c1 => ?_) (fun c1 => ?_)⟩
  · refine ⟨_, rfl, _, rfl, _, rfl, a, ws, rfl, ha, fun d1 H1 s1 e1 => ?_⟩
    rw [cut_to] at e1
    refine ⟨_, rfl, (by show 1 ≤ sizeLine; decide), fun p2 hp2 => ?_⟩
    have s2 := same_new hp2 (HO.tup [V.ref ar])
    refine ⟨d1, p2, _, _, rfl, rfl, s2 _ _ e1, upd_same, Nat.le_of_lt (small (by rw [List.length_take]; show _ + 1 ≤ _; omega)), fun r1 H3 s3 e3 => ?_⟩
    have s13 := s1.trans (s2.trans s3)
    refine ⟨_, rfl, _, rfl, _, rfl, a, ws, rfl, s13 _ _ ha, fun d2 H4 s4 e4 => ?_⟩
    rw [cut_from] at e4
    refine ⟨r1, d2, _, _, rfl, rfl, s4 _ _ e3, e4, Nat.le_of_lt (small (by rw [List.length_append, List.length_take, List.length_drop]; show _ + 1 + _ ≤ _; omega)), fun r H5 s5 e5 => ?_⟩
    have sA := s13.trans (s4.trans s5)
    have kA := Ats.mono sA kw
    refine q _ (.tup (l.take i ++ [.tup [.int n, .int b, .str z]] ++ l.drop i)) H5 sA (At.mkT e5 (Ats.app (kA.drop i) (Ats.app (Ats.cons (hv.mono sA) (Ats.nil _)) (kA.take i)))) (g.of (fun t m => ?_) (by rw [List.length_append, List.length_append, List.length_take, List.length_drop]; show _ + 1 + _ ≤ _; omega) ?_)
    · rcases List.mem_append.mp m with m | m
      · rcases List.mem_append.mp m with m | m
        · exact List.mem_of_mem_take m
        · rw [List.mem_singleton.mp m]
          exact mu
      · exact List.mem_of_mem_drop m
    · rw [List.map_append, List.map_append, List.map_take, List.map_drop]
      exact twice_risV (by rw [List.getElem?_map, hu]; rfl)
  refine ⟨_, rfl, _, _, rfl, rfl, (by show (0 : Int) < 8; decide), rfl, _, rfl, ite2 (fun c2 => ⟨_, rfl, _, _, rfl, rfl, _, rfl, a, ws, rfl, .inr (SqT.of ha), _, _, rfl, rfl, _, rfl, ite2 (fun c3 => ?sw) (fun c3 => ?r2)⟩) (fun c2 => iteF ?r1)⟩
  case sw =>
    have c3' : (i : Int) + 1 < (ws.length : Int) := of_decide_eq_true c3
    have li2 : i + 1 < l.length := by omega
    obtain ⟨u2, hu2⟩ : ∃ u, l[i + 1]? = some u := ⟨_, List.getElem?_eq_getElem li2⟩
    obtain ⟨v2, ev2, hv2⟩ := at_tup kw hu2
    refine ⟨_, rfl, _, rfl, _, rfl, a, ws, rfl, ha, fun d1 H1 s1 e1 => ?_⟩
    rw [cut_to] at e1
    refine ⟨_, rfl, _, rfl, _, _, rfl, rfl, a, ws, _, v2, rfl, rfl, SqT.of (s1 _ _ ha), ev2, _, rfl, (by show 2 ≤ sizeLine; decide), fun p2 hp2 => ?_⟩
    have s2 := same_new hp2 (HO.tup [v2, V.ref ar])
    refine ⟨d1, p2, _, _, rfl, rfl, s2 _ _ e1, upd_same, Nat.le_of_lt (small (by rw [List.length_take]; show _ + 2 ≤ _; omega)), fun r1 H3 s3 e3 => ?_⟩
    have s13 := s1.trans (s2.trans s3)
    refine ⟨_, rfl, _, rfl, _, _, rfl, rfl, _, rfl, a, ws, rfl, s13 _ _ ha, fun d2 H4 s4 e4 => ?_⟩
    rw [show (i : Int) + 2 = ((i + 2 : Nat) : Int) from by omega, cut_from] at e4
    refine ⟨r1, d2, _, _, rfl, rfl, s4 _ _ e3, e4, Nat.le_of_lt (small (by rw [List.length_append, List.length_take, List.length_drop]; show _ + 2 + _ ≤ _; omega)), fun r H5 s5 e5 => ?_⟩
    have sA := s13.trans (s4.trans s5)
    have kA := Ats.mono sA kw
    refine q _ (.tup (l.take i ++ [u2, .tup [.int n, .int b, .str z]] ++ l.drop (i + 2))) H5 sA (At.mkT e5 (Ats.app (kA.drop (i + 2)) (Ats.app (Ats.cons (hv2.mono sA) (Ats.cons (hv.mono sA) (Ats.nil _))) (kA.take i)))) (g.of (fun t m => ?_) (by rw [List.length_append, List.length_append, List.length_take, List.length_drop]; show _ + 2 + _ ≤ _; omega) ?_)
    · rcases List.mem_append.mp m with m | m
      · rcases List.mem_append.mp m with m | m
        · exact List.mem_of_mem_take m
        · simp only [List.mem_cons, List.not_mem_nil, or_false] at m
          rcases m with rfl | rfl
          · exact List.mem_of_getElem? hu2
          · exact mu
      · exact List.mem_of_mem_drop m
    · rw [List.map_append, List.map_append, List.map_take, List.map_drop]
      exact swap_risV g.ris (by rw [List.getElem?_map, hu]; rfl) (by rw [List.getElem?_map, hu2]; rfl)
  case r1 | r2 =>
    have s3s : ∀ t ∈ [Tr.int n, Tr.int b, Tr.str z], sm t = true := fun t m => (sm_tup (g.fm _ mu).sm).2 t m
    refine ⟨_, rfl, _, _, rfl, rfl, (by show (0 : Int) < 8; decide), rfl, _, rfl, ite2 (fun c4 => ?_) (fun c4 => ?_)⟩
    · refine ⟨_, rfl, _, rfl, _, rfl, ar, wr, rfl, .inr (SqT.of har), fun p hp => ?_⟩
      have s1 := same_new hp (HO.lst wr)
      exact setL s1 (At.mkL upd_same (Ats.mono s1 kr)) rfl (sm_mkL (by show (3 : Nat) ≤ 100; decide) s3s) rfl
    refine ⟨_, rfl, _, _, rfl, rfl, (by show (0 : Int) < 8; decide), rfl, _, rfl, ite2 (fun c5 => ?_) (fun c5 => ?_)⟩
    · refine ⟨_, rfl, _, rfl, _, rfl, (by show 1 ≤ sizeLine; decide), fun p1 hp1 => ?_⟩
      have s1 := same_new hp1 (HO.tup [V.int 0])
      have lr : wr.length = 3 := kr.len
      refine ⟨ar, p1, _, _, rfl, rfl, s1 _ _ har, upd_same, Nat.le_of_lt (small (by rw [lr]; show 3 + 1 ≤ _; decide)), fun d1 H2 s2 e2 => ?_⟩
      have s12 := s1.trans s2
      refine ⟨_, rfl, _, rfl, ar, wr, rfl, s12 _ _ har, fun d2 H3 s3 e3 => ?_⟩
      rw [show (2 : Int) = ((2 : Nat) : Int) from rfl, cut_to] at e3
      refine ⟨by decide, fun p4 hp4 => ?_⟩
      have s4 := same_new hp4 (HO.tup [])
      refine ⟨(by show 4 ≤ sizeLine; decide), fun p5 hp5 => ?_⟩
      have s5 := same_new hp5 (HO.lst [V.ref d1, V.ref d2, V.non, V.ref p4])
      have e5 : upd (upd H3 p4 (HO.tup [])) p5 (HO.lst [V.ref d1, V.ref d2, V.non, V.ref p4]) p5 = some (.lst [V.ref d1, V.ref d2, V.non, V.ref p4]) := upd_same
      have e4 := s5 _ _ (upd_same (H := H3) (a := p4) (o := HO.tup []))
      have s45 := s4.trans s5
      revert s45 e5 e4
      generalize upd (upd H3 p4 (HO.tup [])) p5 (HO.lst [V.ref d1, V.ref d2, V.non, V.ref p4]) = H5
      intro e5 e4 s45
      have sA := s12.trans (s3.trans s45)
      have kA := Ats.mono sA kr
      obtain ⟨y, t, e, hy, hp, hs, hf⟩ : ∃ y t, atI [V.ref d1, V.ref d2, V.non, V.ref p4] (c / 80 % 4) = some y ∧ At H5 t y ∧ lineP t = false ∧ sm t = true ∧ lineFl t = true := by
        obtain e | e | e | e : c / 80 % 4 = 0 ∨ c / 80 % 4 = 1 ∨ c / 80 % 4 = 2 ∨ c / 80 % 4 = 3 := by omega
        · refine ⟨_, .tup ([.int n, .int b, .str z] ++ [.int 0]), by rw [e]; rfl, At.mkT ((s3.trans s45) _ _ e2) (Ats.app (Ats.cons (At.int 0) (Ats.nil _)) kA), rfl, sm_mkT (by show (4 : Nat) ≤ 100; decide) fun t m => ?_, rfl⟩
          rcases List.mem_append.mp m with m | m
          · exact s3s t m
          · rw [List.mem_singleton.mp m]
            rfl
        · exact ⟨_, .tup ([.int n, .int b, .str z].take 2), by rw [e]; rfl, At.mkT (s45 _ _ e3) (kA.take 2), rfl, sm_mkT (by show (2 : Nat) ≤ 100; decide) fun t m => s3s t (List.mem_of_mem_take m), rfl⟩
        · exact ⟨_, .non, by rw [e]; rfl, At.non, rfl, rfl, rfl⟩
        · exact ⟨_, .tup [], by rw [e]; rfl, At.mkT e4 (Ats.nil _), rfl, rfl, rfl⟩
      exact ⟨_, rfl, _, _, rfl, rfl, ⟨by decide, by decide⟩, _, _, rfl, rfl, (by show (0 : Int) < 4; decide), p5, _, _, y, rfl, rfl, SqL.of e5, e, setL sA hy hp hs hf⟩
    refine ⟨_, rfl, _, _, rfl, rfl, (by show (0 : Int) < 8; decide), rfl, _, rfl, ite2 (fun c6 => ?_) (fun c6 => ?_)⟩
    · refine ⟨_, rfl, _, rfl, _, rfl, _, rfl, _, _, rfl, rfl, ⟨by decide, by decide⟩, c / 80, rfl, fun y t H1 s1 hy nw => ?_⟩
      refine ⟨_, y, _, t, 2, rfl, hv.mono s1, hy, (by show (2 : Nat) < 3; decide), (by show (3 : Nat) ≤ 100; decide), fun r H2 s2 hr => ?_⟩
      refine setL (s1.trans s2) hr ?_ (sm_mkT (by show (3 : Nat) ≤ 100; decide) fun x m => ?_) nw.2.2.2
      · show (numT (.int n) && numT (.int b) && (strIs t "" || wordT t)) = false
        rw [nw.2.1, nw.2.2.1]
        simp
      · rcases List.mem_or_eq_of_mem_set m with m | rfl
        · exact s3s x m
        · exact nw.1
    · refine ⟨_, rfl, _, rfl, _, rfl, _, rfl, _, _, rfl, rfl, ⟨by decide, by decide⟩, _, _, rfl, rfl, (by show (0 : Int) < 2; decide), _, rfl, _, _, rfl, rfl, ⟨by decide, by decide⟩, c / 160, rfl, fun y t H1 s1 hy nn => ?_⟩
      obtain ⟨k, ek, hk⟩ : ∃ k : Nat, c / 80 % 2 = (k : Int) ∧ k < 2 := ⟨(c / 80 % 2).toNat, by omega, by omega⟩
      refine ⟨_, y, _, t, k, by rw [← ek]; rfl, hv.mono s1, hy, (by show k < 3; omega), (by show (3 : Nat) ≤ 100; decide), fun r H2 s2 hr => ?_⟩
      refine setL (s1.trans s2) hr ?_ (sm_mkT (by rw [List.length_set]; show (3 : Nat) ≤ 100; decide) fun x m => ?_) ?_
      · match k, hk with
        | 0, _ =>
          show (numT t && _ && _) = false
          rw [nn.2.1]
          rfl
        | 1, _ =>
          show (_ && numT t && _) = false
          rw [nn.2.1, Bool.and_false]
          rfl
      · rcases List.mem_or_eq_of_mem_set m with m | rfl
        · exact s3s x m
        · exact nn.1
      · match k, hk with
        | 0, _ => rfl
        | 1, _ => rfl
end
end K51
set_option maxHeartbeats 4000000
namespace K51
open PySem L2
/-! ### heads, good and bad -/
theorem headP_no {a b c d e f : Tr} (h : wordT a = false ∨ numT b = false ∨ numT c = false ∨ wthT d 2 599 = false ∨ numT f = false ∨ (if isI c 0 = true then strIs e "" && isI f 0 else wordT e && wthT f 1 4294967295) = false) : headP (.tup [a, b, c, d, e, f]) = false := by
  show (wordT a && numT b && (numT c && wthT d 2 599 && numT f) && (if isI c 0 = true then strIs e "" && isI f 0 else wordT e && wthT f 1 4294967295)) = false
  rcases h with h | h | h | h | h | h <;> rw [h] <;> simp
def HeadF (t : Tr) : Prop := ∃ z n c d e f, t = .tup [.str z, .int n, .int c, .int d, .str e, .int f] ∧ z.length ≤ 100 ∧ e.length ≤ 100
theorem sm_str {z : Str} (h : z.length ≤ 100) : sm (.str z) = true := by
  unfold sm
  exact decide_eq_true h
theorem HeadF.sm {t : Tr} (h : HeadF t) : sm t = true := by
  obtain ⟨z, n, c, d, e, f, rfl, hz, he⟩ := h
  refine sm_mkT (by show (6 : Nat) ≤ 100; decide) fun t m => ?_
  simp only [List.mem_cons, List.not_mem_nil, or_false] at m
  rcases m with rfl | rfl | rfl | rfl | rfl | rfl
  · exact sm_str hz
  · rfl
  · rfl
  · rfl
  · exact sm_str he
  · rfl
theorem HeadF.fl {t : Tr} (h : HeadF t) : headFl t = true := by
  obtain ⟨z, n, c, d, e, f, rfl, hz, he⟩ := h
  rfl
structure GoodH (l m : List Tr) : Prop where
  ok : headsP (.tup l) (.tup m) = true
  fm : ∀ t ∈ l, HeadF t
  l1 : 1 ≤ l.length
  l12 : l.length ≤ 12
  kn : ∀ u ∈ m, ∃ n b c, u = .tup [.int n, b, c] ∧ n < 1000000
theorem GoodH.ris {l m : List Tr} (g : GoodH l m) : risV (l.map fst0) = true := by
  have h : (decide (l.length ≤ 12) && l.all headP && (risV (l.map fst0) && l.all fun h => inV (snd0 h) (m.map fst0))) = true := g.ok
  rw [Bool.and_eq_true, Bool.and_eq_true, Bool.and_eq_true] at h
  exact h.2.1
structure BadH (m : List Tr) (t : Tr) : Prop where
  no : headsP t (.tup m) = false
  sm : K51.sm t = true
  fl : allFl headFl t = true
theorem GoodH.put {l m : List Tr} (g : GoodH l m) {i : Nat} {u : Tr} (hi : i < l.length) (hu : headsP (.tup (l.set i u)) (.tup m) = false) (hs : sm u = true) (hf : headFl u = true) : BadH m (.tup (l.set i u)) := by
  refine ⟨hu, sm_mkT (by rw [List.length_set]; have := g.l12; omega) fun t m => ?_, List.all_eq_true.mpr fun t m => ?_⟩
  · rcases List.mem_or_eq_of_mem_set m with m | rfl
    · exact (g.fm t m).sm
    · exact hs
  · rcases List.mem_or_eq_of_mem_set m with m | rfl
    · exact (g.fm t m).fl
    · exact hf
theorem GoodH.of {l m k : List Tr} (g : GoodH l m) (hm : ∀ t ∈ k, t ∈ l) (hl : k.length ≤ 100) (hr : risV (k.map fst0) = false) : BadH m (.tup k) :=
  ⟨heads_ris hr, sm_mkT hl fun t h => (g.fm t (hm t h)).sm, List.all_eq_true.mpr fun t h => (g.fm t (hm t h)).fl⟩
theorem not_known {m : List Tr} (h : ∀ u ∈ m, ∃ n b c, u = .tup [.int n, b, c] ∧ n < 1000000) {v : Int} (hv : 1000000 ≤ v) : inV (.int v) (m.map fst0) = false := by
  unfold inV
  rw [Bool.eq_false_iff]
  intro z
  obtain ⟨x, mx, ex⟩ := List.any_eq_true.mp z
  obtain ⟨u, mu, rfl⟩ := List.mem_map.mp mx
  obtain ⟨n, b, c, rfl, hn⟩ := h u mu
  have e : eqV (.int n) (.int v) = true := ex
  have : n = v := by simpa [eqV] using e
  omega
end K51
set_option maxHeartbeats 4000000
namespace K51
open PySem L2
theorem all6 {p : Tr → Prop} {a b c d e f : Tr} (h1 : p a) (h2 : p b) (h3 : p c) (h4 : p d) (h5 : p e) (h6 : p f) : ∀ t ∈ [a, b, c, d, e, f], p t := fun t m => by
  simp only [List.mem_cons, List.not_mem_nil, or_false] at m
  rcases m with rfl | rfl | rfl | rfl | rfl | rfl <;> assumption
section
variable {σ : St} {H : Hp} {Q : VK} {ar : Addr} {wr : List V} {k : Nat} {y1 y2 : V}
theorem cat2 (hσ : σ[3]? = some (some (.ref ar))) (har : H ar = some (.tup wr)) (hl : wr.length = 6) (h : ∀ r H', Same H H' → H' r = some (.tup (wr.take k ++ [y1, y2])) → Q (.ref r) H') : tOp rCatA (tSl rSlW (tVar 3) tNoPart (tPart (tC (.int ((k : Nat) : Int))))) (tTup (tCons (tC y1) (tCons (tC y2) tNil))) σ H Q := by
  refine ⟨_, hσ, _, rfl, ar, wr, rfl, har, fun d1 H1 s1 e1 => ⟨(by show 2 ≤ sizeLine; decide), fun p1 hp1 => ?_⟩⟩
  rw [cut_to] at e1
  have s2 := same_new hp1 (HO.tup [y1, y2])
  exact ⟨d1, p1, _, _, rfl, rfl, s2 _ _ e1, upd_same, Nat.le_of_lt (small (by rw [List.length_take]; show _ + 2 ≤ _; omega)), fun r1 H3 s3 e3 => h r1 H3 (s1.trans (s2.trans s3)) e3⟩
theorem cat1 (hσ : σ[3]? = some (some (.ref ar))) (har : H ar = some (.tup wr)) (hl : wr.length = 6) (h : ∀ r H', Same H H' → H' r = some (.tup (wr.take k ++ [y1])) → Q (.ref r) H') : tOp rCatA (tSl rSlW (tVar 3) tNoPart (tPart (tC (.int ((k : Nat) : Int))))) (tTup (tCons (tC y1) tNil)) σ H Q := by
  refine ⟨_, hσ, _, rfl, ar, wr, rfl, har, fun d1 H1 s1 e1 => ⟨(by show 1 ≤ sizeLine; decide), fun p1 hp1 => ?_⟩⟩
  rw [cut_to] at e1
  have s2 := same_new hp1 (HO.tup [y1])
  exact ⟨d1, p1, _, _, rfl, rfl, s2 _ _ e1, upd_same, Nat.le_of_lt (small (by rw [List.length_take]; show _ + 1 ≤ _; omega)), fun r1 H3 s3 e3 => h r1 H3 (s1.trans (s2.trans s3)) e3⟩
end
section
variable {P : Program} {w : World} {K : PySem.W.Frag} {mg : Str → Option Value} {base : Heap} {f fWit fNno fNwo : Addr} {fd dWit dNno dNwo : FuncData}
def spBhe : Sp := fun vs H Q _ => ∃ (c : Int) (x : V) (l m : List Tr), vs = [.int c, x] ∧ 0 ≤ c ∧ At H (.tup l) x ∧ GoodH l m ∧ ∀ r t H', Same H H' → At H' t r → BadH m t → Q r H'
theorem scBhe : FnScope ["_law_cell", "_law_heads_here", "_law_at_here", "_law_head", "_law_way"] ["_law_cell", "_law_heads_here"] (defScope sBhe) := ⟨rfl, rfl, rfl, by decide +kernel, rfl, by decide +kernel, by decide +kernel⟩
theorem ok_Bhe (F : Fun K "_law_bad_heads" "_law_bad_heads" sBhe f fd) (hWit : Has K mg "_law_with" sWit ["_law_row", "_law_at_here", "_law_thing"] fWit dWit) (GWit : FnOk P w K mg base CX0 1 fWit dWit ["_law_row", "_law_at_here", "_law_thing"] spWit)
    (hNno : Has K mg "_law_no_number" sNno ["_law_cell"] fNno dNno) (GNno : FnOk P w K mg base CX0 1 fNno dNno ["_law_cell"] spNno)
    (hNwo : Has K mg "_law_no_word" sNwo ["_law_cell"] fNwo dNwo) (GNwo : FnOk P w K mg base CX0 1 fNwo dNwo ["_law_cell"] spNwo) (T : Txt mg) : FnOk P w K mg base CX0 2 f fd ["_law_cell", "_law_heads_here"] spBhe := by
  refine F.ok scBhe (fun vs H Q E h => ?_) (fun cdv A outer s H vs Q E hr h => ?_)
  · obtain ⟨c, x, l, m, rfl, _⟩ := h
    rfl
  obtain ⟨c, x, l, m, rfl, c0, hx, g, q⟩ := h
  obtain ⟨a, ws, rfl, ha, kw⟩ := hx.tup
  have ln := kw.len
  have l1 := g.l1
  have l12 := g.l12
  refine ⟨_, (pss_cons (ps_set (i := 2) scBhe.nd rfl (Or.inl rfl) (pe_op op_mod (pe_op op_fdiv (pv 0) pe_int) (pe_callB call_len_seq rfl T.len PySem.boot_len (pc (pv 1) pa_nil))))
    (pss_cons (ps_set (i := 3) scBhe.nd rfl (Or.inl rfl) (pe_ix ix_tup (pv 1) (pv 2) (fun _ _ => rfl)))
    (pss_cons (ps_set (i := 4) scBhe.nd rfl (Or.inl rfl) (pe_op op_mod (pv 0) pe_int))
    (pss_cons (ps_if (pt_cmpR op_eq (pv 4) pe_int (nomark _))
    (pss_one (ps_ret (pe_op op_catA (pe_op op_catA (pe_slice sl_tupW (pv 1) po_none (po_some (pv 2))) (pe_tup (pc (pv 3) pa_nil))) (pe_slice sl_tupW (pv 1) (po_some (pv 2)) po_none))))
    pss_nil)
    (pss_cons (ps_if (PW.pt (pw_and (pt_cmpR op_eq (pv 4) pe_int (nomark _)) (pw_and1 (pt_cmpR op_lt (pe_op op_add (pv 2) pe_int) (pe_callB call_len_seq rfl T.len PySem.boot_len (pc (pv 1) pa_nil)) (nomark _)))))
    (pss_one (ps_ret (pe_op op_catA (pe_op op_catA (pe_slice sl_tupW (pv 1) po_none (po_some (pv 2))) (pe_tup (pc (pe_ix ix_tup (pv 1) (pe_op op_add (pv 2) pe_int) (fun _ _ => rfl)) (pc (pv 3) pa_nil)))) (pe_slice sl_tupW (pv 1) (po_some (pe_op op_add (pv 2) pe_int)) po_none))))
    pss_nil)
    (pss_cons (ps_if (pt_cmpR op_eq (pv 4) pe_int (nomark _))
    (pss_one (ps_ret (pe_call GWit (hr.mono (by decide)) rfl hWit.nm hWit.fn.kp hWit.bd .nil pass0 (pc (pv 1) (pc (pv 2) (pc (pe_callTy call_list_of rfl T.lst PyProof.Rows.boot_list (pc (pv 3) pa_nil)) pa_nil))))))
    pss_nil)
    (pss_cons (ps_if (pt_cmpR op_eq (pv 4) pe_int (nomark _))
    (pss_one (ps_ret (pe_call GWit (hr.mono (by decide)) rfl hWit.nm hWit.fn.kp hWit.bd .nil pass0 (pc (pv 1) (pc (pv 2) (pc (pe_ix ix_list (by refine' pe_lst ?p0; (case p0 => (refine' pc ?q0 ?p1; (case q0 => exact (pe_op op_catA (pv 3) (pe_tup (pc pe_int pa_nil)))); (case p1 => (refine' pc ?q1 ?p2; (case q1 => exact (pe_slice sl_tupW (pv 3) po_none (po_some pe_int))); (case p2 => (refine' pc ?q2 ?p3; (case q2 => exact pe_non); (case p3 => (refine' pc ?q3 ?p4; (case q3 => exact (pe_tup pa_nil)); (case p4 => exact pa_nil)))))))))) (pe_op op_mod (pe_op op_fdiv (pv 0) pe_int) pe_int) (fun _ _ => rfl)) pa_nil))))))
    pss_nil)
    (pss_cons (ps_if (pt_cmpR op_eq (pv 4) pe_int (nomark _))
    (pss_one (ps_ret (pe_call GWit (hr.mono (by decide)) rfl hWit.nm hWit.fn.kp hWit.bd .nil pass0 (pc (pv 1) (pc (pv 2) (pc (pe_call GWit (hr.mono (by decide)) rfl hWit.nm hWit.fn.kp hWit.bd .nil pass0 (pc (pv 3) (pc pe_int (pc (pe_call GNwo (hr.mono (by decide)) rfl hNwo.nm hNwo.fn.kp hNwo.bd .nil pass0 (pc (pe_op op_fdiv (pv 0) pe_int) pa_nil)) pa_nil)))) pa_nil))))))
    pss_nil)
    (pss_cons (ps_if (pt_cmpR op_eq (pv 4) pe_int (nomark _))
    (pss_one (ps_ret (pe_call GWit (hr.mono (by decide)) rfl hWit.nm hWit.fn.kp hWit.bd .nil pass0 (pc (pv 1) (pc (pv 2) (pc (pe_call GWit (hr.mono (by decide)) rfl hWit.nm hWit.fn.kp hWit.bd .nil pass0 (pc (pv 3) (pc pe_int (pc (pe_op op_add (pe_op op_pow pe_int pe_int) (pe_op op_mod (pe_op op_fdiv (pv 0) pe_int) pe_int)) pa_nil)))) pa_nil))))))
    pss_nil)
    (pss_cons (ps_if (pt_cmpR op_eq (pv 4) pe_int (nomark _))
    (pss_one (ps_ret (pe_call GWit (hr.mono (by decide)) rfl hWit.nm hWit.fn.kp hWit.bd .nil pass0 (pc (pv 1) (pc (pv 2) (pc (pe_call GWit (hr.mono (by decide)) rfl hWit.nm hWit.fn.kp hWit.bd .nil pass0 (pc (pv 3) (pc pe_int (pc (pe_ix ix_list (by refine' pe_lst ?p0; (case p0 => (refine' pc ?q0 ?p1; (case q0 => exact pe_int); (case p1 => (refine' pc ?q1 ?p2; (case q1 => exact pe_int); (case p2 => (refine' pc ?q2 ?p3; (case q2 => exact pe_int); (case p3 => (refine' pc ?q3 ?p4; (case q3 => exact (pe_op op_pow pe_int pe_int)); (case p4 => (refine' pc ?q4 ?p5; (case q4 => exact (pe_un un_neg pe_int)); (case p5 => exact pa_nil)))))))))))) (pe_op op_mod (pe_op op_fdiv (pv 0) pe_int) pe_int) (fun _ _ => rfl)) pa_nil)))) pa_nil))))))
    pss_nil)
    (pss_cons (ps_if (PW.pt (pw_and (pt_cmpR op_eq (pv 4) pe_int (nomark _)) (pw_and1 (pt_cmpR op_eq (pe_ix ix_tup (pv 3) pe_int (fun _ _ => rfl)) pe_int (nomark _)))))
    (pss_one (ps_ret (pe_call GWit (hr.mono (by decide)) rfl hWit.nm hWit.fn.kp hWit.bd .nil pass0 (pc (pv 1) (pc (pv 2) (pc (pe_ix ix_list (pe_lst (pc (pe_op op_catA (pe_slice sl_tupW (pv 3) po_none (po_some pe_int)) (pe_tup (pc pe_str (pc pe_int pa_nil)))) (pc (pe_op op_catA (pe_slice sl_tupW (pv 3) po_none (po_some pe_int)) (pe_tup (pc pe_str (pc pe_int pa_nil)))) (pc (pe_op op_catA (pe_slice sl_tupW (pv 3) po_none (po_some pe_int)) (pe_tup (pc pe_str (pc pe_int pa_nil)))) pa_nil)))) (pe_op op_mod (pe_op op_fdiv (pv 0) pe_int) pe_int) (fun _ _ => rfl)) pa_nil))))))
    pss_nil)
    (pss_cons (ps_if (pt_cmpR op_eq (pv 4) pe_int (nomark _))
    (pss_one (ps_ret (pe_call GWit (hr.mono (by decide)) rfl hWit.nm hWit.fn.kp hWit.bd .nil pass0 (pc (pv 1) (pc (pv 2) (pc (pe_ix ix_list (pe_lst (pc (pe_op op_catA (pe_slice sl_tupW (pv 3) po_none (po_some pe_int)) (pe_tup (pc pe_str (pc pe_int pa_nil)))) (pc (pe_op op_catA (pe_slice sl_tupW (pv 3) po_none (po_some pe_int)) (pe_tup (pc pe_int pa_nil))) (pc (pe_op op_catA (pe_slice sl_tupW (pv 3) po_none (po_some pe_int)) (pe_tup (pc pe_str (pc pe_int pa_nil)))) pa_nil)))) (pe_op op_mod (pe_op op_fdiv (pv 0) pe_int) pe_int) (fun _ _ => rfl)) pa_nil))))))
    pss_nil)
    (pss_cons (ps_if (pt_cmpR op_eq (pv 4) pe_int (nomark _))
    (pss_one (ps_ret (pe_call GWit (hr.mono (by decide)) rfl hWit.nm hWit.fn.kp hWit.bd .nil pass0 (pc (pv 1) (pc (pv 2) (pc (pe_op op_catA (pe_slice sl_tupW (pv 3) po_none (po_some pe_int)) (pe_tup (pc (pe_call GNwo (hr.mono (by decide)) rfl hNwo.nm hNwo.fn.kp hNwo.bd .nil pass0 (pc (pe_op op_fdiv (pv 0) pe_int) pa_nil)) (pc pe_int pa_nil)))) pa_nil))))))
    pss_nil)
    (pss_one (ps_ret (pe_call GWit (hr.mono (by decide)) rfl hWit.nm hWit.fn.kp hWit.bd .nil pass0 (pc (pv 1) (pc (pv 2) (pc (pe_call GWit (hr.mono (by decide)) rfl hWit.nm hWit.fn.kp hWit.bd .nil pass0 (pc (pv 3) (pc (pe_ix ix_list (by refine' pe_lst ?p0; (case p0 => (refine' pc ?q0 ?p1; (case q0 => exact pe_int); (case p1 => (refine' pc ?q1 ?p2; (case q1 => exact pe_int); (case p2 => (refine' pc ?q2 ?p3; (case q2 => exact pe_int); (case p3 => (refine' pc ?q3 ?p4; (case q3 => exact pe_int); (case p4 => exact pa_nil)))))))))) (pe_op op_mod (pe_op op_fdiv (pv 0) pe_int) pe_int) (fun _ _ => rfl)) (pc (pe_call GNno (hr.mono (by decide)) rfl hNno.nm hNno.fn.kp hNno.bd .nil pass0 (pc (pe_op op_fdiv (pv 0) pe_int) pa_nil)) pa_nil)))) pa_nil))))))))))))))))))), ?_⟩
  refine ⟨_, rfl, _, _, rfl, rfl, ⟨by decide, by decide⟩, _, rfl, a, ws, rfl, .inr (SqT.of ha), _, _, rfl, rfl, (by show (0 : Int) < (ws.length : Int); omega), ?_⟩
  have b0 := Int.emod_nonneg (c / 12) (show (ws.length : Int) ≠ 0 by omega)
  have b1 := Int.emod_lt_of_pos (c / 12) (show 0 < (ws.length : Int) by omega)
  dsimp only
  generalize c / 12 % (ws.length : Int) = at' at b0 b1
  obtain ⟨i, rfl⟩ := Int.eq_ofNat_of_zero_le b0
  have li : i < l.length := by omega
  obtain ⟨u, hu⟩ : ∃ u, l[i]? = some u := ⟨_, List.getElem?_eq_getElem li⟩
  obtain ⟨v, ev, hv⟩ := at_tup kw hu
  refine ⟨_, rfl, _, rfl, a, ws, _, v, rfl, rfl, SqT.of ha, ev, ?_⟩
  refine ⟨_, rfl, _, _, rfl, rfl, (by show (0 : Int) < 12; decide), ?_⟩
  dsimp only
  have mu := List.mem_of_getElem? hu
  have sU := (g.fm u mu).sm
  obtain ⟨z, n, cc, d, e, ff, rfl, hz, he⟩ := g.fm u mu
  obtain ⟨ar, wr, rfl, har, kr⟩ := hv.tup
  have lr : wr.length = 6 := kr.len
  have s6 : ∀ t ∈ [Tr.str z, .int n, .int cc, .int d, .str e, .int ff], sm t = true := (sm_tup sU).2
  have putH : ∀ {y t H1}, Same H H1 → At H1 t y → headsP (.tup (l.set i t)) (.tup m) = false → sm t = true → headFl t = true → spWit [.ref a, .int (i : Int), y] H1 Q E0 := fun {y t H1} s1 hy hp hs hf => ⟨_, y, l, t, i, rfl, hx.mono s1, hy, li, by omega, fun r H' s' hr => q r _ H' (s1.trans s') hr (g.put li hp hs hf)⟩
  have setH : ∀ {y t H1}, Same H H1 → At H1 t y → headP t = false → sm t = true → headFl t = true → spWit [.ref a, .int (i : Int), y] H1 Q E0 := fun {y t H1} s1 hy hp hs hf => putH s1 hy (heads_at (get_set li) hp) hs hf
  -- way 0
  refine ⟨_, rfl, rfl, _, rfl, ite2 (fun c1 => ?_) (fun c1 => ?_)⟩
  · refine ⟨_, rfl, _, rfl, _, rfl, a, ws, rfl, ha, fun d1 H1 s1 e1 => ?_⟩
    rw [cut_to] at e1
    refine ⟨_, rfl, (by show 1 ≤ sizeLine; decide), fun p2 hp2 => ?_⟩
    have s2 := same_new hp2 (HO.tup [V.ref ar])
    refine ⟨d1, p2, _, _, rfl, rfl, s2 _ _ e1, upd_same, Nat.le_of_lt (small (by rw [List.length_take]; show _ + 1 ≤ _; omega)), fun r1 H3 s3 e3 => ?_⟩
    have s13 := s1.trans (s2.trans s3)
    refine ⟨_, rfl, _, rfl, _, rfl, a, ws, rfl, s13 _ _ ha, fun d2 H4 s4 e4 => ?_⟩
    rw [cut_from] at e4
    refine ⟨r1, d2, _, _, rfl, rfl, s4 _ _ e3, e4, Nat.le_of_lt (small (by rw [List.length_append, List.length_take, List.length_drop]; show _ + 1 + _ ≤ _; omega)), fun r H5 s5 e5 => ?_⟩
    have sA := s13.trans (s4.trans s5)
    have kA := Ats.mono sA kw
    refine q _ (.tup (l.take i ++ [.tup [.str z, .int n, .int cc, .int d, .str e, .int ff]] ++ l.drop i)) H5 sA (At.mkT e5 (Ats.app (kA.drop i) (Ats.app (Ats.cons (hv.mono sA) (Ats.nil _)) (kA.take i)))) (g.of (fun t mt => ?_) (by rw [List.length_append, List.length_append, List.length_take, List.length_drop]; show _ + 1 + _ ≤ _; omega) ?_)
    · rcases List.mem_append.mp mt with mt | mt
      · rcases List.mem_append.mp mt with mt | mt
        · exact List.mem_of_mem_take mt
        · rw [List.mem_singleton.mp mt]
          exact mu
      · exact List.mem_of_mem_drop mt
    · rw [List.map_append, List.map_append, List.map_take, List.map_drop]
      exact twice_risV (by rw [List.getElem?_map, hu]; rfl)
  -- way 1
  refine ⟨_, rfl, rfl, _, rfl, ite2 (fun c2 => ⟨_, rfl, _, _, rfl, rfl, _, rfl, a, ws, rfl, .inr (SqT.of ha), _, _, rfl, rfl, _, rfl, ite2 (fun c3 => ?sw) (fun c3 => ?r2)⟩) (fun c2 => iteF ?r1)⟩
  case sw =>
    have c3' : (i : Int) + 1 < (ws.length : Int) := of_decide_eq_true c3
    have li2 : i + 1 < l.length := by omega
    obtain ⟨u2, hu2⟩ : ∃ u, l[i + 1]? = some u := ⟨_, List.getElem?_eq_getElem li2⟩
    obtain ⟨v2, ev2, hv2⟩ := at_tup kw hu2
    refine ⟨_, rfl, _, rfl, _, rfl, a, ws, rfl, ha, fun d1 H1 s1 e1 => ?_⟩
    rw [cut_to] at e1
    refine ⟨_, rfl, _, rfl, _, _, rfl, rfl, a, ws, _, v2, rfl, rfl, SqT.of (s1 _ _ ha), ev2, _, rfl, (by show 2 ≤ sizeLine; decide), fun p2 hp2 => ?_⟩
    have s2 := same_new hp2 (HO.tup [v2, V.ref ar])
    refine ⟨d1, p2, _, _, rfl, rfl, s2 _ _ e1, upd_same, Nat.le_of_lt (small (by rw [List.length_take]; show _ + 2 ≤ _; omega)), fun r1 H3 s3 e3 => ?_⟩
    have s13 := s1.trans (s2.trans s3)
    refine ⟨_, rfl, _, rfl, _, _, rfl, rfl, _, rfl, a, ws, rfl, s13 _ _ ha, fun d2 H4 s4 e4 => ?_⟩
    rw [show (i : Int) + 2 = ((i + 2 : Nat) : Int) from by omega, cut_from] at e4
    refine ⟨r1, d2, _, _, rfl, rfl, s4 _ _ e3, e4, Nat.le_of_lt (small (by rw [List.length_append, List.length_take, List.length_drop]; show _ + 2 + _ ≤ _; omega)), fun r H5 s5 e5 => ?_⟩
    have sA := s13.trans (s4.trans s5)
    have kA := Ats.mono sA kw
    refine q _ (.tup (l.take i ++ [u2, .tup [.str z, .int n, .int cc, .int d, .str e, .int ff]] ++ l.drop (i + 2))) H5 sA (At.mkT e5 (Ats.app (kA.drop (i + 2)) (Ats.app (Ats.cons (hv2.mono sA) (Ats.cons (hv.mono sA) (Ats.nil _))) (kA.take i)))) (g.of (fun t mt => ?_) (by rw [List.length_append, List.length_append, List.length_take, List.length_drop]; show _ + 2 + _ ≤ _; omega) ?_)
    · rcases List.mem_append.mp mt with mt | mt
      · rcases List.mem_append.mp mt with mt | mt
        · exact List.mem_of_mem_take mt
        · simp only [List.mem_cons, List.not_mem_nil, or_false] at mt
          rcases mt with rfl | rfl
          · exact List.mem_of_getElem? hu2
          · exact mu
      · exact List.mem_of_mem_drop mt
    · rw [List.map_append, List.map_append, List.map_take, List.map_drop]
      exact swap_risV g.ris (by rw [List.getElem?_map, hu]; rfl) (by rw [List.getElem?_map, hu2]; rfl)
  case r1 | r2 =>
    -- way 2
    refine ⟨_, rfl, rfl, _, rfl, ite2 (fun c4 => ?_) (fun c4 => ?_)⟩
    · refine ⟨_, rfl, _, rfl, _, rfl, ar, wr, rfl, .inr (SqT.of har), fun p hp => ?_⟩
      have s1 := same_new hp (HO.lst wr)
      exact setH s1 (At.mkL upd_same (Ats.mono s1 kr)) rfl (sm_mkL (by show (6 : Nat) ≤ 100; decide) s6) rfl
    -- way 3
    refine ⟨_, rfl, rfl, _, rfl, ite2 (fun c5 => ?_) (fun c5 => ?_)⟩
    · refine ⟨_, rfl, _, rfl, _, rfl, (by show 1 ≤ sizeLine; decide), fun p1 hp1 => ?_⟩
      have s1 := same_new hp1 (HO.tup [V.int 0])
      refine ⟨ar, p1, _, _, rfl, rfl, s1 _ _ har, upd_same, Nat.le_of_lt (small (by rw [lr]; show 6 + 1 ≤ _; decide)), fun d1 H2 s2 e2 => ?_⟩
      have s12 := s1.trans s2
      refine ⟨_, rfl, _, rfl, ar, wr, rfl, s12 _ _ har, fun d2 H3 s3 e3 => ?_⟩
      rw [show (5 : Int) = ((5 : Nat) : Int) from rfl, cut_to] at e3
      refine ⟨by decide, fun p4 hp4 => ?_⟩
      have s4 := same_new hp4 (HO.tup [])
      refine ⟨(by show 4 ≤ sizeLine; decide), fun p5 hp5 => ?_⟩
      have s5 := same_new hp5 (HO.lst [V.ref d1, V.ref d2, V.non, V.ref p4])
      have e5 : upd (upd H3 p4 (HO.tup [])) p5 (HO.lst [V.ref d1, V.ref d2, V.non, V.ref p4]) p5 = some (.lst [V.ref d1, V.ref d2, V.non, V.ref p4]) := upd_same
      have e4 := s5 _ _ (upd_same (H := H3) (a := p4) (o := HO.tup []))
      have s45 := s4.trans s5
      revert s45 e5 e4
      generalize upd (upd H3 p4 (HO.tup [])) p5 (HO.lst [V.ref d1, V.ref d2, V.non, V.ref p4]) = H5
      intro e5 e4 s45
      have sA := s12.trans (s3.trans s45)
      have kA := Ats.mono sA kr
      obtain ⟨y, t, e', hy, hp, hs, hf⟩ : ∃ y t, atI [V.ref d1, V.ref d2, V.non, V.ref p4] (c / 144 % 4) = some y ∧ At H5 t y ∧ headP t = false ∧ sm t = true ∧ headFl t = true := by
        obtain e' | e' | e' | e' : c / 144 % 4 = 0 ∨ c / 144 % 4 = 1 ∨ c / 144 % 4 = 2 ∨ c / 144 % 4 = 3 := by omega
        · refine ⟨_, .tup ([.str z, .int n, .int cc, .int d, .str e, .int ff] ++ [.int 0]), by rw [e']; rfl, At.mkT ((s3.trans s45) _ _ e2) (Ats.app (Ats.cons (At.int 0) (Ats.nil _)) kA), rfl, sm_mkT (by show (7 : Nat) ≤ 100; decide) fun t mt => ?_, rfl⟩
          rcases List.mem_append.mp mt with mt | mt
          · exact s6 t mt
          · rw [List.mem_singleton.mp mt]
            rfl
        · exact ⟨_, .tup ([.str z, .int n, .int cc, .int d, .str e, .int ff].take 5), by rw [e']; rfl, At.mkT (s45 _ _ e3) (kA.take 5), rfl, sm_mkT (by show (5 : Nat) ≤ 100; decide) fun t mt => s6 t (List.mem_of_mem_take mt), rfl⟩
        · exact ⟨_, .non, by rw [e']; rfl, At.non, rfl, rfl, rfl⟩
        · exact ⟨_, .tup [], by rw [e']; rfl, At.mkT e4 (Ats.nil _), rfl, rfl, rfl⟩
      exact ⟨_, rfl, _, _, rfl, rfl, ⟨by decide, by decide⟩, _, _, rfl, rfl, (by show (0 : Int) < 4; decide), p5, _, _, y, rfl, rfl, SqL.of e5, e', setH sA hy hp hs hf⟩
    have six : ∀ {k : Nat} {t : Tr}, sm t = true → sm (.tup ([Tr.str z, .int n, .int cc, .int d, .str e, .int ff].set k t)) = true := fun {k t} ht => sm_mkT (by rw [List.length_set]; show (6 : Nat) ≤ 100; decide) fun x mx => by
      rcases List.mem_or_eq_of_mem_set mx with mx | rfl
      · exact s6 x mx
      · exact ht
    -- way 4
    refine ⟨_, rfl, rfl, _, rfl, ite2 (fun c6 => ?_) (fun c6 => ?_)⟩
    · refine ⟨_, rfl, _, rfl, _, rfl, _, rfl, _, _, rfl, rfl, ⟨by decide, by decide⟩, c / 144, rfl, fun y t H1 s1 hy nw => ?_⟩
      exact ⟨_, y, _, t, 0, rfl, hv.mono s1, hy, (by show (0 : Nat) < 6; decide), (by show (6 : Nat) ≤ 100; decide), fun r H2 s2 hr => setH (s1.trans s2) hr (headP_no (.inl nw.2.1)) (six (k := 0) nw.1) rfl⟩
    -- way 5
    refine ⟨_, rfl, rfl, _, rfl, ite2 (fun c7 => ?_) (fun c7 => ?_)⟩
    · refine ⟨_, rfl, _, rfl, _, rfl, _, _, rfl, rfl, ⟨by decide, by decide, by decide⟩, _, rfl, _, _, rfl, rfl, ⟨by decide, by decide⟩, _, _, rfl, rfl, (by show (0 : Int) < 9; decide), _, _, rfl, rfl, ?_⟩
      refine ⟨_, _, _, .int ((10 : Int) ^ Int.toNat 6 + c / 144 % 9), 1, rfl, hv, At.int _, (by show (1 : Nat) < 6; decide), (by show (6 : Nat) ≤ 100; decide), fun r H2 s2 hr => putH s2 hr (heads_known (get_set li) ?_) (six (k := 1) rfl) rfl⟩
      refine not_known g.kn (v := (10 : Int) ^ Int.toNat 6 + c / 144 % 9) ?_
      have : (10 : Int) ^ Int.toNat 6 = 1000000 := by decide +kernel
      omega
    -- way 6
    refine ⟨_, rfl, rfl, _, rfl, ite2 (fun c8 => ?_) (fun c8 => ?_)⟩
    · refine ⟨_, rfl, _, rfl, _, rfl, _, _, rfl, rfl, ⟨by decide, by decide, by decide⟩, _, rfl, (by show 5 ≤ sizeLine; decide), fun p hp => ?_⟩
      have s1 := same_new hp (HO.lst [V.int 0, V.int 1, V.int 600, V.int ((10 : Int) ^ Int.toNat 9), V.int (-2)])
      have e1 : upd H p (HO.lst [V.int 0, V.int 1, V.int 600, V.int ((10 : Int) ^ Int.toNat 9), V.int (-2)]) p = some (.lst [V.int 0, V.int 1, V.int 600, V.int ((10 : Int) ^ Int.toNat 9), V.int (-2)]) := upd_same
      obtain ⟨y, e', hy⟩ : ∃ y : Int, atI [V.int 0, V.int 1, V.int 600, V.int ((10 : Int) ^ Int.toNat 9), V.int (-2)] (c / 144 % 5) = some (.int y) ∧ wthT (.int y) 2 599 = false := by
        obtain e' | e' | e' | e' | e' : c / 144 % 5 = 0 ∨ c / 144 % 5 = 1 ∨ c / 144 % 5 = 2 ∨ c / 144 % 5 = 3 ∨ c / 144 % 5 = 4 := by omega
        · exact ⟨_, by rw [e']; rfl, by decide +kernel⟩
        · exact ⟨_, by rw [e']; rfl, by decide +kernel⟩
        · exact ⟨_, by rw [e']; rfl, by decide +kernel⟩
        · exact ⟨_, by rw [e']; rfl, by decide +kernel⟩
        · exact ⟨_, by rw [e']; rfl, by decide +kernel⟩
      refine ⟨_, rfl, _, _, rfl, rfl, ⟨by decide, by decide⟩, _, _, rfl, rfl, (by show (0 : Int) < 5; decide), p, _, _, .int y, rfl, rfl, SqL.of e1, e', ?_⟩
      exact ⟨_, _, _, .int y, 3, rfl, hv.mono s1, At.int _, (by show (3 : Nat) < 6; decide), (by show (6 : Nat) ≤ 100; decide), fun r H2 s2 hr => setH (s1.trans s2) hr (headP_no (.inr (.inr (.inr (.inl hy))))) (six (k := 3) rfl) rfl⟩
    obtain ⟨w2, ew2, zw2⟩ := at_tup kr (i := 2) (t := .int cc) rfl
    have ew2' : w2 = .int cc := by unfold At at zw2; exact zw2
    subst ew2'
    have smA : sm (.str (Str.ofString "a")) = true := by decide +kernel
    have smE : sm (.str (Str.ofString "")) = true := by decide +kernel
    have ats2 : ∀ {H'} {t1 t2 : Tr} {y1 y2 : V}, Same H H' → At H' t1 y1 → At H' t2 y2 → Ats H' [.str z, .int n, .int cc, .int d, t1, t2] (wr.take 4 ++ [y1, y2]) := fun {H' t1 t2 y1 y2} s' h1 h2 => Ats.app (Ats.cons h1 (Ats.cons h2 (Ats.nil _))) ((Ats.mono s' kr).take 4)
    have sm2 : ∀ {t1 t2 : Tr}, sm t1 = true → sm t2 = true → sm (.tup [.str z, .int n, .int cc, .int d, t1, t2]) = true := fun {t1 t2} h1 h2 => sm_mkT (by show (6 : Nat) ≤ 100; decide) (all6 (sm_str hz) rfl rfl rfl h1 h2)
    refine ⟨_, rfl, rfl, _, rfl, ite2 (fun c9 => ⟨_, rfl, ar, wr, 2, _, rfl, rfl, SqT.of har, ew2, rfl, _, rfl, ite2 (fun d0 => ?_) (fun d0 => ?_)⟩) (fun c9 => iteF ?_)⟩
    · -- way 7, a growth
      have hc : cc = 0 := by
        have := of_decide_eq_true d0
        injection this
      subst hc
      refine ⟨_, rfl, _, rfl, ?_⟩
      refine cat2 (k := 4) rfl har lr fun r1 H1 s1 e1 => ?_
      refine cat2 (k := 4) rfl (s1 _ _ har) lr fun r2 H2 s2 e2 => ?_
      have s12 := s1.trans s2
      refine cat2 (k := 4) rfl (s12 _ _ har) lr fun r3 H3 s3 e3 => ?_
      refine ⟨(by show 3 ≤ sizeLine; decide), fun p hp => ?_⟩
      have s4 := same_new hp (HO.lst [V.ref r1, V.ref r2, V.ref r3])
      have sA := s12.trans (s3.trans s4)
      obtain ⟨y, t, e', hy, hp', hs, hf⟩ : ∃ y t, atI [V.ref r1, V.ref r2, V.ref r3] (c / 144 % 3) = some y ∧ At (upd H3 p (HO.lst [V.ref r1, V.ref r2, V.ref r3])) t y ∧ headP t = false ∧ sm t = true ∧ headFl t = true := by
        obtain e' | e' | e' : c / 144 % 3 = 0 ∨ c / 144 % 3 = 1 ∨ c / 144 % 3 = 2 := by omega
        · exact ⟨_, .tup [.str z, .int n, .int 0, .int d, .str "a", .int 0], by rw [e']; rfl, At.mkT ((s2.trans (s3.trans s4)) _ _ e1) (ats2 sA (At.str _) (At.int _)), headP_no (.inr (.inr (.inr (.inr (.inr (by decide +kernel)))))), sm2 smA rfl, rfl⟩
        · exact ⟨_, .tup [.str z, .int n, .int 0, .int d, .str "", .int 3], by rw [e']; rfl, At.mkT ((s3.trans s4) _ _ e2) (ats2 sA (At.str _) (At.int _)), headP_no (.inr (.inr (.inr (.inr (.inr (by decide +kernel)))))), sm2 smE rfl, rfl⟩
        · exact ⟨_, .tup [.str z, .int n, .int 0, .int d, .str "a", .int 3], by rw [e']; rfl, At.mkT (s4 _ _ e3) (ats2 sA (At.str _) (At.int _)), headP_no (.inr (.inr (.inr (.inr (.inr (by decide +kernel)))))), sm2 smA rfl, rfl⟩
      exact ⟨_, rfl, _, _, rfl, rfl, ⟨by decide, by decide⟩, _, _, rfl, rfl, (by show (0 : Int) < 3; decide), p, _, _, y, rfl, rfl, SqL.of upd_same, e', setH sA hy hp' hs hf⟩
    · -- way 7, a make
      have hc : isI (.int cc) 0 = false := decide_eq_false fun z => d0 (by rw [z]; rfl)
      refine ⟨_, rfl, rfl, _, rfl, ?_⟩
      rw [c9]
      refine iteT ?_
      refine ⟨_, rfl, _, rfl, ?_⟩
      refine cat2 (k := 4) rfl har lr fun r1 H1 s1 e1 => ?_
      refine cat1 (k := 5) rfl (s1 _ _ har) lr fun r2 H2 s2 e2 => ?_
      have s12 := s1.trans s2
      refine cat2 (k := 4) rfl (s12 _ _ har) lr fun r3 H3 s3 e3 => ?_
      refine ⟨(by show 3 ≤ sizeLine; decide), fun p hp => ?_⟩
      have s4 := same_new hp (HO.lst [V.ref r1, V.ref r2, V.ref r3])
      have sA := s12.trans (s3.trans s4)
      have no7 : ∀ {t1 t2 : Tr}, (wordT t1 && wthT t2 1 4294967295) = false → headP (.tup [.str z, .int n, .int cc, .int d, t1, t2]) = false := fun h => headP_no (.inr (.inr (.inr (.inr (.inr (by rw [hc]; exact h))))))
      obtain ⟨y, t, e', hy, hp', hs, hf⟩ : ∃ y t, atI [V.ref r1, V.ref r2, V.ref r3] (c / 144 % 3) = some y ∧ At (upd H3 p (HO.lst [V.ref r1, V.ref r2, V.ref r3])) t y ∧ headP t = false ∧ sm t = true ∧ headFl t = true := by
        obtain e' | e' | e' : c / 144 % 3 = 0 ∨ c / 144 % 3 = 1 ∨ c / 144 % 3 = 2 := by omega
        · exact ⟨_, .tup [.str z, .int n, .int cc, .int d, .str "", .int 3], by rw [e']; rfl, At.mkT ((s2.trans (s3.trans s4)) _ _ e1) (ats2 sA (At.str _) (At.int _)), no7 (by decide +kernel), sm2 smE rfl, rfl⟩
        · exact ⟨_, .tup [.str z, .int n, .int cc, .int d, .str e, .int 0], by rw [e']; rfl, At.mkT ((s3.trans s4) _ _ e2) (Ats.app (Ats.cons (At.int 0) (Ats.nil _)) ((Ats.mono sA kr).take 5)), no7 (by
            have : wthT (.int 0) 1 4294967295 = false := by decide +kernel
            rw [this, Bool.and_false]), sm2 (sm_str he) rfl, rfl⟩
        · exact ⟨_, .tup [.str z, .int n, .int cc, .int d, .str "", .int 0], by rw [e']; rfl, At.mkT (s4 _ _ e3) (ats2 sA (At.str _) (At.int _)), no7 (by decide +kernel), sm2 smE rfl, rfl⟩
      exact ⟨_, rfl, _, _, rfl, rfl, ⟨by decide, by decide⟩, _, _, rfl, rfl, (by show (0 : Int) < 3; decide), p, _, _, y, rfl, rfl, SqL.of upd_same, e', setH sA hy hp' hs hf⟩
    refine ⟨_, rfl, rfl, _, rfl, ite2 (fun h => absurd h c9) (fun _ => ?_)⟩
    -- way 8
    refine ⟨_, rfl, rfl, _, rfl, ite2 (fun c10 => ?_) (fun c10 => ?_)⟩
    · refine ⟨_, rfl, _, rfl, _, rfl, _, rfl, ar, wr, rfl, har, fun d1 H1 s1 e1 => ?_⟩
      rw [show (4 : Int) = ((4 : Nat) : Int) from rfl, cut_to] at e1
      refine ⟨_, rfl, _, _, rfl, rfl, ⟨by decide, by decide⟩, c / 144, rfl, fun y t H2 s2 hy nw => ?_⟩
      refine ⟨(by show 2 ≤ sizeLine; decide), fun p1 hp1 => ?_⟩
      have s3 := same_new hp1 (HO.tup [y, V.int 3])
      refine ⟨d1, p1, _, _, rfl, rfl, s3 _ _ (s2 _ _ e1), upd_same, Nat.le_of_lt (small (by rw [List.length_take]; show _ + 2 ≤ _; omega)), fun r1 H4 s4 e4 => ?_⟩
      have s24 := s3.trans s4
      have sA := s1.trans (s2.trans s24)
      refine setH sA (At.mkT e4 (ats2 sA (hy.mono s24) (At.int 3))) (headP_no (.inr (.inr (.inr (.inr (.inr ?_)))))) (sm2 nw.1 rfl) nw.2.2.2
      rw [nw.2.1, nw.2.2.1]
      simp
    -- the others
    · refine ⟨_, rfl, _, rfl, _, rfl, (by show 4 ≤ sizeLine; decide), fun p hp => ?_⟩
      have s1 := same_new hp (HO.lst [V.int 1, V.int 2, V.int 3, V.int 5])
      obtain ⟨k, e', hk⟩ : ∃ k : Nat, atI [V.int 1, V.int 2, V.int 3, V.int 5] (c / 144 % 4) = some (.int ((k : Nat) : Int)) ∧ (k = 1 ∨ k = 2 ∨ k = 3 ∨ k = 5) := by
        obtain e' | e' | e' | e' : c / 144 % 4 = 0 ∨ c / 144 % 4 = 1 ∨ c / 144 % 4 = 2 ∨ c / 144 % 4 = 3 := by omega
        · exact ⟨1, by rw [e']; rfl, .inl rfl⟩
        · exact ⟨2, by rw [e']; rfl, .inr (.inl rfl)⟩
        · exact ⟨3, by rw [e']; rfl, .inr (.inr (.inl rfl))⟩
        · exact ⟨5, by rw [e']; rfl, .inr (.inr (.inr rfl))⟩
      refine ⟨_, rfl, _, _, rfl, rfl, ⟨by decide, by decide⟩, _, _, rfl, rfl, (by show (0 : Int) < 4; decide), p, _, _, _, rfl, rfl, SqL.of upd_same, e', _, rfl, _, _, rfl, rfl, ⟨by decide, by decide⟩, c / 576, rfl, fun y t H2 s2 hy nn => ?_⟩
      have sA := s1.trans s2
      refine ⟨_, y, _, t, k, rfl, hv.mono sA, hy, (by show k < 6; omega), (by show (6 : Nat) ≤ 100; decide), fun r H3 s3 hr => setH (sA.trans s3) hr ?_ (six nn.1) ?_⟩
      · rcases hk with rfl | rfl | rfl | rfl
        · exact headP_no (.inr (.inl nn.2.1))
        · exact headP_no (.inr (.inr (.inl nn.2.1)))
        · exact headP_no (.inr (.inr (.inr (.inl (nn.wth (by decide) (by decide))))))
        · exact headP_no (.inr (.inr (.inr (.inr (.inl nn.2.1)))))
      · rcases hk with rfl | rfl | rfl | rfl <;> rfl
end
end K51
set_option maxHeartbeats 4000000
namespace K51
open PySem L2
/-! ### a top put otherwise -/
theorem topNo {a s w ls hs : Tr} {p : Int} (h : strIs a "top" = false ∨ wthT s 1 4294967295 = false ∨ wordT w = false ∨ linesP ls = false ∨ headsP hs ls = false) : topP (.tup [a, s, w, ls, hs]) p = false := by
  show (strIs a "top" && (wthT s 1 4294967295 && parT s p && wordT w) && (linesP ls && headsP hs ls)) = false
  rcases h with h | h | h | h | h <;> rw [h] <;> simp
structure BadT (p : Int) (t : Tr) : Prop where
  no : topP t p = false
  sm : K51.sm t = true
  fl : topFl t = true
theorem all5 {p : Tr → Prop} {a b c d e : Tr} (h1 : p a) (h2 : p b) (h3 : p c) (h4 : p d) (h5 : p e) : ∀ t ∈ [a, b, c, d, e], p t := fun t m => by
  simp only [List.mem_cons, List.not_mem_nil, or_false] at m
  rcases m with rfl | rfl | rfl | rfl | rfl <;> assumption
structure GoodT (st : Int) (w : Str) (m l : List Tr) : Prop where
  s1 : 1 ≤ st
  s2 : st ≤ 4294967295
  hw : isw w = true
  gl : GoodL m
  gh : GoodH l m
abbrev topT (st : Int) (w : Str) (m l : List Tr) : List Tr := [.str "top", .int st, .str w, .tup m, .tup l]
theorem GoodL.smT {m : List Tr} (g : GoodL m) : sm (.tup m) = true := sm_mkT (by have := g.l6; omega) fun t h => (g.fm t h).sm
theorem GoodL.flT {m : List Tr} (g : GoodL m) : allFl lineFl (.tup m) = true := List.all_eq_true.mpr fun t h => (g.fm t h).fl
theorem GoodH.smT {l m : List Tr} (g : GoodH l m) : sm (.tup l) = true := sm_mkT (by have := g.l12; omega) fun t h => (g.fm t h).sm
theorem GoodH.flT {l m : List Tr} (g : GoodH l m) : allFl headFl (.tup l) = true := List.all_eq_true.mpr fun t h => (g.fm t h).fl
theorem sm_w {w : Str} (h : isw w = true) : sm (.str w) = true := by
  unfold isw at h
  rw [Bool.and_eq_true, Bool.and_eq_true, decide_eq_true_eq, decide_eq_true_eq] at h
  exact sm_str (by omega)
theorem GoodT.all {st : Int} {w : Str} {m l : List Tr} (g : GoodT st w m l) : ∀ t ∈ topT st w m l, sm t = true := all5 (by decide +kernel) rfl (sm_w g.hw) g.gl.smT g.gh.smT
/-- one part exchanged -/
theorem mkBad {a s w ls hs : Tr} {p : Int} (h : strIs a "top" = false ∨ wthT s 1 4294967295 = false ∨ wordT w = false ∨ linesP ls = false ∨ headsP hs ls = false) (h1 : sm a = true) (h2 : sm s = true) (h3 : sm w = true) (h4 : sm ls = true) (h5 : sm hs = true) (f1 : flatT a = true) (f2 : allFl lineFl ls = true) (f3 : allFl headFl hs = true) : BadT p (.tup [a, s, w, ls, hs]) :=
  ⟨topNo h, sm_mkT (by show (5 : Nat) ≤ 100; decide) (all5 h1 h2 h3 h4 h5), by show (flatT a && allFl lineFl ls && allFl headFl hs) = true; rw [f1, f2, f3]; rfl⟩
section
variable {st : Int} {w : Str} {m l : List Tr} (g : GoodT st w m l) {p : Int}
include g
theorem GoodT.ba {a : Tr} (h : strIs a "top" = false) (hs : sm a = true) (hf : flatT a = true) : BadT p (.tup [a, .int st, .str w, .tup m, .tup l]) := mkBad (.inl h) hs rfl (sm_w g.hw) g.gl.smT g.gh.smT hf g.gl.flT g.gh.flT
theorem GoodT.bs {s : Tr} (h : wthT s 1 4294967295 = false) (hs : sm s = true) : BadT p (.tup [.str "top", s, .str w, .tup m, .tup l]) := mkBad (.inr (.inl h)) (by decide +kernel) hs (sm_w g.hw) g.gl.smT g.gh.smT rfl g.gl.flT g.gh.flT
theorem GoodT.bw {u : Tr} (h : wordT u = false) (hs : sm u = true) : BadT p (.tup [.str "top", .int st, u, .tup m, .tup l]) := mkBad (.inr (.inr (.inl h))) (by decide +kernel) rfl hs g.gl.smT g.gh.smT rfl g.gl.flT g.gh.flT
theorem GoodT.bm {u : Tr} (h : linesP u = false ∨ headsP (.tup l) u = false) (hs : sm u = true) (hf : allFl lineFl u = true) : BadT p (.tup [.str "top", .int st, .str w, u, .tup l]) := mkBad (.inr (.inr (.inr h))) (by decide +kernel) rfl (sm_w g.hw) hs g.gh.smT rfl hf g.gh.flT
theorem GoodT.bh {u : Tr} (h : headsP u (.tup m) = false) (hs : sm u = true) (hf : allFl headFl u = true) : BadT p (.tup [.str "top", .int st, .str w, .tup m, u]) := mkBad (.inr (.inr (.inr (.inr h)))) (by decide +kernel) rfl (sm_w g.hw) g.gl.smT hs rfl g.gl.flT hf
theorem GoodT.none' : headsP (.tup l) (.tup []) = false := by
  obtain ⟨t, ht⟩ : ∃ t, l[0]? = some t := ⟨_, List.getElem?_eq_getElem (show 0 < l.length from g.gh.l1)⟩
  exact heads_known ht rfl
end
theorem bad_nil {p : Tr → Prop} : ∀ t ∈ ([] : List Tr), p t := fun t m => by cases m
theorem bad_cons {p : Tr → Prop} {x : Tr} {l : List Tr} (h : p x) (k : ∀ t ∈ l, p t) : ∀ t ∈ x :: l, p t := fun t m => by
  rcases List.mem_cons.mp m with rfl | m
  · exact h
  · exact k t m
theorem bad_app {p : Tr → Prop} {k l : List Tr} (h : ∀ t ∈ k, p t) (h' : ∀ t ∈ l, p t) : ∀ t ∈ k ++ l, p t := fun t m => by
  rcases List.mem_append.mp m with m | m
  · exact h t m
  · exact h' t m
section
variable {P : Program} {w' : World} {K : PySem.W.Frag} {mg : Str → Option Value} {base : Heap} {f fWit fNno fNwo fBli fBhe : Addr} {fd dWit dNno dNwo dBli dBhe : FuncData}
def spBad : Sp := fun vs H Q _ => ∃ (c : Int) (x : V) (st : Int) (w : Str) (m l : List Tr), vs = [.int c, x] ∧ 0 ≤ c ∧ At H (.tup (topT st w m l)) x ∧ GoodT st w m l ∧ ∀ r t H', Same H H' → At H' t r → BadT (st % 2) t → Q r H'
theorem scBad : FnScope ["_law_cell", "_law_top", "_law_number_here", "_law_some"] ["_law_cell", "_law_top"] (defScope sBad) := ⟨rfl, rfl, rfl, by decide +kernel, rfl, by decide +kernel, by decide +kernel⟩
theorem ok_Bad (F : Fun K "_law_bad" "_law_bad" sBad f fd) (hWit : Has K mg "_law_with" sWit ["_law_row", "_law_at_here", "_law_thing"] fWit dWit) (GWit : FnOk P w' K mg base CX0 1 fWit dWit ["_law_row", "_law_at_here", "_law_thing"] spWit)
    (hNno : Has K mg "_law_no_number" sNno ["_law_cell"] fNno dNno) (GNno : FnOk P w' K mg base CX0 1 fNno dNno ["_law_cell"] spNno)
    (hNwo : Has K mg "_law_no_word" sNwo ["_law_cell"] fNwo dNwo) (GNwo : FnOk P w' K mg base CX0 1 fNwo dNwo ["_law_cell"] spNwo)
    (hBli : Has K mg "_law_bad_lines" sBli ["_law_cell", "_law_rows"] fBli dBli) (GBli : FnOk P w' K mg base CX0 2 fBli dBli ["_law_cell", "_law_rows"] spBli)
    (hBhe : Has K mg "_law_bad_heads" sBhe ["_law_cell", "_law_heads_here"] fBhe dBhe) (GBhe : FnOk P w' K mg base CX0 2 fBhe dBhe ["_law_cell", "_law_heads_here"] spBhe) (T : Txt mg) : FnOk P w' K mg base CX0 3 f fd ["_law_cell", "_law_top"] spBad := by
  refine F.ok scBad (fun vs H Q E h => ?_) (fun cdv A outer s H vs Q E hr h => ?_)
  · obtain ⟨c, x, st, w, m, l, rfl, _⟩ := h
    rfl
  obtain ⟨c, x, st, w, m, l, rfl, c0, hx, g, q⟩ := h
  obtain ⟨a, ws, rfl, ha, kw⟩ := hx.tup
  have ln : ws.length = 5 := kw.len
  refine ⟨_, (pss_cons (ps_set (i := 2) scBad.nd rfl (Or.inl rfl) (pe_op op_fdiv (pv 0) pe_int))
    (pss_cons (ps_if (pt_cmpR op_eq (pe_op op_mod (pv 0) pe_int) pe_int (nomark _))
    (pss_one (ps_ret (pe_call GWit (hr.mono (by decide)) rfl hWit.nm hWit.fn.kp hWit.bd .nil pass0 (pc (pv 1) (pc pe_int (pc (pe_call GBli (hr.mono (by decide)) rfl hBli.nm hBli.fn.kp hBli.bd .nil pass0 (pc (pv 2) (pc (pe_ix ix_tup (pv 1) pe_int (fun _ _ => rfl)) pa_nil))) pa_nil))))))
    pss_nil)
    (pss_cons (ps_if (pt_cmpR op_lt (pe_op op_mod (pv 0) pe_int) pe_int (nomark _))
    (pss_one (ps_ret (pe_call GWit (hr.mono (by decide)) rfl hWit.nm hWit.fn.kp hWit.bd .nil pass0 (pc (pv 1) (pc pe_int (pc (pe_call GBhe (hr.mono (by decide)) rfl hBhe.nm hBhe.fn.kp hBhe.bd .nil pass0 (pc (pv 2) (pc (pe_ix ix_tup (pv 1) pe_int (fun _ _ => rfl)) pa_nil))) pa_nil))))))
    pss_nil)
    (pss_cons (ps_if (pt_cmpR op_eq (pe_op op_mod (pv 0) pe_int) pe_int (nomark _))
    (pss_one (ps_ret (pe_call GWit (hr.mono (by decide)) rfl hWit.nm hWit.fn.kp hWit.bd .nil pass0 (pc (pv 1) (pc (pe_ix ix_list (pe_lst (pc pe_int (pc pe_int pa_nil))) (pe_op op_mod (pv 2) pe_int) (fun _ _ => rfl)) (pc (pe_ix ix_list (pe_lst (pc (pe_call GNno (hr.mono (by decide)) rfl hNno.nm hNno.fn.kp hNno.bd .nil pass0 (pc (pe_op op_fdiv (pv 2) pe_int) pa_nil)) (pc (pe_call GNwo (hr.mono (by decide)) rfl hNwo.nm hNwo.fn.kp hNwo.bd .nil pass0 (pc (pe_op op_fdiv (pv 2) pe_int) pa_nil)) pa_nil))) (pe_op op_mod (pv 2) pe_int) (fun _ _ => rfl)) pa_nil))))))
    pss_nil)
    (pss_cons (ps_set (i := 3) scBad.nd rfl (Or.inl rfl) (by refine' pe_lst ?p0; (case p0 => (refine' pc ?q0 ?p1; (case q0 => exact (pe_callTy call_list_of rfl T.lst PyProof.Rows.boot_list (pc (pv 1) pa_nil))); (case p1 => (refine' pc ?q1 ?p2; (case q1 => exact (pe_slice sl_tupW (pv 1) po_none (po_some pe_int))); (case p2 => (refine' pc ?q2 ?p3; (case q2 => exact (pe_op op_catA (pv 1) (pe_tup (pc (pe_tup pa_nil) pa_nil)))); (case p3 => (refine' pc ?q3 ?p4; (case q3 => exact (pe_op op_catA (pe_tup (pc pe_str pa_nil)) (pe_slice sl_tupW (pv 1) (po_some pe_int) po_none))); (case p4 => (refine' pc ?q4 ?p5; (case q4 => exact (pe_op op_catA (pe_tup (pc pe_non pa_nil)) (pe_slice sl_tupW (pv 1) (po_some pe_int) po_none))); (case p5 => (refine' pc ?q5 ?p6; (case q5 => exact pe_non); (case p6 => (refine' pc ?q6 ?p7; (case q6 => exact (pe_tup pa_nil)); (case p7 => (refine' pc ?q7 ?p8; (case q7 => exact pe_str); (case p8 => (refine' pc ?q8 ?p9; (case q8 => exact pe_int); (case p9 => (refine' pc ?q9 ?p10; (case q9 => exact pe_bl); (case p10 => (refine' pc ?q10 ?p11; (case q10 => exact pe_dnewK); (case p11 => exact pa_nil)))))))))))))))))))))))))
    (pss_cons (ps_set (i := 3) scBad.nd rfl (Or.inl rfl) (pe_op op_cat (pv 3) (pe_lst (pc (pe_call GWit (hr.mono (by decide)) rfl hWit.nm hWit.fn.kp hWit.bd .nil pass0 (pc (pv 1) (pc pe_int (pc (pe_callTy call_list_of rfl T.lst PyProof.Rows.boot_list (pc (pe_ix ix_tup (pv 1) pe_int (fun _ _ => rfl)) pa_nil)) pa_nil)))) (pc (pe_call GWit (hr.mono (by decide)) rfl hWit.nm hWit.fn.kp hWit.bd .nil pass0 (pc (pv 1) (pc pe_int (pc (pe_callTy call_list_of rfl T.lst PyProof.Rows.boot_list (pc (pe_ix ix_tup (pv 1) pe_int (fun _ _ => rfl)) pa_nil)) pa_nil)))) (pc (pe_call GWit (hr.mono (by decide)) rfl hWit.nm hWit.fn.kp hWit.bd .nil pass0 (pc (pv 1) (pc pe_int (pc (pe_tup pa_nil) pa_nil)))) pa_nil))))))
    (pss_cons (ps_set (i := 3) scBad.nd rfl (Or.inl rfl) (pe_op op_cat (pv 3) (by refine' pe_lst ?p0; (case p0 => (refine' pc ?q0 ?p1; (case q0 => exact (pe_call GWit (hr.mono (by decide)) rfl hWit.nm hWit.fn.kp hWit.bd .nil pass0 (pc (pv 1) (pc pe_int (pc pe_int pa_nil))))); (case p1 => (refine' pc ?q1 ?p2; (case q1 => exact (pe_call GWit (hr.mono (by decide)) rfl hWit.nm hWit.fn.kp hWit.bd .nil pass0 (pc (pv 1) (pc pe_int (pc (pe_un un_neg pe_int) pa_nil))))); (case p2 => (refine' pc ?q2 ?p3; (case q2 => exact (pe_call GWit (hr.mono (by decide)) rfl hWit.nm hWit.fn.kp hWit.bd .nil pass0 (pc (pv 1) (pc pe_int (pc pe_non pa_nil))))); (case p3 => (refine' pc ?q3 ?p4; (case q3 => exact (pe_tup (pc pe_str (pc pe_int (pc pe_int (pc (pe_tup pa_nil) pa_nil)))))); (case p4 => exact pa_nil))))))))))))
    (pss_one (ps_ret (pe_ix ix_list (pv 3) (pe_op op_mod (pv 2) pe_int) (fun _ _ => rfl))))))))))), ?_⟩
  obtain ⟨v3, e3, z3⟩ := at_tup kw (i := 3) (t := .tup m) rfl
  obtain ⟨v4, e4, z4⟩ := at_tup kw (i := 4) (t := .tup l) rfl
  -- a part exchanged
  have putT : ∀ {y t H1 k} {Qk : VK}, Same H H1 → At H1 t y → k < 5 → (∀ r H', Same H1 H' → At H' (.tup ((topT st w m l).set k t)) r → Qk r H') → spWit [.ref a, .int ((k : Nat) : Int), y] H1 Qk E0 := fun {y t H1 k Qk} s1 hy hk hq => ⟨_, y, _, t, k, rfl, hx.mono s1, hy, hk, (by show (5 : Nat) ≤ 100; decide), hq⟩
  refine ⟨_, rfl, _, _, rfl, rfl, ⟨by decide, by decide⟩, ?_⟩
  dsimp only
  have n0 : 0 ≤ c / 6 := by omega
  refine ⟨_, rfl, _, _, rfl, rfl, (by show (0 : Int) < 6; decide), rfl, _, rfl, ite2 (fun c1 => ?_) (fun c1 => ?_)⟩
  · refine ⟨_, rfl, _, rfl, _, rfl, a, ws, 3, v3, rfl, rfl, SqT.of ha, e3, c / 6, v3, m, rfl, n0, z3, g.gl, fun r t H1 s1 hr b => ?_⟩
    exact putT (k := 3) s1 hr (by decide) fun r' H' s' hr' => q r' _ H' (s1.trans s') hr' (g.bm (.inl b.no) b.sm b.fl)
  refine ⟨_, rfl, _, _, rfl, rfl, (by show (0 : Int) < 6; decide), _, _, rfl, rfl, _, rfl, ite2 (fun c2 => ?_) (fun c2 => ?_)⟩
  · refine ⟨_, rfl, _, rfl, _, rfl, a, ws, 4, v4, rfl, rfl, SqT.of ha, e4, c / 6, v4, l, m, rfl, n0, z4, g.gh, fun r t H1 s1 hr b => ?_⟩
    exact putT (k := 4) s1 hr (by decide) fun r' H' s' hr' => q r' _ H' (s1.trans s') hr' (g.bh b.no b.sm b.fl)
  refine ⟨_, rfl, _, _, rfl, rfl, (by show (0 : Int) < 6; decide), rfl, _, rfl, ite2 (fun c3 => ?_) (fun c3 => ?_)⟩
  · refine ⟨_, rfl, (by show 2 ≤ sizeLine; decide), fun p1 hp1 => ?_⟩
    have s1 := same_new hp1 (HO.lst [V.int 1, V.int 2])
    have e1 : upd H p1 (HO.lst [V.int 1, V.int 2]) p1 = some (.lst [V.int 1, V.int 2]) := upd_same
    revert s1 e1
    generalize upd H p1 (HO.lst [V.int 1, V.int 2]) = H1
    intro s1 e1
    obtain e | e : c / 6 % 2 = 0 ∨ c / 6 % 2 = 1 := by omega
    · refine ⟨_, rfl, _, _, rfl, rfl, (by show (0 : Int) < 2; decide), p1, _, _, .int 1, rfl, rfl, SqL.of e1, (by show atI [V.int 1, V.int 2] (c / 6 % 2) = _; rw [e]; rfl), _, rfl, _, _, rfl, rfl, ⟨by decide, by decide⟩, c / 6 / 2, rfl, fun y1 t1 H2 s2 hy1 nn => ?_⟩
      refine ⟨_, rfl, _, _, rfl, rfl, ⟨by decide, by decide⟩, c / 6 / 2, rfl, fun y2 t2 H3 s3 hy2 nw => ?_⟩
      refine ⟨(by show 2 ≤ sizeLine; decide), fun p2 hp2 => ?_⟩
      have s4 := same_new hp2 (HO.lst [y1, y2])
      have sA := s1.trans (s2.trans (s3.trans s4))
      exact ⟨_, rfl, _, _, rfl, rfl, (by show (0 : Int) < 2; decide), p2, _, _, y1, rfl, rfl, SqL.of upd_same, (by show atI [y1, y2] (c / 6 % 2) = _; rw [e]; rfl), putT (k := 1) sA ((hy1.mono s3).mono s4) (by decide) fun r' H' s' hr' => q r' _ H' (sA.trans s') hr' (g.bs (nn.wth (by decide) (by decide)) nn.1)⟩
    · refine ⟨_, rfl, _, _, rfl, rfl, (by show (0 : Int) < 2; decide), p1, _, _, .int 2, rfl, rfl, SqL.of e1, (by show atI [V.int 1, V.int 2] (c / 6 % 2) = _; rw [e]; rfl), _, rfl, _, _, rfl, rfl, ⟨by decide, by decide⟩, c / 6 / 2, rfl, fun y1 t1 H2 s2 hy1 nn => ?_⟩
      refine ⟨_, rfl, _, _, rfl, rfl, ⟨by decide, by decide⟩, c / 6 / 2, rfl, fun y2 t2 H3 s3 hy2 nw => ?_⟩
      refine ⟨(by show 2 ≤ sizeLine; decide), fun p2 hp2 => ?_⟩
      have s4 := same_new hp2 (HO.lst [y1, y2])
      have sA := s1.trans (s2.trans (s3.trans s4))
      exact ⟨_, rfl, _, _, rfl, rfl, (by show (0 : Int) < 2; decide), p2, _, _, y2, rfl, rfl, SqL.of upd_same, (by show atI [y1, y2] (c / 6 % 2) = _; rw [e]; rfl), putT (k := 2) sA (hy2.mono s4) (by decide) fun r' H' s' hr' => q r' _ H' (sA.trans s') hr' (g.bw nw.2.1 nw.1)⟩
  -- eighteen others: the first eleven
  refine ⟨_, rfl, a, ws, rfl, .inr (SqT.of ha), fun p1 hp1 => ?_⟩
  have s1 := same_new hp1 (HO.lst ws)
  have k1 : Ats (upd H p1 (HO.lst ws)) [.lst (topT st w m l)] [V.ref p1] := Ats.cons (At.mkL upd_same (Ats.mono s1 kw)) (Ats.nil _)
  revert s1 k1
  generalize upd H p1 (HO.lst ws) = H1
  intro s1 k1
  refine ⟨_, rfl, _, rfl, a, ws, rfl, s1 _ _ ha, fun d2 H2 s2 e2 => ?_⟩
  rw [show (4 : Int) = ((4 : Nat) : Int) from rfl, cut_to] at e2
  have s02 := s1.trans s2
  have k2 : Ats H2 [.lst (topT st w m l), .tup ((topT st w m l).take 4)] [V.ref p1, V.ref d2] := Ats.app (Ats.cons (At.mkT e2 ((Ats.mono s02 kw).take 4)) (Ats.nil _)) (Ats.mono s2 k1)
  refine ⟨_, rfl, by decide, fun p3 hp3 => ?_⟩
  have s3 := same_new hp3 (HO.tup [])
  refine ⟨(by show 1 ≤ sizeLine; decide), fun p4 hp4 => ?_⟩
  have s4 := same_new hp4 (HO.tup [V.ref p3])
  have s34 := s3.trans s4
  have ep3 := s4 _ _ (upd_same (H := H2) (a := p3) (o := HO.tup []))
  refine ⟨a, p4, _, _, rfl, rfl, (s02.trans s34) _ _ ha, upd_same, Nat.le_of_lt (small (by rw [ln]; show 5 + 1 ≤ _; decide)), fun d5 H5 s5 e5 => ?_⟩
  have s05 := s02.trans (s34.trans s5)
  have k5 : Ats H5 [.lst (topT st w m l), .tup ((topT st w m l).take 4), .tup (topT st w m l ++ [.tup []])] [V.ref p1, V.ref d2, V.ref d5] := Ats.app (Ats.cons (At.mkT e5 (Ats.app (Ats.cons (At.mkT (s5 _ _ ep3) (Ats.nil _)) (Ats.nil _)) (Ats.mono s05 kw))) (Ats.nil _)) (Ats.mono (s34.trans s5) k2)
  refine ⟨(by show 1 ≤ sizeLine; decide), fun p6 hp6 => ?_⟩
  have s6 := same_new hp6 (HO.tup [V.str "tops"])
  refine ⟨_, rfl, _, rfl, a, ws, rfl, (s05.trans s6) _ _ ha, fun d7 H7 s7 e7 => ?_⟩
  rw [show (1 : Int) = ((1 : Nat) : Int) from rfl, cut_from] at e7
  refine ⟨p6, d7, _, _, rfl, rfl, s7 _ _ upd_same, e7, Nat.le_of_lt (small (by rw [List.length_drop, ln]; show 1 + 4 ≤ _; decide)), fun d8 H8 s8 e8 => ?_⟩
  have s68 := s6.trans (s7.trans s8)
  have s08 := s05.trans s68
  have k8 : Ats H8 [.lst (topT st w m l), .tup ((topT st w m l).take 4), .tup (topT st w m l ++ [.tup []]), .tup [.str "tops", .int st, .str w, .tup m, .tup l]] [V.ref p1, V.ref d2, V.ref d5, V.ref d8] := Ats.app (Ats.cons (At.mkT e8 (Ats.cons (At.str _) ((Ats.mono s08 kw).drop 1))) (Ats.nil _)) (Ats.mono s68 k5)
  refine ⟨(by show 1 ≤ sizeLine; decide), fun p9 hp9 => ?_⟩
  have s9 := same_new hp9 (HO.tup [V.non])
  refine ⟨_, rfl, _, rfl, a, ws, rfl, (s08.trans s9) _ _ ha, fun d10 H10 s10 e10 => ?_⟩
  rw [show (1 : Int) = ((1 : Nat) : Int) from rfl, cut_from] at e10
  refine ⟨p9, d10, _, _, rfl, rfl, s10 _ _ upd_same, e10, Nat.le_of_lt (small (by rw [List.length_drop, ln]; show 1 + 4 ≤ _; decide)), fun d11 H11 s11 e11 => ?_⟩
  have s911 := s9.trans (s10.trans s11)
  have s011 := s08.trans s911
  have k11 := Ats.app (Ats.cons (At.mkT (l := [.non, .int st, .str w, .tup m, .tup l]) e11 (Ats.cons At.non ((Ats.mono s011 kw).drop 1))) (Ats.nil _)) (Ats.mono s911 k8)
  refine ⟨by decide, fun p12 hp12 => ?_⟩
  have s12 := same_new hp12 (HO.tup [])
  intro p13 hp13
  have s13 := same_new hp13 (HO.dK [])
  have k13 := Ats.app (Ats.cons At.non (Ats.cons (At.mkT (l := []) (s13 _ _ (upd_same (H := H11) (a := p12) (o := HO.tup []))) (Ats.nil _)) (Ats.cons (At.str (Str.ofString "top")) (Ats.cons (At.int 5) (Ats.cons (At.bl true) (Ats.cons (show At _ .dct (V.ref p13) by unfold At; exact ⟨_, _, rfl, upd_same⟩) (Ats.nil _))))))) (Ats.mono (s12.trans s13) k11)
  refine ⟨(by show 11 ≤ sizeLine; decide), fun q1 hq1 => ?_⟩
  have t1 := same_new hq1 (HO.lst [V.ref p1, V.ref d2, V.ref d5, V.ref d8, V.ref d11, V.non, V.ref p12, V.str "top", V.int 5, V.bl true, V.ref p13])
  have s0 := s011.trans (s12.trans (s13.trans t1))
  have k14 := Ats.mono t1 k13
  have eq1 := upd_same (H := upd (upd H11 p12 (HO.tup [])) p13 (HO.dK [])) (a := q1) (o := HO.lst [V.ref p1, V.ref d2, V.ref d5, V.ref d8, V.ref d11, V.non, V.ref p12, V.str "top", V.int 5, V.bl true, V.ref p13])
  revert s0 k14 eq1
  generalize upd (upd (upd H11 p12 (HO.tup [])) p13 (HO.dK [])) q1 (HO.lst [V.ref p1, V.ref d2, V.ref d5, V.ref d8, V.ref d11, V.non, V.ref p12, V.str "top", V.int 5, V.bl true, V.ref p13]) = G0
  intro s0 k14 eq1
  obtain ⟨am, wm, rfl, ham, km⟩ := z3.tup
  obtain ⟨al, wl, rfl, hal, kl⟩ := z4.tup
  -- three more
  refine ⟨_, rfl, _, rfl, _, rfl, a, ws, 3, _, rfl, rfl, SqT.of (s0 _ _ ha), e3, am, wm, rfl, .inr (SqT.of (s0 _ _ ham)), fun u1 hu1 => ?_⟩
  have x1 := same_new hu1 (HO.lst wm)
  refine putT (k := 3) (s0.trans x1) (At.mkL upd_same (Ats.mono (s0.trans x1) km)) (by decide) fun r1 G1 y1 h1 => ?_
  have s1' := s0.trans (x1.trans y1)
  refine ⟨_, rfl, _, rfl, a, ws, 4, _, rfl, rfl, SqT.of (s1' _ _ ha), e4, al, wl, rfl, .inr (SqT.of (s1' _ _ hal)), fun u2 hu2 => ?_⟩
  have x2 := same_new hu2 (HO.lst wl)
  refine putT (k := 4) (s1'.trans x2) (At.mkL upd_same (Ats.mono (s1'.trans x2) kl)) (by decide) fun r2 G2 y2 h2 => ?_
  have s2' := s1'.trans (x2.trans y2)
  refine ⟨_, rfl, by decide, fun u3 hu3 => ?_⟩
  have x3 := same_new hu3 (HO.tup [])
  refine putT (k := 3) (s2'.trans x3) (At.mkT upd_same (Ats.nil _)) (by decide) fun r3 G3 y3 h3 => ?_
  have s3' := s2'.trans (x3.trans y3)
  have kb := Ats.cons ((h1.mono (x2.trans y2)).mono (x3.trans y3)) (Ats.cons (h2.mono (x3.trans y3)) (Ats.cons h3 (Ats.nil _)))
  have k17 := Ats.app kb (Ats.mono (x1.trans (y1.trans (x2.trans (y2.trans (x3.trans y3))))) k14)
  have eq3 := (x1.trans (y1.trans (x2.trans (y2.trans (x3.trans y3))))) _ _ eq1
  refine ⟨(by show 3 ≤ sizeLine; decide), fun q2 hq2 => ?_⟩
  have x4 := same_new hq2 (HO.lst [r1, r2, r3])
  refine ⟨q1, q2, _, _, rfl, rfl, x4 _ _ eq3, upd_same, (by show 11 + 3 ≤ sizeLine; decide), fun q3 hq3 => ?_⟩
  have x5 := same_new hq3 (HO.lst ([V.ref p1, V.ref d2, V.ref d5, V.ref d8, V.ref d11, V.non, V.ref p12, V.str "top", V.int 5, V.bl true, V.ref p13] ++ [r1, r2, r3]))
  have e5' := upd_same (H := upd G3 q2 (HO.lst [r1, r2, r3])) (a := q3) (o := HO.lst ([V.ref p1, V.ref d2, V.ref d5, V.ref d8, V.ref d11, V.non, V.ref p12, V.str "top", V.int 5, V.bl true, V.ref p13] ++ [r1, r2, r3]))
  have s5' := s3'.trans (x4.trans x5)
  have k18 := Ats.mono (x4.trans x5) k17
  revert s5' k18 e5'
  generalize upd (upd G3 q2 (HO.lst [r1, r2, r3])) q3 (HO.lst ([V.ref p1, V.ref d2, V.ref d5, V.ref d8, V.ref d11, V.non, V.ref p12, V.str "top", V.int 5, V.bl true, V.ref p13] ++ [r1, r2, r3])) = G4
  intro e5' s5' k18
  -- and four
  refine ⟨_, rfl, _, rfl, ?_⟩
  refine putT (k := 1) s5' (At.int 0) (by decide) fun r4 G5 y5 h5 => ?_
  have s6' := s5'.trans y5
  refine ⟨_, rfl, _, rfl, ?_⟩
  refine putT (k := 1) s6' (At.int (-2)) (by decide) fun r5 G6 y6 h6 => ?_
  have s7' := s6'.trans y6
  refine ⟨_, rfl, ?_⟩
  refine putT (k := 4) s7' At.non (by decide) fun r6 G7 y7 h7 => ?_
  have s8' := s7'.trans y7
  refine ⟨by decide, fun u4 hu4 => ?_⟩
  have x6 := same_new hu4 (HO.tup [])
  refine ⟨(by show 4 ≤ sizeLine; decide), fun u5 hu5 => ?_⟩
  have x7 := same_new hu5 (HO.tup [V.str "folder", V.int 1, V.int 0, V.ref u4])
  have x67 := x6.trans x7
  have kc := Ats.cons ((h5.mono y6).mono (y7.trans x67)) (Ats.cons (h6.mono (y7.trans x67)) (Ats.cons (h7.mono x67) (Ats.cons (At.mkT (l := [.str "folder", .int 1, .int 0, .tup []]) upd_same (Ats.cons (At.str _) (Ats.cons (At.int _) (Ats.cons (At.int _) (Ats.cons (At.mkT (l := []) (x7 _ _ upd_same) (Ats.nil _)) (Ats.nil _)))))) (Ats.nil _))))
  have yA := y5.trans (y6.trans (y7.trans x67))
  have k22 := Ats.app kc (Ats.mono yA k18)
  refine ⟨(by show 4 ≤ sizeLine; decide), fun q4 hq4 => ?_⟩
  have x8 := same_new hq4 (HO.lst [r4, r5, r6, V.ref u5])
  refine ⟨q3, q4, _, _, rfl, rfl, x8 _ _ (yA _ _ e5'), upd_same, (by show 14 + 4 ≤ sizeLine; decide), fun q5 hq5 => ?_⟩
  have x9 := same_new hq5 (HO.lst (([V.ref p1, V.ref d2, V.ref d5, V.ref d8, V.ref d11, V.non, V.ref p12, V.str "top", V.int 5, V.bl true, V.ref p13] ++ [r1, r2, r3]) ++ [r4, r5, r6, V.ref u5]))
  have k23 := Ats.mono (x8.trans x9) k22
  have s9' := s8'.trans (x67.trans (x8.trans x9))
  obtain ⟨j, ej, hj⟩ : ∃ j : Nat, c / 6 % 18 = (j : Int) ∧ j < 18 := ⟨(c / 6 % 18).toNat, by omega, by omega⟩
  obtain ⟨v, hvj⟩ : ∃ v, (([V.ref p1, V.ref d2, V.ref d5, V.ref d8, V.ref d11, V.non, V.ref p12, V.str "top", V.int 5, V.bl true, V.ref p13] ++ [r1, r2, r3]) ++ [r4, r5, r6, V.ref u5])[j]? = some v := ⟨_, List.getElem?_eq_getElem (by show j < 18; exact hj)⟩
  obtain ⟨t, ht, hat⟩ := k23.get hvj
  have bad : BadT (st % 2) t := by
    refine (?_ : ∀ t ∈ _, BadT (st % 2) t) t (List.mem_of_getElem? ht)
    refine bad_app (bad_app (bad_app (bad_app (bad_cons ⟨rfl, sm_mkL (by show (5 : Nat) ≤ 100; decide) g.all, rfl⟩ (bad_cons ⟨rfl, sm_mkT (by show (4 : Nat) ≤ 100; decide) fun t m => g.all t (List.mem_of_mem_take m), rfl⟩ (bad_cons ⟨rfl, sm_mkT (by show (6 : Nat) ≤ 100; decide) (bad_app g.all (bad_cons (by decide +kernel) bad_nil)), rfl⟩ (bad_cons (g.ba (by decide +kernel) (by decide +kernel) rfl) bad_nil)))) (bad_cons (g.ba rfl rfl rfl) bad_nil)) (bad_cons ⟨rfl, rfl, rfl⟩ (bad_cons ⟨rfl, by decide +kernel, rfl⟩ (bad_cons ⟨rfl, by decide +kernel, rfl⟩ (bad_cons ⟨rfl, rfl, rfl⟩ (bad_cons ⟨rfl, rfl, rfl⟩ (bad_cons ⟨rfl, rfl, rfl⟩ bad_nil))))))) (bad_cons (g.bm (.inl rfl) (sm_mkL (by have := g.gl.l6; omega) fun t h => (g.gl.fm t h).sm) rfl) (bad_cons (g.bh rfl (sm_mkL (by have := g.gh.l12; omega) fun t h => (g.gh.fm t h).sm) rfl) (bad_cons (g.bm (.inr g.none') (by decide +kernel) rfl) bad_nil)))) (bad_cons (g.bs (by decide +kernel) rfl) (bad_cons (g.bs (by decide +kernel) rfl) (bad_cons (g.bh rfl rfl rfl) (bad_cons ⟨rfl, by decide +kernel, rfl⟩ bad_nil))))
  exact ⟨_, rfl, _, rfl, _, _, rfl, rfl, (by show (0 : Int) < 18; decide), q5, _, _, v, rfl, rfl, SqL.of upd_same, (by show atI _ (c / 6 % 18) = _; rw [ej]; exact atI_nat hvj), q v t _ s9' hat bad⟩
end
end K51
/-! ### sorted(set(a list of texts)) -/
namespace L2
open PySem PySem.Spec PyProof.Rows
theorem vals_givesS {P : Program} {w : World} : ∀ (ks : List Str) (us : List Value), us.length = ks.length → (∀ (j : Nat) (v : Value), us[j]? = some v → Gives (PySem.strKind P w) ks j v) → Vals (ks.map V.str) us
  | [], [], _, _ => .nil
  | [], _ :: _, h, _ => by cases h
  | _ :: _, [], h, _ => by cases h
  | k :: ks, u :: us, h, g => by
    obtain ⟨k', e, his⟩ := g 0 u rfl
    have ek : k = k' := Option.some.inj e
    subst ek
    refine .cons ?_ (vals_givesS (P := P) (w := w) ks us (Nat.succ.inj h) fun j v hj => g (j + 1) v hj)
    obtain ⟨t, rfl⟩ := Value.isStrOf_shape (show Value.isStrOf k u = true from his)
    exact ⟨t, rfl⟩
theorem of_strs : ∀ {us : List Value} {ss : List Str}, StrsAre us ss → Vals (ss.map V.str) us
  | _, _, .nil => .nil
  | _, _, .cons y t h => .cons ⟨t, rfl⟩ (of_strs h)
theorem str_eq {a b : Str} (h : a.cps.toList = b.cps.toList) : a = b := by
  cases a
  cases b
  simp only [Str.mk.injEq]
  exact Array.toList_inj.mp h
theorem rising_at : ∀ {p : Str} {l : List Str}, risingS p l = true → ∀ (i : Nat) (a b : Str), (p :: l)[i]? = some a → (p :: l)[i + 1]? = some b → ¬ b.cps.toList < a.cps.toList
  | p, [], _, i, a, b, _, h2 => by simp at h2
  | p, x :: r, h, 0, a, b, h1, h2 => by
    cases h1
    cases h2
    have h' : (!ltCps x.cps.toList p.cps.toList && risingS x r) = true := h
    rw [Bool.and_eq_true, ltCps_eq] at h'
    have h'' := h'.1
    intro z
    rw [decide_eq_true z] at h''
    cases h''
  | p, x :: r, h, i + 1, a, b, h1, h2 => by
    have h' : (!ltCps x.cps.toList p.cps.toList && risingS x r) = true := h
    rw [Bool.and_eq_true] at h'
    exact rising_at h'.2 i a b h1 h2
theorem rise_strs {l : List Str} (h : sortedS l = true) (nd : l.Nodup) (i : Nat) (a b : Str) (ha : l[i]? = some a) (hb : l[i + 1]? = some b) : a.cps.toList < b.cps.toList := by
  have nl : ¬ b.cps.toList < a.cps.toList := by
    match l, h with
    | x :: r, h => exact rising_at h i a b ha hb
  by_cases z : a.cps.toList < b.cps.toList
  · exact z
  · exfalso
    have e : a = b := str_eq (List.le_antisymm (List.not_lt.mp nl) (List.not_lt.mp z))
    subst e
    have l1 := (List.getElem?_eq_some_iff.mp ha).1
    have := (List.getElem?_inj l1 nd).mp (ha.trans hb.symm)
    omega
section
variable {X : Cx} {e : Expr} {te : TE}
def tSSetS (K : PySem.W.Frag) (te : TE) : TE := fun σ H Q => te σ H fun x H1 => ∃ (a : Addr) (ns : List Str), x = .ref a ∧ SqL K H1 a (ns.map V.str) ∧ ns.length < 64 ∧ ∀ (l : Addr) (ms : List Str), ms.Nodup → (∀ (i : Nat) a b, ms[i]? = some a → ms[i + 1]? = some b → a.cps.toList < b.cps.toList) → (∀ k, k ∈ ms ↔ k ∈ ns) → H1 l = none → Q (.ref l) (upd H1 l (.lst (ms.map V.str)))
theorem pe_ssetS {p1 p2 q1 q2 : Pos} (hc : X.calm = true) (g1 : Gl X "sorted") (m1 : X.mg "sorted" = none) (g2 : Gl X "set") (m2 : X.mg "set" = none) (he : PE X e te) (h1 : starEach [e] X.env = [(false, eval e X.env)] := by rfl)
    (h2 : starEach [.Call (.Name "set" p2) [e] [] q2] X.env = [(false, eval (.Call (.Name "set" p2) [e] [] q2) X.env)] := by rfl) : PE X (.Call (.Name "sorted" p1) [.Call (.Name "set" p2) [e] [] q2] [] q1) (tSSetS X.K te) := by
  intro pins s σ H Q I h
  refine wpAny_Call_Name_kw (ld_blt I g1 m1 boot_sorted ?_)
  refine PyProof.Rows.callWith_builtin1 ?_ h2 rfl
  rw [h2]
  show wpAny (model X.prog X.w) _ (spliced ((false, eval (.Call (.Name "set" p2) [e] [] q2) X.env) :: backTo q1 (starEach [] X.env))) _ _ s
  refine Calls.spliced_cons ?_
  refine wpAny_Call_Name_kw (ld_blt I g2 m2 boot_set ?_)
  refine PyProof.Rows.callWith_type1 ?_ h1 rfl
  rw [h1]
  show wpAny (model X.prog X.w) _ (spliced ((false, eval e X.env) :: backTo q2 (starEach [] X.env))) _ _ s
  refine Calls.spliced_cons (thn (he pins s σ H _ I h) fun u s1 ⟨x, H1, I1, r1, q⟩ => ?_)
  obtain ⟨a, ns, rfl, hq, h64, q⟩ := q
  cases r1
  refine Calls.spliced_nil ?_
  obtain ⟨its, rv, pl, _⟩ := I1.list hq
  have hl : its.length = ns.length := by
    have := rv.length
    rw [List.length_map] at this
    exact this.symm
  have hh := I1.ok.hd hc
  have hv : ∀ (i : Nat) (v : Value), its.toArray[i]? = some v → (PySem.strKind X.prog X.w).is (ns.getD i (Str.ofString "")) v = true ∧ v.scannable = true := fun i v hi => by
    have hi' : its[i]? = some v := by simpa using hi
    have li : i < ns.length := by
      have := (List.getElem?_eq_some_iff.mp hi').1
      omega
    obtain ⟨u, hu, ru⟩ := Vals.get rv (i := i) (x := .str ns[i]) (by rw [List.getElem?_map, List.getElem?_eq_getElem li]; rfl)
    rw [hi'] at hu
    cases hu
    obtain ⟨t, rfl⟩ := ru
    rw [List.getD_eq_getElem?_getD, List.getElem?_eq_getElem li]
    exact ⟨strKind_is _ _ _ _, rfl⟩
  refine call_setL (knd := PySem.strKind X.prog X.w) hh pl.isList (fun i => ns.getD i (Str.ofString "")) hv (by simp [hl]; unfold scanBound; omega) fun h2 tk ks hS hx kp => ?_
  have I2 : Inv X pins σ H1 { s1 with heap := h2, toks := tk } := I1.kept fun b o z => kp b o (Heap.lt_size z) z
  have mem : ∀ k, k ∈ ks ↔ k ∈ ns := fun k => by
    rw [hx]
    constructor
    · rintro ⟨j, hj, rfl⟩
      have lj : j < ns.length := by simpa [hl] using hj
      rw [List.getD_eq_getElem?_getD, List.getElem?_eq_getElem lj]
      exact List.getElem_mem lj
    · intro m
      obtain ⟨j, hj, z⟩ := List.getElem_of_mem m
      exact ⟨j, by simpa [hl] using hj, by rw [List.getD_eq_getElem?_getD, List.getElem?_eq_getElem hj]; exact z.symm⟩
  have nd : ks.Nodup := by
    obtain ⟨_, _, _, _, _, _, _, _, nd, _⟩ := hS
    exact nd
  have le : ks.length ≤ ns.length := nodup_le nd fun k hk => (mem k).mp hk
  refine Calls.spliced_nil ?_
  refine Calls.call_function_entry kind_sorted plain_sorted entry_sorted (args_sorted1 _) ?_
  unfold Builtin.«sorted»
  refine wpAny_bind (m := checkCount "sorted" 1 1 _) (wpAny_pure (wpAny_bind (coll_setL (knd := PySem.strKind X.prog X.w) (s := { s1 with heap := h2, toks := tk }) hh hS (Nat.le_of_lt (small (by omega))) fun ks' h3 d tk' acc p kp3 lt3 it => ?_)))
  have I3 : Inv X pins σ H1 { s1 with heap := h3, drawn := d, toks := tk' } := (I2.kept (t' := tk') kp3).drew d
  have rv3 : Vals (ks'.map V.str) acc.toList := vals_givesS (P := X.prog) (w := X.w) ks' acc.toList (by simpa using it.1) fun j v hj => it.2 j v (by simpa using hj)
  have l3 : acc.toList.length < 64 := by
    have := rv3.length
    rw [List.length_map, p.length_eq] at this
    omega
  have hL : (h3.push (seqObj "list" acc.toList.toArray 0)).get? h3.objs.size = some (seqObj "list" acc.toList.toArray 0) := Heap.get?_push_size _ rfl
  have hSt := strsAre_of rv3
  refine wpAny_bind (wpAny_newList ?_)
  refine wpAny_bind (wpAny_holding (wpAny_call_entry slot_list_sort ⟨_, hL, rfl⟩ entry_list_sort (list_sort_treeK strKind_oneLt hL hSt.keysOf (fun v₁ v₂ rest e => keyKind_strs (by rw [← e]; exact hSt)) l3 fun st' hp hs => ⟨_, rfl, ?_⟩) (args_list_sort _)))
  refine wpAny_pure ⟨_, rfl, ?_⟩
  obtain ⟨ms, a1, a2, a3⟩ := sorted_out_str hSt hp hs
  obtain ⟨ee, hee⟩ := sortedHeap_at (out := (arrOf st').map (·.2)) hL
  have pm : ms.Perm ks := a2.trans p
  have ndm : ms.Nodup := pm.nodup_iff.mpr nd
  refine ⟨.ref h3.objs.size, _, I3.laid (a := h3.objs.size) (o := .lst (ms.map V.str)) (t' := tk') (fun b o z => ?_) (Nat.le_refl _) ?_, rfl, q _ ms ndm (rise_strs a3 ndm) (fun k => by rw [pm.mem_iff]; exact mem k) (I3.hok.fresh (Nat.le_refl _))⟩
  · have l := Heap.lt_size z
    rw [sortedHeap_old (Nat.ne_of_lt l) (by rw [Heap.size_push]; exact Nat.lt_succ_of_lt l)]
    exact Heap.get?_push_of_some _ z
  · refine ⟨?_, ((arrOf st').map (·.2)).toList, ee, of_strs a1, ?_⟩
    · rw [List.length_map, pm.length_eq]
      exact Nat.le_of_lt (small (by omega))
    · rw [hee]
end
end L2
/-! ### sorted(a list of tuples whose first parts are texts that rise) -/
namespace L2
open PySem PySem.Spec PyProof.Rows PySem.W
theorem asc_wp {cmp : Nat → Nat → (Bool → Shared → Prop) → Shared → Prop} {p : Array Nat} {s : Shared} : ∀ (f k : Nat) {Q : Nat → Shared → Prop}, (∀ j, k ≤ j → j < k + f → ∀ C : Bool → Shared → Prop, C false s → cmp (p.getD j 0) (p.getD (j - 1) 0) C s) → Q (k + f) s → (kas_asc p f k).kasWp cmp Q s
  | 0, k, Q, _, q => q
  | f + 1, k, Q, h, q => by
    show cmp (p.getD k 0) (p.getD (k - 1) 0) (fun b s' => (if b = true then KasT.ret k else kas_asc p f (k + 1)).kasWp cmp Q s') s
    refine h k (Nat.le_refl _) (by omega) _ ?_
    show (if false = true then KasT.ret k else kas_asc p f (k + 1)).kasWp cmp Q s
    rw [if_neg (by decide)]
    refine asc_wp f (k + 1) (fun j h1 h2 => h j (by omega) (by omega)) ?_
    rw [show k + 1 + f = k + (f + 1) by omega]
    exact q
theorem range_at {n j : Nat} (h : j < n) : (List.toArray (List.range n)).getD j 0 = j := by
  simp [Array.getD, h]
theorem sort_asc {cmp : Nat → Nat → (Bool → Shared → Prop) → Shared → Prop} {n : Nat} {s : Shared} {G : Array Nat → Shared → Prop} (h1 : 1 ≤ n) (h : ∀ j, 1 ≤ j → j < n → ∀ C : Bool → Shared → Prop, C false s → cmp j (j - 1) C s) (q : G (List.toArray (List.range n)) s) : (kas_sort n).kasWp cmp G s := by
  unfold kas_sort
  rw [KasT.kasWp_bind]
  unfold kas_count
  rw [KasT.kasWp_bind]
  refine asc_wp (n - 1) 1 (fun j a b C c => ?_) ?_
  · rw [range_at (by omega), range_at (by omega)]
    exact h j a (by omega) C c
  · rw [show 1 + (n - 1) = n by omega, if_pos (by simp)]
    show (if n < n then kas_bin (n - max n 1) (List.toArray (List.range n)) (max n 1) else KasT.ret (List.toArray (List.range n))).kasWp cmp G s
    rw [if_neg (Nat.lt_irrefl _)]
    exact q
theorem KatTups_keep {h h' : Heap} (k : ∀ b o, h.get? b = some o → o.cls = .type "tuple" → h'.get? b = some o) : ∀ {vs fs : List Value}, KatTups h vs fs → KatTups h' vs fs
  | [], [], _ => trivial
  | [], _ :: _, t => t.elim
  | _ :: _, [], t => t.elim
  | v :: vs, f :: fs, ⟨⟨a, o, xs, n, e, ho, hc, hd, hf⟩, t⟩ => ⟨⟨a, o, xs, n, e, k a o ho hc, hc, hd, hf⟩, KatTups_keep k t⟩
theorem KatTups_at {h : Heap} {fs : List Value} {ss : List Str} (hS : StrsAre fs ss) : ∀ {vs : List Value} {i : Nat} {z : Str}, KatTups h vs fs → ss[i]? = some z → ∃ a o xs n t, vs.getD i Value.none = .ref a ∧ h.get? a = some o ∧ o.data = .seq xs n ∧ xs[0]? = some (.str z t) := by
  induction hS with
  | nil =>
    intro vs i z _ e
    simp at e
  | cons y tk r ih =>
    intro vs i z t e'
    cases vs with
    | nil => exact t.elim
    | cons v vs =>
      obtain ⟨⟨a, o, xs, n, e, ho, hc, hd, hf⟩, t⟩ := t
      cases i with
      | zero =>
        cases e'
        exact ⟨a, o, xs, n, tk, e, ho, hd, hf⟩
      | succ i =>
        obtain ⟨a, o, xs, n, t', h1, h2, h3, h4⟩ := ih t (i := i) (z := z) (by simpa using e')
        exact ⟨a, o, xs, n, t', by simpa using h1, h2, h3, h4⟩
theorem KatTups_len {h : Heap} : ∀ {vs fs : List Value}, KatTups h vs fs → fs.length = vs.length
  | [], [], _ => rfl
  | [], _ :: _, t => t.elim
  | _ :: _, [], t => t.elim
  | _ :: _, _ :: _, ⟨_, t⟩ => congrArg Nat.succ (KatTups_len t)
theorem strs_len : ∀ {fs : List Value} {ss : List Str}, StrsAre fs ss → fs.length = ss.length
  | _, _, .nil => rfl
  | _, _, .cons _ _ h => congrArg Nat.succ (strs_len h)
section
variable {prog : Program} {w : World} {A : Around} {E : Value → Shared → Prop} {s : Shared}
theorem list_sort_tups {a : Addr} {vs fs : List Value} {ss : List Str} {n : Nat} {P : PySem.Fin → Shared → Prop} (ho : s.heap.get? a = some (seqObj "list" vs.toArray n)) (t : KatTups s.heap vs fs) (hS : StrsAre fs ss)
    (asc : ∀ (i : Nat) x y, ss[i]? = some x → ss[i + 1]? = some y → x.cps.toList < y.cps.toList) (h64 : vs.length < 64)
    (h : P (.done (.ret .none)) { s with heap := sortedHeap s.heap a vs vs.toArray }) :
    wpAny (model prog w) A (Builtin.«list.sort» ⟨[.ref a], []⟩) P E s := by
  rw [list_sort_plain]
  have ha : a < s.heap.objs.size := Heap.lt_size ho
  refine wpAny_bind (listItems_at ho rfl ?_)
  refine wpAny_bind (listUpdate_at ho rfl ?_ (by rw [List.size_toArray, sizeLine_eq]; omega) (Nat.zero_le _))
  obtain ⟨e1, ho1⟩ : ∃ e1, (s.heap.update a (Obj.mapSeq fun _ => #[])).get? a = some (seqObj "list" #[] e1) := ⟨_, get?_update_seq ho (fun _ => #[])⟩
  refine wpAny_bind (seqEpoch_at ho1 rfl ?_)
  refine wpAny_bind (wpAny_newTuple ?_ (by show vs.length ≤ _; rw [sizeLine_eq]; omega))
  refine wpAny_bind (wpAny_newList ?_ (Nat.zero_le _))
  refine wpAny_holding ?_
  have ho6 : (((s.heap.update a (Obj.mapSeq fun _ => #[])).push (seqObj "tuple" vs.toArray 0)).push (seqObj "list" #[] 0)).get? a = some (seqObj "list" #[] e1) := by
    rw [Heap.get?_push_ne _ _ _ (by rw [size_push', Heap.size_update]; exact Nat.ne_of_lt (Nat.lt_succ_of_lt ha)), Heap.get?_push_ne _ _ _ (by rw [Heap.size_update]; exact Nat.ne_of_lt ha)]
    exact ho1
  have t6 : KatTups (((s.heap.update a (Obj.mapSeq fun _ => #[])).push (seqObj "tuple" vs.toArray 0)).push (seqObj "list" #[] 0)) vs fs := KatTups_keep (fun b o e hc => by
    have nb : b ≠ a := fun z => by
      subst z
      rw [ho] at e
      cases e
      exact absurd hc (by show ¬ Value.type "list" = Value.type "tuple"; decide)
    exact Heap.get?_push_of_some _ (Heap.get?_push_of_some _ ((Heap.get?_update_other _ _ (Ne.symm nb)).trans e))) t
  show wpAny (model prog w) A _ P E { s with heap := ((s.heap.update a (Obj.mapSeq fun _ => #[])).push (seqObj "tuple" vs.toArray 0)).push (seqObj "list" #[] 0) }
  dsimp only
  by_cases h2 : vs.toArray.size < 2
  · rw [if_pos h2, if_pos h2]
    refine wpAny_bind (wpAny_pure ?_)
    rw [StateT.run_pure]
    refine wpAny_bind (wpAny_pure ?_)
    dsimp only
    refine wpAny_bind (seqEpoch_at ho6 rfl ?_)
    have es : (arrOf (SortSt.mk' general' (vs.toArray.zip vs.toArray) #[] 7 none)).map (·.2) = vs.toArray := by
      show (vs.toArray.zip vs.toArray).map (·.2) = vs.toArray
      apply Array.toList_inj.mp
      simp [List.map_snd_zip]
    rw [es]
    refine wpAny_bind (listUpdate_at ho6 rfl ?_ (Nat.zero_le _) (by rw [List.size_toArray, sizeLine_eq]; omega))
    simp only [bne_self_eq_false, Bool.false_eq_true, if_false]
    exact wpAny_pure h
  · rw [if_neg h2, if_neg h2]
    have h2' : 2 ≤ vs.length := by rw [List.size_toArray] at h2; omega
    have lf := KatTups_len t
    refine wpAny_bind (kat_kind (T := .type "str") t6 (by omega) (fun v hv => ?_) rfl ?_)
    · obtain ⟨x, tk, rfl⟩ := hS.all v hv
      exact .now
    refine wpAny_bind (wpAny_mono (kat_run (ks := vs) (vs := vs) (Q := fun st' s' => arrOf st' = (List.toArray (List.range vs.length)).map (kas_item (vs.toArray.zip vs.toArray)) ∧ failedOf st' = none ∧ s' = { s with heap := ((s.heap.update a (Obj.mapSeq fun _ => #[])).push (seqObj "tuple" vs.toArray 0)).push (seqObj "list" #[] 0) }) (G := fun p s' => p = List.toArray (List.range vs.length) ∧ s' = { s with heap := ((s.heap.update a (Obj.mapSeq fun _ => #[])).push (seqObj "tuple" vs.toArray 0)).push (seqObj "list" #[] 0) })
      rfl h2' h64 (fun p' st' s' a1 a2 a3 a4 => ⟨by rw [a2, a4.1], a3, a4.2⟩) (sort_asc (by omega) (fun j j1 jn C c => ?_) ⟨rfl, rfl⟩)) ?_ fun _ _ e => e)
    · have lss := strs_len hS
      obtain ⟨x, hx⟩ : ∃ x, ss[j - 1]? = some x := ⟨_, List.getElem?_eq_getElem (by omega)⟩
      obtain ⟨y, hy⟩ : ∃ y, ss[j]? = some y := ⟨_, List.getElem?_eq_getElem (by omega)⟩
      have lt := asc (j - 1) x y hx (by rw [show j - 1 + 1 = j by omega]; exact hy)
      obtain ⟨b, o, xs, k, tk, e1', o1, d1, f1⟩ := KatTups_at hS t6 hy
      obtain ⟨b', o', xs', k', tk', e2', o2, d2, f2⟩ := KatTups_at hS t6 hx
      unfold kas_ask
      rw [e1', e2']
      refine kat_lt o1 d1 o2 d2 ?_
      obtain ⟨r1, er1⟩ : ∃ r1, xs.toList = .str y tk :: r1 := by
        have : xs.toList[0]? = some (.str y tk) := by simpa using f1
        cases hh : xs.toList with
        | nil => rw [hh] at this; cases this
        | cons p r => rw [hh] at this; cases this; exact ⟨r, rfl⟩
      obtain ⟨r2, er2⟩ : ∃ r2, xs'.toList = .str x tk' :: r2 := by
        have : xs'.toList[0]? = some (.str x tk') := by simpa using f2
        cases hh : xs'.toList with
        | nil => rw [hh] at this; cases this
        | cons p r => rw [hh] at this; cases this; exact ⟨r, rfl⟩
      rw [er1, er2, List.zip_cons_cons]
      refine kat_cons (wpAny_eqBool_str ?_)
      rw [decide_eq_false (show ¬ y = x from fun z => by rw [z] at lt; exact List.lt_irrefl _ lt)]
      refine kat_no ?_
      show wpAny _ _ (oneLt' true (.str y tk) (.str x tk')) _ _ _
      refine oneLt_str ?_
      rw [decide_eq_false (show ¬ y.cps.toList < x.cps.toList from fun z => List.lt_irrefl _ (List.lt_trans lt z))]
      exact c
    · rintro ⟨⟨⟩, st'⟩ s' ⟨har, hf, rfl⟩
      dsimp only
      have hout := kat_snds (ks := vs) (vs := vs) rfl har
      have ev : ((List.toArray (List.range vs.length)).toList.map fun i => vs.getD i Value.none) = vs := by
        apply List.ext_getElem?
        intro i
        by_cases hi : i < vs.length
        · rw [List.getElem?_map]
          simp [hi]
        · rw [List.getElem?_eq_none (by simpa using hi), List.getElem?_eq_none (by omega)]
      rw [ev] at hout
      rw [hout]
      refine wpAny_bind (seqEpoch_at ho6 rfl ?_)
      refine wpAny_bind (listUpdate_at ho6 rfl ?_ (Nat.zero_le _) (by rw [List.size_toArray, sizeLine_eq]; omega))
      rw [hf]
      simp only [bne_self_eq_false, Bool.false_eq_true, if_false]
      exact wpAny_pure h
theorem sorted_tups {l : Addr} {vs fs : List Value} {ss : List Str} {Q : Value → Shared → Prop} (hl : s.heap.IsList l vs.toArray) (t : KatTups s.heap vs fs) (hS : StrsAre fs ss)
    (asc : ∀ (i : Nat) x y, ss[i]? = some x → ss[i + 1]? = some y → x.cps.toList < y.cps.toList) (h64 : vs.length < 64)
    (h : Q (.ref (s.heap.objs.size + 1)) { s with heap := sortedAll s.heap vs vs.toArray }) :
    wpAny (model prog w) A (call (.builtin "sorted") [.ref l]) Q E s := by
  refine Calls.call_function_entry kind_sorted plain_sorted entry_sorted (args_sorted1 _) ?_
  unfold Builtin.«sorted»
  refine wpAny_bind (m := checkCount "sorted" 1 1 _) (wpAny_pure ?_)
  refine wpAny_bind (collect_list hl ?_ (by rw [sizeLine_eq]; omega))
  refine wpAny_bind (wpAny_newList ?_ (by rw [sizeLine_eq]; omega))
  have hsz : ((s.heap.push (seqObj "list" #[] 0)).update s.heap.objs.size (Obj.mapSeq (· ++ vs.toArray))).objs.size = s.heap.objs.size + 1 := by
    rw [Heap.size_update, size_push']
  have hoL : (((s.heap.push (seqObj "list" #[] 0)).update s.heap.objs.size (Obj.mapSeq (· ++ vs.toArray))).push (seqObj "list" vs.toArray 0)).get? (s.heap.objs.size + 1) = some (seqObj "list" vs.toArray 0) := by
    rw [← hsz]; exact Heap.get?_push_size _ rfl
  have keep : ∀ b o, s.heap.get? b = some o → (((s.heap.push (seqObj "list" #[] 0)).update s.heap.objs.size (Obj.mapSeq (· ++ vs.toArray))).push (seqObj "list" vs.toArray 0)).get? b = some o := fun b o q => by
    have hlt : b < s.heap.objs.size := Heap.lt_size q
    rw [Heap.get?_push_ne _ _ _ (by rw [hsz]; exact Nat.ne_of_lt (Nat.lt_succ_of_lt hlt)), Heap.get?_update_ne _ _ _ _ (Nat.ne_of_lt hlt), Heap.get?_push_ne _ _ _ (Nat.ne_of_lt hlt)]
    exact q
  show wpAny _ _ _ _ _ { s with heap := ((s.heap.push (seqObj "list" #[] 0)).update s.heap.objs.size (Obj.mapSeq (· ++ vs.toArray))).push (seqObj "list" vs.toArray 0) }
  rw [hsz]
  refine wpAny_bind (wpAny_holding (wpAny_call_entry slot_list_sort ⟨_, hoL, rfl⟩ entry_list_sort (list_sort_tups (s := { s with heap := ((s.heap.push (seqObj "list" #[] 0)).update s.heap.objs.size (Obj.mapSeq (· ++ vs.toArray))).push (seqObj "list" vs.toArray 0) }) hoL (KatTups_keep (fun b o q _ => keep b o q) t) hS asc h64 ⟨_, rfl, ?_⟩) (args_list_sort _)))
  exact wpAny_pure ⟨_, rfl, h⟩
end
section
variable {X : Cx}
theorem tups_of {P : Program} {w : World} {pins : List (Addr × Obj)} {σ : St} {H : Hp} {s : Shared} (I : Inv X pins σ H s) : ∀ {vs : List V} {its : List Value} {ss : List Str}, Vals vs its → vs.length = ss.length → (∀ (i : Nat) v z, vs[i]? = some v → ss[i]? = some z → ∃ b ws, v = .ref b ∧ H b = some (.tup (.str z :: ws))) → ∃ fs, KatTups s.heap its fs ∧ StrsAre fs ss
  | _, _, [], .nil, _, _ => ⟨[], trivial, .nil⟩
  | _, _, _ :: _, .nil, h, _ => by cases h
  | _, _, [], .cons _ _, h, _ => by cases h
  | v :: vs, u :: its, z :: ss, .cons r rs, h, k => by
    obtain ⟨fs, t, hS⟩ := tups_of (P := P) (w := w) I rs (Nat.succ.inj h) fun i v z hv hz => k (i + 1) v z hv hz
    obtain ⟨b, ws, rfl, hb⟩ := k 0 _ z rfl rfl
    cases r
    obtain ⟨js, rj, ⟨o, ho, hc, n, hd⟩, _⟩ := I.tuple (SqT.of (K := X.K) hb)
    cases rj with
    | cons r0 _ =>
      obtain ⟨tk, rfl⟩ := r0
      exact ⟨_, KatTups.cons ho hc hd (by simp) t, .cons z tk hS⟩
theorem call_sortedT : CallR X (.builtin "sorted") (fun xs H Q => ∃ (a : Addr) (vs : List V) (ss : List Str), xs = [V.ref a] ∧ SqL X.K H a vs ∧ vs.length < 64 ∧ vs.length = ss.length ∧ (∀ (i : Nat) v z, vs[i]? = some v → ss[i]? = some z → ∃ b ws, v = .ref b ∧ H b = some (.tup (.str z :: ws))) ∧
    (∀ (i : Nat) x y, ss[i]? = some x → ss[i + 1]? = some y → x.cps.toList < y.cps.toList) ∧ ∀ l, H l = none → Q (.ref l) (upd H l (.lst vs))) := by
  intro pins s σ H xs us Q I r h
  obtain ⟨a, vs, ss, rfl, ha, h64, hl, ht, asc, q⟩ := h
  obtain ⟨u, rfl, ru⟩ := vals1 r
  cases ru
  obtain ⟨its, rv, pl, hz⟩ := I.list ha
  have li : its.length = vs.length := rv.length.symm
  obtain ⟨fs, t, hS⟩ := tups_of (P := X.prog) (w := X.w) I rv hl ht
  refine sorted_tups pl.isList t hS asc (by omega) ?_
  obtain ⟨e, he⟩ := sortedAll_at s.heap its its.toArray
  refine ⟨.ref (s.heap.objs.size + 1), _, I.laid (a := s.heap.objs.size + 1) (o := .lst vs) (t' := s.toks) (fun b o z => sortedAll_old z) (Nat.le_succ _) ?_, rfl, q _ (I.hok.fresh (Nat.le_succ _))⟩
  exact ⟨hz, its, e, rv, he⟩
end
end L2
set_option maxHeartbeats 4000000
namespace K51
open PySem L2
/-! ### words, lines, heads -/
def sgL : List Nat := [97, 98, 99, 100, 101, 102, 103, 104, 105, 106, 107, 108, 109, 110, 111, 112, 113, 114, 115, 116, 117, 118, 119, 120, 121, 122, 48, 49, 50, 51, 52, 53, 54, 55, 56, 57]
def sgC (i : Nat) : Nat := sgL.getD i 0
theorem sg_ok : ∀ i : Nat, i < 36 → okc (sgC i) = true := by decide +kernel
def sgS : Str := Str.ofString "abcdefghijklmnopqrstuvwxyz0123456789"
theorem sgS_codes : sgS.cps.toList = sgL := by decide +kernel
theorem sg_at (i : Int) (h0 : 0 ≤ i) (h1 : i < 36) : atI sgS.cps.toList i = some (sgC i.toNat) := by
  rw [sgS_codes]
  have e : i = ((i.toNat : Nat) : Int) := by omega
  rw [e]
  refine atI_nat ?_
  unfold sgC
  rw [Int.toNat_natCast, List.getD_eq_getElem?_getD]
  have : i.toNat < sgL.length := by
    show i.toNat < 36
    omega
  rw [List.getElem?_eq_getElem this]
  rfl
def one (c : Nat) : Str := ⟨#[c]⟩
theorem glued_nil : ∀ (l : List Str) (acc : Array Nat), (l.foldl (fun a p => a ++ (Str.ofString "").cps ++ p.cps) acc).toList = acc.toList ++ (l.map (·.cps.toList)).flatten
  | [], acc => by simp
  | x :: l, acc => by
    have e : (Str.ofString "").cps = #[] := by decide +kernel
    rw [List.foldl_cons, glued_nil l]
    simp [e]
theorem join_codes (l : List Str) : (Txt.join (Str.ofString "") l).cps.toList = (l.map (·.cps.toList)).flatten := by
  cases l with
  | nil => decide +kernel
  | cons x l =>
    show ((List.foldl (fun a p => a ++ (Str.ofString "").cps ++ p.cps) x.cps l)).toList = _
    rw [glued_nil]
    rfl
theorem join_ones : ∀ cs : List Nat, (Txt.join (Str.ofString "") (cs.map one)).cps.toList = cs := fun cs => by
  rw [join_codes, List.map_map]
  induction cs with
  | nil => rfl
  | cons c cs ih =>
    show [c] ++ ((cs.map _).flatten) = c :: cs
    rw [ih]
    rfl
theorem len_codes (z : Str) : z.length = z.cps.toList.length := by
  rw [codes_len]
theorem app_codes (a b : Str) : (a ++ b).cps.toList = a.cps.toList ++ b.cps.toList := by
  show (a.cps ++ b.cps).toList = _
  rw [Array.toList_append]
theorem comp_rng {lo : Int} {n : Nat} {p : Addr} {tt : TT} {te : TE} {cs : St} {Q : VK} {H1 : Hp} (Pv : Nat → List V → Hp → Prop) (h0 : Pv 0 [] (upd H1 p (.lst [])))
    (hs : ∀ i ys H, i < n → Pv i ys H → tt (some (.int (lo + i)) :: cs) H fun b H4 => if b = true then te (some (.int (lo + i)) :: cs) H4 fun y H5 => H5 p = some (.lst ys) ∧ ys.length < sizeLine ∧ Pv (i + 1) (ys ++ [y]) (upd H5 p (.lst (ys ++ [y]))) else Pv (i + 1) ys H4)
    (hd : ∀ ys H, Pv n ys H → Q (.ref p) H) : CompW (Itr lo n) p tt te cs Q H1 := by
  refine comp_by n Pv h0 ?_ ?_
  · intro i ys H hi pv
    refine ⟨hi, fun v H3 y => ?_⟩
    obtain ⟨rfl, rfl⟩ := y
    exact hs i ys _ hi pv
  · intro ys H pv
    exact ⟨Nat.le_refl _, hd ys H pv⟩
theorem ones_sum : ∀ l : List Nat, ((l.map one).map (·.length)).sum = l.length := fun l => by
  induction l with
  | nil => rfl
  | cons c l ih =>
    show 1 + ((l.map one).map (·.length)).sum = l.length + 1
    rw [ih, Nat.add_comm]
theorem cut_mid (xs : List V) (a b : Nat) (ha : a ≤ xs.length) (hb : b ≤ xs.length) : cutV xs (some (a : Int)) (some (b : Int)) = (xs.drop a).take (b - a) := by
  unfold cutV
  rw [HT.sIx_nat, HT.sIx_nat, Nat.min_eq_left ha, Nat.min_eq_left hb]
theorem isw_codes {z : Str} (h1 : 1 ≤ z.cps.toList.length) (h8 : z.cps.toList.length ≤ 8) (h : ∀ c ∈ z.cps.toList, okc c = true) : isw z = true := by
  unfold isw
  rw [len_codes, decide_eq_true h1, decide_eq_true h8, List.all_eq_true.mpr h]
  rfl
section
variable {P : Program} {w : World} {K : PySem.W.Frag} {mg : Str → Option Value} {base : Heap} {f fMix fNbr : Addr} {fd dMix dNbr : FuncData}
def spWds : Sp := fun vs H Q _ => ∃ (c many : Int), vs = [.int c, .int many] ∧ 0 ≤ many ∧ many ≤ 100 ∧ ∀ p H' (zs : List Str), Same H H' → H' p = some (.lst (zs.map V.str)) → (zs.length : Int) = many → (∀ z ∈ zs, isw z = true) → Q (.ref p) H'
theorem scWds : FnScope ["_law_cell", "_law_many", "_law_signs", "_law_some", "_law_size", "_law_at_here", "_law_words_here", "_law_k", "_law_sign", "_law_word"] ["_law_cell", "_law_many"] (defScope sWds) := ⟨rfl, rfl, rfl, by decide +kernel, rfl, by decide +kernel, by decide +kernel⟩
theorem ok_Wds (F : Fun K "_law_words" "_law_words" sWds f fd) (hMix : Has K mg "_law_mix" sMix ["_law_cell", "_law_k"] fMix dMix) (GMix : FnOk P w K mg base CX0 1 fMix dMix ["_law_cell", "_law_k"] spMix) (T : Txt mg) : FnOk P w K mg base CX0 2 f fd ["_law_cell", "_law_many"] spWds := by
  refine F.ok scWds (fun vs H Q E h => ?_) (fun cdv A outer s H vs Q E hr h => ?_)
  · obtain ⟨c, many, rfl, _⟩ := h
    rfl
  obtain ⟨c, many, rfl, m0, m1, q⟩ := h
  refine ⟨_, (pss_cons (ps_set (i := 2) scWds.nd rfl (Or.inr rfl) pe_str)
    (pss_cons (ps_setC1 (i := 3) scWds.nd rfl rfl [0, 2] ["_law_cell", "_law_signs"] (pi_range1 rfl T.rng (pc pe_int pa_nil)) (fun _ _ _ _ _ _ => pts_nil)
          (fun _ _ _ _ _ _ => (pe_ix ix_str (pv 2) (pe_op op_mod (pe_call GMix (hr.mono (by decide)) rfl hMix.nm hMix.fn.kp hMix.bd .nil pass0 (pc (pv 1) (pc (pe_op op_add pe_int (pv 0)) pa_nil))) pe_int) (fun _ _ => rfl)))
          rfl (by decide +kernel) (by decide +kernel) rfl (by decide +kernel) (fun j y hj => by
            match j, hj with
            | 0, hj => cases hj; exact ⟨0, rfl, rfl, rfl, .inl rfl⟩ 
            | 1, hj => cases hj; exact ⟨2, rfl, rfl, rfl, .inl rfl⟩) rfl (by decide +kernel) rfl)
    (pss_cons (ps_set (i := 4) scWds.nd rfl (Or.inl rfl) (pe_op op_add pe_int (pe_op op_mod (pe_call GMix (hr.mono (by decide)) rfl hMix.nm hMix.fn.kp hMix.bd .nil pass0 (pc (pv 0) (pc pe_int pa_nil))) pe_int)))
    (pss_cons (ps_set (i := 5) scWds.nd rfl (Or.inl rfl) (pe_op op_mod (pe_call GMix (hr.mono (by decide)) rfl hMix.nm hMix.fn.kp hMix.bd .nil pass0 (pc (pv 0) (pc pe_int pa_nil))) (pv 4)))
    (pss_cons (ps_set (i := 6) scWds.nd rfl (Or.inl rfl) (pe_lst pa_nil))
    (pss_cons (ps_for PassesOwn.never rfl (pi_range1 rfl T.rng (pc (pv 1) pa_nil)) (pg_name (i := 7) scWds.nd rfl (Or.inl rfl))
    (pss_cons (ps_set (i := 8) scWds.nd rfl (Or.inl rfl) (pe_ix ix_str (pv 2) (pe_op op_mod (pe_op op_add (pe_call GMix (hr.mono (by decide)) rfl hMix.nm hMix.fn.kp hMix.bd .nil pass0 (pc (pv 0) (pc pe_int pa_nil))) (pe_op op_mul pe_int (pv 7))) pe_int) (fun _ _ => rfl)))
    (pss_cons (ps_set (i := 9) scWds.nd rfl (Or.inl rfl) (pe_op op_add_str (pe_bm PySem.F.plainAttrs_str PySem.F.slot_str_join PySem.F.type_str_join mt_join pe_str (pc (pe_slice sl_list (pv 3) po_none (po_some (pv 5))) pa_nil)) (pv 8)))
    (pss_cons (ps_set (i := 9) scWds.nd rfl (Or.inl rfl) (pe_op op_add_str (pv 9) (pe_bm PySem.F.plainAttrs_str PySem.F.slot_str_join PySem.F.type_str_join mt_join pe_str (pc (pe_slice sl_list (pv 3) (po_some (pe_op op_add (pv 5) pe_int)) (po_some (pv 4))) pa_nil))))
    (pss_cons (ps_if (PW.pt (pw_and (pt_cmpR op_eq (pe_op op_mod (pe_call GMix (hr.mono (by decide)) rfl hMix.nm hMix.fn.kp hMix.bd .nil pass0 (pc (pv 0) (pc pe_int pa_nil))) pe_int) pe_int (nomark _)) (pw_and1 (pt_cmpR op_lt (pv 7) pe_int (nomark _)))))
    (pss_one (ps_set (i := 9) scWds.nd rfl (Or.inl rfl) (pe_bm PySem.F.plainAttrs_str PySem.F.slot_str_join PySem.F.type_str_join mt_join pe_str (pc (pe_slice sl_list (pv 3) po_none (po_some (pe_op op_add (pv 7) pe_int))) pa_nil))))
    pss_nil)
    (pss_one (ps_expr (pe_bm PySem.F.plainAttrs_list PySem.F.slot_list_append PySem.F.type_list_append mt_append (pv 6) (pc (pv 9) pa_nil)))))))))
    (pss_one (ps_ret (pv 6))))))))), ?_⟩
  refine ⟨8, rfl, by decide, by decide, fun p hp => ?_⟩
  refine comp_rng (fun i us H2 => ∃ cs : List Nat, Same H H2 ∧ H2 p = some (.lst us) ∧ us = (cs.map one).map V.str ∧ cs.length = i ∧ ∀ c ∈ cs, okc c = true) ⟨[], same_new hp _, upd_same, rfl, rfl, fun c h => by cases h⟩ ?_ ?_
  · rintro i us H2 hi ⟨cs, s2, e2, rfl, lc, oc⟩
    have hi' : i < 8 := hi
    refine ttT ⟨_, rfl, _, rfl, _, rfl, _, _, rfl, rfl, c, 2 + (0 + (i : Int)), rfl, by omega, by omega, fun z z0 z1 => ⟨_, _, rfl, rfl, (by show (0 : Int) < 36; decide), ?_⟩⟩
    have b0 : 0 ≤ z % 36 := by omega
    have b1 : z % 36 < 36 := by omega
    dsimp only
    refine ⟨sgS, _, sgC (z % 36).toNat, rfl, rfl, by decide +kernel, sg_at _ b0 b1, e2, small (by simp; omega), cs ++ [sgC (z % 36).toNat], same_over s2 hp _, upd_same, by rw [List.map_append, List.map_append]; rfl, by simp [lc], fun c hc => ?_⟩
    rcases List.mem_append.mp hc with m | m
    · exact oc c m
    · rw [List.mem_singleton.mp m]
      exact sg_ok _ (by omega)
  rintro us H2 ⟨cs, s2, e2, rfl, lc, oc⟩
  have lc8 : cs.length = 8 := lc
  refine ⟨_, rfl, c, 0, rfl, by decide, by decide, fun z z0 z1 => ⟨_, _, rfl, rfl, (by show (0 : Int) < 8; decide), _, _, rfl, rfl, ?_⟩⟩
  have a0 : 1 ≤ 1 + z % 8 := by omega
  have a1 : 1 + z % 8 ≤ 8 := by omega
  dsimp only
  generalize 1 + z % 8 = size at a0 a1
  refine ⟨_, rfl, c, 1, rfl, by decide, by decide, fun y y0 y1 => ⟨_, rfl, _, _, rfl, rfl, (by show (0 : Int) < size; omega), ?_⟩⟩
  have b0 := Int.emod_nonneg y (show size ≠ 0 by omega)
  have b1 := Int.emod_lt_of_pos y (show 0 < size by omega)
  dsimp only
  generalize y % size = at' at b0 b1
  refine ⟨by decide, fun pw hpw => ?_⟩
  have s3 := same_new hpw (HO.lst [])
  obtain ⟨a', rfl⟩ := Int.eq_ofNat_of_zero_le b0
  obtain ⟨sz, rfl⟩ := Int.eq_ofNat_of_zero_le (show 0 ≤ size by omega)
  have lm : ((cs.map one).map V.str).length = 8 := by rw [List.length_map, List.length_map, lc8]
  have join : ∀ ds : List Nat, ds.length ≤ 8 → ((ds.map one).map (·.length)).sum + (ds.map one).length * (Str.ofString "").length ≤ 16777216 := fun ds hd => by
    have e0 : (Str.ofString "").length = 0 := by decide +kernel
    rw [ones_sum, e0]
    omega
  have jlen : ∀ ds : List Nat, (Txt.join (Str.ofString "") (ds.map one)).length = ds.length := fun ds => by rw [len_codes, join_ones]
  refine ⟨_, rfl, many, rfl, by omega, by omega, ?_⟩
  refine for_range (lo := 0) (n := many.toNat) (fun j σ H4 => ∃ (o7 o8 o9 : Option V) (zs : List Str), σ = [some (.int c), some (.int many), some (.str sgS), some (.ref p), some (.int (sz : Int)), some (.int (a' : Int)), some (.ref pw), o7, o8, o9] ∧ Same H2 H4 ∧ H4 pw = some (.lst (zs.map V.str)) ∧ zs.length = j ∧ ∀ z ∈ zs, isw z = true) ⟨none, none, none, [], rfl, s3, upd_same, rfl, by simp⟩ ?_ ?_
  · rintro j σ H4 hj ⟨o7, o8, o9, zs, rfl, s4, e4, lz, iz⟩
    have hj' : j < many.toNat := hj
    have add : ∀ {w' : Str} {H5 : Hp} {o8 : Option V}, Same H4 H5 → isw w' = true → tDrop (tBM K "list" rAppend (tVar 6) (tCons (tVar 9) tNil)) { nx := fun σ H' => ∃ (o7 o8 o9 : Option V) (zs : List Str), σ = [some (.int c), some (.int many), some (.str sgS), some (.ref p), some (.int (sz : Int)), some (.int (a' : Int)), some (.ref pw), o7, o8, o9] ∧ Same H2 H' ∧ H' pw = some (.lst (zs.map V.str)) ∧ zs.length = j + 1 ∧ ∀ z ∈ zs, isw z = true, rt := Q } [some (.int c), some (.int many), some (.str sgS), some (.ref p), some (.int (sz : Int)), some (.int (a' : Int)), some (.ref pw), some (.int (0 + (j : Int))), o8, some (.str w')] H5 := fun {w' H5 o8} s5 hw => by
      have e5 := s5 _ _ e4
      refine ⟨_, rfl, .inl ⟨rfl, _, SqL.of e5⟩, _, rfl, pw, _, .str w', rfl, rfl, e5, small (by rw [List.length_map]; omega), _, _, _, zs ++ [w'], rfl, same_over (s4.trans s5) hpw _, ?_, by simp [lz], fun z hz => ?_⟩
      · rw [upd_same, List.map_append]
        rfl
      · rcases List.mem_append.mp hz with m | m
        · exact iz z m
        · rw [List.mem_singleton.mp m]
          exact hw
    refine ⟨_, rfl, _, rfl, c, 11, rfl, by decide, by decide, fun x x0 x1 => ⟨_, rfl, _, _, rfl, rfl, .inl ⟨by decide, by decide⟩, _, _, rfl, rfl, _, _, rfl, rfl, (by show (0 : Int) < 36; decide), ?_⟩⟩
    have f0 := Int.emod_nonneg (x + 5 * (0 + (j : Int))) (show (36 : Int) ≠ 0 by decide)
    have f1 := Int.emod_lt_of_pos (x + 5 * (0 + (j : Int))) (show (0 : Int) < 36 by decide)
    dsimp only
    generalize (x + 5 * (0 + (j : Int))) % 36 = sg at f0 f1
    refine ⟨sgS, _, sgC sg.toNat, rfl, rfl, by decide +kernel, sg_at _ f0 f1, ?_⟩
    have hsg := sg_ok sg.toNat (by omega)
    generalize sgC sg.toNat = ch at hsg
    refine ⟨rfl, _, rfl, _, rfl, _, rfl, p, _, rfl, SqL.of (s4 _ _ e2), fun b1 hb1 => ?_⟩
    rw [cut_to, ← List.map_take, ← List.map_take]
    have s5 := same_new hb1 (HO.lst ((cs.take a').map one |>.map V.str))
    refine ⟨Str.ofString "", b1, (cs.take a').map one, rfl, rfl, SqL.of upd_same, join _ (by rw [List.length_take]; omega), _, rfl, _, one ch, rfl, rfl, ?_, ?_⟩
    · rw [jlen, List.length_take]
      show _ + 1 ≤ sizeLine
      exact Nat.le_of_lt (small (by omega))
    refine ⟨_, rfl, rfl, _, rfl, _, rfl, _, _, rfl, rfl, _, rfl, _, rfl, _, rfl, p, _, rfl, SqL.of (s5 _ _ (s4 _ _ e2)), fun b2 hb2 => ?_⟩
    rw [show ((a' : Nat) : Int) + 1 = ((a' + 1 : Nat) : Int) from by omega, cut_mid _ _ _ (by rw [lm]; omega) (by rw [lm]; omega), ← List.map_drop, ← List.map_drop, ← List.map_take, ← List.map_take]
    have s6 := s5.trans (same_new hb2 (HO.lst (((cs.drop (a' + 1)).take (sz - (a' + 1))).map one |>.map V.str)))
    refine ⟨Str.ofString "", b2, ((cs.drop (a' + 1)).take (sz - (a' + 1))).map one, rfl, rfl, SqL.of upd_same, join _ (by rw [List.length_take, List.length_drop]; omega), _, _, rfl, rfl, ?_, ?_⟩
    · rw [Str.length_append, jlen, jlen, List.length_take, List.length_take]
      show _ + 1 + _ ≤ sizeLine
      exact Nat.le_of_lt (small (by omega))
    have iw : isw (Txt.join (Str.ofString "") ((cs.take a').map one) ++ one ch ++ Txt.join (Str.ofString "") (((cs.drop (a' + 1)).take (sz - (a' + 1))).map one)) = true := by
      have ec : (Txt.join (Str.ofString "") ((cs.take a').map one) ++ one ch ++ Txt.join (Str.ofString "") (((cs.drop (a' + 1)).take (sz - (a' + 1))).map one)).cps.toList = cs.take a' ++ [ch] ++ (cs.drop (a' + 1)).take (sz - (a' + 1)) := by
        rw [app_codes, app_codes, join_ones, join_ones]
        rfl
      have ll : (cs.take a' ++ [ch] ++ (cs.drop (a' + 1)).take (sz - (a' + 1))).length = sz := by
        rw [List.length_append, List.length_append, List.length_take, List.length_take, List.length_drop]
        show _ + 1 + _ = _
        omega
      refine isw_codes (by rw [ec, ll]; omega) (by rw [ec, ll]; omega) (fun d hd => ?_)
      rw [ec] at hd
      rcases List.mem_append.mp hd with hd | hd
      · rcases List.mem_append.mp hd with hd | hd
        · exact oc d (List.mem_of_mem_take hd)
        · rw [List.mem_singleton.mp hd]
          exact hsg
      · exact oc d (List.mem_of_mem_drop (List.mem_of_mem_take hd))
    generalize Txt.join (Str.ofString "") ((cs.take a').map one) ++ one ch ++ Txt.join (Str.ofString "") (((cs.drop (a' + 1)).take (sz - (a' + 1))).map one) = w2 at iw
    revert s6
    generalize upd (upd H4 b1 (HO.lst ((cs.take a').map one |>.map V.str))) b2 (HO.lst (((cs.drop (a' + 1)).take (sz - (a' + 1))).map one |>.map V.str)) = H6
    intro s6
    refine ⟨_, rfl, c, 12, rfl, by decide, by decide, fun x x0 x1 => ⟨_, _, rfl, rfl, (by show (0 : Int) < 3; decide), rfl, _, rfl, ite2 (fun h1 => ⟨_, rfl, _, _, rfl, rfl, _, rfl, ite2 (fun h2 => ?_) (fun h2 => add s6 iw)⟩) (fun h1 => iteF (add s6 iw))⟩⟩
    have h2' : (0 : Int) + (j : Int) < 8 := of_decide_eq_true h2
    refine ⟨rfl, _, rfl, _, rfl, _, _, rfl, rfl, _, rfl, p, _, rfl, SqL.of (s6 _ _ (s4 _ _ e2)), fun b3 hb3 => ?_⟩
    rw [show (0 : Int) + (j : Int) + 1 = ((j + 1 : Nat) : Int) from by omega, cut_to, ← List.map_take, ← List.map_take]
    have s7 := s6.trans (same_new hb3 (HO.lst ((cs.take (j + 1)).map one |>.map V.str)))
    refine ⟨Str.ofString "", b3, (cs.take (j + 1)).map one, rfl, rfl, SqL.of upd_same, join _ (by rw [List.length_take]; omega), ?_⟩
    refine add s7 (isw_codes ?_ ?_ fun d hd => ?_)
    · rw [join_ones, List.length_take]
      omega
    · rw [join_ones, List.length_take]
      omega
    · rw [join_ones] at hd
      exact oc d (List.mem_of_mem_take hd)
  · rintro σ H4 ⟨o7, o8, o9, zs, rfl, s4, e4, lz, iz⟩
    exact ⟨_, rfl, q pw H4 zs (s2.trans s4) e4 (by rw [lz]; omega) iz⟩
end
end K51
set_option maxHeartbeats 4000000
namespace K51
open PySem L2
section
variable {P : Program} {w : World} {K : PySem.W.Frag} {mg : Str → Option Value} {base : Heap} {f fMix fNbr : Addr} {fd dMix dNbr : FuncData}
def LineAt (i : Nat) (u : Tr) : Prop := ∃ (y b : Int) (z : Str), u = .tup [.int (3 * (i : Int) + 1 + y), .int b, .str z] ∧ 0 ≤ y ∧ y ≤ 2 ∧ 0 ≤ b ∧ b ≤ 4 ∧ (z = Str.ofString "" ∨ isw z = true)
def spLls : Sp := fun vs H Q _ => ∃ (c : Int) (pw : Addr) (zs : List Str), vs = [.int c, .ref pw] ∧ H pw = some (.lst (zs.map V.str)) ∧ 6 ≤ zs.length ∧ (∀ z ∈ zs, isw z = true) ∧ ∀ r H' (m : List Tr), Same H H' → At H' (.tup m) r → 1 ≤ m.length → m.length ≤ 6 → (∀ (i : Nat) u, m[i]? = some u → LineAt i u) → Q r H'
theorem scLls : FnScope ["_law_cell", "_law_words_here", "_law_rows", "_law_k", "_law_base"] ["_law_cell", "_law_words_here"] (defScope sLls) := ⟨rfl, rfl, rfl, by decide +kernel, rfl, by decide +kernel, by decide +kernel⟩
theorem ok_Lls (F : Fun K "_law_lines" "_law_lines" sLls f fd) (hMix : Has K mg "_law_mix" sMix ["_law_cell", "_law_k"] fMix dMix) (GMix : FnOk P w K mg base CX0 1 fMix dMix ["_law_cell", "_law_k"] spMix) (T : Txt mg) : FnOk P w K mg base CX0 2 f fd ["_law_cell", "_law_words_here"] spLls := by
  refine F.ok scLls (fun vs H Q E h => ?_) (fun cdv A outer s H vs Q E hr h => ?_)
  · obtain ⟨c, pw, zs, rfl, _⟩ := h
    rfl
  obtain ⟨c, pw, zs, rfl, ew, l6, iz, q⟩ := h
  refine ⟨_, (pss_cons (ps_set (i := 2) scLls.nd rfl (Or.inl rfl) (pe_lst pa_nil))
    (pss_cons (ps_for PassesOwn.never rfl (pi_range1 rfl T.rng (pc (pe_op op_add pe_int (pe_op op_mod (pe_call GMix (hr.mono (by decide)) rfl hMix.nm hMix.fn.kp hMix.bd .nil pass0 (pc (pv 0) (pc pe_int pa_nil))) pe_int)) pa_nil)) (pg_name (i := 3) scLls.nd rfl (Or.inl rfl))
    (pss_cons (ps_set (i := 4) scLls.nd rfl (Or.inl rfl) (pe_op op_mod (pe_call GMix (hr.mono (by decide)) rfl hMix.nm hMix.fn.kp hMix.bd .nil pass0 (pc (pv 0) (pc (pe_op op_add pe_int (pv 3)) pa_nil))) pe_int))
    (pss_one (ps_expr (pe_bm PySem.F.plainAttrs_list PySem.F.slot_list_append PySem.F.type_list_append mt_append (pv 2) (pc (pe_tup (pc (pe_op op_add (pe_op op_add (pe_op op_mul pe_int (pv 3)) pe_int) (pe_op op_mod (pe_call GMix (hr.mono (by decide)) rfl hMix.nm hMix.fn.kp hMix.bd .nil pass0 (pc (pv 0) (pc (pe_op op_add pe_int (pv 3)) pa_nil))) pe_int)) (pc (pv 4) (pc (pe_ix ix_list (pe_lst (pc pe_str (pc (pe_ix ix_list (pv 1) (pv 3) (fun _ _ => rfl)) pa_nil))) (pe_callTy call_int1 rfl T.int PyProof.Rows.boot_int (pc (pe_cmpR op_gt (pv 4) pe_int (nomark _)) pa_nil)) (fun _ _ => rfl)) pa_nil)))) pa_nil))))))
    (pss_one (ps_ret (pe_callTy call_tuple_of rfl T.tup PyProof.Rows.boot_tuple (pc (pv 2) pa_nil)))))), ?_⟩
  refine ⟨by decide, fun pr hpr => ?_⟩
  have s1 := same_new hpr (HO.lst [])
  refine ⟨_, rfl, c, 0, rfl, by decide, by decide, fun z z0 z1 => ⟨_, _, rfl, rfl, (by show (0 : Int) < 6; decide), _, _, rfl, rfl, ?_⟩⟩
  have a0 : 1 ≤ 1 + z % 6 := by omega
  have a1 : 1 + z % 6 ≤ 6 := by omega
  obtain ⟨many, em⟩ : ∃ many, many = 1 + z % 6 := ⟨_, rfl⟩
  rw [← em] at a0 a1
  refine ⟨many, by rw [em], by omega, by omega, for_range (lo := 0) (n := many.toNat) (fun j σ H4 => ∃ (o3 o4 : Option V) (vs : List V) (m : List Tr), σ = [some (.int c), some (.ref pw), some (.ref pr), o3, o4] ∧ Same H H4 ∧ H4 pr = some (.lst vs) ∧ Ats H4 m vs ∧ m.length = j ∧ ∀ (i : Nat) u, m[i]? = some u → LineAt i u) ⟨none, none, [], [], rfl, s1, upd_same, Ats.nil _, rfl, fun i u h => by cases h⟩ ?_ ?_⟩
  · rintro j σ H4 hj ⟨o3, o4, vs, m, rfl, s4, e4, k4, lm, hm⟩
    have hj' : j < many.toNat := hj
    have ew4 := s4 _ _ ew
    refine ⟨_, rfl, _, rfl, _, _, rfl, rfl, c, 10 + (0 + (j : Int)), rfl, by omega, by omega, fun x x0 x1 => ⟨_, _, rfl, rfl, (by show (0 : Int) < 5; decide), ?_⟩⟩
    have f0 : 0 ≤ x % 5 := by omega
    have f1 : x % 5 < 5 := by omega
    dsimp only
    generalize x % 5 = b at f0 f1
    have lv : vs.length = m.length := k4.len
    obtain ⟨wd, hwd⟩ : ∃ wd, zs[j]? = some wd := ⟨_, List.getElem?_eq_getElem (by omega)⟩
    refine ⟨_, rfl, .inl ⟨rfl, _, SqL.of e4⟩, _, rfl, _, _, rfl, rfl, .inl ⟨by decide, by decide⟩, _, _, rfl, rfl, _, rfl, _, rfl, _, _, rfl, rfl, c, 20 + (0 + (j : Int)), rfl, by omega, by omega, fun y y0 y1 => ⟨_, _, rfl, rfl, (by show (0 : Int) < 3; decide), _, _, rfl, rfl, _, rfl, _, rfl, _, rfl, pw, _, _, .str wd, rfl, rfl, SqL.of ew4, ?_, (by show 2 ≤ sizeLine; decide), fun pl hpl => ?_⟩⟩
    · rw [show (0 : Int) + (j : Int) = ((j : Nat) : Int) from Int.zero_add _]
      exact atI_nat (by rw [List.getElem?_map, hwd]; rfl)
    have s5 := same_new hpl (HO.lst [V.str "", V.str wd])
    obtain ⟨z', ez, hz'⟩ : ∃ z' : Str, atI [V.str "", V.str wd] (if decide (0 < b) = true then 1 else 0) = some (.str z') ∧ (z' = Str.ofString "" ∨ isw z' = true) := by
      cases hb : decide ((0 : Int) < b) with
      | true => exact ⟨wd, rfl, .inr (iz wd (List.mem_of_getElem? hwd))⟩
      | false => exact ⟨_, rfl, .inl rfl⟩
    refine ⟨_, rfl, _, _, rfl, rfl, .inr ⟨_, rfl, pl, _, _, .str z', rfl, rfl, SqL.of upd_same, ez, (by show 3 ≤ sizeLine; decide), fun pt hpt => ?_⟩⟩
    have s6 := s5.trans (same_new hpt (HO.tup [V.int (3 * (0 + (j : Int)) + 1 + y % 3), V.int b, V.str z']))
    have nt : pt ≠ pr := fun z => by rw [z, s5 _ _ e4] at hpt; cases hpt
    refine ⟨pr, _, _, rfl, rfl, s6 _ _ e4, small (by omega), _, _, vs ++ [.ref pt], m ++ [.tup [.int (3 * (0 + (j : Int)) + 1 + y % 3), .int b, .str z']], rfl, same_over (s4.trans s6) hpr _, upd_same, ?_, by simp [lm], fun i u hu => ?_⟩
    · refine Ats.app (Ats.cons (At.mkT (vs := [V.int (3 * (0 + (j : Int)) + 1 + y % 3), V.int b, V.str z']) (by rw [upd_ne nt]; exact upd_same) (Ats.cons (At.int _) (Ats.cons (At.int _) (Ats.cons (At.str _) (Ats.nil _))))) (Ats.nil _)) ?_
      refine Ats.keepT (H := upd (upd H4 pl (HO.lst [V.str "", V.str wd])) pt (HO.tup [V.int (3 * (0 + (j : Int)) + 1 + y % 3), V.int b, V.str z'])) (fun q u e => ?_) ?_ (Ats.mono s6 k4)
      · rw [upd_ne (fun z => by rw [z, s6 _ _ e4] at e; cases e)]
        exact e
      · refine nls_of fun t ht => ?_
        obtain ⟨i, hi⟩ := List.mem_iff_getElem?.mp ht
        obtain ⟨_, _, _, rfl, _⟩ := hm i t hi
        rfl
    · by_cases hi : i < m.length
      · rw [List.getElem?_append_left hi] at hu
        exact hm i u hu
      · rw [List.getElem?_append_right (by omega)] at hu
        have ei : i = j := by
          have := (List.getElem?_eq_some_iff.mp hu).1
          simp at this
          omega
        subst ei
        rw [lm, Nat.sub_self] at hu
        cases hu
        exact ⟨y % 3, b, z', by rw [show (0 : Int) + (i : Int) = (i : Int) from Int.zero_add _], by omega, by omega, f0, by omega, hz'⟩
  · rintro σ H4 ⟨o3, o4, vs, m, rfl, s4, e4, k4, lm, hm⟩
    refine ⟨_, rfl, pr, vs, rfl, .inl ⟨SqL.of e4, fun pt hpt => ?_⟩⟩
    have s5 := same_new hpt (HO.tup vs)
    exact q _ _ m (s4.trans s5) (At.mkT upd_same (Ats.mono s5 k4)) (by omega) (by omega) hm
end
end K51
set_option maxHeartbeats 4000000
namespace K51
open PySem L2
def HeadAt (zs : List Str) (m : List Tr) (i : Nat) (u : Tr) : Prop := ∃ (z : Str) (n cc d : Int) (e : Str) (f : Int), u = .tup [.str z, .int n, .int cc, .int d, .str e, .int f] ∧ zs[i]? = some z ∧ (∃ t ∈ m, fst0 t = .int n) ∧ 0 ≤ n ∧ n ≤ 4294967295 ∧ 2 ≤ d ∧ d ≤ 599 ∧ ((cc = 0 ∧ e = Str.ofString "" ∧ f = 0) ∨ (1 ≤ cc ∧ cc ≤ 4294967295 ∧ isw e = true ∧ 1 ≤ f ∧ f ≤ 4294967295))
section
variable {P : Program} {w : World} {K : PySem.W.Frag} {mg : Str → Option Value} {base : Heap} {f fMix fNbr : Addr} {fd dMix dNbr : FuncData}
def spLhs : Sp := fun vs H Q _ => ∃ (c : Int) (pw : Addr) (zs : List Str) (y : V) (m : List Tr), vs = [.int c, .ref pw, y] ∧ H pw = some (.lst (zs.map V.str)) ∧ zs.length = 13 ∧ (∀ z ∈ zs, isw z = true) ∧ (∀ (i : Nat) a b, zs[i]? = some a → zs[i + 1]? = some b → a.cps.toList < b.cps.toList) ∧ At H (.tup m) y ∧ 1 ≤ m.length ∧ m.length ≤ 6 ∧ (∀ (i : Nat) u, m[i]? = some u → LineAt i u) ∧
  ∀ r H' (l : List Tr), Same H H' → At H' (.tup l) r → 1 ≤ l.length → l.length ≤ 12 → (∀ (i : Nat) u, l[i]? = some u → HeadAt zs m i u) → Q r H'
theorem scLhs : FnScope ["_law_cell", "_law_words_here", "_law_rows", "_law_heads_here", "_law_k", "_law_number_here", "_law_line", "_law_root", "_law_mark"] ["_law_cell", "_law_words_here", "_law_rows"] (defScope sLhs) := ⟨rfl, rfl, rfl, by decide +kernel, rfl, by decide +kernel, by decide +kernel⟩
theorem ok_Lhs (F : Fun K "_law_heads" "_law_heads" sLhs f fd) (hMix : Has K mg "_law_mix" sMix ["_law_cell", "_law_k"] fMix dMix) (GMix : FnOk P w K mg base CX0 1 fMix dMix ["_law_cell", "_law_k"] spMix)
    (hNbr : Has K mg "_law_number" sNbr ["_law_cell"] fNbr dNbr) (GNbr : FnOk P w K mg base CX0 1 fNbr dNbr ["_law_cell"] spNbr) (T : Txt mg) : FnOk P w K mg base CX0 2 f fd ["_law_cell", "_law_words_here", "_law_rows"] spLhs := by
  refine F.ok scLhs (fun vs H Q E h => ?_) (fun cdv A outer s H vs Q E hr h => ?_)
  · obtain ⟨c, pw, zs, y, m, rfl, _⟩ := h
    rfl
  obtain ⟨c, pw, zs, y, m, rfl, ew, l13, iz, asc, hy, m1, m6, hm, q⟩ := h
  obtain ⟨ar, wr, rfl, har, kr⟩ := hy.tup
  have lr : wr.length = m.length := kr.len
  refine ⟨_, (pss_cons (ps_set (i := 3) scLhs.nd rfl (Or.inl rfl) (pe_lst pa_nil))
    (pss_cons (ps_for PassesOwn.never rfl (pi_range1 rfl T.rng (pc (pe_op op_add pe_int (pe_op op_mod (pe_call GMix (hr.mono (by decide)) rfl hMix.nm hMix.fn.kp hMix.bd .nil pass0 (pc (pv 0) (pc pe_int pa_nil))) pe_int)) pa_nil)) (pg_name (i := 4) scLhs.nd rfl (Or.inl rfl))
    (pss_cons (ps_set (i := 5) scLhs.nd rfl (Or.inl rfl) (pe_call GMix (hr.mono (by decide)) rfl hMix.nm hMix.fn.kp hMix.bd .nil pass0 (pc (pv 0) (pc (pe_op op_add pe_int (pv 4)) pa_nil))))
    (pss_cons (ps_set (i := 6) scLhs.nd rfl (Or.inl rfl) (pe_ix ix_tup (pe_ix ix_tup (pv 2) (pe_op op_mod (pv 5) (pe_callB call_len_seq rfl T.len PySem.boot_len (pc (pv 2) pa_nil))) (fun _ _ => rfl)) pe_int (fun _ _ => rfl)))
    (pss_cons (ps_set (i := 7) scLhs.nd rfl (Or.inl rfl) (pe_op op_add pe_int (pe_op op_mod (pe_op op_fdiv (pv 5) pe_int) pe_int)))
    (pss_one (ps_if (pt_cmpR op_eq (pe_op op_mod (pe_op op_fdiv (pv 5) pe_int) pe_int) pe_int (nomark _))
    (pss_one (ps_expr (pe_bm PySem.F.plainAttrs_list PySem.F.slot_list_append PySem.F.type_list_append mt_append (pv 3) (pc (pe_tup (pc (pe_ix ix_list (pv 1) (pv 4) (fun _ _ => rfl)) (pc (pv 6) (pc pe_int (pc (pv 7) (pc pe_str (pc pe_int pa_nil))))))) pa_nil))))
    (pss_cons (ps_set (i := 8) scLhs.nd rfl (Or.inl rfl) (pe_call GNbr (hr.mono (by decide)) rfl hNbr.nm hNbr.fn.kp hNbr.bd .nil pass0 (pc (pe_op op_fdiv (pv 5) pe_int) pa_nil)))
    (pss_one (ps_expr (pe_bm PySem.F.plainAttrs_list PySem.F.slot_list_append PySem.F.type_list_append mt_append (pv 3) (pc (pe_tup (pc (pe_ix ix_list (pv 1) (pv 4) (fun _ _ => rfl)) (pc (pv 6) (pc (pe_call GNbr (hr.mono (by decide)) rfl hNbr.nm hNbr.fn.kp hNbr.bd .nil pass0 (pc (pe_op op_fdiv (pv 5) pe_int) pa_nil)) (pc (pv 7) (pc (pe_ix ix_list (pv 1) (pe_op op_mod (pe_op op_add (pv 4) pe_int) pe_int) (fun _ _ => rfl)) (pc (pv 8) pa_nil))))))) pa_nil)))))))))))
    (pss_one (ps_ret (pe_callTy call_tuple_of rfl T.tup PyProof.Rows.boot_tuple (pc (pe_callB call_sortedT rfl T.srt PyProof.Rows.boot_sorted (pc (pv 3) pa_nil)) pa_nil)))))), ?_⟩
  refine ⟨by decide, fun ph hph => ?_⟩
  have s1 := same_new hph (HO.lst [])
  refine ⟨_, rfl, c, 0, rfl, by decide, by decide, fun z z0 z1 => ⟨_, _, rfl, rfl, (by show (0 : Int) < 12; decide), _, _, rfl, rfl, ?_⟩⟩
  have a0 : 1 ≤ 1 + z % 12 := by omega
  have a1 : 1 + z % 12 ≤ 12 := by omega
  obtain ⟨many, em⟩ : ∃ many, many = 1 + z % 12 := ⟨_, rfl⟩
  rw [← em] at a0 a1
  refine ⟨many, by rw [em], by omega, by omega, for_range (lo := 0) (n := many.toNat) (fun j σ H4 => ∃ (o4 o5 o6 o7 o8 : Option V) (vs : List V) (l : List Tr), σ = [some (.int c), some (.ref pw), some (.ref ar), some (.ref ph), o4, o5, o6, o7, o8] ∧ Same H H4 ∧ H4 ph = some (.lst vs) ∧ Ats H4 l vs ∧ l.length = j ∧ ∀ (i : Nat) u, l[i]? = some u → HeadAt zs m i u) ⟨none, none, none, none, none, [], [], rfl, s1, upd_same, Ats.nil _, rfl, fun i u h => by cases h⟩ ?_ ?_⟩
  · rintro j σ H4 hj ⟨o4, o5, o6, o7, o8, vs, l, rfl, s4, e4, k4, ll, hh⟩
    have hj' : j < many.toNat := hj
    have lv : vs.length = l.length := k4.len
    have ew4 := s4 _ _ ew
    -- one more
    have add : ∀ {H5 : Hp} {ws : List V} {u : Tr} {pt : Addr} {σ : St}, Same H4 H5 → H5 pt = some (.tup ws) → At H5 u (.ref pt) → nl u = true → HeadAt zs m j u → (∃ o4 o5 o6 o7 o8, σ = [some (.int c), some (.ref pw), some (.ref ar), some (.ref ph), o4, o5, o6, o7, o8]) → ∃ (o4 o5 o6 o7 o8 : Option V) (vs' : List V) (l : List Tr), σ = [some (.int c), some (.ref pw), some (.ref ar), some (.ref ph), o4, o5, o6, o7, o8] ∧ Same H (upd H5 ph (.lst (vs ++ [.ref pt]))) ∧ (upd H5 ph (.lst (vs ++ [.ref pt]))) ph = some (.lst vs') ∧ Ats (upd H5 ph (.lst (vs ++ [.ref pt]))) l vs' ∧ l.length = j + 1 ∧ ∀ (i : Nat) u, l[i]? = some u → HeadAt zs m i u := fun {H5 ws u pt σ} s5 ep hu hn hd hσ => by
      obtain ⟨o4, o5, o6, o7, o8, rfl⟩ := hσ
      have e5 := s5 _ _ e4
      have kt : ∀ q u, H5 q = some (.tup u) → upd H5 ph (.lst (vs ++ [.ref pt])) q = some (.tup u) := fun q u e => by
        rw [upd_ne (fun z => by rw [z, e5] at e; cases e)]
        exact e
      refine ⟨o4, o5, o6, o7, o8, _, l ++ [u], rfl, same_over (s4.trans s5) hph _, upd_same, Ats.app (Ats.cons (At.keepT kt hn hu) (Ats.nil _)) (Ats.keepT kt (nls_of fun t ht => ?_) (Ats.mono s5 k4)), by simp [ll], fun i v hv => ?_⟩
      · obtain ⟨i, hi⟩ := List.mem_iff_getElem?.mp ht
        obtain ⟨_, _, _, _, _, _, rfl, _⟩ := hh i t hi
        rfl
      · by_cases hi : i < l.length
        · rw [List.getElem?_append_left hi] at hv
          exact hh i v hv
        · rw [List.getElem?_append_right (by omega)] at hv
          have ei : i = j := by
            have := (List.getElem?_eq_some_iff.mp hv).1
            simp at this
            omega
          subst ei
          rw [ll, Nat.sub_self] at hv
          cases hv
          exact hd
    refine ⟨_, rfl, _, rfl, _, _, rfl, rfl, c, 10 + (0 + (j : Int)), rfl, by omega, by omega, fun x x0 x1 => ?_⟩
    refine ⟨_, rfl, _, rfl, _, rfl, ar, wr, rfl, .inr (SqT.of (s4 _ _ har)), _, _, rfl, rfl, (by show (0 : Int) < (wr.length : Int); omega), ?_⟩
    have g0 := Int.emod_nonneg x (show (wr.length : Int) ≠ 0 by omega)
    have g1 := Int.emod_lt_of_pos x (show 0 < (wr.length : Int) by omega)
    obtain ⟨i, ei⟩ := Int.eq_ofNat_of_zero_le g0
    have li : i < m.length := by omega
    obtain ⟨t, ht⟩ : ∃ t, m[i]? = some t := ⟨_, List.getElem?_eq_getElem li⟩
    obtain ⟨v, ev, hv⟩ := at_tup kr ht
    obtain ⟨yy, b, zz, et, y0, y2, _⟩ := hm i t ht
    have hv' := hv
    rw [et] at hv'
    obtain ⟨al, wl, rfl, hal, kl⟩ := hv'.tup
    obtain ⟨v0, ev0, hv0⟩ := at_tup kl (i := 0) (t := .int (3 * (i : Int) + 1 + yy)) rfl
    have ev0' : v0 = .int (3 * (i : Int) + 1 + yy) := by unfold At at hv0; exact hv0
    subst ev0'
    have kn : ∃ t ∈ m, fst0 t = .int (3 * (i : Int) + 1 + yy) := ⟨t, List.mem_of_getElem? ht, by rw [et]; rfl⟩
    refine ⟨ar, wr, _, .ref al, rfl, rfl, SqT.of (s4 _ _ har), (by show atI wr (x % (wr.length : Int)) = _; rw [ei]; exact ev), al, wl, 0, _, rfl, rfl, SqT.of (s4 _ _ hal), ev0, ?_⟩
    generalize hn : 3 * (i : Int) + 1 + yy = ln at kn
    refine ⟨_, rfl, _, _, rfl, rfl, ⟨by decide, by decide⟩, _, _, rfl, rfl, (by show (0 : Int) < 598; decide), _, _, rfl, rfl, ?_⟩
    obtain ⟨wd, hwd⟩ : ∃ wd, zs[j]? = some wd := ⟨_, List.getElem?_eq_getElem (by omega)⟩
    have awd : atI (zs.map V.str) (0 + (j : Int)) = some (.str wd) := by
      rw [show (0 : Int) + (j : Int) = ((j : Nat) : Int) from Int.zero_add _]
      exact atI_nat (by rw [List.getElem?_map, hwd]; rfl)
    refine ⟨_, rfl, _, _, rfl, rfl, ⟨by decide, by decide⟩, _, _, rfl, rfl, (by show (0 : Int) < 2; decide), rfl, _, rfl, ite2 (fun c1 => ?_) (fun c1 => ?_)⟩
    · refine ⟨_, rfl, .inl ⟨rfl, _, SqL.of e4⟩, _, rfl, _, rfl, pw, _, _, .str wd, rfl, rfl, SqL.of ew4, awd, _, rfl, _, rfl, (by show 6 ≤ sizeLine; decide), fun pt hpt => ?_⟩
      have s5 := same_new hpt (HO.tup [V.str wd, V.int ln, V.int 0, V.int (2 + x / 7 % 598), V.str "", V.int 0])
      refine ⟨ph, _, _, rfl, rfl, s5 _ _ e4, small (by omega), add s5 upd_same (u := .tup [.str wd, .int ln, .int 0, .int (2 + x / 7 % 598), .str "", .int 0]) (At.mkT upd_same (Ats.cons (At.str _) (Ats.cons (At.int _) (Ats.cons (At.int _) (Ats.cons (At.int _) (Ats.cons (At.str _) (Ats.cons (At.int _) (Ats.nil _)))))))) rfl ⟨_, _, _, _, _, _, rfl, hwd, kn, by omega, by omega, by omega, by omega, .inl ⟨rfl, rfl, rfl⟩⟩ ⟨_, _, _, _, _, rfl⟩⟩
    · refine ⟨_, rfl, _, _, rfl, rfl, ⟨by decide, by decide⟩, x / 11, rfl, by omega, fun mk H5 k0 k1 s5 => ?_⟩
      obtain ⟨w2, hw2⟩ : ∃ w2, zs[(j + 1) % 12]? = some w2 := ⟨_, List.getElem?_eq_getElem (by omega)⟩
      refine ⟨_, rfl, .inl ⟨rfl, _, SqL.of (s5 _ _ e4)⟩, _, rfl, _, rfl, pw, _, _, .str wd, rfl, rfl, SqL.of (s5 _ _ ew4), awd, _, rfl, _, rfl, _, _, rfl, rfl, ⟨by decide, by decide⟩, x / 13, rfl, by omega, fun nb H6 n0 n1 s6 => ?_⟩
      have s56 := s5.trans s6
      refine ⟨_, rfl, _, rfl, _, rfl, _, _, rfl, rfl, _, _, rfl, rfl, (by show (0 : Int) < 12; decide), pw, _, _, .str w2, rfl, rfl, SqL.of (s56 _ _ ew4), ?_, _, rfl, (by show 6 ≤ sizeLine; decide), fun pt hpt => ?_⟩
      · show atI (zs.map V.str) ((0 + (j : Int) + 1) % 12) = _
        rw [show (0 + (j : Int) + 1) % 12 = (((j + 1) % 12 : Nat) : Int) from by omega]
        exact atI_nat (by rw [List.getElem?_map, hw2]; rfl)
      have s7 := s56.trans (same_new hpt (HO.tup [V.str wd, V.int ln, V.int nb, V.int (2 + x / 7 % 598), V.str w2, V.int mk]))
      exact ⟨ph, _, _, rfl, rfl, s7 _ _ e4, small (by omega), add s7 upd_same (u := .tup [.str wd, .int ln, .int nb, .int (2 + x / 7 % 598), .str w2, .int mk]) (At.mkT upd_same (Ats.cons (At.str _) (Ats.cons (At.int _) (Ats.cons (At.int _) (Ats.cons (At.int _) (Ats.cons (At.str _) (Ats.cons (At.int _) (Ats.nil _)))))))) rfl ⟨_, _, _, _, _, _, rfl, hwd, kn, by omega, by omega, by omega, by omega, .inr ⟨n0, n1, iz w2 (List.mem_of_getElem? hw2), k0, k1⟩⟩ ⟨_, _, _, _, _, rfl⟩⟩
  · rintro σ H4 ⟨o4, o5, o6, o7, o8, vs, l, rfl, s4, e4, k4, ll, hh⟩
    have lv : vs.length = l.length := k4.len
    refine ⟨_, rfl, ph, vs, zs.take many.toNat, rfl, SqL.of e4, by omega, by rw [List.length_take]; omega, fun i v z' hv hz => ?_, fun i x y' hx hy' => ?_, fun pl hpl => ?_⟩
    · obtain ⟨u, hu, hat⟩ := k4.get hv
      obtain ⟨z2, n, cc, d, e, f', rfl, ez, _⟩ := hh i u hu
      have li : i < many.toNat := by
        have := (List.getElem?_eq_some_iff.mp hu).1
        omega
      rw [List.getElem?_take, if_pos li, ez] at hz
      cases hz
      obtain ⟨a, ws, rfl, ha, ka⟩ := hat.tup
      unfold Ats at ka
      obtain ⟨v1, ws', rfl, h1, _⟩ := ka
      unfold At at h1
      subst h1
      exact ⟨a, ws', rfl, ha⟩
    · rw [List.getElem?_take] at hx hy'
      split at hx
      · split at hy'
        · exact asc i x y' hx hy'
        · cases hy'
      · cases hx
    · have s5 := same_new hpl (HO.lst vs)
      refine ⟨pl, vs, rfl, .inl ⟨SqL.of upd_same, fun pt hpt => ?_⟩⟩
      have s6 := s5.trans (same_new hpt (HO.tup vs))
      exact q _ _ l (s4.trans s6) (At.mkT upd_same (Ats.mono s6 k4)) (by omega) (by omega) hh
end
end K51
set_option maxHeartbeats 4000000
namespace K51
open PySem L2
/-! ### the good ones are good -/
theorem isw_len {z : Str} (h : isw z = true) : z.length ≤ 8 := by
  unfold isw at h
  rw [Bool.and_eq_true, Bool.and_eq_true, decide_eq_true_eq, decide_eq_true_eq] at h
  exact h.1.2
theorem e_len : (Str.ofString "").length ≤ 100 := by decide +kernel
theorem numT_of {n : Int} (h0 : 0 ≤ n) (h1 : n ≤ 4294967295) : numT (.int n) = true := by
  show (decide (0 ≤ n) && decide (n ≤ 4294967295)) = true
  rw [decide_eq_true h0, decide_eq_true h1]
  rfl
theorem wthT_of {n lo hi : Int} (h0 : lo ≤ n) (h1 : n ≤ hi) : wthT (.int n) lo hi = true := by
  show (decide (lo ≤ n) && decide (n ≤ hi)) = true
  rw [decide_eq_true h0, decide_eq_true h1]
  rfl
theorem lines_good {m : List Tr} (l1 : 1 ≤ m.length) (l6 : m.length ≤ 6) (h : ∀ (i : Nat) u, m[i]? = some u → LineAt i u) : GoodL m := by
  refine ⟨?_, fun t ht => ?_, l1, l6⟩
  · show (m.all lineP && risV (m.map fst0)) = true
    rw [Bool.and_eq_true]
    refine ⟨List.all_eq_true.mpr fun t ht => ?_, risV_of fun i a b ha hb => ?_⟩
    · obtain ⟨i, hi⟩ := List.mem_iff_getElem?.mp ht
      have li := (List.getElem?_eq_some_iff.mp hi).1
      obtain ⟨y, b, z, rfl, y0, y2, b0, b4, hz⟩ := h i t hi
      show (numT (.int (3 * (i : Int) + 1 + y)) && numT (.int b) && (strIs (.str z) "" || wordT (.str z))) = true
      rw [numT_of (by omega) (by omega), numT_of (by omega) (by omega)]
      rcases hz with rfl | hz
      · decide +kernel
      · have : wordT (.str z) = true := hz
        rw [this, Bool.or_true]
        rfl
    · rw [List.getElem?_map] at ha hb
      obtain ⟨t, ht, rfl⟩ := Option.map_eq_some_iff.mp ha
      obtain ⟨u, hu, rfl⟩ := Option.map_eq_some_iff.mp hb
      obtain ⟨y, b, z, rfl, y0, y2, _⟩ := h i t ht
      obtain ⟨y', b', z', rfl, y0', y2', _⟩ := h (i + 1) u hu
      show some (decide (3 * (i : Int) + 1 + y < 3 * ((i + 1 : Nat) : Int) + 1 + y')) = some true
      rw [decide_eq_true (by omega)]
  · obtain ⟨i, hi⟩ := List.mem_iff_getElem?.mp ht
    obtain ⟨y, b, z, rfl, _, _, _, _, hz⟩ := h i t hi
    refine ⟨_, _, _, rfl, ?_⟩
    rcases hz with rfl | hz
    · exact e_len
    · have := isw_len hz
      omega
theorem known_in {m : List Tr} {n : Int} (h : ∃ t ∈ m, fst0 t = .int n) : inV (.int n) (m.map fst0) = true := by
  obtain ⟨t, ht, e⟩ := h
  unfold inV
  refine List.any_eq_true.mpr ⟨.int n, List.mem_map.mpr ⟨t, ht, e⟩, ?_⟩
  show (n == n) = true
  simp
theorem heads_good {zs : List Str} {l m : List Tr} (iz : ∀ z ∈ zs, isw z = true) (asc : ∀ (i : Nat) a b, zs[i]? = some a → zs[i + 1]? = some b → a.cps.toList < b.cps.toList) (m6 : m.length ≤ 6) (hm : ∀ (i : Nat) u, m[i]? = some u → LineAt i u) (l1 : 1 ≤ l.length) (l12 : l.length ≤ 12) (h : ∀ (i : Nat) u, l[i]? = some u → HeadAt zs m i u) : GoodH l m := by
  refine ⟨?_, fun t ht => ?_, l1, l12, fun u hu => ?_⟩
  · show (decide (l.length ≤ 12) && l.all headP && (risV (l.map fst0) && l.all fun h => inV (snd0 h) (m.map fst0))) = true
    rw [Bool.and_eq_true, Bool.and_eq_true, Bool.and_eq_true]
    refine ⟨⟨decide_eq_true l12, List.all_eq_true.mpr fun t ht => ?_⟩, risV_of fun i a b ha hb => ?_, List.all_eq_true.mpr fun t ht => ?_⟩
    · obtain ⟨i, hi⟩ := List.mem_iff_getElem?.mp ht
      obtain ⟨z, n, cc, d, e, f, rfl, ez, kn, n0, n1, d0, d1, hc⟩ := h i t hi
      have wz : wordT (.str z) = true := iz z (List.mem_of_getElem? ez)
      show (wordT (.str z) && numT (.int n) && (numT (.int cc) && wthT (.int d) 2 599 && numT (.int f)) && (if isI (.int cc) 0 = true then strIs (.str e) "" && isI (.int f) 0 else wordT (.str e) && wthT (.int f) 1 4294967295)) = true
      rcases hc with ⟨rfl, rfl, rfl⟩ | ⟨c1, c2, he, f1, f2⟩
      · rw [wz, numT_of n0 n1, wthT_of d0 d1]
        decide +kernel
      · have we : wordT (.str e) = true := he
        have ic : isI (.int cc) 0 = false := decide_eq_false (by omega)
        rw [wz, numT_of n0 n1, wthT_of d0 d1, numT_of (by omega) c2, numT_of (by omega) f2, ic, we, wthT_of f1 f2]
        rfl
    · rw [List.getElem?_map] at ha hb
      obtain ⟨t, ht, rfl⟩ := Option.map_eq_some_iff.mp ha
      obtain ⟨u, hu, rfl⟩ := Option.map_eq_some_iff.mp hb
      obtain ⟨z, _, _, _, _, _, rfl, ez, _⟩ := h i t ht
      obtain ⟨z', _, _, _, _, _, rfl, ez', _⟩ := h (i + 1) u hu
      show some (decide (z.cps.toList < z'.cps.toList)) = some true
      rw [decide_eq_true (asc i z z' ez ez')]
    · obtain ⟨i, hi⟩ := List.mem_iff_getElem?.mp ht
      obtain ⟨z, n, cc, d, e, f, rfl, ez, kn, _⟩ := h i t hi
      exact known_in kn
  · obtain ⟨i, hi⟩ := List.mem_iff_getElem?.mp ht
    obtain ⟨z, n, cc, d, e, f, rfl, ez, kn, n0, n1, d0, d1, hc⟩ := h i t hi
    refine ⟨_, _, _, _, _, _, rfl, ?_, ?_⟩
    · have := isw_len (iz z (List.mem_of_getElem? ez))
      omega
    · rcases hc with ⟨_, rfl, _⟩ | ⟨_, _, he, _⟩
      · exact e_len
      · have := isw_len he
        omega
  · obtain ⟨i, hi⟩ := List.mem_iff_getElem?.mp hu
    have li := (List.getElem?_eq_some_iff.mp hi).1
    obtain ⟨y, b, z, rfl, y0, y2, _⟩ := hm i u hi
    exact ⟨_, _, _, rfl, by omega⟩
theorem GoodT.ok {st : Int} {w : Str} {m l : List Tr} (g : GoodT st w m l) (p : Int) : topP (.tup (topT st w m l)) p = decide (st % 2 = p) := by
  show (strIs (.str (Str.ofString "top")) "top" && (wthT (.int st) 1 4294967295 && parT (.int st) p && wordT (.str w)) && (linesP (.tup m) && headsP (.tup l) (.tup m))) = _
  have e1 : strIs (.str (Str.ofString "top")) "top" = true := by decide +kernel
  have e2 : wordT (.str w) = true := g.hw
  rw [e1, e2, wthT_of g.s1 g.s2, g.gl.ok, g.gh.ok]
  show (true && (true && decide (st % 2 = p) && true) && (true && true)) = _
  cases decide (st % 2 = p) <;> rfl
theorem GoodT.smT {st : Int} {w : Str} {m l : List Tr} (g : GoodT st w m l) : sm (.tup (topT st w m l)) = true := sm_mkT (by show (5 : Nat) ≤ 100; decide) g.all
theorem GoodT.flT {st : Int} {w : Str} {m l : List Tr} (g : GoodT st w m l) : topFl (.tup (topT st w m l)) = true := by
  show (true && allFl lineFl (.tup m) && allFl headFl (.tup l)) = true
  rw [g.gl.flT, g.gh.flT]
  rfl
theorem last_ok {st : Int} (h1 : 1 ≤ st) (h2 : st ≤ 4294967295) : topP (.tup [.str (Str.ofString "top"), .int st, .str (Str.ofString "a"), .tup [], .tup []]) (st % 2) = true := by
  show (strIs (.str (Str.ofString "top")) "top" && (wthT (.int st) 1 4294967295 && parT (.int st) (st % 2) && wordT (.str (Str.ofString "a"))) && (linesP (.tup []) && headsP (.tup []) (.tup []))) = true
  have e1 : strIs (.str (Str.ofString "top")) "top" = true := by decide +kernel
  have e2 : wordT (.str (Str.ofString "a")) = true := by decide +kernel
  have e3 : parT (.int st) (st % 2) = true := decide_eq_true rfl
  rw [e1, e2, e3, wthT_of h1 h2]
  rfl
end K51
set_option maxHeartbeats 4000000
namespace K51
open PySem L2
def zzS (k : Nat) : Str := Str.ofString "z" ++ Str.ofString (toString (0 + (k : Int)))
def zz : List Str := (List.range 14).map zzS
theorem zz_nodup : zz.Nodup := by decide +kernel
theorem zz_word : ∀ z ∈ zz, isw z = true := by decide +kernel
theorem zz_log : ∀ i : Fin 14, (0 + ((i : Nat) : Int)).natAbs.log2 < 1920 := by decide +kernel
theorem zz_len : ∀ i : Fin 14, (Str.ofString "z").length + (Str.ofString (toString (0 + ((i : Nat) : Int)))).length ≤ 100 := by decide +kernel
section
variable {P : Program} {w : World} {K : PySem.W.Frag} {mg : Str → Option Value} {base : Heap} {f fCel fMix fWds fNbr fLls fLhs fTop fBad : Addr} {fd dCel dMix dWds dNbr dLls dLhs dTop dBad : FuncData}
def spLaw (K : PySem.W.Frag) : Sp := fun vs H Q _ => ∃ (a : Addr) (ns : List Int), vs = [.ref a] ∧ SqL K H a (ns.map V.int) ∧ ns.length ≤ 63 ∧ ∀ H', Q (.bl true) H'
theorem scLaw : FnScope ["_law_script", "_law_words_here", "_law_rows", "_law_heads_here", "_law_stamp", "_law_top", "_law_cell"] ["_law_script"] (defScope sLaw) := ⟨rfl, rfl, rfl, by decide +kernel, rfl, by decide +kernel, by decide +kernel⟩
theorem ok_law (F : Fun K "law" "law" sLaw f fd) (hCel : Has K mg "_law_at" sCel ["_law_script", "_law_k"] fCel dCel) (GCel : FnOk P w K mg base CX0 1 fCel dCel ["_law_script", "_law_k"] (spCel K))
    (hMix : Has K mg "_law_mix" sMix ["_law_cell", "_law_k"] fMix dMix) (GMix : FnOk P w K mg base CX0 1 fMix dMix ["_law_cell", "_law_k"] spMix)
    (hWds : Has K mg "_law_words" sWds ["_law_cell", "_law_many"] fWds dWds) (GWds : FnOk P w K mg base CX0 2 fWds dWds ["_law_cell", "_law_many"] spWds)
    (hNbr : Has K mg "_law_number" sNbr ["_law_cell"] fNbr dNbr) (GNbr : FnOk P w K mg base CX0 1 fNbr dNbr ["_law_cell"] spNbr)
    (hLls : Has K mg "_law_lines" sLls ["_law_cell", "_law_words_here"] fLls dLls) (GLls : FnOk P w K mg base CX0 2 fLls dLls ["_law_cell", "_law_words_here"] spLls)
    (hLhs : Has K mg "_law_heads" sLhs ["_law_cell", "_law_words_here", "_law_rows"] fLhs dLhs) (GLhs : FnOk P w K mg base CX0 2 fLhs dLhs ["_law_cell", "_law_words_here", "_law_rows"] spLhs)
    (hTop : Has K mg "is_top" sTop ["thing", "place"] fTop dTop) (GTop : FnOk P w K mg base CX0 6 fTop dTop ["thing", "place"] spTop)
    (hBad : Has K mg "_law_bad" sBad ["_law_cell", "_law_top"] fBad dBad) (GBad : FnOk P w K mg base CX0 3 fBad dBad ["_law_cell", "_law_top"] spBad) (T : Txt mg) : FnOk P w K mg base CX0 7 f fd ["_law_script"] (spLaw K) := by
  refine F.ok scLaw (fun vs H Q E h => ?_) (fun cdv A outer s H vs Q E hr h => ?_)
  · obtain ⟨a, ns, rfl, _⟩ := h
    rfl
  obtain ⟨a, ns, rfl, hS, h63, q⟩ := h
  refine ⟨_, (pss_cons (ps_set (i := 1) scLaw.nd rfl (Or.inl rfl) (pe_op op_cat (pe_call GWds (hr.mono (by decide)) rfl hWds.nm hWds.fn.kp hWds.bd .nil pass0 (pc (pe_call GCel (hr.mono (by decide)) rfl hCel.nm hCel.fn.kp hCel.bd .nil pass0 (pc (pv 0) (pc pe_int pa_nil))) (pc pe_int pa_nil))) (pe_comp [] [] (pi_range1 rfl T.rng (pc pe_int pa_nil)) (fun _ _ _ _ _ _ => pts_nil)
          (fun _ _ _ _ _ _ => (pe_op op_add_str pe_str (pe_callTy call_str_int rfl T.str PyProof.Rows.boot_str (pc (pv 0) pa_nil))))
          rfl (by decide +kernel) (by decide +kernel) rfl (by decide +kernel) (fun _ _ z => nomatch z) rfl (by decide +kernel) rfl)))
    (pss_cons (ps_set (i := 1) scLaw.nd rfl (Or.inl rfl) (pe_slice sl_list (pe_ssetS rfl rfl T.srt rfl T.set (pv 1)) po_none (po_some pe_int)))
    (pss_cons (ps_set (i := 2) scLaw.nd rfl (Or.inl rfl) (pe_call GLls (hr.mono (by decide)) rfl hLls.nm hLls.fn.kp hLls.bd .nil pass0 (pc (pe_call GCel (hr.mono (by decide)) rfl hCel.nm hCel.fn.kp hCel.bd .nil pass0 (pc (pv 0) (pc pe_int pa_nil))) (pc (pv 1) pa_nil))))
    (pss_cons (ps_set (i := 3) scLaw.nd rfl (Or.inl rfl) (pe_call GLhs (hr.mono (by decide)) rfl hLhs.nm hLhs.fn.kp hLhs.bd .nil pass0 (pc (pe_call GCel (hr.mono (by decide)) rfl hCel.nm hCel.fn.kp hCel.bd .nil pass0 (pc (pv 0) (pc pe_int pa_nil))) (pc (pv 1) (pc (pv 2) pa_nil)))))
    (pss_cons (ps_set (i := 4) scLaw.nd rfl (Or.inl rfl) (pe_call GNbr (hr.mono (by decide)) rfl hNbr.nm hNbr.fn.kp hNbr.bd .nil pass0 (pc (pe_op op_mod (pe_call GCel (hr.mono (by decide)) rfl hCel.nm hCel.fn.kp hCel.bd .nil pass0 (pc (pv 0) (pc pe_int pa_nil))) (pe_op op_pow pe_int pe_int)) pa_nil)))
    (pss_cons (ps_set (i := 5) scLaw.nd rfl (Or.inl rfl) (pe_tup (pc pe_str (pc (pv 4) (pc (pe_ix ix_list (pv 1) (pe_op op_mod (pe_call GCel (hr.mono (by decide)) rfl hCel.nm hCel.fn.kp hCel.bd .nil pass0 (pc (pv 0) (pc pe_int pa_nil))) pe_int) (fun _ _ => rfl)) (pc (pv 2) (pc (pv 3) pa_nil)))))))
    (pss_cons (ps_if (PW.pt (pw_or (pt_cmpR op_notB (pe_call GTop (hr.mono (by decide)) rfl hTop.nm hTop.fn.kp hTop.bd .nil pass0 (pc (pv 5) (pc (pe_op op_mod (pv 4) pe_int) pa_nil))) pe_bl (nomark _)) (pw_or1 (pt_cmpR op_notB (pe_call GTop (hr.mono (by decide)) rfl hTop.nm hTop.fn.kp hTop.bd .nil pass0 (pc (pv 5) (pc (pe_op op_sub pe_int (pe_op op_mod (pv 4) pe_int)) pa_nil))) pe_bl (nomark _)))))
    (pss_one (ps_ret pe_bl))
    pss_nil)
    (pss_cons (ps_for PassesOwn.never rfl (pi_list (pe_slice sl_list (pv 0) (po_some pe_int) (po_some pe_int))) (pg_name (i := 6) scLaw.nd rfl (Or.inl rfl))
    (pss_one (ps_if (pt_cmpR op_notB (pe_call GTop (hr.mono (by decide)) rfl hTop.nm hTop.fn.kp hTop.bd .nil pass0 (pc (pe_call GBad (hr.mono (by decide)) rfl hBad.nm hBad.fn.kp hBad.bd .nil pass0 (pc (pe_call GMix (hr.mono (by decide)) rfl hMix.nm hMix.fn.kp hMix.bd .nil pass0 (pc (pv 6) (pc pe_int pa_nil))) (pc (pv 5) pa_nil))) (pc (pe_op op_mod (pv 4) pe_int) pa_nil))) pe_bl (nomark _))
    (pss_one (ps_ret pe_bl))
    pss_nil)))
    (pss_one (ps_ret (pe_cmpR op_isB (pe_call GTop (hr.mono (by decide)) rfl hTop.nm hTop.fn.kp hTop.bd .nil pass0 (pc (pe_tup (pc pe_str (pc (pv 4) (pc pe_str (pc (pe_tup pa_nil) (pc (pe_tup pa_nil) pa_nil)))))) (pc (pe_op op_mod (pv 4) pe_int) pa_nil))) pe_bl (nomark _)))))))))))), ?_⟩
  refine ⟨_, rfl, a, ns, 0, rfl, by decide, hS, fun c0 => ⟨c0, 12, rfl, by decide, by decide, fun p1 H1 zs s1 e1 l12 iz => ?_⟩⟩
  refine ⟨14, rfl, by decide, by decide, fun p2 hp2 => ?_⟩
  refine comp_rng (fun i us H2 => Same H1 H2 ∧ H2 p2 = some (.lst us) ∧ us = ((List.range i).map zzS).map V.str) ⟨same_new hp2 _, upd_same, rfl⟩ ?_ ?_
  · rintro i us H2 hi ⟨s2, e2, rfl⟩
    have hi' : i < 14 := hi
    have sl : (Str.ofString "z").length + (Str.ofString (toString (0 + (i : Int)))).length ≤ 100 := zz_len ⟨i, hi'⟩
    refine ttT ⟨_, rfl, _, rfl, zz_log ⟨i, hi'⟩, _, _, rfl, rfl, Nat.le_of_lt (small (by omega)), e2, small (by simp; omega), same_over s2 hp2 _, upd_same, ?_⟩
    rw [List.range_succ, List.map_append, List.map_append]
    rfl
  rintro us H2 ⟨s2, e2, rfl⟩
  have e2' : H2 p2 = some (.lst (zz.map V.str)) := e2
  have lz : zz.length = 14 := by decide +kernel
  have l12' : zs.length = 12 := by omega
  refine ⟨p1, p2, _, _, rfl, rfl, s2 _ _ e1, e2', Nat.le_of_lt (small (by rw [List.length_map, List.length_map]; omega)), fun p3 hp3 => ?_⟩
  have s3 := s2.trans (same_new hp3 (HO.lst (zs.map V.str ++ zz.map V.str)))
  have e3 : upd H2 p3 (HO.lst (zs.map V.str ++ zz.map V.str)) p3 = some (.lst ((zs ++ zz).map V.str)) := by rw [upd_same, List.map_append]
  revert s3 e3
  generalize upd H2 p3 (HO.lst (zs.map V.str ++ zz.map V.str)) = H3
  intro s3 e3
  refine ⟨_, rfl, p3, zs ++ zz, rfl, SqL.of e3, by rw [List.length_append]; omega, fun p4 ms nd asc mem hp4 => ?_⟩
  have s4 := s1.trans (s3.trans (same_new hp4 (HO.lst (ms.map V.str))))
  have e4 : upd H3 p4 (HO.lst (ms.map V.str)) p4 = some (.lst (ms.map V.str)) := upd_same
  revert s4 e4
  generalize upd H3 p4 (HO.lst (ms.map V.str)) = H4
  intro s4 e4
  have lm : 14 ≤ ms.length := by
    have := nodup_le (ks := zz) (ns := ms) zz_nodup fun k hk => (mem k).mpr (List.mem_append_right _ hk)
    omega
  refine ⟨_, rfl, p4, _, rfl, SqL.of e4, fun p5 hp5 => ?_⟩
  rw [show cutV (ms.map V.str) none (some 13) = ((ms.take 13).map V.str) by rw [show (13 : Int) = ((13 : Nat) : Int) from rfl, cut_to, List.map_take]]
  have s5 := s4.trans (same_new hp5 (HO.lst ((ms.take 13).map V.str)))
  have e5 : upd H4 p5 (HO.lst ((ms.take 13).map V.str)) p5 = some (.lst ((ms.take 13).map V.str)) := upd_same
  have iw : ∀ z ∈ ms.take 13, isw z = true := fun z hz => by
    have := (mem z).mp (List.mem_of_mem_take hz)
    rcases List.mem_append.mp this with m | m
    · exact iz z m
    · exact zz_word z m
  have asc' : ∀ (i : Nat) a b, (ms.take 13)[i]? = some a → (ms.take 13)[i + 1]? = some b → a.cps.toList < b.cps.toList := fun i a b ha hb => by
    rw [List.getElem?_take] at ha hb
    split at ha
    · split at hb
      · exact asc i a b ha hb
      · cases hb
    · cases ha
  have l13 : (ms.take 13).length = 13 := by rw [List.length_take]; omega
  revert s5 e5
  generalize upd H4 p5 (HO.lst ((ms.take 13).map V.str)) = H5
  generalize ms.take 13 = ws at iw asc' l13
  intro s5 e5
  refine ⟨_, rfl, a, ns, 1, rfl, by decide, s5.seq hS, fun c1 => ⟨_, rfl, c1, p5, ws, rfl, e5, by omega, iw, fun r H6 m s6 hm m1 m6 lns => ?_⟩⟩
  have s06 := s5.trans s6
  refine ⟨_, rfl, a, ns, 2, rfl, by decide, s06.seq hS, fun c2 => ⟨_, rfl, _, rfl, c2, p5, ws, r, m, rfl, s6 _ _ e5, l13, iw, asc', hm, m1, m6, lns, fun r' H7 l s7 hl l1 l12' hds => ?_⟩⟩
  have s07 := s06.trans s7
  refine ⟨_, rfl, a, ns, 3, rfl, by decide, s07.seq hS, fun c3 => ⟨_, _, rfl, rfl, ⟨by decide, by decide, by decide⟩, _, _, rfl, rfl, (by show (0 : Int) < (10 : Int) ^ Int.toNat 12; decide +kernel), _, rfl, Int.emod_nonneg _ (by decide +kernel), fun st H8 t1 t2 s8 => ?_⟩⟩
  have s08 := s07.trans s8
  refine ⟨_, rfl, _, rfl, _, rfl, a, ns, 4, rfl, by decide, s08.seq hS, fun c4 => ⟨_, _, rfl, rfl, (by show (0 : Int) < 13; decide), ?_⟩⟩
  obtain ⟨i4, ei4, hi4⟩ : ∃ i : Nat, c4 % 13 = (i : Int) ∧ i < 13 := ⟨(c4 % 13).toNat, by omega, by omega⟩
  obtain ⟨wd, hwd⟩ : ∃ wd, ws[i4]? = some wd := ⟨_, List.getElem?_eq_getElem (by omega)⟩
  refine ⟨p5, _, _, .str wd, rfl, rfl, SqL.of (s8 _ _ (s7 _ _ (s6 _ _ e5))), (by show atI (ws.map V.str) (c4 % 13) = _; rw [ei4]; exact atI_nat (by rw [List.getElem?_map, hwd]; rfl)), _, rfl, _, rfl, (by show 5 ≤ sizeLine; decide), fun pt hpt => ?_⟩
  have s9 := same_new hpt (HO.tup [V.str "top", V.int st, V.str wd, r, r'])
  have s09 := s08.trans s9
  have g : GoodT st wd m l := ⟨t1, t2, iw wd (List.mem_of_getElem? hwd), lines_good m1 m6 lns, heads_good iw asc' m6 lns l1 l12' hds⟩
  have hT : At (upd H8 pt (HO.tup [V.str "top", V.int st, V.str wd, r, r'])) (.tup (topT st wd m l)) (.ref pt) := At.mkT upd_same (Ats.cons (At.str _) (Ats.cons (At.int _) (Ats.cons (At.str _) (Ats.cons (((hm.mono s7).mono s8).mono s9) (Ats.cons ((hl.mono s8).mono s9) (Ats.nil _))))))
  revert s09 hT
  generalize upd H8 pt (HO.tup [V.str "top", V.int st, V.str wd, r, r']) = H9
  intro s09 hT
  refine ⟨_, rfl, _, rfl, _, _, rfl, rfl, (by show (0 : Int) < 2; decide), _, _, _, rfl, hT, g.smT, g.flT, fun H10 s10 => ⟨_, _, rfl, rfl, _, rfl, ?_⟩⟩
  have k1 : (topP (.tup (topT st wd m l)) (st % 2) != true) = false := by
    rw [g.ok, decide_eq_true rfl]
    rfl
  rw [k1]
  refine iteF ?_
  refine ⟨_, rfl, _, rfl, _, _, rfl, rfl, (by show (0 : Int) < 2; decide), _, _, rfl, rfl, _, _, _, rfl, hT.mono s10, g.smT, g.flT, fun H11 s11 => ⟨_, _, rfl, rfl, _, rfl, ?_⟩⟩
  have k2 : (topP (.tup (topT st wd m l)) (1 - st % 2) != false) = false := by
    rw [g.ok, decide_eq_false (by omega)]
    rfl
  rw [k2]
  refine iteF ?_
  have s011 := s09.trans (s10.trans s11)
  have hT' := (hT.mono s10).mono s11
  refine ⟨_, rfl, _, rfl, _, rfl, a, _, rfl, s011.seq hS, fun p6 hp6 => ?_⟩
  have s12 := same_new hp6 (HO.lst (cutV (ns.map V.int) (some 5) (some 35)))
  have e6 : upd H11 p6 (HO.lst (cutV (ns.map V.int) (some 5) (some 35))) p6 = some (.lst (cutV (ns.map V.int) (some 5) (some 35))) := upd_same
  have hints : ∀ x ∈ cutV (ns.map V.int) (some 5) (some 35), ∃ n, x = .int n := fun x hx => by
    unfold cutV at hx
    obtain ⟨n, _, rfl⟩ := List.mem_map.mp (List.mem_of_mem_drop (List.mem_of_mem_take hx))
    exact ⟨n, rfl⟩
  revert s12 e6
  generalize upd H11 p6 (HO.lst (cutV (ns.map V.int) (some 5) (some 35))) = H12
  generalize cutV (ns.map V.int) (some 5) (some 35) = xs at hints
  intro s12 e6
  have hT2 := hT'.mono s12
  refine ⟨p6, rfl, ⟨_, SqL.of e6⟩, for_list (K := K) (a := p6) (xs := xs) (fun i σ H13 => ∃ o6 : Option V, σ = [some (.ref a), some (.ref p5), some r, some r', some (.int st), some (.ref pt), o6] ∧ Same H12 H13) ⟨none, rfl, Same.refl _⟩ (fun i σ H13 _ h => by obtain ⟨_, _, s13⟩ := h; exact SqL.of (s13 _ _ e6)) ?_ ?_⟩
  · rintro i x σ H13 hx ⟨o6, rfl, s13⟩
    obtain ⟨n, rfl⟩ := hints x (List.mem_of_getElem? hx)
    refine ⟨_, rfl, n, 0, rfl, by decide, by decide, fun z z0 z1 => ⟨_, rfl, z, _, st, wd, m, l, rfl, z0, hT2.mono s13, g, fun v t H14 s14 ht b => ⟨_, rfl, _, _, rfl, rfl, (by show (0 : Int) < 2; decide), v, t, _, rfl, ht, b.sm, b.fl, fun H15 s15 => ⟨_, _, rfl, rfl, _, rfl, ?_⟩⟩⟩⟩
    have k3 : (topP t (st % 2) != false) = false := by
      rw [b.no]
      rfl
    rw [k3]
    exact iteF ⟨_, rfl, s13.trans (s14.trans s15)⟩
  · rintro σ H13 ⟨o6, rfl, s13⟩
    refine ⟨_, rfl, by decide, fun u1 hu1 => ⟨by decide, fun u2 hu2 => ⟨(by show 5 ≤ sizeLine; decide), fun u3 hu3 => ?_⟩⟩⟩
    have y2 := same_new hu2 (HO.tup [])
    have y3 := same_new hu3 (HO.tup [V.str "top", V.int st, V.str "a", V.ref u1, V.ref u2])
    refine ⟨_, rfl, _, _, rfl, rfl, (by show (0 : Int) < 2; decide), .ref u3, .tup [.str (Str.ofString "top"), .int st, .str (Str.ofString "a"), .tup [], .tup []], st % 2, rfl, At.mkT upd_same (Ats.cons (At.str _) (Ats.cons (At.int _) (Ats.cons (At.str _) (Ats.cons (At.mkT (y3 _ _ (y2 _ _ upd_same)) (Ats.nil _)) (Ats.cons (At.mkT (y3 _ _ upd_same) (Ats.nil _)) (Ats.nil _)))))), sm_mkT (by show (5 : Nat) ≤ 100; decide) (all5 (by decide +kernel) rfl (by decide +kernel) (by decide +kernel) (by decide +kernel)), rfl, fun H14 s14 => ⟨_, _, rfl, rfl, ?_⟩⟩
    rw [last_ok t1 t2]
    exact q _
end
end K51
set_option maxHeartbeats 8000000
namespace K51
open PySem L2

theorem all_mk {l : PySem.W.OpenLaw} {w : World} {K : PySem.W.Frag} {h : Heap} {mg : Str → Option Value} {fa fWho fWth fSta fTof fRis fWor fItp fNum fLin fHea fAls fAhs fTop fCel fMix fWds fNbr fLls fLhs fWit fNno fNwo fBli fBhe fBad fLaw : Addr} (X : K.In h) (G : h.Ns mainGlobals mg) (hfa : mg "law" = some (.ref fa))
    {odWho anWho odWth anWth odSta anSta odTof anTof odRis anRis odWor anWor odItp anItp odNum anNum odLin anLin odHea anHea odAls anAls odAhs anAhs odTop anTop odCel anCel odMix anMix odWds anWds odNbr anNbr odLls anLls odLhs anLhs odWit anWit odNno anNno odNwo anNwo odBli anBli odBhe anBhe odBad anBad odLaw anLaw  : Option Addr} {slWho slWth slSta slTof slRis slWor slItp slNum slLin slHea slAls slAhs slTop slCel slMix slWds slNbr slLls slLhs slWit slNno slNwo slBli slBhe slBad slLaw  : Array (Option Value)} {ocWho kVWho dcWho pmWho cdWho ctWho ocWth kVWth dcWth pmWth cdWth ctWth ocSta kVSta dcSta pmSta cdSta ctSta ocTof kVTof dcTof pmTof cdTof ctTof ocRis kVRis dcRis pmRis cdRis ctRis ocWor kVWor dcWor pmWor cdWor ctWor ocItp kVItp dcItp pmItp cdItp ctItp ocNum kVNum dcNum pmNum cdNum ctNum ocLin kVLin dcLin pmLin cdLin ctLin ocHea kVHea dcHea pmHea cdHea ctHea ocAls kVAls dcAls pmAls cdAls ctAls ocAhs kVAhs dcAhs pmAhs cdAhs ctAhs ocTop kVTop dcTop pmTop cdTop ctTop ocCel kVCel dcCel pmCel cdCel ctCel ocMix kVMix dcMix pmMix cdMix ctMix ocWds kVWds dcWds pmWds cdWds ctWds ocNbr kVNbr dcNbr pmNbr cdNbr ctNbr ocLls kVLls dcLls pmLls cdLls ctLls ocLhs kVLhs dcLhs pmLhs cdLhs ctLhs ocWit kVWit dcWit pmWit cdWit ctWit ocNno kVNno dcNno pmNno cdNno ctNno ocNwo kVNwo dcNwo pmNwo cdNwo ctNwo ocBli kVBli dcBli pmBli cdBli ctBli ocBhe kVBhe dcBhe pmBhe cdBhe ctBhe ocBad kVBad dcBad pmBad cdBad ctBad ocLaw kVLaw dcLaw pmLaw cdLaw ctLaw  : Value} {gt0 gt1 gt2 gt3 gt4 gt5 : Tok}
   
    (aWho : PySem.W.nsIn K mainGlobals "is_whole" = some (some (.ref fWho)))
    (lWho : K.lookup fWho = some ⟨ocWho, odWho, .func (PySem.W.fnOf "is_whole" "is_whole" (defArgs sWho) (defBody sWho) (defScope sWho) .none kVWho dcWho pmWho anWho cdWho ctWho), slWho⟩)
    (cWho : PySem.W.codeIn K cdWho "is_whole" = true)
    (kWho : PySem.W.keepIn K (.ref fWho) = true)
    (aWth : PySem.W.nsIn K mainGlobals "is_within" = some (some (.ref fWth)))
    (lWth : K.lookup fWth = some ⟨ocWth, odWth, .func (PySem.W.fnOf "is_within" "is_within" (defArgs sWth) (defBody sWth) (defScope sWth) .none kVWth dcWth pmWth anWth cdWth ctWth), slWth⟩)
    (cWth : PySem.W.codeIn K cdWth "is_within" = true)
    (kWth : PySem.W.keepIn K (.ref fWth) = true)
    (aSta : PySem.W.nsIn K mainGlobals "is_stamp" = some (some (.ref fSta)))
    (lSta : K.lookup fSta = some ⟨ocSta, odSta, .func (PySem.W.fnOf "is_stamp" "is_stamp" (defArgs sSta) (defBody sSta) (defScope sSta) .none kVSta dcSta pmSta anSta cdSta ctSta), slSta⟩)
    (cSta : PySem.W.codeIn K cdSta "is_stamp" = true)
    (kSta : PySem.W.keepIn K (.ref fSta) = true)
    (aTof : PySem.W.nsIn K mainGlobals "is_tuple_of" = some (some (.ref fTof)))
    (lTof : K.lookup fTof = some ⟨ocTof, odTof, .func (PySem.W.fnOf "is_tuple_of" "is_tuple_of" (defArgs sTof) (defBody sTof) (defScope sTof) .none kVTof dcTof pmTof anTof cdTof ctTof), slTof⟩)
    (cTof : PySem.W.codeIn K cdTof "is_tuple_of" = true)
    (kTof : PySem.W.keepIn K (.ref fTof) = true)
    (aRis : PySem.W.nsIn K mainGlobals "is_rising" = some (some (.ref fRis)))
    (lRis : K.lookup fRis = some ⟨ocRis, odRis, .func (PySem.W.fnOf "is_rising" "is_rising" (defArgs sRis) (defBody sRis) (defScope sRis) .none kVRis dcRis pmRis anRis cdRis ctRis), slRis⟩)
    (cRis : PySem.W.codeIn K cdRis "is_rising" = true)
    (kRis : PySem.W.keepIn K (.ref fRis) = true)
    (aWor : PySem.W.nsIn K mainGlobals "is_word" = some (some (.ref fWor)))
    (lWor : K.lookup fWor = some ⟨ocWor, odWor, .func (PySem.W.fnOf "is_word" "is_word" (defArgs sWor) (defBody sWor) (defScope sWor) .none kVWor dcWor pmWor anWor cdWor ctWor), slWor⟩)
    (cWor : PySem.W.codeIn K cdWor "is_word" = true)
    (kWor : PySem.W.keepIn K (.ref fWor) = true)
    (aItp : PySem.W.nsIn K mainGlobals "is_tree_place" = some (some (.ref fItp)))
    (lItp : K.lookup fItp = some ⟨ocItp, odItp, .func (PySem.W.fnOf "is_tree_place" "is_tree_place" (defArgs sItp) (defBody sItp) (defScope sItp) .none kVItp dcItp pmItp anItp cdItp ctItp), slItp⟩)
    (cItp : PySem.W.codeIn K cdItp "is_tree_place" = true)
    (kItp : PySem.W.keepIn K (.ref fItp) = true)
    (aNum : PySem.W.nsIn K mainGlobals "is_number" = some (some (.ref fNum)))
    (lNum : K.lookup fNum = some ⟨ocNum, odNum, .func (PySem.W.fnOf "is_number" "is_number" (defArgs sNum) (defBody sNum) (defScope sNum) .none kVNum dcNum pmNum anNum cdNum ctNum), slNum⟩)
    (cNum : PySem.W.codeIn K cdNum "is_number" = true)
    (kNum : PySem.W.keepIn K (.ref fNum) = true)
    (aLin : PySem.W.nsIn K mainGlobals "is_line" = some (some (.ref fLin)))
    (lLin : K.lookup fLin = some ⟨ocLin, odLin, .func (PySem.W.fnOf "is_line" "is_line" (defArgs sLin) (defBody sLin) (defScope sLin) .none kVLin dcLin pmLin anLin cdLin ctLin), slLin⟩)
    (cLin : PySem.W.codeIn K cdLin "is_line" = true)
    (kLin : PySem.W.keepIn K (.ref fLin) = true)
    (aHea : PySem.W.nsIn K mainGlobals "is_head" = some (some (.ref fHea)))
    (lHea : K.lookup fHea = some ⟨ocHea, odHea, .func (PySem.W.fnOf "is_head" "is_head" (defArgs sHea) (defBody sHea) (defScope sHea) .none kVHea dcHea pmHea anHea cdHea ctHea), slHea⟩)
    (cHea : PySem.W.codeIn K cdHea "is_head" = true)
    (kHea : PySem.W.keepIn K (.ref fHea) = true)
    (aAls : PySem.W.nsIn K mainGlobals "are_lines" = some (some (.ref fAls)))
    (lAls : K.lookup fAls = some ⟨ocAls, odAls, .func (PySem.W.fnOf "are_lines" "are_lines" (defArgs sAls) (defBody sAls) (defScope sAls) .none kVAls dcAls pmAls anAls cdAls ctAls), slAls⟩)
    (cAls : PySem.W.codeIn K cdAls "are_lines" = true)
    (kAls : PySem.W.keepIn K (.ref fAls) = true)
    (aAhs : PySem.W.nsIn K mainGlobals "are_heads" = some (some (.ref fAhs)))
    (lAhs : K.lookup fAhs = some ⟨ocAhs, odAhs, .func (PySem.W.fnOf "are_heads" "are_heads" (defArgs sAhs) (defBody sAhs) (defScope sAhs) .none kVAhs dcAhs pmAhs anAhs cdAhs ctAhs), slAhs⟩)
    (cAhs : PySem.W.codeIn K cdAhs "are_heads" = true)
    (kAhs : PySem.W.keepIn K (.ref fAhs) = true)
    (aTop : PySem.W.nsIn K mainGlobals "is_top" = some (some (.ref fTop)))
    (lTop : K.lookup fTop = some ⟨ocTop, odTop, .func (PySem.W.fnOf "is_top" "is_top" (defArgs sTop) (defBody sTop) (defScope sTop) .none kVTop dcTop pmTop anTop cdTop ctTop), slTop⟩)
    (cTop : PySem.W.codeIn K cdTop "is_top" = true)
    (kTop : PySem.W.keepIn K (.ref fTop) = true)
    (aCel : PySem.W.nsIn K mainGlobals "_law_at" = some (some (.ref fCel)))
    (lCel : K.lookup fCel = some ⟨ocCel, odCel, .func (PySem.W.fnOf "_law_at" "_law_at" (defArgs sCel) (defBody sCel) (defScope sCel) .none kVCel dcCel pmCel anCel cdCel ctCel), slCel⟩)
    (cCel : PySem.W.codeIn K cdCel "_law_at" = true)
    (kCel : PySem.W.keepIn K (.ref fCel) = true)
    (aMix : PySem.W.nsIn K mainGlobals "_law_mix" = some (some (.ref fMix)))
    (lMix : K.lookup fMix = some ⟨ocMix, odMix, .func (PySem.W.fnOf "_law_mix" "_law_mix" (defArgs sMix) (defBody sMix) (defScope sMix) .none kVMix dcMix pmMix anMix cdMix ctMix), slMix⟩)
    (cMix : PySem.W.codeIn K cdMix "_law_mix" = true)
    (kMix : PySem.W.keepIn K (.ref fMix) = true)
    (aWds : PySem.W.nsIn K mainGlobals "_law_words" = some (some (.ref fWds)))
    (lWds : K.lookup fWds = some ⟨ocWds, odWds, .func (PySem.W.fnOf "_law_words" "_law_words" (defArgs sWds) (defBody sWds) (defScope sWds) .none kVWds dcWds pmWds anWds cdWds ctWds), slWds⟩)
    (cWds : PySem.W.codeIn K cdWds "_law_words" = true)
    (kWds : PySem.W.keepIn K (.ref fWds) = true)
    (aNbr : PySem.W.nsIn K mainGlobals "_law_number" = some (some (.ref fNbr)))
    (lNbr : K.lookup fNbr = some ⟨ocNbr, odNbr, .func (PySem.W.fnOf "_law_number" "_law_number" (defArgs sNbr) (defBody sNbr) (defScope sNbr) .none kVNbr dcNbr pmNbr anNbr cdNbr ctNbr), slNbr⟩)
    (cNbr : PySem.W.codeIn K cdNbr "_law_number" = true)
    (kNbr : PySem.W.keepIn K (.ref fNbr) = true)
    (aLls : PySem.W.nsIn K mainGlobals "_law_lines" = some (some (.ref fLls)))
    (lLls : K.lookup fLls = some ⟨ocLls, odLls, .func (PySem.W.fnOf "_law_lines" "_law_lines" (defArgs sLls) (defBody sLls) (defScope sLls) .none kVLls dcLls pmLls anLls cdLls ctLls), slLls⟩)
    (cLls : PySem.W.codeIn K cdLls "_law_lines" = true)
    (kLls : PySem.W.keepIn K (.ref fLls) = true)
    (aLhs : PySem.W.nsIn K mainGlobals "_law_heads" = some (some (.ref fLhs)))
    (lLhs : K.lookup fLhs = some ⟨ocLhs, odLhs, .func (PySem.W.fnOf "_law_heads" "_law_heads" (defArgs sLhs) (defBody sLhs) (defScope sLhs) .none kVLhs dcLhs pmLhs anLhs cdLhs ctLhs), slLhs⟩)
    (cLhs : PySem.W.codeIn K cdLhs "_law_heads" = true)
    (kLhs : PySem.W.keepIn K (.ref fLhs) = true)
    (aWit : PySem.W.nsIn K mainGlobals "_law_with" = some (some (.ref fWit)))
    (lWit : K.lookup fWit = some ⟨ocWit, odWit, .func (PySem.W.fnOf "_law_with" "_law_with" (defArgs sWit) (defBody sWit) (defScope sWit) .none kVWit dcWit pmWit anWit cdWit ctWit), slWit⟩)
    (cWit : PySem.W.codeIn K cdWit "_law_with" = true)
    (kWit : PySem.W.keepIn K (.ref fWit) = true)
    (aNno : PySem.W.nsIn K mainGlobals "_law_no_number" = some (some (.ref fNno)))
    (lNno : K.lookup fNno = some ⟨ocNno, odNno, .func (PySem.W.fnOf "_law_no_number" "_law_no_number" (defArgs sNno) (defBody sNno) (defScope sNno) .none kVNno dcNno pmNno anNno cdNno ctNno), slNno⟩)
    (cNno : PySem.W.codeIn K cdNno "_law_no_number" = true)
    (kNno : PySem.W.keepIn K (.ref fNno) = true)
    (aNwo : PySem.W.nsIn K mainGlobals "_law_no_word" = some (some (.ref fNwo)))
    (lNwo : K.lookup fNwo = some ⟨ocNwo, odNwo, .func (PySem.W.fnOf "_law_no_word" "_law_no_word" (defArgs sNwo) (defBody sNwo) (defScope sNwo) .none kVNwo dcNwo pmNwo anNwo cdNwo ctNwo), slNwo⟩)
    (cNwo : PySem.W.codeIn K cdNwo "_law_no_word" = true)
    (kNwo : PySem.W.keepIn K (.ref fNwo) = true)
    (aBli : PySem.W.nsIn K mainGlobals "_law_bad_lines" = some (some (.ref fBli)))
    (lBli : K.lookup fBli = some ⟨ocBli, odBli, .func (PySem.W.fnOf "_law_bad_lines" "_law_bad_lines" (defArgs sBli) (defBody sBli) (defScope sBli) .none kVBli dcBli pmBli anBli cdBli ctBli), slBli⟩)
    (cBli : PySem.W.codeIn K cdBli "_law_bad_lines" = true)
    (kBli : PySem.W.keepIn K (.ref fBli) = true)
    (aBhe : PySem.W.nsIn K mainGlobals "_law_bad_heads" = some (some (.ref fBhe)))
    (lBhe : K.lookup fBhe = some ⟨ocBhe, odBhe, .func (PySem.W.fnOf "_law_bad_heads" "_law_bad_heads" (defArgs sBhe) (defBody sBhe) (defScope sBhe) .none kVBhe dcBhe pmBhe anBhe cdBhe ctBhe), slBhe⟩)
    (cBhe : PySem.W.codeIn K cdBhe "_law_bad_heads" = true)
    (kBhe : PySem.W.keepIn K (.ref fBhe) = true)
    (aBad : PySem.W.nsIn K mainGlobals "_law_bad" = some (some (.ref fBad)))
    (lBad : K.lookup fBad = some ⟨ocBad, odBad, .func (PySem.W.fnOf "_law_bad" "_law_bad" (defArgs sBad) (defBody sBad) (defScope sBad) .none kVBad dcBad pmBad anBad cdBad ctBad), slBad⟩)
    (cBad : PySem.W.codeIn K cdBad "_law_bad" = true)
    (kBad : PySem.W.keepIn K (.ref fBad) = true)
    (aLaw : PySem.W.nsIn K mainGlobals "law" = some (some (.ref fLaw)))
    (lLaw : K.lookup fLaw = some ⟨ocLaw, odLaw, .func (PySem.W.fnOf "law" "law" (defArgs sLaw) (defBody sLaw) (defScope sLaw) .none kVLaw dcLaw pmLaw anLaw cdLaw ctLaw), slLaw⟩)
    (cLaw : PySem.W.codeIn K cdLaw "law" = true)
    (kLaw : PySem.W.keepIn K (.ref fLaw) = true)
    (z0 : PySem.W.nsIn K mainGlobals "isinstance" = some none)
    (z1 : PySem.W.nsIn K mainGlobals "int" = some none)
    (z2 : PySem.W.nsIn K mainGlobals "bool" = some none)
    (z3 : PySem.W.nsIn K mainGlobals "str" = some none)
    (z4 : PySem.W.nsIn K mainGlobals "len" = some none)
    (z5 : PySem.W.nsIn K mainGlobals "range" = some none)
    (z6 : PySem.W.nsIn K mainGlobals "list" = some none)
    (z7 : PySem.W.nsIn K mainGlobals "tuple" = some none)
    (z8 : PySem.W.nsIn K mainGlobals "all" = some none)
    (z9 : PySem.W.nsIn K mainGlobals "zip" = some none)
    (z10 : PySem.W.nsIn K mainGlobals "sorted" = some none)
    (z11 : PySem.W.nsIn K mainGlobals "set" = some none)
    (gl0 : PySem.W.nsIn K mainGlobals "SIGNS" = some (some (.str sigS gt0)))
    (gl1 : PySem.W.nsIn K mainGlobals "MOST_SIGNS" = some (some (.int 8 gt1)))
    (gl2 : PySem.W.nsIn K mainGlobals "GREATEST" = some (some (.int 4294967295 gt2)))
    (gl3 : PySem.W.nsIn K mainGlobals "FIRST_PLACE" = some (some (.int 2 gt3)))
    (gl4 : PySem.W.nsIn K mainGlobals "LAST_PLACE" = some (some (.int 599 gt4)))
    (gl5 : PySem.W.nsIn K mainGlobals "MOST_HEADS" = some (some (.int 12 gt5))) :
    ∃ fd : FuncData, (∀ (s : Shared) (v : Value), BindsTo s fd ⟨[v], []⟩ [("_law_script", v)]) ∧ ∀ base : Heap, K.In base → base.Ns mainGlobals mg → FnOk l.prog w K mg base CX0 7 fa fd ["_law_script"] (spLaw K) := by
  have e := hfa.symm.trans (PySem.W.mg_of X G aLaw)
  cases e
  have T : Txt mg := ⟨PySem.W.mg_none_of X G z0, PySem.W.mg_none_of X G z1, PySem.W.mg_none_of X G z2, PySem.W.mg_none_of X G z3, PySem.W.mg_none_of X G z4, PySem.W.mg_none_of X G z5, PySem.W.mg_none_of X G z6, PySem.W.mg_none_of X G z7, PySem.W.mg_none_of X G z8, PySem.W.mg_none_of X G z9, PySem.W.mg_none_of X G z10, PySem.W.mg_none_of X G z11, ⟨_, PySem.W.mg_of X G gl0⟩, ⟨_, PySem.W.mg_of X G gl1⟩, ⟨_, PySem.W.mg_of X G gl2⟩, ⟨_, PySem.W.mg_of X G gl3⟩, ⟨_, PySem.W.mg_of X G gl4⟩, ⟨_, PySem.W.mg_of X G gl5⟩⟩
  have FWho := fun_mk (st := sWho) lWho cWho kWho
  have hWho : Has K mg "is_whole" sWho ["thing"] fWho _ := ⟨FWho, FWho.binds (ps := ["thing"]) fun _ _ _ _ _ _ us hl => match us, hl with | [_], _ => rfl, PySem.W.mg_of X G aWho⟩
  have FWth := fun_mk (st := sWth) lWth cWth kWth
  have hWth : Has K mg "is_within" sWth ["thing", "low", "high"] fWth _ := ⟨FWth, FWth.binds (ps := ["thing", "low", "high"]) fun _ _ _ _ _ _ us hl => match us, hl with | [_, _, _], _ => rfl, PySem.W.mg_of X G aWth⟩
  have FSta := fun_mk (st := sSta) lSta cSta kSta
  have hSta : Has K mg "is_stamp" sSta ["thing"] fSta _ := ⟨FSta, FSta.binds (ps := ["thing"]) fun _ _ _ _ _ _ us hl => match us, hl with | [_], _ => rfl, PySem.W.mg_of X G aSta⟩
  have FTof := fun_mk (st := sTof) lTof cTof kTof
  have hTof : Has K mg "is_tuple_of" sTof ["thing", "many"] fTof _ := ⟨FTof, FTof.binds (ps := ["thing", "many"]) fun _ _ _ _ _ _ us hl => match us, hl with | [_, _], _ => rfl, PySem.W.mg_of X G aTof⟩
  have FRis := fun_mk (st := sRis) lRis cRis kRis
  have hRis : Has K mg "is_rising" sRis ["things"] fRis _ := ⟨FRis, FRis.binds (ps := ["things"]) fun _ _ _ _ _ _ us hl => match us, hl with | [_], _ => rfl, PySem.W.mg_of X G aRis⟩
  have FWor := fun_mk (st := sWor) lWor cWor kWor
  have hWor : Has K mg "is_word" sWor ["thing"] fWor _ := ⟨FWor, FWor.binds (ps := ["thing"]) fun _ _ _ _ _ _ us hl => match us, hl with | [_], _ => rfl, PySem.W.mg_of X G aWor⟩
  have FItp := fun_mk (st := sItp) lItp cItp kItp
  have hItp : Has K mg "is_tree_place" sItp ["thing"] fItp _ := ⟨FItp, FItp.binds (ps := ["thing"]) fun _ _ _ _ _ _ us hl => match us, hl with | [_], _ => rfl, PySem.W.mg_of X G aItp⟩
  have FNum := fun_mk (st := sNum) lNum cNum kNum
  have hNum : Has K mg "is_number" sNum ["thing"] fNum _ := ⟨FNum, FNum.binds (ps := ["thing"]) fun _ _ _ _ _ _ us hl => match us, hl with | [_], _ => rfl, PySem.W.mg_of X G aNum⟩
  have FLin := fun_mk (st := sLin) lLin cLin kLin
  have hLin : Has K mg "is_line" sLin ["thing"] fLin _ := ⟨FLin, FLin.binds (ps := ["thing"]) fun _ _ _ _ _ _ us hl => match us, hl with | [_], _ => rfl, PySem.W.mg_of X G aLin⟩
  have FHea := fun_mk (st := sHea) lHea cHea kHea
  have hHea : Has K mg "is_head" sHea ["thing"] fHea _ := ⟨FHea, FHea.binds (ps := ["thing"]) fun _ _ _ _ _ _ us hl => match us, hl with | [_], _ => rfl, PySem.W.mg_of X G aHea⟩
  have FAls := fun_mk (st := sAls) lAls cAls kAls
  have hAls : Has K mg "are_lines" sAls ["thing"] fAls _ := ⟨FAls, FAls.binds (ps := ["thing"]) fun _ _ _ _ _ _ us hl => match us, hl with | [_], _ => rfl, PySem.W.mg_of X G aAls⟩
  have FAhs := fun_mk (st := sAhs) lAhs cAhs kAhs
  have hAhs : Has K mg "are_heads" sAhs ["thing", "lines"] fAhs _ := ⟨FAhs, FAhs.binds (ps := ["thing", "lines"]) fun _ _ _ _ _ _ us hl => match us, hl with | [_, _], _ => rfl, PySem.W.mg_of X G aAhs⟩
  have FTop := fun_mk (st := sTop) lTop cTop kTop
  have hTop : Has K mg "is_top" sTop ["thing", "place"] fTop _ := ⟨FTop, FTop.binds (ps := ["thing", "place"]) fun _ _ _ _ _ _ us hl => match us, hl with | [_, _], _ => rfl, PySem.W.mg_of X G aTop⟩
  have FCel := fun_mk (st := sCel) lCel cCel kCel
  have hCel : Has K mg "_law_at" sCel ["_law_script", "_law_k"] fCel _ := ⟨FCel, FCel.binds (ps := ["_law_script", "_law_k"]) fun _ _ _ _ _ _ us hl => match us, hl with | [_, _], _ => rfl, PySem.W.mg_of X G aCel⟩
  have FMix := fun_mk (st := sMix) lMix cMix kMix
  have hMix : Has K mg "_law_mix" sMix ["_law_cell", "_law_k"] fMix _ := ⟨FMix, FMix.binds (ps := ["_law_cell", "_law_k"]) fun _ _ _ _ _ _ us hl => match us, hl with | [_, _], _ => rfl, PySem.W.mg_of X G aMix⟩
  have FWds := fun_mk (st := sWds) lWds cWds kWds
  have hWds : Has K mg "_law_words" sWds ["_law_cell", "_law_many"] fWds _ := ⟨FWds, FWds.binds (ps := ["_law_cell", "_law_many"]) fun _ _ _ _ _ _ us hl => match us, hl with | [_, _], _ => rfl, PySem.W.mg_of X G aWds⟩
  have FNbr := fun_mk (st := sNbr) lNbr cNbr kNbr
  have hNbr : Has K mg "_law_number" sNbr ["_law_cell"] fNbr _ := ⟨FNbr, FNbr.binds (ps := ["_law_cell"]) fun _ _ _ _ _ _ us hl => match us, hl with | [_], _ => rfl, PySem.W.mg_of X G aNbr⟩
  have FLls := fun_mk (st := sLls) lLls cLls kLls
  have hLls : Has K mg "_law_lines" sLls ["_law_cell", "_law_words_here"] fLls _ := ⟨FLls, FLls.binds (ps := ["_law_cell", "_law_words_here"]) fun _ _ _ _ _ _ us hl => match us, hl with | [_, _], _ => rfl, PySem.W.mg_of X G aLls⟩
  have FLhs := fun_mk (st := sLhs) lLhs cLhs kLhs
  have hLhs : Has K mg "_law_heads" sLhs ["_law_cell", "_law_words_here", "_law_rows"] fLhs _ := ⟨FLhs, FLhs.binds (ps := ["_law_cell", "_law_words_here", "_law_rows"]) fun _ _ _ _ _ _ us hl => match us, hl with | [_, _, _], _ => rfl, PySem.W.mg_of X G aLhs⟩
  have FWit := fun_mk (st := sWit) lWit cWit kWit
  have hWit : Has K mg "_law_with" sWit ["_law_row", "_law_at_here", "_law_thing"] fWit _ := ⟨FWit, FWit.binds (ps := ["_law_row", "_law_at_here", "_law_thing"]) fun _ _ _ _ _ _ us hl => match us, hl with | [_, _, _], _ => rfl, PySem.W.mg_of X G aWit⟩
  have FNno := fun_mk (st := sNno) lNno cNno kNno
  have hNno : Has K mg "_law_no_number" sNno ["_law_cell"] fNno _ := ⟨FNno, FNno.binds (ps := ["_law_cell"]) fun _ _ _ _ _ _ us hl => match us, hl with | [_], _ => rfl, PySem.W.mg_of X G aNno⟩
  have FNwo := fun_mk (st := sNwo) lNwo cNwo kNwo
  have hNwo : Has K mg "_law_no_word" sNwo ["_law_cell"] fNwo _ := ⟨FNwo, FNwo.binds (ps := ["_law_cell"]) fun _ _ _ _ _ _ us hl => match us, hl with | [_], _ => rfl, PySem.W.mg_of X G aNwo⟩
  have FBli := fun_mk (st := sBli) lBli cBli kBli
  have hBli : Has K mg "_law_bad_lines" sBli ["_law_cell", "_law_rows"] fBli _ := ⟨FBli, FBli.binds (ps := ["_law_cell", "_law_rows"]) fun _ _ _ _ _ _ us hl => match us, hl with | [_, _], _ => rfl, PySem.W.mg_of X G aBli⟩
  have FBhe := fun_mk (st := sBhe) lBhe cBhe kBhe
  have hBhe : Has K mg "_law_bad_heads" sBhe ["_law_cell", "_law_heads_here"] fBhe _ := ⟨FBhe, FBhe.binds (ps := ["_law_cell", "_law_heads_here"]) fun _ _ _ _ _ _ us hl => match us, hl with | [_, _], _ => rfl, PySem.W.mg_of X G aBhe⟩
  have FBad := fun_mk (st := sBad) lBad cBad kBad
  have hBad : Has K mg "_law_bad" sBad ["_law_cell", "_law_top"] fBad _ := ⟨FBad, FBad.binds (ps := ["_law_cell", "_law_top"]) fun _ _ _ _ _ _ us hl => match us, hl with | [_, _], _ => rfl, PySem.W.mg_of X G aBad⟩
  have FLaw := fun_mk (st := sLaw) lLaw cLaw kLaw
  refine ⟨PySem.W.fnOf "law" "law" (defArgs sLaw) (defBody sLaw) (defScope sLaw) .none kVLaw dcLaw pmLaw anLaw cdLaw ctLaw, fun s v => .of_eq rfl, fun base _ _ => ?_⟩
  have GWho : FnOk l.prog w K mg base CX0 1 fWho _ ["thing"] spWho0 := ok_Who FWho T
  have GWth : FnOk l.prog w K mg base CX0 2 fWth _ ["thing", "low", "high"] spWth0 := ok_Wth FWth hWho GWho
  have GTof : FnOk l.prog w K mg base CX0 1 fTof _ ["thing", "many"] spTof := ok_Tof FTof T
  have GItp : FnOk l.prog w K mg base CX0 3 fItp _ ["thing"] spItp := ok_Itp FItp hWth GWth T
  have GSta : FnOk l.prog w K mg base CX0 3 fSta _ ["thing"] spSta := ok_Sta FSta hWth GWth T
  have GWor : FnOk l.prog w K mg base CX0 1 fWor _ ["thing"] spWor := ok_Wor FWor T
  have GNum : FnOk l.prog w K mg base CX0 3 fNum _ ["thing"] spNum := ok_Num FNum hWth GWth T
  have GRis : FnOk l.prog w K mg base CX0 1 fRis _ ["things"] spRis := ok_Ris FRis T
  have GLin : FnOk l.prog w K mg base CX0 4 fLin _ ["thing"] spLin := ok_Lin FLin hTof GTof hNum GNum hWor GWor T
  have GHea : FnOk l.prog w K mg base CX0 4 fHea _ ["thing"] spHea := ok_Hea FHea hTof GTof hNum GNum hSta GSta hItp GItp hWor GWor T
  have GAls : FnOk l.prog w K mg base CX0 5 fAls _ ["thing"] spAls := ok_Als FAls hLin GLin hRis GRis T
  have GAhs : FnOk l.prog w K mg base CX0 5 fAhs _ ["thing", "lines"] spAhs := ok_Ahs FAhs hHea GHea hRis GRis T
  have GTop : FnOk l.prog w K mg base CX0 6 fTop _ ["thing", "place"] spTop := ok_Top FTop hTof GTof hSta GSta hWor GWor hAls GAls hAhs GAhs T
  have GCel : FnOk l.prog w K mg base CX0 1 fCel _ ["_law_script", "_law_k"] (spCel K) := ok_Cel FCel T
  have GMix : FnOk l.prog w K mg base CX0 1 fMix _ ["_law_cell", "_law_k"] spMix := ok_Mix FMix T
  have GNbr : FnOk l.prog w K mg base CX0 1 fNbr _ ["_law_cell"] spNbr := ok_Nbr FNbr T
  have GWit : FnOk l.prog w K mg base CX0 1 fWit _ ["_law_row", "_law_at_here", "_law_thing"] spWit := ok_Wit FWit T
  have GNno : FnOk l.prog w K mg base CX0 1 fNno _ ["_law_cell"] spNno := ok_Nno FNno T
  have GNwo : FnOk l.prog w K mg base CX0 1 fNwo _ ["_law_cell"] spNwo := ok_Nwo FNwo T
  have GBli : FnOk l.prog w K mg base CX0 2 fBli _ ["_law_cell", "_law_rows"] spBli := ok_Bli FBli hWit GWit hNno GNno hNwo GNwo T
  have GBhe : FnOk l.prog w K mg base CX0 2 fBhe _ ["_law_cell", "_law_heads_here"] spBhe := ok_Bhe FBhe hWit GWit hNno GNno hNwo GNwo T
  have GBad : FnOk l.prog w K mg base CX0 3 fBad _ ["_law_cell", "_law_top"] spBad := ok_Bad FBad hWit GWit hNno GNno hNwo GNwo hBli GBli hBhe GBhe T
  have GWds : FnOk l.prog w K mg base CX0 2 fWds _ ["_law_cell", "_law_many"] spWds := ok_Wds FWds hMix GMix T
  have GLls : FnOk l.prog w K mg base CX0 2 fLls _ ["_law_cell", "_law_words_here"] spLls := ok_Lls FLls hMix GMix T
  have GLhs : FnOk l.prog w K mg base CX0 2 fLhs _ ["_law_cell", "_law_words_here", "_law_rows"] spLhs := ok_Lhs FLhs hMix GMix hNbr GNbr T
  exact ok_law FLaw hCel GCel hMix GMix hWds GWds hNbr GNbr hLls GLls hLhs GLhs hTop GTop hBad GBad T
theorem walk {l : PySem.W.OpenLaw} {q : Program} {loose : List Str} {XP : (Str → Option Value) → Heap → Prop} {YP : World → Heap → Prop} {d : DefRec} {K : Params → PySem.W.Frag} (hn : l.most = some 63) (hdf : d.params.defaults = [])
    (hY : ∀ (w : World) (h : Heap), YP w h → (K w.params).In h)
    (F : ∀ (w : World) (mg : Str → Option Value) (fa : Addr) (h : Heap), (K w.params).In h → h.Ns mainGlobals mg → mg d.name = some (.ref fa) →
      ∃ fd : FuncData, (∀ (s : Shared) (u : Value), BindsTo s fd ⟨[u], []⟩ [("_law_script", u)]) ∧ ∀ base : Heap, (K w.params).In base → base.Ns mainGlobals mg → FnOk l.prog w (K w.params) mg base CX0 7 fa fd ["_law_script"] (spLaw (K w.params))) :
    PySem.W.WalkO q loose XP YP l.row.toRowW d [] (fun f vs => PySem.call f vs) :=
  L2.walk_of (n := 63) (k := 7) (x := "_law_script") (CX := fun _ => CX0) (sp := fun w => spLaw (K w.params)) hn (by decide) hdf ⟨fun _ => rfl, by decide, by decide⟩ hY F (fun _ _ a ns hl _ hS => ⟨a, ns, rfl, hS, hl, fun _ => rfl⟩) fun _ _ _ _ _ z => z
end K51
open PySem PySem.W PyProof.Rows
set_option maxRecDepth 100000 in
set_option maxHeartbeats 0 in
theorem PySem.Challenge.cw_clonewood_k51_what_is_a_top_holds : PySem.Challenge.rw_clonewood_k51_what_is_a_top.Holds := by
  w_on; o_law; k_head; (case hw => w_witness2)
  k_fill
  refine K51.walk (l := PySem.Challenge.rw_clonewood_k51_what_is_a_top) rfl rfl (fun w h Y => PySem.W.kIn_of Y) ?F
  case F =>
    intro w mg fa h KX G hmg
    refine' K51.all_mk KX G hmg ?aWho ?lWho ?cWho ?kWho ?aWth ?lWth ?cWth ?kWth ?aSta ?lSta ?cSta ?kSta ?aTof ?lTof ?cTof ?kTof ?aRis ?lRis ?cRis ?kRis ?aWor ?lWor ?cWor ?kWor ?aItp ?lItp ?cItp ?kItp ?aNum ?lNum ?cNum ?kNum ?aLin ?lLin ?cLin ?kLin ?aHea ?lHea ?cHea ?kHea ?aAls ?lAls ?cAls ?kAls ?aAhs ?lAhs ?cAhs ?kAhs ?aTop ?lTop ?cTop ?kTop ?aCel ?lCel ?cCel ?kCel ?aMix ?lMix ?cMix ?kMix ?aWds ?lWds ?cWds ?kWds ?aNbr ?lNbr ?cNbr ?kNbr ?aLls ?lLls ?cLls ?kLls ?aLhs ?lLhs ?cLhs ?kLhs ?aWit ?lWit ?cWit ?kWit ?aNno ?lNno ?cNno ?kNno ?aNwo ?lNwo ?cNwo ?kNwo ?aBli ?lBli ?cBli ?kBli ?aBhe ?lBhe ?cBhe ?kBhe ?aBad ?lBad ?cBad ?kBad ?aLaw ?lLaw ?cLaw ?kLaw ?z0 ?z1 ?z2 ?z3 ?z4 ?z5 ?z6 ?z7 ?z8 ?z9 ?z10 ?z11 ?gl0 ?gl1 ?gl2 ?gl3 ?gl4 ?gl5
    (case aWho => k_is)
    (case lWho => k_is)
    (case cWho => k_is)
    (case kWho => k_is)
    (case aWth => k_is)
    (case lWth => k_is)
    (case cWth => k_is)
    (case kWth => k_is)
    (case aSta => k_is)
    (case lSta => k_is)
    (case cSta => k_is)
    (case kSta => k_is)
    (case aTof => k_is)
    (case lTof => k_is)
    (case cTof => k_is)
    (case kTof => k_is)
    (case aRis => k_is)
    (case lRis => k_is)
    (case cRis => k_is)
    (case kRis => k_is)
    (case aWor => k_is)
    (case lWor => k_is)
    (case cWor => k_is)
    (case kWor => k_is)
    (case aItp => k_is)
    (case lItp => k_is)
    (case cItp => k_is)
    (case kItp => k_is)
    (case aNum => k_is)
    (case lNum => k_is)
    (case cNum => k_is)
    (case kNum => k_is)
    (case aLin => k_is)
    (case lLin => k_is)
    (case cLin => k_is)
    (case kLin => k_is)
    (case aHea => k_is)
    (case lHea => k_is)
    (case cHea => k_is)
    (case kHea => k_is)
    (case aAls => k_is)
    (case lAls => k_is)
    (case cAls => k_is)
    (case kAls => k_is)
    (case aAhs => k_is)
    (case lAhs => k_is)
    (case cAhs => k_is)
    (case kAhs => k_is)
    (case aTop => k_is)
    (case lTop => k_is)
    (case cTop => k_is)
    (case kTop => k_is)
    (case aCel => k_is)
    (case lCel => k_is)
    (case cCel => k_is)
    (case kCel => k_is)
    (case aMix => k_is)
    (case lMix => k_is)
    (case cMix => k_is)
    (case kMix => k_is)
    (case aWds => k_is)
    (case lWds => k_is)
    (case cWds => k_is)
    (case kWds => k_is)
    (case aNbr => k_is)
    (case lNbr => k_is)
    (case cNbr => k_is)
    (case kNbr => k_is)
    (case aLls => k_is)
    (case lLls => k_is)
    (case cLls => k_is)
    (case kLls => k_is)
    (case aLhs => k_is)
    (case lLhs => k_is)
    (case cLhs => k_is)
    (case kLhs => k_is)
    (case aWit => k_is)
    (case lWit => k_is)
    (case cWit => k_is)
    (case kWit => k_is)
    (case aNno => k_is)
    (case lNno => k_is)
    (case cNno => k_is)
    (case kNno => k_is)
    (case aNwo => k_is)
    (case lNwo => k_is)
    (case cNwo => k_is)
    (case kNwo => k_is)
    (case aBli => k_is)
    (case lBli => k_is)
    (case cBli => k_is)
    (case kBli => k_is)
    (case aBhe => k_is)
    (case lBhe => k_is)
    (case cBhe => k_is)
    (case kBhe => k_is)
    (case aBad => k_is)
    (case lBad => k_is)
    (case cBad => k_is)
    (case kBad => k_is)
    (case aLaw => k_is)
    (case lLaw => k_is)
    (case cLaw => k_is)
    (case kLaw => k_is)
    (case z0 => k_is)
    (case z1 => k_is)
    (case z2 => k_is)
    (case z3 => k_is)
    (case z4 => k_is)
    (case z5 => k_is)
    (case z6 => k_is)
    (case z7 => k_is)
    (case z8 => k_is)
    (case z9 => k_is)
    (case z10 => k_is)
    (case z11 => k_is)
    (case gl0 => k_is)
    (case gl1 => k_is)
    (case gl2 => k_is)
    (case gl3 => k_is)
    (case gl4 => k_is)
    (case gl5 => k_is)
#print axioms PySem.Challenge.cw_clonewood_k51_what_is_a_top_holds
