import PyProof.Rows.All
import Wide.All
import OpenK.AllK
import Wide.FinOn
import Lean
import PyProof.EqAt
import PyProof.EqKinds
import PyProof.NeKinds
import PyProof.TupleCall
import PySem.Challenge.RW_clonewood_k05_refusals
set_option Elab.async false
set_option linter.all false
set_option maxRecDepth 100000
/-! THE HAND LAYER, for ints, bools, texts, own classes, LISTS and tuples (index, slices, in, append, pop ..), calls, loops. Paste it whole ahead of your own text; what your proof does not reach may be deleted. -/
namespace L2
open PySem PySem.Spec PyProof.Rows

/-- a key: an int or a str -/
abbrev Key := Sum Int Str
def keyIs : Key → Value → Bool
  | .inl k, v => Value.isInt k v
  | .inr x, v => Value.isStrOf x v
def keyH (w : World) : Key → Int
  | .inl k => hashInt k
  | .inr x => hashStr w x
theorem keyIs_shape : ∀ {k : Key} {v : Value}, keyIs k v = true → (∃ i t, k = Sum.inl i ∧ v = Value.int i t) ∨ (∃ x t, k = Sum.inr x ∧ v = Value.str x t)
  | .inl i, v, h => by
    obtain ⟨t, e⟩ := Value.isInt_shape (k := i) (v := v) h
    exact .inl ⟨i, t, rfl, e⟩
  | .inr x, v, h => by
    obtain ⟨t, e⟩ := Value.isStrOf_shape (x := x) (v := v) h
    exact .inr ⟨x, t, rfl, e⟩
theorem keyIs_int (i : Int) (t : Tok) : keyIs (.inl i) (.int i t) = true := by simp [keyIs, Value.isInt]
theorem keyIs_str (x : Str) (t : Tok) : keyIs (.inr x) (.str x t) = true := by simp [keyIs, Value.isStrOf]
theorem key_ll (a b : Int) : decide ((Sum.inl a : Key) = Sum.inl b) = (a == b) := by
  by_cases e : a = b
  · subst e; simp
  · have h : ¬ (Sum.inl a : Key) = Sum.inl b := fun q => e (Sum.inl.inj q)
    rw [decide_eq_false h]
    exact (beq_eq_false_iff_ne.mpr e).symm
theorem key_rr (a b : Str) : decide ((Sum.inr a : Key) = Sum.inr b) = decide (a = b) := by
  by_cases e : a = b
  · subst e; simp
  · have h : ¬ (Sum.inr a : Key) = Sum.inr b := fun q => e (Sum.inr.inj q)
    rw [decide_eq_false h, decide_eq_false e]
theorem key_lr (a : Int) (b : Str) : decide ((Sum.inl a : Key) = Sum.inr b) = false := decide_eq_false (fun q => nomatch q)
theorem key_rl (a : Str) (b : Int) : decide ((Sum.inr a : Key) = Sum.inl b) = false := decide_eq_false (fun q => nomatch q)

def mixKind (prog : Program) (w : World) : PySem.KeyKind prog w Key where
  is := keyIs
  hash := keyH w
  inj := fun v a b ha hb => by
    rcases keyIs_shape ha with ⟨i, t, rfl, rfl⟩ | ⟨x, t, rfl, rfl⟩
    · rcases keyIs_shape hb with ⟨j, u, rfl, e⟩ | ⟨y, u, rfl, e⟩
      · injection e with e1 _; rw [e1]
      · exact nomatch e
    · rcases keyIs_shape hb with ⟨j, u, rfl, e⟩ | ⟨y, u, rfl, e⟩
      · exact nomatch e
      · injection e with e1 _; rw [e1]
  byValue := fun k v h => by
    rcases keyIs_shape h with ⟨i, t, rfl, rfl⟩ | ⟨x, t, rfl, rfl⟩ <;> rfl
  pyHash := fun hv h => by
    rcases keyIs_shape hv with ⟨i, t, rfl, rfl⟩ | ⟨x, t, rfl, rfl⟩
    · exact wpAny_pyHash_int h
    · exact wpAny_pyHash_str h
  eqBool := fun hu hv h => by
    rcases keyIs_shape hu with ⟨i, t, rfl, rfl⟩ | ⟨x, t, rfl, rfl⟩
    · rcases keyIs_shape hv with ⟨j, u, rfl, rfl⟩ | ⟨y, u, rfl, rfl⟩
      · rw [key_ll] at h; exact wpAny_eqBool_int h
      · rw [key_lr] at h; exact SeqAt.EqAt.int_str i t y u _ _ _ _ h
    · rcases keyIs_shape hv with ⟨j, u, rfl, rfl⟩ | ⟨y, u, rfl, rfl⟩
      · rw [key_rl] at h; exact SeqAt.EqAt.str_int x t j u _ _ _ _ h
      · rw [key_rr] at h; exact wpAny_eqBool_str h
  «strs» := fun k x t v h => by
    rcases keyIs_shape h with ⟨i, u, rfl, e⟩ | ⟨y, u, rfl, e⟩
    · exact nomatch e
    · injection e with e1 _
      subst e1
      cases v <;> rfl

theorem mixKind_is (prog : Program) (w : World) (k : Key) (v : Value) : (mixKind prog w).is k v = keyIs k v := rfl
theorem mixKind_int (prog : Program) (w : World) (i : Int) (t : Tok) : (mixKind prog w).is (.inl i) (.int i t) = true := keyIs_int i t
theorem mixKind_str (prog : Program) (w : World) (x : Str) (t : Tok) : (mixKind prog w).is (.inr x) (.str x t) = true := keyIs_str x t
end L2

namespace L2
open PySem PySem.Spec PyProof.Rows

/-- a value, without the heap -/
inductive V where
  | non | bl (b : Bool) | int (i : Int) | str (x : Str) | byt (b : Array UInt8) | flt (b : UInt64) | ref (a : Addr) | ty (n : String)
  deriving DecidableEq

def RelV : V → Value → Prop
  | .non, u => u = Value.none
  | .bl b, u => u = Value.bool b
  | .int i, u => ∃ t, u = Value.int i t
  | .str x, u => ∃ t, u = Value.str x t
  | .byt b, u => ∃ t, u = Value.bytes b t
  | .flt b, u => ∃ t, u = Value.float b t
  | .ref a, u => u = Value.ref a
  | .ty n, u => u = Value.type n

abbrev Vals : List V → List Value → Prop := Paired RelV
theorem Vals.length {xs : List V} {us : List Value} (r : Vals xs us) : xs.length = us.length := Paired.length r
theorem Vals.get : ∀ {xs : List V} {us : List Value} {i : Nat} {x : V}, Vals xs us → xs[i]? = some x → ∃ u, us[i]? = some u ∧ RelV x u
  | _, _, _, _, .nil, e => by simp at e
  | _, _, 0, _, .cons r _, e => by simp at e; subst e; exact ⟨_, rfl, r⟩
  | _, _, i + 1, x, .cons _ t, e => by
    obtain ⟨u, h1, h2⟩ := Vals.get (i := i) (x := x) t (by simpa using e)
    exact ⟨u, by simpa using h1, h2⟩
theorem Vals.set {x : V} {u : Value} (r : RelV x u) : ∀ {xs : List V} {us : List Value} (i : Nat), Vals xs us → Vals (xs.set i x) (us.set i u)
  | _, _, _, .nil => .nil
  | _, _, 0, .cons _ t => .cons r t
  | _, _, i + 1, .cons q t => .cons q (Vals.set r i t)
theorem Vals.append : ∀ {xs ys : List V} {us ws : List Value}, Vals xs us → Vals ys ws → Vals (xs ++ ys) (us ++ ws)
  | _, _, _, _, .nil, s => s
  | _, _, _, _, .cons r t, s => .cons r (Vals.append t s)
theorem Vals.take : ∀ {xs : List V} {us : List Value} (n : Nat), Vals xs us → Vals (xs.take n) (us.take n)
  | _, _, 0, _ => .nil
  | _, _, _ + 1, .nil => .nil
  | _, _, n + 1, .cons r t => .cons r (Vals.take n t)
theorem Vals.drop : ∀ {xs : List V} {us : List Value} (n : Nat), Vals xs us → Vals (xs.drop n) (us.drop n)
  | _, _, 0, r => r
  | _, _, _ + 1, .nil => .nil
  | _, _, n + 1, .cons _ t => Vals.drop n t
theorem Vals.none_of : ∀ {xs : List V} {us : List Value} {i : Nat}, Vals xs us → xs[i]? = none → us[i]? = none := fun {xs us i} r e => by
  have h1 := r.length
  have h2 : xs.length ≤ i := List.getElem?_eq_none_iff.mp e
  exact List.getElem?_eq_none_iff.mpr (by omega)

def RelO : Option V → Option Value → Prop
  | some v, some u => RelV v u
  | none, none => True
  | _, _ => False
def KV {κ : Type} : List (κ × V) → List (κ × Value) → Prop := Paired fun (p : κ × V) (q : κ × Value) => p.1 = q.1 ∧ RelV p.2 q.2

/-- a key of a dict (00_mix): an int or a text -/
def kV : Key → V
  | .inl i => .int i
  | .inr x => .str x

/-- what stands at a tracked address -/
inductive HO where
  /-- a list -/
  | lst (xs : List V)
  /-- a tuple (never changes) -/
  | tup (xs : List V)
  /-- a dict whose keys are ints and texts; one whose keys are tuples of ints and texts (the empty one is both) -/
  | dK (kvs : List (Key × V)) | dT (kvs : List (List Key × V))
  /-- a set of ints: its members, its size -/
  | set (S : Int → Bool) (n : Nat)
  /-- an instance of the class at C, its dict at dx, its attributes -/
  | ins (C dx : Addr) (fs : List (Str × V))
  /-- the dict of the instance at x -/
  | own (x : Addr)
  /-- the dict of an exception -/
  | xd (fs : List (Str × V))
  /-- a bound method, f of x -/
  | met (f x : Addr)
  /-- a range object lo, lo + 1, .. below hi -/
  | rng (lo hi : Int)
  /-- a thing that is known to the object (the script; a dict while a loop walks it): read, never written while it is so -/
  | frz (o : Obj) (u : HO)
  /-- a code object's table -/
  | tbl (ps : Array Value)
  /-- any other thing, by what is true of its one object (a def of one's own: SetO a S n := HO.ext fun h => ..) -/
  | ext (φ : Heap → Prop)

abbrev Hp := Addr → Option HO
def upd (H : Hp) (a : Addr) (o : HO) : Hp := fun b => if b = a then some o else H b
theorem upd_same {H : Hp} {a : Addr} {o : HO} : upd H a o a = some o := by unfold upd; rw [if_pos rfl]
theorem upd_ne {H : Hp} {a b : Addr} {o : HO} (h : b ≠ a) : upd H a o b = H b := by unfold upd; rw [if_neg h]
theorem upd_upd {H : Hp} {a : Addr} {o u : HO} : upd (upd H a o) a u = upd H a u := by
  funext b; unfold upd; split <;> rfl
/-- two objects of different content stand apart -/
theorem ne_of {H : Hp} {a b : Addr} {o u : HO} (h : H a = some o) (h' : H b = some u) (d : o ≠ u) : a ≠ b := by
  intro e; subst e; rw [h] at h'; exact d (Option.some.inj h')
theorem ne_of_none {H : Hp} {a b : Addr} {o : HO} (h : H a = some o) (h' : H b = none) : a ≠ b := by
  intro e; subst e; rw [h] at h'; cases h'

section
variable (P : Program) (w : World)
def ObjOk (H : Hp) (h : Heap) (a : Addr) : HO → Prop
  | .lst xs => xs.length ≤ sizeLine ∧ ∃ (its : List Value) (n : Nat), Vals xs its ∧ h.get? a = some { cls := .type "list", data := .seq its.toArray n }
  | .tup xs => xs.length ≤ sizeLine ∧ ∃ its : List Value, Vals xs its ∧ IsTup h a its.toArray
  | .dK kvs => kvs.length ≤ sizeLine ∧ (a == sysModules) = false ∧ ∃ vs, KV kvs vs ∧ h.DictOf (mixKind P w) a vs
  | .dT kvs => kvs.length ≤ sizeLine ∧ (a == sysModules) = false ∧ ∃ xs : List (List Key × Addr × Value),
      Paired (fun (p : List Key × V) (q : List Key × Addr × Value) => p.1 = q.1 ∧ H q.2.1 = some (.tup (p.1.map kV)) ∧ RelV p.2 q.2.2) kvs xs ∧
      ∃ o es ep, h.get? a = some o ∧ o.ExactDict ∧ o.data = .dict es ep ∧ es.toList = xs.map (entryOfKey (tupleKind (mixKind P w))) ∧ (xs.map (·.1)).Nodup
  | .set S n => h.SetOf (intKind P w) a S n
  | .ins C dx fs => H dx = some (.own a) ∧ fs.length ≤ 1000 ∧ dx ≠ a ∧ h.get? a = some (PySem.W.instObj C dx) ∧
      ∃ mA, h.Ns1 dx mA ∧ (∀ f, RelO (fs.lookup f) (mA f)) ∧ PySem.Within mA (fs.map (·.1))
  | .own _ => ∃ o, h.get? a = some o
  | .xd fs => ∃ mA, h.Ns1 a mA ∧ ∀ f, RelO (fs.lookup f) (mA f)
  | .rng lo hi => ∃ t u v, h.get? a = some { cls := .type "range", data := .fields #[.int lo t, .int hi u, .int 1 v] }
  | .frz o u => h.get? a = some o ∧ ObjOk H h a u
  | .tbl ps => h.get? a = some { cls := .none, data := .fields ps }
  | .met f x => h.get? a = some (PySem.W.methodObj (.ref f) (.ref x))
  | .ext φ => φ h ∧ (∃ o, h.get? a = some o) ∧ ∀ h1 h2 : Heap, φ h1 → (∀ o, h1.get? a = some o → h2.get? a = some o) → φ h2
/-- the abstract heap is held -/
def HOk (H : Hp) (h : Heap) : Prop := ∀ a o, H a = some o → ObjOk P w H h a o
end

section
variable {P : Program} {w : World} {H H' : Hp} {h h' : Heap} {a : Addr} {o : HO}
theorem ObjOk.lt (x : ObjOk P w H h a o) : a < h.objs.size := by
  cases o with
  | lst xs => obtain ⟨_, _, _, _, e⟩ := x; exact Heap.lt_size e
  | tup xs => obtain ⟨_, _, _, p⟩ := x; exact p.lt
  | dK kvs => obtain ⟨_, _, _, _, o, _, _, e, _⟩ := x; exact Heap.lt_size e
  | dT kvs => obtain ⟨_, _, _, _, o, _, _, e, _⟩ := x; exact Heap.lt_size e
  | set S n => obtain ⟨o, _, _, _, e, _⟩ := x; exact Heap.lt_size e
  | ins C dx fs => obtain ⟨_, _, _, e, _⟩ := x; exact Heap.lt_size e
  | own y => obtain ⟨_, e⟩ := x; exact Heap.lt_size e
  | xd fs => obtain ⟨_, ⟨_, _, _, e, _⟩, _⟩ := x; exact Heap.lt_size e
  | rng lo hi => obtain ⟨_, _, _, e⟩ := x; exact Heap.lt_size e
  | frz ob u => obtain ⟨e, _⟩ := x; exact Heap.lt_size e
  | tbl ps => exact Heap.lt_size (show h.get? a = some _ from x)
  | met f y => exact Heap.lt_size (show h.get? a = some _ from x)
  | ext φ => obtain ⟨_, ⟨_, e⟩, _⟩ := x; exact Heap.lt_size e
theorem Paired.mapP {α β : Type} {F G : α → β → Prop} : ∀ {l₁ : List α} {l₂ : List β}, Paired F l₁ l₂ → (∀ a b, F a b → G a b) → Paired G l₁ l₂
  | _, _, .nil, _ => .nil
  | _, _, .cons r t, f => .cons (f _ _ r) (Paired.mapP t f)
theorem Paired.imp' {α β : Type} {F G : α → β → Prop} (f : ∀ a b, F a b → G a b) {l₁ : List α} {l₂ : List β} (r : Paired F l₁ l₂) : Paired G l₁ l₂ := Paired.mapP r f
/-- what an object's description leans on: its own object, its own dict, the tuples -/
theorem ObjOk.stay (x : ObjOk P w H h a o) (k : ∀ b u, (b = a ∨ H b = some (.own a)) → h.get? b = some u → h'.get? b = some u)
    (ho : ∀ b, H b = some (.own a) → H' b = some (.own a)) (ht : ∀ b xs, H b = some (.tup xs) → H' b = some (.tup xs)) : ObjOk P w H' h' a o := by
  induction o with
  | lst xs => obtain ⟨z, its, n, r, e⟩ := x; exact ⟨z, its, n, r, k _ _ (.inl rfl) e⟩
  | tup xs => obtain ⟨z, its, r, ob, e, c⟩ := x; exact ⟨z, its, r, ob, k _ _ (.inl rfl) e, c⟩
  | dK kvs => obtain ⟨z, y, vs, r, ob, es, ep, e, c⟩ := x; exact ⟨z, y, vs, r, ob, es, ep, k _ _ (.inl rfl) e, c⟩
  | dT kvs =>
    obtain ⟨z, y, xs, r, ob, es, ep, e, c⟩ := x
    exact ⟨z, y, xs, Paired.mapP r fun p q z => ⟨z.1, ht _ _ z.2.1, z.2.2⟩, ob, es, ep, k _ _ (.inl rfl) e, c⟩
  | set S n => obtain ⟨ob, es, ep, t, e, c⟩ := x; exact ⟨ob, es, ep, t, k _ _ (.inl rfl) e, c⟩
  | ins C dx fs =>
    obtain ⟨d, z, ne, e, mA, ⟨od, es, ep, e2, c⟩, r⟩ := x
    exact ⟨ho _ d, z, ne, k _ _ (.inl rfl) e, mA, ⟨od, es, ep, k _ _ (.inr d) e2, c⟩, r⟩
  | own y => obtain ⟨ob, e⟩ := x; exact ⟨ob, k _ _ (.inl rfl) e⟩
  | xd fs => obtain ⟨mA, ⟨od, es, ep, e, c⟩, r⟩ := x; exact ⟨mA, ⟨od, es, ep, k _ _ (.inl rfl) e, c⟩, r⟩
  | rng lo hi => obtain ⟨t, u, v, e⟩ := x; exact ⟨t, u, v, k _ _ (.inl rfl) e⟩
  | frz ob u ih => obtain ⟨e, q⟩ := x; exact ⟨k _ _ (.inl rfl) e, ih q⟩
  | tbl ps =>
    have e : h.get? a = some { cls := .none, data := .fields ps } := x
    show h'.get? a = some { cls := .none, data := .fields ps }
    exact k a _ (.inl rfl) e
  | met f y =>
    have e : h.get? a = some (PySem.W.methodObj (.ref f) (.ref y)) := x
    show h'.get? a = some (PySem.W.methodObj (.ref f) (.ref y))
    exact k a _ (.inl rfl) e
  | ext φ => obtain ⟨p, ⟨o, e⟩, st⟩ := x; exact ⟨st _ _ p fun o q => k _ _ (.inl rfl) q, ⟨o, k _ _ (.inl rfl) e⟩, st⟩
theorem HOk.lt (x : HOk P w H h) (e : H a = some o) : a < h.objs.size := (x a o e).lt
theorem HOk.fresh (x : HOk P w H h) (e : h.objs.size ≤ a) : H a = none := by
  cases q : H a with
  | none => rfl
  | some u => exact absurd (Nat.lt_of_lt_of_le (x.lt q) e) (Nat.lt_irrefl _)
/-- every object of the heap is kept -/
theorem HOk.kept (x : HOk P w H h) (k : ∀ b u, h.get? b = some u → h'.get? b = some u) : HOk P w H h' := fun a o e =>
  (x a o e).stay (fun b u _ q => k b u q) (fun _ q => q) fun _ _ q => q
/-- a new object is laid and tracked -/
theorem HOk.laid (x : HOk P w H h) (k : ∀ b u, h.get? b = some u → h'.get? b = some u) (hp : h.objs.size ≤ a) (new : ObjOk P w (upd H a o) h' a o) : HOk P w (upd H a o) h' := fun b u e => by
  have hn := x.fresh hp
  by_cases hb : b = a
  · subst hb; rw [upd_same] at e; cases e; exact new
  · rw [upd_ne hb] at e
    exact (x b u e).stay (fun c v _ q => k c v q) (fun c q => by rw [upd_ne (ne_of_none q hn)]; exact q) fun c xs q => by rw [upd_ne (ne_of_none q hn)]; exact q
end

/-- what may be read as u: it is u, or a known u -/
def Rd (H : Hp) (a : Addr) (u : HO) : Prop := H a = some u ∨ ∃ o, H a = some (.frz o u)
theorem Rd.of {H : Hp} {a : Addr} {u : HO} (h : H a = some u) : Rd H a u := .inl h
theorem Rd.ok {P : Program} {w : World} {H : Hp} {h : Heap} {a : Addr} {u : HO} (r : Rd H a u) (x : HOk P w H h) : ObjOk P w H h a u := by
  rcases r with r | ⟨o, r⟩
  · exact x a u r
  · obtain ⟨_, q⟩ := x a _ r
    exact q
/-- what may be written -/
def Mut : Option HO → Prop
  | some (.lst _) => True
  | some (.dK _) => True
  | some (.dT _) => True
  | some (.set _ _) => True
  | some (.ins _ _ _) => True
  | some (.ext _) => True
  | _ => False
section
variable {P : Program} {w : World} {H : Hp} {h h' : Heap} {x e : Addr} {o' : HO}
/-- the object at e is changed: x itself, or the dict of the instance x -/
theorem HOk.write (ok : HOk P w H h) (mu : Mut (H x)) (he : e = x ∨ H e = some (.own x)) (k : ∀ b u, b ≠ e → h.get? b = some u → h'.get? b = some u) (heo : ∃ u, h'.get? e = some u)
    (new : ObjOk P w (upd H x o') h' x o') : HOk P w (upd H x o') h' := fun b u q => by
  have nown : ∀ c y, H c = some (.own y) → c ≠ x := fun c y r z => by subst z; rw [r] at mu; exact mu
  have ntup : ∀ c xs, H c = some (.tup xs) → c ≠ x := fun c xs r z => by subst z; rw [r] at mu; exact mu
  by_cases hb : b = x
  · subst hb; rw [upd_same] at q; cases q; exact new
  · rw [upd_ne hb] at q
    by_cases hbe : b = e
    · have q' : H b = some (.own x) := by
        rcases he with z | z
        · exact absurd (hbe.trans z) hb
        · rw [hbe]; exact z
      rw [q] at q'; cases q'
      obtain ⟨v, hv⟩ := heo
      exact ⟨v, by rw [hbe]; exact hv⟩
    · refine (ok b u q).stay (fun c v hc r => k c v ?_ r) (fun c r => by rw [upd_ne (nown c b r)]; exact r) fun c xs r => by rw [upd_ne (ntup c xs r)]; exact r
      rcases hc with rfl | hc
      · exact hbe
      · rintro rfl
        rcases he with z | z
        · exact nown c b hc z
        · rw [hc] at z; cases z; exact hb rfl
end

/-! ### kept unless tracked; of the frames at fs (the callers') the slots may change (an exception that passes writes there); of the records at ex (iterators) nothing is said -/
structure Un (fs ex : List Addr) (H H' : Hp) (h h' : Heap) : Prop where
  keep : ∀ b o, h.get? b = some o → H b = none → b ∉ fs → b ∉ ex → h'.get? b = some o
  slot : ∀ b o, h.get? b = some o → H b = none → b ∈ fs → b ∉ ex → ∃ sl, h'.get? b = some { o with slots := sl }
  free : ∀ b o, h.get? b = some o → H b = none → b ∉ ex → H' b = none
  there : ∀ b o, h.get? b = some o → b ∉ ex → ∃ o', h'.get? b = some o'
  tups : ∀ b xs, H b = some (.tup xs) → H' b = some (.tup xs)
  frzs : ∀ b o u, H b = some (.frz o u) → H' b = some (.frz o u)
  tbls : ∀ b ps, H b = some (.tbl ps) → ∃ more, H' b = some (.tbl (ps ++ more))
section
variable {fs fs' ex ex' : List Addr} {H H1 H2 : Hp} {h h1 h2 h' : Heap} {a x e : Addr} {o : HO}
theorem Un.any (u : Un fs ex H H1 h h1) {b : Addr} {ob : Obj} (q : h.get? b = some ob) (n : H b = none) (hx : b ∉ ex) : ∃ sl, h1.get? b = some { ob with slots := sl } := by
  by_cases hb : b ∈ fs
  · exact u.slot b ob q n hb hx
  · exact ⟨ob.slots, u.keep b ob q n hb hx⟩
theorem Un.trans (a : Un fs ex H H1 h h1) (b : Un fs ex H1 H2 h1 h2) : Un fs ex H H2 h h2 where
  keep := fun c ob q n hc hx => b.keep c ob (a.keep c ob q n hc hx) (a.free c ob q n hx) hc hx
  slot := fun c ob q n hc hx => by
    obtain ⟨sl, e1⟩ := a.slot c ob q n hc hx
    obtain ⟨sl', e2⟩ := b.slot c _ e1 (a.free c ob q n hx) hc hx
    exact ⟨sl', e2⟩
  free := fun c ob q n hx => by
    obtain ⟨o', e1⟩ := a.there c ob q hx
    exact b.free c o' e1 (a.free c ob q n hx) hx
  there := fun c ob q hx => by
    obtain ⟨o', e1⟩ := a.there c ob q hx
    exact b.there c o' e1 hx
  tups := fun c xs q => b.tups c xs (a.tups c xs q)
  frzs := fun c ob xs q => b.frzs c ob xs (a.frzs c ob xs q)
  tbls := fun c ps q => by
    obtain ⟨m1, e1⟩ := a.tbls c ps q
    obtain ⟨m2, e2⟩ := b.tbls c _ e1
    exact ⟨m1 ++ m2, by rw [e2, Array.append_assoc]⟩
theorem Un.kept (k : ∀ b u, h.get? b = some u → h'.get? b = some u) : Un fs ex H H h h' :=
  ⟨fun b ob q _ _ _ => k b ob q, fun b ob q _ _ _ => ⟨ob.slots, k b ob q⟩, fun _ _ _ n _ => n, fun b ob q _ => ⟨ob, k b ob q⟩, fun _ _ q => q, fun _ _ _ q => q, fun _ ps q => ⟨#[], by rw [q]; simp⟩⟩
theorem Un.refl : Un fs ex H H h h := Un.kept fun _ _ q => q
theorem Un.laid (k : ∀ b u, h.get? b = some u → h'.get? b = some u) (hp : h.objs.size ≤ a) (hn : H a = none) : Un fs ex H (upd H a o) h h' where
  keep := fun b u q _ _ _ => k b u q
  slot := fun b u q _ _ _ => ⟨u.slots, k b u q⟩
  free := fun b u q n _ => by rw [upd_ne (Nat.ne_of_lt (Nat.lt_of_lt_of_le (Heap.lt_size q) hp))]; exact n
  there := fun b u q _ => ⟨u, k b u q⟩
  tups := fun b xs q => by rw [upd_ne (ne_of_none q hn)]; exact q
  frzs := fun b u xs q => by rw [upd_ne (ne_of_none q hn)]; exact q
  tbls := fun b ps q => ⟨#[], by rw [upd_ne (ne_of_none q hn), q]; simp⟩
theorem Un.write (mu : Mut (H x)) (he : e = x ∨ H e = some (.own x)) (k : ∀ b u, b ≠ e → h.get? b = some u → h'.get? b = some u) (heo : ∃ u, h'.get? e = some u) : Un fs ex H (upd H x o) h h' := by
  have hx : ∀ b, H b = none → b ≠ x := fun b n z => by subst z; rw [n] at mu; exact mu
  have hb : ∀ b, H b = none → b ≠ e := fun b n z => by
    subst z
    rcases he with r | r
    · exact hx b n r
    · rw [n] at r; cases r
  have hm : ∀ b u, H b = some u → ¬ Mut (some u) → b ≠ x := fun b u q nm z => by subst z; rw [q] at mu; exact nm mu
  refine ⟨fun b u q n _ _ => k b u (hb b n) q, fun b u q n _ _ => ⟨u.slots, k b u (hb b n) q⟩, fun b u q n _ => by rw [upd_ne (hx b n)]; exact n, fun b u q _ => ?_,
    fun b xs q => by rw [upd_ne (hm b _ q fun z => z)]; exact q, fun b u xs q => by rw [upd_ne (hm b _ q fun z => z)]; exact q, fun b ps q => ⟨#[], by rw [upd_ne (hm b _ q fun z => z), q]; simp⟩⟩
  by_cases hbe : b = e
  · subst hbe; exact heo
  · exact ⟨u, k b u hbe q⟩
theorem Un.mono (u : Un fs ex H H1 h h1) (hs : ∀ b ∈ fs, b ∈ fs') (hx : ∀ b ∈ ex, b ∈ ex') : Un fs' ex' H H1 h h1 :=
  ⟨fun b ob q n hb he => u.keep b ob q n (fun z => hb (hs b z)) fun z => he (hx b z), fun _ _ q n _ he => u.any q n fun z => he (hx _ z), fun b ob q n he => u.free b ob q n fun z => he (hx b z), fun b ob q he => u.there b ob q fun z => he (hx b z), u.tups, u.frzs, u.tbls⟩
end

/-! ### the heap without what is tracked -/
def trk (h : Heap) (H : Hp) : List Addr := (List.range h.objs.size).filter fun a => (H a).isSome
def hidT (h : Heap) (H : Hp) : Heap := PySem.W.hideAll h (trk h H)
theorem hidT_size (h : Heap) (H : Hp) : (hidT h H).objs.size = h.objs.size := PySem.W.hideAll_size _ _
theorem hidT_get {h : Heap} {H : Hp} {b : Addr} {o : Obj} (e : h.get? b = some o) (n : H b = none) : (hidT h H).get? b = some o :=
  PySem.W.hideAll_get _ e fun hm => by
    have q : (H b).isSome = true := (List.mem_filter.mp hm).2
    rw [n] at q; simp at q
theorem of_hidT {h : Heap} {H : Hp} {b : Addr} {o : Obj} (e : (hidT h H).get? b = some o) : h.get? b = some o ∧ H b = none := by
  have e' : h.get? b = some o := PySem.W.of_hideAll (trk h H) e
  refine ⟨e', ?_⟩
  cases q : H b with
  | none => rfl
  | some x =>
    have hm : b ∈ trk h H := List.mem_filter.mpr ⟨List.mem_range.mpr (Heap.lt_size e'), by simp [q]⟩
    have z : (hidT h H).get? b = none := PySem.W.hideAll_none (trk h H) hm
    rw [z] at e; cases e

/-! ### OpenK's ledger, filled with every new object but one -/
def allNews (g h : Heap) (L : Addr) : List (Addr × Obj) := (List.range h.objs.size).filterMap fun a => if a = L ∨ (g.get? a).isSome = true then none else (h.get? a).map fun o => (a, o)
theorem mem_allNews {g h : Heap} {L a : Addr} {o : Obj} (h1 : a ≠ L) (h2 : g.get? a = none) (h3 : h.get? a = some o) : (a, o) ∈ allNews g h L :=
  List.mem_filterMap.mpr ⟨a, List.mem_range.mpr (Heap.lt_size h3), by simp [h1, h2, h3]⟩
theorem of_mem_allNews {g h : Heap} {L : Addr} {p : Addr × Obj} (hp : p ∈ allNews g h L) : p.1 ≠ L ∧ g.get? p.1 = none ∧ h.get? p.1 = some p.2 := by
  obtain ⟨b, _, e⟩ := List.mem_filterMap.mp hp
  split at e
  · cases e
  · rename_i hn
    cases q : h.get? b with
    | none => rw [q] at e; simp at e
    | some u =>
      rw [q] at e
      simp only [Option.map_some, Option.some.injEq] at e
      subst e
      refine ⟨fun z => hn (.inl z), ?_, q⟩
      show g.get? b = none
      cases r : g.get? b with
      | none => rfl
      | some v => exact (hn (.inr (by simp [r]))).elim
def rest (g h : Heap) (L d : Addr) : List (Addr × Obj) := (allNews g h L).filter fun p => decide (p.1 ≠ d)
theorem rest_ne {g h : Heap} {L d : Addr} : ∀ p ∈ rest g h L d, p.1 ≠ d := fun p hp => of_decide_eq_true (List.mem_filter.mp hp).2
theorem mem_rest {g h : Heap} {L d a : Addr} {o : Obj} (h1 : a ≠ L) (h2 : g.get? a = none) (h3 : h.get? a = some o) (h4 : a ≠ d) : (a, o) ∈ rest g h L d :=
  List.mem_filter.mpr ⟨mem_allNews h1 h2 h3, decide_eq_true h4⟩
theorem news_all {g h : Heap} {L : Addr} : News g L h (allNews g h L) := fun p hp => let ⟨a, b, c⟩ := of_mem_allNews hp; ⟨c, a, b⟩
theorem news_at {g h : Heap} {L d : Addr} {o : Obj} (h1 : d ≠ L) (h2 : g.get? d = none) (h3 : h.get? d = some o) : News g L h ((d, o) :: rest g h L d) := fun p hp => by
  rcases List.mem_cons.mp hp with rfl | hp
  · exact ⟨h3, h1, h2⟩
  · exact news_all p (List.mem_filter.mp hp).1
/-- behind a rule that changed d alone: all else but the frame is kept -/
theorem kept_of_news {g h h' : Heap} {L d : Addr} {m : Str → Option Value} (k : ∀ b o, g.get? b = some o → h.get? b = some o) (F : Fr g L h' m) (N : News g L h' (rest g h L d)) :
    ∀ b o, b ≠ L → b ≠ d → h.get? b = some o → h'.get? b = some o := fun b o h1 h2 e => by
  cases q : g.get? b with
  | some u =>
    have := k b u q
    rw [e] at this; cases this
    exact F.keep b _ q
  | none => exact (N (b, o) (mem_rest h1 q e h2)).1
end L2

namespace L2
open PySem PySem.Spec PyProof.Rows

/-- the module's facts, over the base: the heap at the law's entry without what is tracked there -/
structure Mod (K : PySem.W.Frag) (mg : Str → Option Value) (base : Heap) : Prop where
  kin : K.In base
  glob : base.Ns mainGlobals mg
  blt : ∃ mb, base.Ns builtinsNs mb ∧ ∀ x : Str, x ≠ "__name__" → mb x = bootBuiltins x
  nolimit : base.NoLimit

/-- the context: a def's body (or a comprehension's block) running. base: fixed through the whole law; s₀, H₀: the entry; outer: the frames whose slots others may change (a def's callers); stack: all frames that run;
   ex: iterators that were made ahead of the entry and are walked here (a comprehension's); fn: the names whose cells were made at the entry (a def: all; a comprehension's block: its own); calm: not within an except suite; pn: pins that every state bears; xe: what is wanted of an exception that leaves the code -/
structure Cx where
  prog : Program
  w : World
  K : PySem.W.Frag
  mg : Str → Option Value
  base : Heap
  A : Around
  N : List Str
  s₀ : Shared
  H₀ : Hp
  env : Env
  outer : List Env
  stack : List Env
  ex : List Addr
  fn : Str → Bool
  calm : Bool
  pn : List (Addr × Obj)
  xe : Value → Shared → Prop
/-- the callers' frames -/
def frs (l : List Env) : List Addr := l.filterMap (·.frame)
abbrev Cx.fs (X : Cx) : List Addr := frs X.outer

def Vis (sc : Scope) (x : Str) : Prop := sc.names.lookup x = some .local ∨ sc.names.lookup x = some .cell ∨ sc.names.lookup x = some .free
def Loc (sc : Scope) (x : Str) : Prop := sc.names.lookup x = some .local ∨ sc.names.lookup x = some .cell
def Look (env : Env) (h : Heap) (m : Str → Option Value) (x : Str) (u : Value) : Prop :=
  (env.kindOf x = some .local ∧ m x = some u) ∨ ((env.kindOf x = some .cell ∨ env.kindOf x = some .free) ∧ ∃ c, env.cells.lookup x = some c ∧ h.IsCell c (some u))

structure Cx.Ok (X : Cx) : Prop where
  mod : Mod X.K X.mg X.base
  kind : X.env.scope.kind = .function
  glob : X.env.globals = mainGlobals
  blt : X.env.builtins = builtinsNs
  above : X.s₀.heap.objs.size ≤ X.env.locals
  inj : ∀ x y c, X.env.cells.lookup x = some c → X.env.cells.lookup y = some c → x = y
  has : ∀ x, (X.env.kindOf x = some .cell ∨ X.env.kindOf x = some .free) → ∃ c, X.env.cells.lookup x = some c
  cab : ∀ x c, X.fn x = true → X.env.cells.lookup x = some c → X.s₀.heap.objs.size ≤ c
  hd : X.calm = true → X.A.handled = none
  frames : X.A.frames = some X.stack
  stk : X.stack = X.outer ∨ (X.stack = X.env :: X.outer ∧ X.env.frame = some X.env.locals)
  exf : ∀ b ∈ X.ex, b ≠ X.env.locals ∧ ∀ x c, X.env.cells.lookup x = some c → c ≠ b
  bs : ∀ b o, X.base.get? b = some o → X.s₀.heap.get? b = some o ∧ X.H₀ b = none
  bsz : X.base.objs.size ≤ X.s₀.heap.objs.size
  noex : ∀ b o, X.base.get? b = some o → b ∉ X.ex
  exfs : ∀ b ∈ X.ex, b ∉ X.fs
  funs : X.s₀.heap.FunFrames X.base X.outer
  frf : ∀ b ∈ X.fs, X.H₀ b = none

structure Inv (X : Cx) (pins : List (Addr × Obj)) (σ : List (Option V)) (H : Hp) (s : Shared) : Prop where
  ok : X.Ok
  os : s.os = X.s₀.os
  bare : AllBare s.gens
  base : Un X.fs X.ex X.H₀ H X.s₀.heap s.heap
  loc : ∃ m, s.heap.Ns X.env.locals m ∧ ∀ (i : Nat) (x : Str) (v : V), X.N[i]? = some x → σ[i]? = some (some v) → Vis X.env.scope x → ∃ u, RelV v u ∧ Look X.env s.heap m x u
  cell : ∀ x c, X.env.cells.lookup x = some c → ∃ v, s.heap.IsCell c v
  free : H X.env.locals = none
  freeC : ∀ x c, X.env.cells.lookup x = some c → H c = none
  pin : ∀ p ∈ X.pn ++ pins, s.heap.get? p.1 = some p.2 ∧ H p.1 = none ∧ p.1 ≠ X.env.locals ∧ p.1 ∉ X.fs ∧ ∀ v, p.2.data ≠ .cell v
  hok : HOk X.prog X.w H s.heap
  len : σ.length = X.N.length

section
variable {X : Cx} {pins : List (Addr × Obj)} {σ : List (Option V)} {H H' : Hp} {s : Shared} {h' : Heap}

theorem Cx.Ok.nofr (ok : X.Ok) {b : Addr} {o : Obj} (e : X.base.get? b = some o) : b ∉ X.fs := fun hb => by
  have := (ok.funs.mem hb).1
  rw [e] at this; cases this
theorem Inv.bs (I : Inv X pins σ H s) : ∀ b o, X.base.get? b = some o → s.heap.get? b = some o ∧ H b = none := fun b o e =>
  ⟨I.base.keep b o (I.ok.bs b o e).1 (I.ok.bs b o e).2 (I.ok.nofr e) (I.ok.noex b o e), I.base.free b o (I.ok.bs b o e).1 (I.ok.bs b o e).2 (I.ok.noex b o e)⟩
theorem Inv.bk (I : Inv X pins σ H s) : ∀ b o, X.base.get? b = some o → s.heap.get? b = some o := fun b o e => (I.bs b o e).1
theorem Inv.mod (I : Inv X pins σ H s) : Mod X.K X.mg X.base := I.ok.mod
theorem Inv.kIn (I : Inv X pins σ H s) : X.K.In s.heap := I.ok.mod.kin.keeps I.bk
theorem Inv.nolimit (I : Inv X pins σ H s) : s.heap.NoLimit := I.ok.mod.nolimit.keeps I.bk
/-- the frame over the base: for OpenK's rules (K.In X.base is I.mod.kin) -/
theorem Inv.fr (I : Inv X pins σ H s) : ∃ m, Fr X.base X.env.locals s.heap m :=
  let ⟨m, hn, _⟩ := I.loc
  ⟨m, hn, I.bk, Nat.le_trans I.ok.bsz I.ok.above⟩
theorem Inv.lt (I : Inv X pins σ H s) : X.env.locals < s.heap.objs.size := let ⟨_, hn, _⟩ := I.loc; hn.lt
theorem Inv.sz (I : Inv X pins σ H s) : X.s₀.heap.objs.size ≤ s.heap.objs.size := Nat.le_trans I.ok.above (Nat.le_of_lt I.lt)
theorem Inv.nofs (I : Inv X pins σ H s) {a : Addr} (h : s.heap.objs.size ≤ a) : a ∉ X.fs := fun hb => by
  obtain ⟨_, o, ho, _⟩ := I.ok.funs.mem hb
  exact absurd (Nat.lt_of_lt_of_le (Heap.lt_size ho) (Nat.le_trans I.sz h)) (Nat.lt_irrefl _)
theorem Inv.cne (I : Inv X pins σ H s) : ∀ x c, X.env.cells.lookup x = some c → c ≠ X.env.locals := fun x c e z => by
  obtain ⟨v, o, ho, hd⟩ := I.cell x c e
  obtain ⟨m, ⟨o', es, ep, ho', hd', _⟩, _⟩ := I.loc
  rw [z, ho'] at ho; cases ho; rw [hd'] at hd; cases hd
theorem Inv.funs (I : Inv X pins σ H s) : s.heap.FunFrames X.base X.outer := by
  have all : ∀ (l : List Env), (∀ b ∈ frs l, b ∈ X.fs) → X.s₀.heap.FunFrames X.base l → s.heap.FunFrames X.base l := by
    intro l
    induction l with
    | nil => intro _ _; trivial
    | cons env r ih =>
      intro hs hl
      obtain ⟨hk, ⟨L, o, hf, hn, ho, hd⟩, hr⟩ := hl
      have hL : L ∈ X.fs := hs L (by unfold frs; rw [List.filterMap_cons, hf]; exact List.mem_cons_self)
      obtain ⟨sl, e⟩ := I.base.slot L o ho (I.ok.frf L hL) hL fun z => I.ok.exfs L z hL
      exact ⟨hk, ⟨L, _, hf, hn, e, hd⟩, ih (fun b hb => hs b (by unfold frs; rw [List.filterMap_cons, hf]; exact List.mem_cons_of_mem _ hb)) hr⟩
  exact all X.outer (fun _ hb => hb) I.ok.funs

/-- the frames that run, for a call -/
theorem Inv.stack (I : Inv X pins σ H s) : s.heap.FunFrames X.base X.stack := by
  rcases I.ok.stk with e | ⟨e, hf⟩
  · rw [e]; exact I.funs
  · rw [e]
    obtain ⟨m, hn, _⟩ := I.loc
    refine .cons (by rw [I.ok.kind]; decide) hf hn ?_ I.funs
    exact Heap.get?_none_of_le (Nat.le_trans I.ok.bsz I.ok.above)
theorem Inv.stkSub (I : Inv X pins σ H s) : ∀ b ∈ frs X.stack, b ∈ X.env.locals :: X.fs := fun b hb => by
  rcases I.ok.stk with e | ⟨e, hf⟩
  · rw [e] at hb; exact List.mem_cons_of_mem _ hb
  · rw [e] at hb
    unfold frs at hb
    rw [List.filterMap_cons, hf] at hb
    exact hb
theorem Inv.stkFree (I : Inv X pins σ H s) : ∀ b ∈ frs X.stack, H b = none := fun b hb => by
  rcases List.mem_cons.mp (I.stkSub b hb) with e | hb
  · rw [e]; exact I.free
  · obtain ⟨_, o, ho, _⟩ := I.ok.funs.mem hb
    exact I.base.free b o ho (I.ok.frf b hb) fun z => I.ok.exfs b z hb

/-- THE STEP: the untracked objects but the frame and the records at ch are kept (the callers' frames up to slots), the frame's map is kept, the new abstract heap is held -/
theorem Inv.step {g' : Array GenState} {t' : Nat} {d' : Drawn} {ch : List Addr} (I : Inv X pins σ H s)
    (hch : ∀ b ∈ ch, (b ∈ X.ex ∨ X.s₀.heap.objs.size ≤ b) ∧ b ≠ X.env.locals ∧ (∀ x c, X.env.cells.lookup x = some c → c ≠ b) ∧ ∀ p ∈ X.pn ++ pins, p.1 ≠ b)
    (keep : ∀ b o, b ≠ X.env.locals → b ∉ X.fs → b ∉ ch → s.heap.get? b = some o → H b = none → h'.get? b = some o)
    (slot : ∀ b o, b ≠ X.env.locals → b ∈ X.fs → b ∉ ch → s.heap.get? b = some o → H b = none → ∃ sl, h'.get? b = some { o with slots := sl }) (free : ∀ b o, b ∉ ch → s.heap.get? b = some o → H b = none → H' b = none)
    (there : ∀ b o, b ∉ ch → s.heap.get? b = some o → ∃ o', h'.get? b = some o')
    (tups : ∀ b xs, H b = some (.tup xs) → H' b = some (.tup xs)) (frzs : ∀ b o u, H b = some (.frz o u) → H' b = some (.frz o u)) (tbls : ∀ b ps, H b = some (.tbl ps) → ∃ more, H' b = some (.tbl (ps ++ more)))
    (ns : ∀ m, s.heap.Ns X.env.locals m → h'.Ns X.env.locals m) (hok : HOk X.prog X.w H' h') (hg : AllBare g') :
    Inv X pins σ H' { s with heap := h', gens := g', drawn := d', toks := t' } := by
  have neL : ∀ b o, X.s₀.heap.get? b = some o → b ≠ X.env.locals := fun b o e => Nat.ne_of_lt (Nat.lt_of_lt_of_le (Heap.lt_size e) I.ok.above)
  have neC : ∀ b o, X.s₀.heap.get? b = some o → b ∉ X.ex → b ∉ ch := fun b o e hx hb => by
    rcases (hch b hb).1 with z | z
    · exact hx z
    · exact absurd (Nat.lt_of_lt_of_le (Heap.lt_size e) z) (Nat.lt_irrefl _)
  have cellK : ∀ x c, X.env.cells.lookup x = some c → ∀ v, s.heap.IsCell c v → h'.IsCell c v := fun x c e v ⟨o, ho, hd⟩ => by
    have nch : c ∉ ch := fun z => (hch c z).2.2.1 x c e rfl
    by_cases hc : c ∈ X.fs
    · obtain ⟨sl, q⟩ := slot c o (I.cne x c e) hc nch ho (I.freeC x c e)
      exact ⟨_, q, hd⟩
    · exact ⟨o, keep c o (I.cne x c e) hc nch ho (I.freeC x c e), hd⟩
  refine ⟨I.ok, I.os, hg, ⟨fun b o e n hb hx => ?_, fun b o e n hb hx => ?_, fun b o e n hx => ?_, fun b o e hx => ?_, fun b xs e => tups b xs (I.base.tups b xs e), fun b o xs e => frzs b o xs (I.base.frzs b o xs e), fun b ps e => ?_⟩, ?_, fun x c e => ?_, ?_, fun x c e => ?_, fun p hp => ?_, hok, I.len⟩
  · exact keep b o (neL b o e) hb (neC b o e hx) (I.base.keep b o e n hb hx) (I.base.free b o e n hx)
  · obtain ⟨sl, e1⟩ := I.base.slot b o e n hb hx
    obtain ⟨sl', e2⟩ := slot b _ (neL b o e) hb (neC b o e hx) e1 (I.base.free b o e n hx)
    exact ⟨sl', e2⟩
  · obtain ⟨o', e1⟩ := I.base.there b o e hx
    exact free b o' (neC b o e hx) e1 (I.base.free b o e n hx)
  · obtain ⟨o', e1⟩ := I.base.there b o e hx
    exact there b o' (neC b o e hx) e1
  · obtain ⟨m1, e1⟩ := I.base.tbls b ps e
    obtain ⟨m2, e2⟩ := tbls b _ e1
    exact ⟨m1 ++ m2, by rw [e2, Array.append_assoc]⟩
  · obtain ⟨m, hn, hl⟩ := I.loc
    refine ⟨m, ns m hn, fun i x v e1 e2 e3 => ?_⟩
    obtain ⟨u, r, l⟩ := hl i x v e1 e2 e3
    refine ⟨u, r, ?_⟩
    rcases l with l | ⟨k, c, e, z⟩
    · exact .inl l
    · exact .inr ⟨k, c, e, cellK x c e _ z⟩
  · obtain ⟨v, z⟩ := I.cell x c e
    exact ⟨v, cellK x c e v z⟩
  · obtain ⟨m, ⟨o, _, _, ho, _⟩, _⟩ := I.loc
    exact free _ o (fun z => (hch _ z).2.1 rfl) ho I.free
  · obtain ⟨v, o, ho, hd⟩ := I.cell x c e
    exact free c o (fun z => (hch c z).2.2.1 x c e rfl) ho (I.freeC x c e)
  · obtain ⟨e, n, ne, nf, d⟩ := I.pin p hp
    have nch : p.1 ∉ ch := fun z => (hch p.1 z).2.2.2 p hp rfl
    exact ⟨keep p.1 p.2 ne nf nch e n, free p.1 p.2 nch e n, ne, nf, d⟩
/-- .. where the frame's own object is kept too -/
theorem Inv.un {t' : Nat} (I : Inv X pins σ H s) (u : Un X.fs [] H H' s.heap h') (hok : HOk X.prog X.w H' h') : Inv X pins σ H' { s with heap := h', toks := t' } := by
  obtain ⟨m, ⟨o, es, ep, ho, r⟩, _⟩ := id I.loc
  obtain ⟨sl, hL⟩ := u.any ho I.free (by simp)
  exact I.step (g' := s.gens) (d' := s.drawn) (ch := []) (fun _ z => nomatch z) (fun b o _ hb _ e n => u.keep b o e n hb (by simp)) (fun b o _ hb _ e n => u.slot b o e n hb (by simp)) (fun b o _ e n => u.free b o e n (by simp)) (fun b o _ e => u.there b o e (by simp)) u.tups u.frzs u.tbls (fun m' hm => by
    obtain ⟨o', es', ep', ho', r'⟩ := hm
    rw [ho] at ho'; cases ho'
    exact ⟨_, es', ep', hL, r'⟩) hok I.bare
/-- behind a call (or a comprehension's block): the slots of this frame may have changed too, the records at ch may have turned -/
theorem Inv.call {g' : Array GenState} {t' : Nat} {d' : Drawn} {ch : List Addr} (I : Inv X pins σ H s) (u : Un (frs X.stack) ch H H' s.heap h') (hok : HOk X.prog X.w H' h') (hg : AllBare g')
    (hch : ∀ b ∈ ch, (b ∈ X.ex ∨ X.s₀.heap.objs.size ≤ b) ∧ b ≠ X.env.locals ∧ (∀ x c, X.env.cells.lookup x = some c → c ≠ b) ∧ ∀ p ∈ X.pn ++ pins, p.1 ≠ b) :
    Inv X pins σ H' { s with heap := h', gens := g', drawn := d', toks := t' } := by
  obtain ⟨m, ⟨o, es, ep, ho, r⟩, _⟩ := id I.loc
  obtain ⟨sl, hL⟩ := u.any ho I.free fun z => (hch _ z).2.1 rfl
  exact I.step (ch := ch) hch (fun b o hL hb hc e n => u.keep b o e n (fun z => (List.mem_cons.mp (I.stkSub b z)).elim hL hb) hc) (fun b o _ _ hc e n => u.any e n hc) (fun b o hc e n => u.free b o e n hc) (fun b o hc e => u.there b o e hc) u.tups u.frzs u.tbls (fun m' hm => by
    obtain ⟨o', es', ep', ho', r'⟩ := hm
    rw [ho] at ho'; cases ho'
    exact ⟨_, es', ep', hL, r'⟩) hok hg
/-- an untracked record of ours (an iterator) has turned -/
theorem Inv.turned {t' : Nat} {it : Addr} (I : Inv X pins σ H s) (k : ∀ b o, b ≠ it → s.heap.get? b = some o → h'.get? b = some o) (hn : H it = none) (hL : it ≠ X.env.locals)
    (h1 : it ∈ X.ex ∨ X.s₀.heap.objs.size ≤ it) (h2 : ∀ x c, X.env.cells.lookup x = some c → c ≠ it) (h3 : ∀ p ∈ X.pn ++ pins, p.1 ≠ it) : Inv X pins σ H { s with heap := h', toks := t' } := by
  have nit : ∀ b u, H b = some u → b ≠ it := fun b u e z => by rw [z, hn] at e; cases e
  refine I.step (g' := s.gens) (d' := s.drawn) (ch := [it]) (fun b hb => ?_) (fun b o _ _ hc e _ => k b o (fun z => hc (by simp [z])) e) (fun b o _ _ hc e _ => ⟨o.slots, k b o (fun z => hc (by simp [z])) e⟩) (fun _ _ _ _ n => n)
    (fun b o hc e => ⟨o, k b o (fun z => hc (by simp [z])) e⟩) (fun _ _ e => e) (fun _ _ _ e => e) (fun b ps e => ⟨#[], by rw [e]; simp⟩) (fun m hm => ?_) (fun b u e => ?_) I.bare
  · have e : b = it := by simpa using hb
    subst e
    exact ⟨h1, hL, h2, h3⟩
  · obtain ⟨o, es, ep, ho, r⟩ := hm
    exact ⟨o, es, ep, k _ o (Ne.symm hL) ho, r⟩
  · refine (I.hok b u e).stay (fun c v hc q => k c v ?_ q) (fun _ q => q) fun _ _ q => q
    rcases hc with z | z
    · rw [z]; exact nit b u e
    · exact nit c _ z
theorem Inv.tok (I : Inv X pins σ H s) (t : Nat) : Inv X pins σ H { s with toks := t } := I.un (h' := s.heap) (t' := t) Un.refl I.hok
/-- all objects kept -/
theorem Inv.kept {t' : Nat} (I : Inv X pins σ H s) (k : ∀ b u, s.heap.get? b = some u → h'.get? b = some u) : Inv X pins σ H { s with heap := h', toks := t' } := I.un (Un.kept k) (I.hok.kept k)
/-- a new object laid and tracked -/
theorem Inv.laid {a : Addr} {o : HO} {t' : Nat} (I : Inv X pins σ H s) (k : ∀ b u, s.heap.get? b = some u → h'.get? b = some u) (hp : s.heap.objs.size ≤ a) (new : ObjOk X.prog X.w (upd H a o) h' a o) :
    Inv X pins σ (upd H a o) { s with heap := h', toks := t' } := I.un (Un.laid k hp (I.hok.fresh hp)) (I.hok.laid k hp new)
/-- an object written -/
theorem Inv.write {x e : Addr} {o : HO} {t' : Nat} (I : Inv X pins σ H s) (mu : Mut (H x)) (he : e = x ∨ H e = some (.own x)) (k : ∀ b u, b ≠ e → s.heap.get? b = some u → h'.get? b = some u) (heo : ∃ u, h'.get? e = some u)
    (new : ObjOk X.prog X.w (upd H x o) h' x o) : Inv X pins σ (upd H x o) { s with heap := h', toks := t' } := I.un (Un.write mu he k heo) (I.hok.write mu he k heo new)
/-- forgetting slots, pins -/
theorem Inv.weak {σ' : List (Option V)} (I : Inv X pins σ H s) (hl : σ'.length = σ.length) (w : ∀ (i : Nat) v, σ'[i]? = some (some v) → σ[i]? = some (some v)) : Inv X pins σ' H s :=
  ⟨I.ok, I.os, I.bare, I.base, let ⟨m, hn, hl'⟩ := I.loc; ⟨m, hn, fun i x v e1 e2 e3 => hl' i x v e1 (w i v e2) e3⟩, I.cell, I.free, I.freeC, I.pin, I.hok, hl.trans I.len⟩
theorem Inv.pins_of {pins' : List (Addr × Obj)} (I : Inv X pins σ H s) (h : ∀ p ∈ pins', s.heap.get? p.1 = some p.2 ∧ H p.1 = none ∧ p.1 ≠ X.env.locals ∧ p.1 ∉ X.fs ∧ ∀ v, p.2.data ≠ .cell v) : Inv X pins' σ H s :=
  ⟨I.ok, I.os, I.bare, I.base, I.loc, I.cell, I.free, I.freeC, fun p hp => (List.mem_append.mp hp).elim (fun z => I.pin p (List.mem_append_left _ z)) (h p), I.hok, I.len⟩

theorem nodup_ix {N : List Str} (hN : N.Nodup) {i j : Nat} {x : Str} (a : N[i]? = some x) (b : N[j]? = some x) : i = j := by
  obtain ⟨h1, e1⟩ := List.getElem?_eq_some_iff.mp a
  obtain ⟨h2, e2⟩ := List.getElem?_eq_some_iff.mp b
  exact (List.getElem_inj hN).mp (e1.trans e2.symm)

/-- a name is stored; what changed -/
theorem store_ok2 {M : Model} {A : Around} {E : Value → Shared → Prop} {i : Nat} {x : Str} {v : V} {u : Value} {Q : Unit → Shared → Prop} (I : Inv X pins σ H s) (hN : X.N.Nodup) (hi : X.N[i]? = some x) (hx : Loc X.env.scope x) (r : RelV v u)
    (h : ∀ s', Inv X pins (σ.set i (some v)) H s' → (∃ a, Heap.SameBut a s.heap s'.heap ∧ (a = X.env.locals ∨ X.env.cells.lookup x = some a)) → Q () s') (hf : X.fn x = true ∨ X.env.scope.names.lookup x = some .local := by first | exact .inl rfl | exact .inr rfl | assumption) : wpAny M A (storeName X.env x u) Q E s := by
  obtain ⟨m, hn, hl⟩ := id I.loc
  have hcls : (X.env.scope.kind == .class || (X.env.scope.kind == .module && X.env.locals != X.env.globals)) = false := by rw [I.ok.kind]; rfl
  have hiσ : i < σ.length := by rw [I.len]; exact (List.getElem?_eq_some_iff.mp hi).1
  have cne := I.cne
  have tracked : ∀ {a : Addr} {h' : Heap}, (∃ o, s.heap.get? a = some o ∧ H a = none) → Heap.SameBut a s.heap h' → HOk X.prog X.w H h' := fun {a h'} ha hs b ob e => by
    obtain ⟨_, _, hfree⟩ := ha
    refine (I.hok b ob e).stay (fun c w' hc q => (hs.2 c ?_).trans q) (fun _ q => q) fun _ _ q => q
    rintro rfl
    rcases hc with rfl | hc
    · rw [hfree] at e; cases e
    · rw [hfree] at hc; cases hc
  rcases hx with hk | hk
  · refine wpAny_storeName_local hk hn (fun h' hn' hs => ?_) hcls
    obtain ⟨oL, _, _, hoL, _⟩ := id hn
    refine h _ ⟨I.ok, I.os, I.bare, ⟨fun b o e n hb hx => ?_, fun b o e n hb hx => ?_, I.base.free, fun b o e hx => ?_, I.base.tups, I.base.frzs, I.base.tbls⟩, ⟨_, hn', fun j y v' e1 e2 e3 => ?_⟩, fun y c e => ?_, I.free, I.freeC, fun p hp => ?_, tracked ⟨oL, hoL, I.free⟩ hs, by simpa using I.len⟩ ⟨_, hs, .inl rfl⟩
    · exact (hs.2 b (Nat.ne_of_lt (Nat.lt_of_lt_of_le (Heap.lt_size e) I.ok.above))).trans (I.base.keep b o e n hb hx)
    · obtain ⟨sl, e1⟩ := I.base.slot b o e n hb hx
      exact ⟨sl, (hs.2 b (Nat.ne_of_lt (Nat.lt_of_lt_of_le (Heap.lt_size e) I.ok.above))).trans e1⟩
    · obtain ⟨o', e1⟩ := I.base.there b o e hx
      exact ⟨o', (hs.2 b (Nat.ne_of_lt (Nat.lt_of_lt_of_le (Heap.lt_size e) I.ok.above))).trans e1⟩
    · by_cases hj : j = i
      · subst hj
        rw [hi] at e1; cases e1
        rw [List.getElem?_set_self hiσ] at e2
        cases e2
        exact ⟨u, r, .inl ⟨hk, by simp⟩⟩
      · rw [List.getElem?_set_ne (Ne.symm hj)] at e2
        obtain ⟨u', r', q⟩ := hl j y v' e1 e2 e3
        refine ⟨u', r', ?_⟩
        rcases q with ⟨k, e⟩ | ⟨k, c, e, z⟩
        · refine .inl ⟨k, ?_⟩
          have : y ≠ x := fun e => hj (nodup_ix hN e1 (e ▸ hi))
          simp [this, e]
        · exact .inr ⟨k, c, e, z.sameBut hs (cne y c e)⟩
    · obtain ⟨w', z⟩ := I.cell y c e
      exact ⟨w', z.sameBut hs (cne y c e)⟩
    · obtain ⟨e, n, ne, nf, d⟩ := I.pin p hp
      exact ⟨(hs.2 p.1 ne).trans e, n, ne, nf, d⟩
  · have hfn : X.fn x = true := by
      rcases hf with z | z
      · exact z
      · rw [z] at hk; cases hk
    obtain ⟨c, hc⟩ := I.ok.has x (.inl hk)
    obtain ⟨w', z⟩ := I.cell x c hc
    refine wpAny_storeName_cell I.ok.kind hk hc z (fun h' hc' hs => ?_)
    obtain ⟨oc, hoc, hocd⟩ := id z
    refine h { s with heap := h' } ⟨I.ok, I.os, I.bare, ⟨fun b o e n hb hx => ?_, fun b o e n hb hx => ?_, I.base.free, fun b o e hx => ?_, I.base.tups, I.base.frzs, I.base.tbls⟩, ⟨m, hn.sameBut hs (Ne.symm (cne x c hc)), fun j y v' e1 e2 e3 => ?_⟩, fun y c' e => ?_, I.free, I.freeC, fun p hp => ?_, tracked ⟨oc, hoc, I.freeC x c hc⟩ hs, by simpa using I.len⟩ ⟨c, hs, .inr hc⟩
    · exact (hs.2 b (Nat.ne_of_lt (Nat.lt_of_lt_of_le (Heap.lt_size e) (I.ok.cab x c hfn hc)))).trans (I.base.keep b o e n hb hx)
    · obtain ⟨sl, e1⟩ := I.base.slot b o e n hb hx
      exact ⟨sl, (hs.2 b (Nat.ne_of_lt (Nat.lt_of_lt_of_le (Heap.lt_size e) (I.ok.cab x c hfn hc)))).trans e1⟩
    · obtain ⟨o', e1⟩ := I.base.there b o e hx
      exact ⟨o', (hs.2 b (Nat.ne_of_lt (Nat.lt_of_lt_of_le (Heap.lt_size e) (I.ok.cab x c hfn hc)))).trans e1⟩
    · by_cases hj : j = i
      · subst hj
        rw [hi] at e1; cases e1
        rw [List.getElem?_set_self hiσ] at e2
        cases e2
        exact ⟨u, r, .inr ⟨.inl hk, c, hc, hc'⟩⟩
      · rw [List.getElem?_set_ne (Ne.symm hj)] at e2
        obtain ⟨u', r', q⟩ := hl j y v' e1 e2 e3
        refine ⟨u', r', ?_⟩
        rcases q with q | ⟨k, c', e, z'⟩
        · exact .inl q
        · refine .inr ⟨k, c', e, z'.sameBut hs ?_⟩
          rintro rfl
          exact hj (nodup_ix hN e1 (I.ok.inj _ _ _ e hc ▸ hi))
    · by_cases hcc : c' = c
      · subst hcc; exact ⟨_, hc'⟩
      · obtain ⟨w2, z2⟩ := I.cell y c' e
        exact ⟨w2, z2.sameBut hs hcc⟩
    · obtain ⟨e, n, ne, nf, d⟩ := I.pin p hp
      refine ⟨(hs.2 p.1 ?_).trans e, n, ne, nf, d⟩
      intro q
      rw [q, hoc] at e
      have q' : oc = p.2 := Option.some.inj e
      exact d w' (by rw [← q']; exact hocd)
theorem store_ok {M : Model} {A : Around} {E : Value → Shared → Prop} {i : Nat} {x : Str} {v : V} {u : Value} {Q : Unit → Shared → Prop} (I : Inv X pins σ H s) (hN : X.N.Nodup) (hi : X.N[i]? = some x) (hx : Loc X.env.scope x) (r : RelV v u)
    (h : ∀ s', Inv X pins (σ.set i (some v)) H s' → Q () s') (hf : X.fn x = true ∨ X.env.scope.names.lookup x = some .local := by first | exact .inl rfl | exact .inr rfl | assumption) : wpAny M A (storeName X.env x u) Q E s :=
  store_ok2 I hN hi hx r (fun s' I' _ => h s' I') hf
/-- behind a call or a block, the state as it is -/
theorem Inv.call' {s' : Shared} {ch : List Addr} (I : Inv X pins σ H s) (ho : s'.os = s.os) (u : Un (frs X.stack) ch H H' s.heap s'.heap) (hok : HOk X.prog X.w H' s'.heap) (hg : AllBare s'.gens)
    (hch : ∀ b ∈ ch, (b ∈ X.ex ∨ X.s₀.heap.objs.size ≤ b) ∧ b ≠ X.env.locals ∧ (∀ x c, X.env.cells.lookup x = some c → c ≠ b) ∧ ∀ p ∈ X.pn ++ pins, p.1 ≠ b) : Inv X pins σ H' s' := by
  obtain ⟨h', g', d', t', o'⟩ := s'
  have e : o' = s.os := ho
  subst e
  exact I.call (g' := g') (t' := t') (d' := d') u hok hg hch
end

/-! ### the judgements -/
/-- an exception: its class, its own dict's address (where it has one), the abstract heap behind it -/
abbrev XK := Value → Option Addr → Hp → Prop
abbrev St := List (Option V)
abbrev VK := V → Hp → Prop
/-- an expression's reading; a test's; an argument list's -/
abbrev TE := St → Hp → VK → Prop
abbrev TT := St → Hp → (Bool → Hp → Prop) → Prop
abbrev TA := St → Hp → (List V → Hp → Prop) → Prop
/-- what is wanted behind a statement -/
structure Ends where
  nx : St → Hp → Prop
  rt : VK
  bk : St → Hp → Prop := fun _ _ => False
  ct : St → Hp → Prop := fun _ _ => False
abbrev TS := Ends → St → Hp → Prop

def EP (X : Cx) (pins : List (Addr × Obj)) (σ : St) (Q : VK) (u : Value) (s' : Shared) : Prop := ∃ v H', Inv X pins σ H' s' ∧ RelV v u ∧ Q v H'
def TP (X : Cx) (pins : List (Addr × Obj)) (σ : St) (Q : Bool → Hp → Prop) (b : Bool) (s' : Shared) : Prop := ∃ H', Inv X pins σ H' s' ∧ Q b H'
def AP (X : Cx) (pins : List (Addr × Obj)) (σ : St) (Q : List V → Hp → Prop) (us : List Value) (s' : Shared) : Prop := ∃ vs H', Inv X pins σ H' s' ∧ Vals vs us ∧ Q vs H'
def SP (X : Cx) (pins : List (Addr × Obj)) (D : Ends) (f : Flow) (s' : Shared) : Prop :=
  match f with
  | .next => ∃ σ' H', Inv X pins σ' H' s' ∧ D.nx σ' H'
  | .brk => ∃ σ' H', Inv X pins σ' H' s' ∧ D.bk σ' H'
  | .cont => ∃ σ' H', Inv X pins σ' H' s' ∧ D.ct σ' H'
  | .ret u => ∃ v σ' H', Inv X pins σ' H' s' ∧ RelV v u ∧ D.rt v H'

def PE (X : Cx) (e : Expr) (t : TE) : Prop :=
  ∀ (pins : List (Addr × Obj)) (s : Shared) (σ : St) (H : Hp) (Q : VK), Inv X pins σ H s → t σ H Q → wpAny (model X.prog X.w) X.A (eval e X.env) (EP X pins σ Q) X.xe s
def PT (X : Cx) (e : Expr) (t : TT) : Prop :=
  ∀ (pins : List (Addr × Obj)) (s : Shared) (σ : St) (H : Hp) (Q : Bool → Hp → Prop), Inv X pins σ H s → t σ H Q → wpAny (model X.prog X.w) X.A (isTrue e X.env (eval e X.env)) (TP X pins σ Q) X.xe s
/-- a test whatever its 'whole' is (and, or) -/
def PW (X : Cx) (e : Expr) (t : TT) : Prop :=
  ∀ (whole : Sem Value) (pins : List (Addr × Obj)) (s : Shared) (σ : St) (H : Hp) (Q : Bool → Hp → Prop), Inv X pins σ H s → t σ H Q → wpAny (model X.prog X.w) X.A (isTrue e X.env whole) (TP X pins σ Q) X.xe s
theorem PW.pt {X : Cx} {e : Expr} {t : TT} (h : PW X e t) : PT X e t := h _
/-- an argument list (no star), from the left -/
def PA (X : Cx) (es : List Expr) (t : TA) : Prop :=
  ∀ (pos : Pos) (pins : List (Addr × Obj)) (s : Shared) (σ : St) (H : Hp) (Q : List V → Hp → Prop), Inv X pins σ H s → t σ H Q → wpAny (model X.prog X.w) X.A (spliced (backTo pos (starEach es X.env))) (AP X pins σ Q) X.xe s
def PS (X : Cx) (st : Stmt) (t : TS) : Prop :=
  ∀ (pins : List (Addr × Obj)) (s : Shared) (σ : St) (H : Hp) (D : Ends), Inv X pins σ H s → t D σ H → wpAny (model X.prog X.w) X.A (exec st X.env) (SP X pins D) X.xe s
def PSs (X : Cx) (st : List Stmt) (t : TS) : Prop :=
  ∀ (pins : List (Addr × Obj)) (s : Shared) (σ : St) (H : Hp) (D : Ends), Inv X pins σ H s → t D σ H → wpAny (model X.prog X.w) X.A (execs st X.env) (SP X pins D) X.xe s
/-- weaken the end -/
theorem thn {α : Type} {t : Sem α} {Q Q' : α → Shared → Prop} {M : Model} {A : Around} {E : Value → Shared → Prop} {s : Shared} (h : wpAny M A t Q E s) (hQ : ∀ a s, Q a s → Q' a s) : wpAny M A t Q' E s := wpAny_mono h hQ fun _ _ x => x
end L2

namespace L2
open PySem PySem.Spec PyProof.Rows
section
variable {X : Cx}

/-- two expressions in a row -/
theorem bin {a b : Expr} {ta tb : TE} (ha : PE X a ta) (hb : PE X b tb) {pins : List (Addr × Obj)} {s : Shared} {σ : St} {H : Hp} {R : V → V → Hp → Prop} (I : Inv X pins σ H s) (h : ta σ H fun x H1 => tb σ H1 fun y H2 => R x y H2)
    {α : Type} {Q : α → Shared → Prop} {f : Value → Value → Sem α}
    (hf : ∀ v u s2 x y H2, Inv X pins σ H2 s2 → RelV x v → RelV y u → R x y H2 → wpAny (model X.prog X.w) X.A (f v u) Q X.xe s2) :
    wpAny (model X.prog X.w) X.A (eval a X.env) (fun v s₁ => wpAny (model X.prog X.w) X.A (eval b X.env) (fun u s₂ => wpAny (model X.prog X.w) X.A (f v u) Q X.xe s₂) X.xe s₁) X.xe s := by
  refine thn (ha pins s σ H _ I h) fun v s1 ⟨x, H1, I1, r1, q1⟩ => ?_
  refine thn (hb pins s1 σ H1 _ I1 q1) fun u s2 ⟨y, H2, I2, r2, q2⟩ => ?_
  exact hf v u s2 x y H2 I2 r1 r2 q2

/-! ### names and constants -/
def tVar (i : Nat) : TE := fun σ H Q => ∃ v, σ[i]? = some (some v) ∧ Q v H
def tC (v : V) : TE := fun _ H Q => Q v H
theorem pe_var {i : Nat} {x : Str} {pos : Pos} (hN : X.N[i]? = some x) (hv : Vis X.env.scope x) (hd : (x == ("__debug__" : Str)) = false := by decide) (hcd : (x == ("__classdict__" : Str)) = false := by decide) : PE X (.Name x pos) (tVar i) := by
  intro pins s σ H Q I h
  obtain ⟨v, e, h⟩ := h
  obtain ⟨m, hn, hl⟩ := I.loc
  obtain ⟨u, r, l⟩ := hl i x v hN e hv
  have fin : EP X pins σ Q u s := ⟨v, H, I, r, h⟩
  rcases l with ⟨hk, hm⟩ | ⟨hk, c, hc, hcell⟩
  · exact wpAny_Name (wpAny_loadName_local I.ok.kind hk hn hm fin) hd
  · rcases hk with hk | hk
    · exact wpAny_Name (wpAny_loadName_cell I.ok.kind hk hc hcell fin) hd
    · exact wpAny_Name (wpAny_loadName_free I.ok.kind hk hc hcell fin hcd) hd
theorem pe_int {i j pos} : PE X (.Constant (.int i) j pos) (tC (.int i)) := fun _ _ _ H _ I h => wpAny_Constant_int ⟨.int i, H, I.tok _, ⟨_, rfl⟩, h⟩
theorem pe_bl {b j pos} : PE X (.Constant (.bool b) j pos) (tC (.bl b)) := fun _ _ _ H _ I h => Constant_bool ⟨.bl b, H, I, rfl, h⟩
theorem pe_non {j pos} : PE X (.Constant .none j pos) (tC .non) := fun _ _ _ H _ I h => Constant_none ⟨.non, H, I, rfl, h⟩
theorem pe_str {x j pos} : PE X (.Constant (.str x) j pos) (tC (.str x)) := fun _ _ _ H _ I h => Calls.Constant_str ⟨.str x, H, I.tok _, ⟨_, rfl⟩, h⟩

/-- a global name of the def -/
def Gl (X : Cx) (x : Str) : Prop := X.env.kindOf x = some .globalImplicit
theorem ld_glob {E : Value → Shared → Prop} {pins : List (Addr × Obj)} {s : Shared} {σ : St} {H : Hp} {x : Str} {u : Value} {pos : Pos} {Q : Value → Shared → Prop} (I : Inv X pins σ H s) (hg : Gl X x) (hm : X.mg x = some u) (h : Q u s)
    (hd : (x == ("__debug__" : Str)) = false := by decide) : wpAny (model X.prog X.w) X.A (eval (.Name x pos) X.env) Q E s :=
  Calls.Name_function_global I.ok.kind hg (Calls.loadGlobal_global (by rw [I.ok.glob]; exact I.mod.glob.keeps I.bk) hm h) hd
theorem ld_blt {E : Value → Shared → Prop} {pins : List (Addr × Obj)} {s : Shared} {σ : St} {H : Hp} {x : Str} {u : Value} {pos : Pos} {Q : Value → Shared → Prop} (I : Inv X pins σ H s) (hg : Gl X x) (hm : X.mg x = none) (hv : bootBuiltins x = some u) (h : Q u s)
    (hn : x ≠ "__name__" := by decide) (hd : (x == ("__debug__" : Str)) = false := by decide) : wpAny (model X.prog X.w) X.A (eval (.Name x pos) X.env) Q E s := by
  obtain ⟨mb, h1, h2⟩ := I.mod.blt
  exact Calls.Name_function_global I.ok.kind hg (Calls.loadGlobal_builtin (by rw [I.ok.glob]; exact I.mod.glob.keeps I.bk) hm (by rw [I.ok.blt]; exact h1.keeps I.bk) ((h2 x hn).trans hv) h) hd
/-- a module's constant, a class, a function, as a value -/
theorem pe_glob {x : Str} {v : V} {u : Value} {pos : Pos} (hg : Gl X x) (hm : X.mg x = some u) (r : RelV v u) (hd : (x == ("__debug__" : Str)) = false := by decide) : PE X (.Name x pos) (tC v) :=
  fun _ _ _ H _ I h => ld_glob I hg hm ⟨v, H, I, r, h⟩ hd
theorem pe_bltn {x : Str} {v : V} {u : Value} {pos : Pos} (hg : Gl X x) (hm : X.mg x = none) (hv : bootBuiltins x = some u) (r : RelV v u) (hn : x ≠ "__name__" := by decide) (hd : (x == ("__debug__" : Str)) = false := by decide) : PE X (.Name x pos) (tC v) :=
  fun _ _ _ H _ I h => ld_blt I hg hm hv ⟨v, H, I, r, h⟩ hn hd

/-! ### arithmetic -/
/-- two ints -/
def t2I (ta tb : TE) (k : Int → Int → Hp → Prop) : St → Hp → Prop := fun σ H => ta σ H fun x H1 => tb σ H1 fun y H2 => ∃ i j, x = .int i ∧ y = .int j ∧ k i j H2
def tAdd (ta tb : TE) : TE := fun σ H Q => t2I ta tb (fun i j H2 => Q (.int (i + j)) H2) σ H
def tSub (ta tb : TE) : TE := fun σ H Q => t2I ta tb (fun i j H2 => Q (.int (i - j)) H2) σ H
/-- the left factor below 2^64 -/
def tMul (ta tb : TE) : TE := fun σ H Q => t2I ta tb (fun i j H2 => (-(2 ^ 64) < i ∧ i < 2 ^ 64) ∧ Q (.int (i * j)) H2) σ H
variable {a b : Expr} {ta tb : TE} {pos : Pos}
theorem pe_add (ha : PE X a ta) (hb : PE X b tb) : PE X (.BinOp a .Add b pos) (tAdd ta tb) := by
  intro pins s σ H Q I h
  refine wpAny_BinOp (bin ha hb I h fun v u s2 x y H2 I2 rx ry q => ?_)
  obtain ⟨i, j, rfl, rfl, q⟩ := q
  obtain ⟨t, rfl⟩ := rx
  obtain ⟨t', rfl⟩ := ry
  exact add_int ⟨.int _, H2, I2.tok _, ⟨_, rfl⟩, q⟩
theorem pe_sub (ha : PE X a ta) (hb : PE X b tb) : PE X (.BinOp a .Sub b pos) (tSub ta tb) := by
  intro pins s σ H Q I h
  refine wpAny_BinOp (bin ha hb I h fun v u s2 x y H2 I2 rx ry q => ?_)
  obtain ⟨i, j, rfl, rfl, q⟩ := q
  obtain ⟨t, rfl⟩ := rx
  obtain ⟨t', rfl⟩ := ry
  exact sub_int ⟨.int _, H2, I2.tok _, ⟨_, rfl⟩, q⟩
theorem pe_mul (ha : PE X a ta) (hb : PE X b tb) : PE X (.BinOp a .Mult b pos) (tMul ta tb) := by
  intro pins s σ H Q I h
  refine wpAny_BinOp (bin ha hb I h fun v u s2 x y H2 I2 rx ry q => ?_)
  obtain ⟨i, j, rfl, rfl, ⟨q1, q2⟩, q⟩ := q
  obtain ⟨t, rfl⟩ := rx
  obtain ⟨t', rfl⟩ := ry
  exact mul_int ⟨.int _, H2, I2.tok _, ⟨_, rfl⟩, q⟩ (.of_left (intBits_le_64 q1 q2))

/-! ### comparisons -/
def PC (X : Cx) (op : CmpOp) (a b : Expr) (t : TE) : Prop :=
  ∀ (pins : List (Addr × Obj)) (s : Shared) (σ : St) (H : Hp) (Q : VK), Inv X pins σ H s → t σ H Q →
    wpAny (model X.prog X.w) X.A (eval a X.env) (fun v s₁ => wpAny (model X.prog X.w) X.A (eval b X.env) (fun u s₂ => wpAny (model X.prog X.w) X.A (compareOp op v u) (EP X pins σ Q) X.xe s₂) X.xe s₁) X.xe s
theorem nobehind (b : Expr) {op : CmpOp} (h : op ≠ .In) (h2 : op ≠ .NotIn) : behindInMarks op b = false := by
  have e1 : (op == CmpOp.In) = false := by cases op <;> first | rfl | exact absurd rfl h
  have e2 : (op == CmpOp.NotIn) = false := by cases op <;> first | rfl | exact absurd rfl h2
  cases b <;> simp [behindInMarks, e1, e2]
def tCmp (p : Int → Int → Bool) (ta tb : TE) : TE := fun σ H Q => t2I ta tb (fun i j H2 => Q (.bl (p i j)) H2) σ H
abbrev tLt : TE → TE → TE := tCmp fun i j => decide (i < j)
abbrev tLe : TE → TE → TE := tCmp fun i j => decide (i ≤ j)
abbrev tGt : TE → TE → TE := tCmp fun i j => decide (j < i)
abbrev tGe : TE → TE → TE := tCmp fun i j => decide (j ≤ i)
abbrev tEqI : TE → TE → TE := tCmp fun i j => decide (i = j)
abbrev tNeI : TE → TE → TE := tCmp fun i j => !decide (i = j)
/-- a comparison of two ints, by its rule -/
theorem pc_int {op : CmpOp} {p : Int → Int → Bool} (ha : PE X a ta) (hb : PE X b tb)
    (rule : ∀ (i j : Int) (t u : Tok) (Q : Value → Shared → Prop) (s : Shared), Q (.bool (p i j)) s → wpAny (model X.prog X.w) X.A (compareOp op (.int i t) (.int j u)) Q X.xe s) : PC X op a b (tCmp p ta tb) := by
  intro pins s σ H Q I h
  refine bin ha hb I h fun v u s2 x y H2 I2 rx ry q => ?_
  obtain ⟨i, j, rfl, rfl, q⟩ := q
  obtain ⟨t, rfl⟩ := rx
  obtain ⟨t', rfl⟩ := ry
  exact rule i j t t' _ s2 ⟨.bl _, H2, I2, rfl, q⟩
theorem pc_lt (ha : PE X a ta) (hb : PE X b tb) : PC X .Lt a b (tLt ta tb) := pc_int ha hb fun _ _ _ _ _ _ h => lt_int h
theorem pc_le (ha : PE X a ta) (hb : PE X b tb) : PC X .LtE a b (tLe ta tb) := pc_int ha hb fun _ _ _ _ _ _ h => le_int h
theorem pc_gt (ha : PE X a ta) (hb : PE X b tb) : PC X .Gt a b (tGt ta tb) := pc_int ha hb fun _ _ _ _ _ _ h => gt_int h
theorem pc_ge (ha : PE X a ta) (hb : PE X b tb) : PC X .GtE a b (tGe ta tb) := pc_int ha hb fun _ _ _ _ _ _ h => ge_int h
theorem pc_eqI (ha : PE X a ta) (hb : PE X b tb) : PC X .Eq a b (tEqI ta tb) := pc_int ha hb fun _ _ _ _ _ _ h => eq_int (by rw [Bool.beq_eq_decide_eq]; exact h)
theorem pc_neI (ha : PE X a ta) (hb : PE X b tb) : PC X .NotEq a b (tNeI ta tb) := pc_int ha hb fun _ _ _ _ _ _ h => ne_int (by rw [bne, Bool.beq_eq_decide_eq]; exact h)
/-- is None -/
def tIsN (ta : TE) : TE := fun σ H Q => ta σ H fun x H1 => Q (.bl (decide (x = .non))) H1
def tNotN (ta : TE) : TE := fun σ H Q => ta σ H fun x H1 => Q (.bl (!decide (x = .non))) H1
theorem RelV.none_iff {x : V} {v : Value} (r : RelV x v) : (v == Value.none) = decide (x = .non) := by
  cases x with
  | non => cases r; rfl
  | bl _ => cases r; rfl
  | int _ => obtain ⟨t, rfl⟩ := r; rfl
  | str _ => obtain ⟨t, rfl⟩ := r; rfl
  | byt _ => obtain ⟨t, rfl⟩ := r; rfl
  | flt _ => obtain ⟨t, rfl⟩ := r; rfl
  | ref _ => cases r; rfl
  | ty _ => cases r; rfl
theorem pc_isN {j pos'} (ha : PE X a ta) : PC X .Is a (.Constant .none j pos') (tIsN ta) := by
  intro pins s σ H Q I h
  refine thn (ha pins s σ H _ I h) fun v s1 ⟨x, H1, I1, r1, q1⟩ => ?_
  exact Constant_none (is_none_gen ⟨.bl _, H1, I1, by rw [r1.none_iff]; rfl, q1⟩)
theorem pc_notN {j pos'} (ha : PE X a ta) : PC X .IsNot a (.Constant .none j pos') (tNotN ta) := by
  intro pins s σ H Q I h
  refine thn (ha pins s σ H _ I h) fun v s1 ⟨x, H1, I1, r1, q1⟩ => ?_
  exact Constant_none (isnot_none_gen ⟨.bl _, H1, I1, by rw [r1.none_iff]; rfl, q1⟩)
/-- a comparison as a value, as a test -/
def tB (t : TE) : TT := fun σ H Q => t σ H fun x H1 => ∃ c, x = .bl c ∧ Q c H1
theorem pe_cmp {op : CmpOp} {t : TE} (h : PC X op a b t) (h1 : behindInMarks op b = false := by first | exact nobehind _ (by decide) (by decide) | rfl) : PE X (.Compare a [op] [b] pos) t := fun pins s σ H Q I hw => wpAny_Compare1 (h pins s σ H Q I hw) h1
theorem pt_cmp {op : CmpOp} {t : TE} (h : PC X op a b t) (h1 : behindInMarks op b = false := by first | exact nobehind _ (by decide) (by decide) | rfl) : PT X (.Compare a [op] [b] pos) (tB t) := by
  intro pins s σ H Q I hw
  refine wpAny_isTrue_Compare1 (thn (h pins s σ H _ I hw) fun v s1 h1 => thn h1 fun u s2 h2 => thn h2 fun c s3 ⟨x, H1, I1, r1, q1⟩ => ?_) h1
  obtain ⟨d, rfl, q⟩ := q1
  cases r1
  exact wpAny_truthy_bool ⟨H1, I1, q⟩
/-- an expression whose value is a bool, as a test -/
theorem pt_val {e : Expr} {t : TE} (h : PE X e t) (he : ∀ whole, isTrue e X.env whole = (do let v ← whole; standAt e.pos; holding [v] (truthy v)) := by intro _; rfl) : PT X e (tB t) := by
  intro pins s σ H Q I hw
  refine isTrue_plain (thn (h pins s σ H _ I hw) fun v s1 ⟨x, H1, I1, r1, q1⟩ => ?_) (he _)
  obtain ⟨d, rfl, q⟩ := q1
  cases r1
  exact wpAny_truthy_bool ⟨H1, I1, q⟩

/-! ### and, or, not -/
variable {tA tB' : TT} {rest : List Expr}
def tAnd (t u : TT) : TT := fun σ H Q => t σ H fun c H1 => if c = true then u σ H1 Q else Q false H1
def tOr (t u : TT) : TT := fun σ H Q => t σ H fun c H1 => if c = true then Q true H1 else u σ H1 Q
def tNot (t : TT) : TT := fun σ H Q => t σ H fun c H1 => Q (!c) H1
theorem pw_and1 (ha : PT X a tA) : PW X (.BoolOp .And [a] pos) tA := by
  intro wh pins s σ H Q I h
  refine isTrue_and (thn (ha pins s σ H Q I h) fun c s1 e => ?_)
  cases c with
  | true => exact isTrue_and_nil e
  | false => exact e
theorem pw_or1 (ha : PT X a tA) : PW X (.BoolOp .Or [a] pos) tA := by
  intro wh pins s σ H Q I h
  refine isTrue_or (thn (ha pins s σ H Q I h) fun c s1 e => ?_)
  cases c with
  | false => exact isTrue_or_nil e
  | true => exact e
theorem pw_and (ha : PT X a tA) (hb : PW X (.BoolOp .And (b :: rest) pos) tB') : PW X (.BoolOp .And (a :: b :: rest) pos) (tAnd tA tB') := by
  intro wh pins s σ H Q I h
  refine isTrue_and (thn (ha pins s σ H _ I h) fun c s1 ⟨H1, I1, q1⟩ => ?_)
  cases c with
  | true => exact hb wh pins s1 σ H1 Q I1 q1
  | false => exact ⟨H1, I1, q1⟩
theorem pw_or (ha : PT X a tA) (hb : PW X (.BoolOp .Or (b :: rest) pos) tB') : PW X (.BoolOp .Or (a :: b :: rest) pos) (tOr tA tB') := by
  intro wh pins s σ H Q I h
  refine isTrue_or (thn (ha pins s σ H _ I h) fun c s1 ⟨H1, I1, q1⟩ => ?_)
  cases c with
  | true => exact ⟨H1, I1, q1⟩
  | false => exact hb wh pins s1 σ H1 Q I1 q1
theorem pt_not (ha : PT X a tA) : PT X (.UnaryOp .Not a pos) (tNot tA) := by
  intro pins s σ H Q I h
  exact isTrue_not (ha pins s σ H (fun c H1 => Q (!c) H1) I h)
/-- .. as values (bools) -/
def tAndV (ta tb : TE) : TE := fun σ H Q => ta σ H fun x H1 => ∃ c, x = .bl c ∧ if c = true then tb σ H1 Q else Q (.bl false) H1
def tOrV (ta tb : TE) : TE := fun σ H Q => ta σ H fun x H1 => ∃ c, x = .bl c ∧ if c = true then Q (.bl true) H1 else tb σ H1 Q
def tNotV (ta : TE) : TE := fun σ H Q => ta σ H fun x H1 => ∃ c, x = .bl c ∧ Q (.bl (!c)) H1
theorem pe_one {op} {t : TE} (h : PE X a t) : PE X (.BoolOp op [a] pos) t := fun pins s σ H Q I hw => BoolOp_one (h pins s σ H Q I hw)
theorem pe_and (ha : PE X a ta) (hb : PE X (.BoolOp .And (b :: rest) pos) tb) : PE X (.BoolOp .And (a :: b :: rest) pos) (tAndV ta tb) := by
  intro pins s σ H Q I h
  refine BoolOp_and (thn (ha pins s σ H _ I h) fun v s1 ⟨x, H1, I1, r1, q1⟩ => ?_)
  obtain ⟨c, rfl, q1⟩ := q1
  cases r1
  refine wpAny_truthy_bool ?_
  cases c with
  | true => exact hb pins s1 σ H1 Q I1 q1
  | false => exact ⟨.bl false, H1, I1, rfl, q1⟩
theorem pe_or (ha : PE X a ta) (hb : PE X (.BoolOp .Or (b :: rest) pos) tb) : PE X (.BoolOp .Or (a :: b :: rest) pos) (tOrV ta tb) := by
  intro pins s σ H Q I h
  refine BoolOp_or (thn (ha pins s σ H _ I h) fun v s1 ⟨x, H1, I1, r1, q1⟩ => ?_)
  obtain ⟨c, rfl, q1⟩ := q1
  cases r1
  refine wpAny_truthy_bool ?_
  cases c with
  | false => exact hb pins s1 σ H1 Q I1 q1
  | true => exact ⟨.bl true, H1, I1, rfl, q1⟩
theorem pe_not (ha : PE X a ta) : PE X (.UnaryOp .Not a pos) (tNotV ta) := by
  intro pins s σ H Q I h
  refine UnaryOp_ (thn (ha pins s σ H _ I h) fun v s1 ⟨x, H1, I1, r1, q1⟩ => ?_)
  obtain ⟨c, rfl, q1⟩ := q1
  cases r1
  exact not_of (wpAny_truthy_bool ⟨.bl (!c), H1, I1, rfl, q1⟩)
/-- a if t else b -/
def tIf (t : TT) (ta tb : TE) : TE := fun σ H Q => t σ H fun c H1 => if c = true then ta σ H1 Q else tb σ H1 Q
theorem pe_ifExp {c : Expr} (hc : PT X c tA) (ha : PE X a ta) (hb : PE X b tb) : PE X (.IfExp c a b pos) (tIf tA ta tb) := by
  intro pins s σ H Q I h
  refine wpAny_IfExp (thn (hc pins s σ H _ I h) fun d s1 ⟨H1, I1, q1⟩ => ?_)
  cases d with
  | true => exact ha pins s1 σ H1 Q I1 q1
  | false => exact hb pins s1 σ H1 Q I1 q1
end
end L2

namespace L2
open PySem PySem.Spec PyProof.Rows

/-! ### a list, a tuple that is read: tracked, frozen, or an object of the module -/
def SqL (K : PySem.W.Frag) (H : Hp) (a : Addr) (xs : List V) : Prop :=
  Rd H a (.lst xs) ∨
    ∃ (o : Obj) (its : Array Value) (n : Nat), K.lookup a = some o ∧ o.cls = .type "list" ∧ o.dict = none ∧ o.data = .seq its n ∧ its.size ≤ sizeLine ∧ Vals xs its.toList
def SqT (K : PySem.W.Frag) (H : Hp) (a : Addr) (xs : List V) : Prop :=
  Rd H a (.tup xs) ∨
    ∃ (o : Obj) (its : Array Value) (n : Nat), K.lookup a = some o ∧ o.cls = .type "tuple" ∧ o.data = .seq its n ∧ its.size ≤ sizeLine ∧ Vals xs its.toList
def absV : Value → Option V
  | .none => some .non
  | .bool b => some (.bl b)
  | .int i _ => some (.int i)
  | .str x _ => some (.str x)
  | .bytes b _ => some (.byt b)
  | .float b _ => some (.flt b)
  | .ref a => some (.ref a)
  | .type n => some (.ty n)
  | _ => none
theorem RelV.abs {x : V} {u : Value} (r : RelV x u) : absV u = some x := by
  cases x with
  | non => cases r; rfl
  | bl _ => cases r; rfl
  | int _ => obtain ⟨t, rfl⟩ := r; rfl
  | str _ => obtain ⟨t, rfl⟩ := r; rfl
  | byt _ => obtain ⟨t, rfl⟩ := r; rfl
  | flt _ => obtain ⟨t, rfl⟩ := r; rfl
  | ref _ => cases r; rfl
  | ty _ => cases r; rfl
theorem RelV.inj {x y : V} {u : Value} (r : RelV x u) (q : RelV y u) : x = y := Option.some.inj (r.abs.symm.trans q.abs)
theorem Vals.inj : ∀ {xs ys : List V} {us : List Value}, Vals xs us → Vals ys us → xs = ys
  | _, _, _, .nil, .nil => rfl
  | _, _, _, .cons r t, .cons r' t' => by rw [r.inj r', Vals.inj t t']
section
variable {X : Cx} {pins : List (Addr × Obj)} {σ : St} {H : Hp} {s : Shared} {a : Addr} {xs ys : List V}
theorem SqL.of {K : PySem.W.Frag} (h : H a = some (.lst xs)) : SqL K H a xs := .inl (.inl h)
theorem SqT.of {K : PySem.W.Frag} (h : H a = some (.tup xs)) : SqT K H a xs := .inl (.inl h)
theorem Inv.list (I : Inv X pins σ H s) (h : SqL X.K H a xs) : ∃ its : List Value, Vals xs its ∧ PlainL s.heap a its.toArray ∧ xs.length ≤ sizeLine := by
  rcases h with h | ⟨o, its, n, hk, hc, hd, hs, hz, r⟩
  · obtain ⟨z, its, n, r, e⟩ := h.ok I.hok
    exact ⟨its, r, ⟨_, n, e, rfl, rfl, rfl⟩, z⟩
  · refine ⟨its.toList, r, ⟨o, n, I.kIn a o hk, hc, hd, by simpa using hs⟩, ?_⟩
    have e := r.length
    simp only [Array.length_toList] at e
    omega
theorem Inv.tuple (I : Inv X pins σ H s) (h : SqT X.K H a xs) : ∃ its : List Value, Vals xs its ∧ IsTup s.heap a its.toArray ∧ xs.length ≤ sizeLine := by
  rcases h with h | ⟨o, its, n, hk, hc, hs, hz, r⟩
  · obtain ⟨z, its, r, p⟩ := h.ok I.hok
    exact ⟨its, r, p, z⟩
  · refine ⟨its.toList, r, ⟨o, I.kIn a o hk, hc, n, by simpa using hs⟩, ?_⟩
    have e := r.length
    simp only [Array.length_toList] at e
    omega
theorem Inv.list_inj (I : Inv X pins σ H s) (h : SqL X.K H a xs) (h' : SqL X.K H a ys) : xs = ys := by
  obtain ⟨its, r, ⟨o, n, e, _, _, d⟩, _⟩ := I.list h
  obtain ⟨its', r', ⟨o', n', e', _, _, d'⟩, _⟩ := I.list h'
  rw [e] at e'; cases e'
  rw [d] at d'
  injection d' with d1 _
  have : its = its' := by simpa using congrArg Array.toList d1
  subst this
  exact r.inj r'
theorem Inv.tuple_inj (I : Inv X pins σ H s) (h : SqT X.K H a xs) (h' : SqT X.K H a ys) : xs = ys := by
  obtain ⟨its, r, ⟨o, e, _, n, d⟩, _⟩ := I.tuple h
  obtain ⟨its', r', ⟨o', e', _, n', d'⟩, _⟩ := I.tuple h'
  rw [e] at e'; cases e'
  rw [d] at d'
  injection d' with d1 _
  have : its = its' := by simpa using congrArg Array.toList d1
  subst this
  exact r.inj r'
end

/-! ### another wish about exceptions -/
abbrev Cx.wish (X : Cx) (E : Value → Shared → Prop) : Cx := { X with xe := E }
/-- no exception leaves -/
abbrev Cx.nox (X : Cx) : Cx := X.wish fun _ _ => False
theorem Cx.Ok.wish {X : Cx} (ok : X.Ok) (E : Value → Shared → Prop) : (X.wish E).Ok :=
  ⟨ok.mod, ok.kind, ok.glob, ok.blt, ok.above, ok.inj, ok.has, ok.cab, ok.hd, ok.frames, ok.stk, ok.exf, ok.bs, ok.bsz, ok.noex, ok.exfs, ok.funs, ok.frf⟩
theorem Cx.Ok.unwish {X : Cx} {E : Value → Shared → Prop} (ok : (X.wish E).Ok) : X.Ok :=
  ⟨ok.mod, ok.kind, ok.glob, ok.blt, ok.above, ok.inj, ok.has, ok.cab, ok.hd, ok.frames, ok.stk, ok.exf, ok.bs, ok.bsz, ok.noex, ok.exfs, ok.funs, ok.frf⟩
section
variable {X : Cx} {pins : List (Addr × Obj)} {σ : St} {H : Hp} {s : Shared} {E : Value → Shared → Prop}
theorem Inv.wish (I : Inv X pins σ H s) (E : Value → Shared → Prop) : Inv (X.wish E) pins σ H s := ⟨I.ok.wish E, I.os, I.bare, I.base, I.loc, I.cell, I.free, I.freeC, I.pin, I.hok, I.len⟩
theorem Inv.unwish (I : Inv (X.wish E) pins σ H s) : Inv X pins σ H s := ⟨I.ok.unwish, I.os, I.bare, I.base, I.loc, I.cell, I.free, I.freeC, I.pin, I.hok, I.len⟩
theorem SP.unwish {D : Ends} {f : Flow} {s' : Shared} (h : SP (X.wish E) pins D f s') : SP X pins D f s' := by
  cases f with
  | next => obtain ⟨σ', H', I, q⟩ := h; exact ⟨σ', H', I.unwish, q⟩
  | brk => obtain ⟨σ', H', I, q⟩ := h; exact ⟨σ', H', I.unwish, q⟩
  | cont => obtain ⟨σ', H', I, q⟩ := h; exact ⟨σ', H', I.unwish, q⟩
  | ret u => obtain ⟨v, σ', H', I, r, q⟩ := h; exact ⟨v, σ', H', I.unwish, r, q⟩
theorem PE.nox {e : Expr} {t : TE} (h : PE X.nox e t) : PE X e t := fun pins s σ H Q I hw =>
  wpAny_mono (h pins s σ H Q (I.wish _) hw) (fun _ _ ⟨v, H', I', r, q⟩ => ⟨v, H', I'.unwish, r, q⟩) fun _ _ z => False.elim z
theorem PT.nox {e : Expr} {t : TT} (h : PT X.nox e t) : PT X e t := fun pins s σ H Q I hw =>
  wpAny_mono (h pins s σ H Q (I.wish _) hw) (fun _ _ ⟨H', I', q⟩ => ⟨H', I'.unwish, q⟩) fun _ _ z => False.elim z
theorem PSs.nox {st : List Stmt} {t : TS} (h : PSs X.nox st t) : PSs X st t := fun pins s σ H D I hw =>
  wpAny_mono (h pins s σ H D (I.wish _) hw) (fun _ _ q => q.unwish) fun _ _ z => False.elim z
end

/-! ### blocks and small statements -/
section
variable {X : Cx} {st : Stmt} {rest : List Stmt} {t u : TS} {e : Expr} {te : TE} {pos : Pos}
def tNext : TS := fun D σ H => D.nx σ H
def tSeq (t u : TS) : TS := fun D σ H => t { D with nx := u D } σ H
theorem pss_nil : PSs X [] tNext := fun _ _ σ H _ I h => wpAny_execs_nil ⟨σ, H, I, h⟩
theorem pss_cons (h1 : PS X st t) (h2 : PSs X rest u) : PSs X (st :: rest) (tSeq t u) := by
  intro pins s σ H D I h
  refine wpAny_execs_cons (thn (h1 pins s σ H { D with nx := u D } I h) fun f s1 q => ?_)
  cases f with
  | next =>
    obtain ⟨σ', H', I', q⟩ := q
    exact h2 pins s1 σ' H' D I' q
  | ret v => exact q
  | brk => exact q
  | cont => exact q
theorem pss_one (h1 : PS X st t) : PSs X [st] t := by
  intro pins s σ H D I h
  refine wpAny_execs_cons (thn (h1 pins s σ H D I h) fun f s1 q => ?_)
  cases f with
  | next => exact wpAny_execs_nil q
  | ret v => exact q
  | brk => exact q
  | cont => exact q
def tBreak : TS := fun D σ H => D.bk σ H
def tCont : TS := fun D σ H => D.ct σ H
theorem ps_pass : PS X (.Pass pos) tNext := fun _ _ σ H _ I h => wpAny_Pass ⟨σ, H, I, h⟩
theorem ps_break : PS X (.Break pos) tBreak := fun _ _ σ H _ I h => wpAny_Break ⟨σ, H, I, h⟩
theorem ps_continue : PS X (.Continue pos) tCont := fun _ _ σ H _ I h => wpAny_Continue ⟨σ, H, I, h⟩
/-- in a def's body nothing is shown -/
theorem Inv.quiet {pins : List (Addr × Obj)} {σ : St} {H : Hp} {s : Shared} (I : Inv X pins σ H s) : interactive X.env = false := by simp [interactive, I.ok.kind]
/-- a docstring -/
theorem ps_doc {x j pos pos'} : PS X (.Expr (.Constant (.str x) j pos) pos') tNext := fun _ s σ H _ I h => wpAny_Expr (Calls.Constant_str (show SP X _ _ .next { s with toks := s.toks + 1 } from ⟨σ, H, I.tok _, h⟩)) I.quiet
/-- an expression whose value is dropped -/
def tDrop (te : TE) : TS := fun D σ H => te σ H fun _ H1 => D.nx σ H1
theorem ps_expr (he : PE X e te) (hs : swapsWith e none pos.line X.env = pure false := by rfl) : PS X (.Expr e pos) (tDrop te) := by
  intro pins s σ H D I h
  exact wpAny_Expr_any (thn (he pins s σ H _ I h) fun v s1 ⟨x, H1, I1, r1, q1⟩ => ⟨σ, H1, I1, q1⟩) I.quiet hs
def tRet (te : TE) : TS := fun D σ H => te σ H D.rt
theorem ps_ret (he : PE X e te) : PS X (.Return (some e) pos) (tRet te) := by
  intro pins s σ H D I h
  exact wpAny_Return_some (thn (he pins s σ H _ I h) fun v s1 ⟨x, H1, I1, r1, q1⟩ => ⟨x, σ, H1, I1, r1, q1⟩)
def tRetN : TS := fun D _ H => D.rt .non H
theorem ps_retN : PS X (.Return none pos) tRetN := fun _ _ σ H _ I h => wpAny_Return_none ⟨.non, σ, H, I, rfl, h⟩
def tIfS (c : TT) (t u : TS) : TS := fun D σ H => c σ H fun b H1 => if b = true then t D σ H1 else u D σ H1
theorem ps_if {c : Expr} {a b : List Stmt} {tc : TT} (hc : PT X c tc) (ha : PSs X a t) (hb : PSs X b u) : PS X (.If c a b pos) (tIfS tc t u) := by
  intro pins s σ H D I h
  refine wpAny_If (thn (hc pins s σ H _ I h) fun d s1 ⟨H1, I1, q1⟩ => ?_)
  cases d with
  | true => exact ha pins s1 σ H1 D I1 q1
  | false => exact hb pins s1 σ H1 D I1 q1
/-- code that the proof never comes to -/
def tNever : TS := fun _ _ _ => False
theorem ps_never : PS X st tNever := fun _ _ _ _ _ _ h => h.elim
theorem pss_never {sts : List Stmt} : PSs X sts tNever := fun _ _ _ _ _ _ h => h.elim
end

/-! ### targets -/
abbrev TG := V → St → Hp → (St → Hp → Prop) → Prop
abbrev TGs := List V → St → Hp → (St → Hp → Prop) → Prop
def PG (X : Cx) (target : Expr) (t : TG) : Prop :=
  ∀ (pins : List (Addr × Obj)) (s : Shared) (σ : St) (H : Hp) (v : V) (u : Value) (Q : St → Hp → Prop), Inv X pins σ H s → RelV v u → t v σ H Q →
    wpAny (model X.prog X.w) X.A (assign target X.env u) (fun _ s' => ∃ σ' H', Inv X pins σ' H' s' ∧ Q σ' H') X.xe s
/-- several targets, one after another -/
def PGs (X : Cx) (ts : List Expr) (t : TGs) : Prop :=
  ∀ (pins : List (Addr × Obj)) (s : Shared) (σ : St) (H : Hp) (vs : List V) (us : List Value) (Q : St → Hp → Prop), Inv X pins σ H s → Vals vs us → t vs σ H Q →
    wpAny (model X.prog X.w) X.A (assignInOrder ((assignEach ts X.env).map (·.2)) us) (fun _ s' => ∃ σ' H', Inv X pins σ' H' s' ∧ Q σ' H') X.xe s
/-- o[i] = v, by values -/
abbrev TSet := V → V → V → Hp → (Hp → Prop) → Prop
def PSet (X : Cx) (t : TSet) : Prop :=
  ∀ (pins : List (Addr × Obj)) (s : Shared) (σ : St) (H : Hp) (o i v : V) (ov iv u : Value) (Q : Hp → Prop), Inv X pins σ H s → RelV o ov → RelV i iv → RelV v u → t o i v H Q →
    wpAny (model X.prog X.w) X.A (setItem ov iv u) (fun _ s' => ∃ H', Inv X pins σ H' s' ∧ Q H') X.xe s
/-- a op= b, by values -/
abbrev TIp := V → V → Hp → VK → Prop
def PIp (X : Cx) (op : Operator) (t : TIp) : Prop :=
  ∀ (pins : List (Addr × Obj)) (s : Shared) (σ : St) (H : Hp) (x y : V) (v u : Value) (Q : VK), Inv X pins σ H s → RelV x v → RelV y u → t x y H Q →
    wpAny (model X.prog X.w) X.A (inplaceOp op v u) (EP X pins σ Q) X.xe s
section
variable {X : Cx} {pos : Pos}
def gName (i : Nat) : TG := fun v σ H Q => Q (σ.set i (some v)) H
theorem pg_name {i : Nat} {x : Str} (hN : X.N.Nodup) (hi : X.N[i]? = some x) (hx : Loc X.env.scope x) (hf : X.fn x = true ∨ X.env.scope.names.lookup x = some .local := by first | exact .inl rfl | exact .inr rfl | assumption) : PG X (.Name x pos) (gName i) := by
  intro pins s σ H v u Q I r h
  exact wpAny_assign_Name (store_ok I hN hi hx r (fun s' I' => ⟨_, H, I', h⟩) hf)
def gNil : TGs := fun vs σ H Q => vs = [] ∧ Q σ H
def gCons (t : TG) (u : TGs) : TGs := fun vs σ H Q => ∃ v r, vs = v :: r ∧ t v σ H fun σ' H' => u r σ' H' Q
theorem pgs_nil : PGs X [] gNil := by
  intro pins s σ H vs us Q I r h
  obtain ⟨e, h⟩ := h
  subst e
  cases r
  exact assignInOrder_nil ⟨σ, H, I, h⟩
theorem pgs_cons {e : Expr} {es : List Expr} {t : TG} {u : TGs} (h1 : PG X e t) (h2 : PGs X es u)
    (hs : (assignEach (e :: es) X.env).map (·.2) = assign e X.env :: (assignEach es X.env).map (·.2) := by rfl) : PGs X (e :: es) (gCons t u) := by
  intro pins s σ H vs us Q I r h
  obtain ⟨v, vr, e1, h⟩ := h
  subst e1
  cases r with
  | cons r rr =>
    rw [hs]
    refine assignInOrder_cons (thn (h1 pins s σ H _ _ _ I r h) fun _ s1 ⟨σ1, H1, I1, q1⟩ => ?_)
    exact h2 pins s1 σ1 H1 _ _ Q I1 rr q1
/-- (a, b, ..) = a tuple of that length -/
def gTup (K : PySem.W.Frag) (n : Nat) (t : TGs) : TG := fun v σ H Q => ∃ a xs, v = .ref a ∧ SqT K H a xs ∧ xs.length = n ∧ t xs σ H Q
theorem pg_tup {es : List Expr} {k : Nat} {t : TGs} {n : Nat} (hc : X.calm = true) (h : PGs X es t)
    (hn : (assignEach es X.env).length = n := by rfl) (hst : (assignEach es X.env).findIdx? (·.1) = none := by rfl) : PG X (.Tuple es k pos) (gTup X.K n t) := by
  intro pins s σ H v u Q I r hw
  obtain ⟨a, xs, e1, hq, hl, hw⟩ := hw
  subst e1
  cases r
  obtain ⟨its, rv, ht, hz⟩ := I.tuple hq
  refine assign_Tuple_tuple (I.ok.hd hc) ht (by simp [hn, ← hl, rv.length]) hst fun h' hx => ?_
  have I1 : Inv X pins σ H { s with heap := h' } := I.kept (t' := s.toks) fun b o e => hx b o (Nat.ne_of_lt (Heap.lt_size e)) e
  exact h pins _ σ H xs _ Q I1 (by simpa using rv) hw
/-- o[i] = .. -/
def gSub (to ti : TE) (t : TSet) : TG := fun v σ H Q => to σ H fun o H1 => ti σ H1 fun i H2 => t o i v H2 fun H3 => Q σ H3
theorem pg_sub {o i : Expr} {to ti : TE} {t : TSet} (ho : PE X o to) (hi : PE X i ti) (hs : PSet X t)
    (ha : ∀ v, assign (.Subscript o i pos) X.env v = (do
      let ov ← holding [v] (eval o X.env)
      let iv ← holding [v, ov] (eval i X.env)
      standAt pos
      holding [v, ov, iv] (setItem ov iv v)
      release [v, ov, iv] []) := by intro _; rfl) : PG X (.Subscript o i pos) (gSub to ti t) := by
  intro pins s σ H v u Q I r h
  rw [ha]
  refine wpAny_bind (wpAny_holding (thn (ho pins s σ H _ I h) fun ov s1 ⟨x, H1, I1, r1, q1⟩ => ?_))
  refine wpAny_bind (wpAny_holding (thn (hi pins s1 σ H1 _ I1 q1) fun iv s2 ⟨y, H2, I2, r2, q2⟩ => ?_))
  refine wpAny_bind (wpAny_standAt (wpAny_bind (wpAny_holding (thn (hs pins s2 σ H2 x y v ov iv u _ I2 r1 r2 r q2) fun _ s3 ⟨H3, I3, q3⟩ => ?_))))
  exact wpAny_release ⟨σ, H3, I3, q3⟩
/-- target = value -/
def tAsg (te : TE) (g : TG) : TS := fun D σ H => te σ H fun x H1 => g x σ H1 D.nx
theorem ps_asg {tg e : Expr} {te : TE} {g : TG} (he : PE X e te) (hg : PG X tg g) (hs : swapsWithSole [tg] e pos.line X.env = pure false := by rfl) (hw : swappedStores [tg] e X.env = pure none := by rfl)
    (h1 : (assignEach [tg] X.env).map (·.2) = [assign tg X.env] := by rfl) : PS X (.Assign [tg] e pos) (tAsg te g) := by
  intro pins s σ H D I h
  refine wpAny_Assign_stores (thn (he pins s σ H _ I h) fun v s1 ⟨x, H1, I1, r1, q1⟩ => ?_) hs hw
  rw [h1]
  exact thn (hg pins s1 σ H1 x v _ I1 r1 q1) fun _ s2 q => q
/-- name = value -/
theorem ps_set {i : Nat} {x : Str} {e : Expr} {te : TE} {pos' : Pos} (hN : X.N.Nodup) (hi : X.N[i]? = some x) (hx : Loc X.env.scope x) (he : PE X e te) (hs : swapsWith e (some (.Name x pos')) pos.line X.env = pure false := by rfl) (hf : X.fn x = true ∨ X.env.scope.names.lookup x = some .local := by first | exact .inl rfl | exact .inr rfl | assumption) :
    PS X (.Assign [.Name x pos'] e pos) (tAsg te (gName i)) := by
  intro pins s σ H D I h
  refine wpAny_Assign_Name (thn (he pins s σ H _ I h) fun v s1 ⟨y, H1, I1, r1, q1⟩ => ?_) hs
  exact store_ok I1 hN hi hx r1 (fun s2 I2 => ⟨_, H1, I2, q1⟩) hf
/-- a, b = x, y with plain local names: stored from the right; the pair itself is not tracked (the opening rows as in PyProof/Rows/TupAssign.lean:23) -/
def tPar (i j : Nat) (ta : TA) : TS := fun D σ H => ta σ H fun vs H1 => ∃ v w, vs = [v, w] ∧ D.nx ((σ.set i (some v)).set j (some w)) H1
theorem ps_par {i j : Nat} {x y : Str} {a b : Expr} {ta : TA} {px py pt : Pos} {kt k2 pt2} (hc : X.calm = true) (hN : X.N.Nodup) (hi : X.N[i]? = some x) (hj : X.N[j]? = some y) (hij : i ≠ j)
    (hx : X.env.scope.names.lookup x = some .local) (hy : X.env.scope.names.lookup y = some .local) (ha : PA X [a, b] ta)
    (hw : swappedStores [.Tuple [.Name x px, .Name y py] kt pt] (.Tuple [a, b] k2 pt2) X.env = pure (some [x, y]))
    (hs : swapsWithSole [.Tuple [.Name x px, .Name y py] kt pt] (.Tuple [a, b] k2 pt2) pos.line X.env = pure false := by rfl) :
    PS X (.Assign [.Tuple [.Name x px, .Name y py] kt pt] (.Tuple [a, b] k2 pt2) pos) (tPar i j ta) := by
  intro pins s σ H D I h
  rw [exec_Assign_arm]
  refine wpAny_bind (wpAny_standAt ?_)
  rw [hs]
  refine wpAny_bind (wpAny_pure ?_)
  rw [if_neg (by decide)]
  refine wpAny_bind (Tuple_ (thn (ha _ pins s σ H _ I h) fun us s1 ⟨vs, H1, I1, r1, q1⟩ => ?_))
  obtain ⟨v, w, e1, q1⟩ := q1
  subst e1
  obtain ⟨u1, u2, rfl, rv, rw'⟩ : ∃ u1 u2, us = [u1, u2] ∧ RelV v u1 ∧ RelV w u2 := by
    cases r1 with
    | cons p q =>
      cases q with
      | cons p' q' =>
        cases q'
        exact ⟨_, _, rfl, p, p'⟩
  refine wpAny_newObj_type ?_ (by show 2 ≤ sizeLine; decide)
  have I2 : Inv X pins σ H1 { s1 with heap := s1.heap.push { cls := .type "tuple", data := .seq [u1, u2].toArray } } := I1.kept (t' := s1.toks) fun b o e => Heap.get?_push_of_some _ e
  rw [hw]
  refine wpAny_bind (wpAny_pure ?_)
  show wpAny (model X.prog X.w) X.A (do rule "assign.swapped-stores"; let items ← unpackItems (.ref s1.heap.objs.size) 2 none; assignInOrder [fun v => bindName X.env y v, fun v => bindName X.env x v] items.reverse; pure Flow.next) _ _ _
  refine wpAny_bind (wpAny_rule (wpAny_bind (unpackItems_tuple (items := #[u1, u2]) (I.ok.hd hc) (IsTup.new s1.heap _) fun h' hx' => ?_)))
  have I3 := I2.kept (h' := h') (t' := s1.toks) fun b o e => hx' b o (Nat.ne_of_lt (Heap.lt_size e)) e
  show wpAny _ _ (assignInOrder [fun v => bindName X.env y v, fun v => bindName X.env x v] [u2, u1] >>= fun _ => pure Flow.next) _ _ _
  refine wpAny_bind (assignInOrder_cons (wpAny_bindName (store_ok I3 hN hj (.inl hy) rw' (fun s2 I4 => ?_) (.inr hy))))
  refine assignInOrder_cons (wpAny_bindName (store_ok I4 hN hi (.inl hx) rv (fun s3 I5 => assignInOrder_nil (wpAny_pure ?_)) (.inr hx)))
  rw [List.set_comm _ _ (Ne.symm hij)] at I5
  exact ⟨_, H1, I5, q1⟩
/-- name op= e -/
def tAug (i : Nat) (te : TE) (ti : TIp) : TS := fun D σ H => ∃ x, σ[i]? = some (some x) ∧ te σ H fun y H1 => ti x y H1 fun z H2 => D.nx (σ.set i (some z)) H2
theorem ps_aug {i : Nat} {x : Str} {e : Expr} {te : TE} {op : Operator} {ti : TIp} {pos' : Pos} (hN : X.N.Nodup) (hi : X.N[i]? = some x) (hx : Loc X.env.scope x) (he : PE X e te) (ho : PIp X op ti) (hf : X.fn x = true ∨ X.env.scope.names.lookup x = some .local := by first | exact .inl rfl | exact .inr rfl | assumption) :
    PS X (.AugAssign (.Name x pos') op e pos) (tAug i te ti) := by
  intro pins s σ H D I h
  obtain ⟨v, e1, h⟩ := h
  obtain ⟨m, hn, hl⟩ := I.loc
  have vis : Vis X.env.scope x := by rcases hx with k | k; exact .inl k; exact .inr (.inl k)
  obtain ⟨u, r, l⟩ := hl i x v hi e1 vis
  refine wpAny_AugAssign_Name ?_
  have go : wpAny (model X.prog X.w) X.A (eval e X.env) (fun w s₂ => wpAny (model X.prog X.w) X.A (inplaceOp op u w) (fun r s₃ => wpAny (model X.prog X.w) X.A (storeName X.env x r) (fun _ => SP X pins D .next) X.xe s₃) X.xe s₂) X.xe s := by
    refine thn (he pins s σ H _ I h) fun w s1 ⟨y, H1, I1, r1, q1⟩ => ?_
    refine thn (ho pins s1 σ H1 v y u w _ I1 r r1 q1) fun z s2 ⟨zv, H2, I2, r2, q2⟩ => ?_
    exact store_ok I2 hN hi hx r2 (fun s3 I3 => ⟨_, H2, I3, q2⟩) hf
  rcases l with ⟨hk, hm⟩ | ⟨hk, c, hc, hcell⟩
  · exact wpAny_loadName_local I.ok.kind hk hn hm go
  · rcases hk with hk | hk
    · exact wpAny_loadName_cell I.ok.kind hk hc hcell go
    · rcases hx with k | k
      · have : X.env.scope.names.lookup x = some .free := hk
        rw [k] at this; cases this
      · have : X.env.scope.names.lookup x = some .free := hk
        rw [k] at this; cases this
/-- o[i] op= e -/
def tAugS (to ti te : TE) (tget : V → V → Hp → VK → Prop) (tip : TIp) (tset : TSet) : TS := fun D σ H => to σ H fun o H1 => ti σ H1 fun i H2 => tget o i H2 fun x H3 => te σ H3 fun y H4 => tip x y H4 fun z H5 => tset o i z H5 fun H6 => D.nx σ H6
/-- o[i], by values -/
def PGet (X : Cx) (t : V → V → Hp → VK → Prop) : Prop :=
  ∀ (pins : List (Addr × Obj)) (s : Shared) (σ : St) (H : Hp) (o i : V) (ov iv : Value) (Q : VK), Inv X pins σ H s → RelV o ov → RelV i iv → t o i H Q →
    wpAny (model X.prog X.w) X.A (getItem ov iv) (EP X pins σ Q) X.xe s
theorem ps_augS {o i e : Expr} {to ti te : TE} {tget : V → V → Hp → VK → Prop} {tip : TIp} {tset : TSet} {op : Operator} {tpos : Pos} (ho : PE X o to) (hi : PE X i ti) (hg : PGet X tget) (he : PE X e te) (hp : PIp X op tip) (hs : PSet X tset)
    (ha : ∀ ov iv new, augStore i ov iv new = (do holding [new, ov, iv] (setItem ov iv new); release [new, ov, iv] []; pure .next) := by intros; rfl) : PS X (.AugAssign (.Subscript o i tpos) op e pos) (tAugS to ti te tget tip tset) := by
  intro pins s σ H D I h
  refine wpAny_AugAssign_SubscriptAny (thn (ho pins s σ H _ I h) fun ov s1 ⟨x1, H1, I1, r1, q1⟩ => ?_) ha
  refine thn (hi pins s1 σ H1 _ I1 q1) fun iv s2 ⟨x2, H2, I2, r2, q2⟩ => ?_
  refine thn (hg pins s2 σ H2 x1 x2 ov iv _ I2 r1 r2 q2) fun old s3 ⟨x3, H3, I3, r3, q3⟩ => ?_
  refine thn (he pins s3 σ H3 _ I3 q3) fun v s4 ⟨x4, H4, I4, r4, q4⟩ => ?_
  refine thn (hp pins s4 σ H4 x3 x4 old v _ I4 r3 r4 q4) fun new s5 ⟨x5, H5, I5, r5, q5⟩ => ?_
  exact thn (hs pins s5 σ H5 x1 x2 x5 ov iv new _ I5 r1 r2 r5 q5) fun _ s6 ⟨H6, I6, q6⟩ => ⟨σ, H6, I6, q6⟩
/-- ints -/
def ipI (f : Int → Int → Int) : TIp := fun x y H Q => ∃ i j, x = .int i ∧ y = .int j ∧ Q (.int (f i j)) H
theorem ip_add : PIp X .Add (ipI fun i j => i + j) := by
  intro pins s σ H x y v u Q I r1 r2 h
  obtain ⟨i, j, e1, e2, q⟩ := h
  subst e1; subst e2
  obtain ⟨t, rfl⟩ := r1
  obtain ⟨t', rfl⟩ := r2
  exact iadd_int ⟨.int _, H, I.tok _, ⟨_, rfl⟩, q⟩
theorem ip_sub : PIp X .Sub (ipI fun i j => i - j) := by
  intro pins s σ H x y v u Q I r1 r2 h
  obtain ⟨i, j, e1, e2, q⟩ := h
  subst e1; subst e2
  obtain ⟨t, rfl⟩ := r1
  obtain ⟨t', rfl⟩ := r2
  exact isub_int ⟨.int _, H, I.tok _, ⟨_, rfl⟩, q⟩
end

/-! ### while -/
section
variable {X : Cx} {pos : Pos}
/-- the invariant W with its measure -/
def tWhile (c : TT) (tb : TS) : TS := fun D σ H => ∃ W : Nat → St → Hp → Prop, (∃ m, W m σ H) ∧ ∀ m σ H, W m σ H →
  c σ H fun b H1 => if b = true then ∃ N : St → Hp → Prop, (∀ σ' H', N σ' H' → ∃ m', m' < m ∧ W m' σ' H') ∧ tb { D with nx := N, ct := N, bk := D.nx } σ H1 else D.nx σ H1
theorem ps_while {c : Expr} {body : List Stmt} {tc : TT} {tb : TS} (hp : PassesOwn (model X.prog X.w) X.A X.env X.xe) (hc : PT X c tc) (hb : PSs X body tb) : PS X (.While c body [] pos) (tWhile tc tb) := by
  intro pins s σ H D I h
  obtain ⟨W, ⟨m0, w0⟩, turn⟩ := h
  refine wpAny_While (codeAny_whileLoop (fun n s' => ∃ σ' H', Inv X pins σ' H' s' ∧ W n σ' H') ?_ m0 ⟨σ, H, I, w0⟩)
  rintro n s1 ⟨σ1, H1, I1, w1⟩
  refine wpAny_passesOwn hp (thn (hc pins s1 σ1 H1 _ I1 (turn n σ1 H1 w1)) fun b s2 ⟨H2, I2, q2⟩ => ?_)
  cases b with
  | true =>
    obtain ⟨N, hN, q2⟩ := q2
    rw [if_pos rfl]
    refine wpAny_passesOwn hp (thn (hb pins s2 σ1 H2 _ I2 q2) fun f s3 q3 => ?_)
    cases f with
    | next =>
      obtain ⟨σ3, H3, I3, n3⟩ := q3
      obtain ⟨m', hm, w3⟩ := hN σ3 H3 n3
      exact ⟨m', hm, σ3, H3, I3, w3⟩
    | cont =>
      obtain ⟨σ3, H3, I3, n3⟩ := q3
      obtain ⟨m', hm, w3⟩ := hN σ3 H3 n3
      exact ⟨m', hm, σ3, H3, I3, w3⟩
    | brk => exact q3
    | ret v => exact q3
  | false =>
    rw [if_neg Bool.false_ne_true]
    exact wpAny_execs_nil ⟨σ1, H2, I2, q2⟩
end

/-! ### what a loop or a comprehension walks -/
/-- at turn i: it yields x (the heap may grow), or it stops -/
structure It where
  go : Nat → Hp → Prop
  yld : Nat → Hp → V → Hp → Prop
  stop : Nat → Hp → Prop
/-- the iterator's own objects may turn: they are not the frame's, not pinned, younger than the entry (or a comprehension's own) -/
def FpOk (X : Cx) (pins : List (Addr × Obj)) (H : Hp) (b : Addr) : Prop :=
  H b = none ∧ b ≠ X.env.locals ∧ b ∉ X.fs ∧ (b ∈ X.ex ∨ X.s₀.heap.objs.size ≤ b) ∧ (∀ x c, X.env.cells.lookup x = some c → c ≠ b) ∧ ∀ p ∈ X.pn ++ pins, p.1 ≠ b
theorem Inv.fpOk {X : Cx} {pins : List (Addr × Obj)} {σ : St} {H H' : Hp} {s : Shared} {b : Addr} (I : Inv X pins σ H s) (hb : s.heap.objs.size ≤ b) (hn : H' b = none) : FpOk X pins H' b := by
  refine ⟨hn, Nat.ne_of_gt (Nat.lt_of_lt_of_le I.lt hb), I.nofs hb, .inr (Nat.le_trans I.sz hb), fun x c e z => ?_, fun p hp z => ?_⟩
  · obtain ⟨v, q⟩ := I.cell x c e
    exact absurd (Nat.lt_of_lt_of_le q.lt (by rw [z]; exact hb)) (Nat.lt_irrefl _)
  · exact absurd (Nat.lt_of_lt_of_le (Heap.lt_size (I.pin p hp).1) (by rw [z]; exact hb)) (Nat.lt_irrefl _)
/-- what is handled stands with no context -/
def HandQ (X : Cx) (s : Shared) : Prop := ∃ (ea : Addr) (o : Obj) (vs : Array Value), X.A.handled = some (.ref ea) ∧ s.heap.get? ea = some o ∧ o.data = .fields vs ∧ vs[2]? = some .none
/-- where an iterator may end: nothing is handled; hb: or what is handled has no context -/
def EndQ (hb : Bool) (X : Cx) (s : Shared) : Prop := X.A.handled = none ∨ (hb = true ∧ HandQ X s)
theorem EndQ.none {X : Cx} {s : Shared} (h : EndQ false X s) : X.A.handled = Option.none := by
  rcases h with h | ⟨z, _⟩
  · exact h
  · cases z
structure Turn (P : Program) (w : World) (K : PySem.W.Frag) (tg : Expr) (J : It) (fp : List Addr) (it : Addr) (tn : Nat → Heap → Prop) (hb : Bool := false) : Prop where
  mem : it ∈ fp
  obj : ∀ i h, tn i h → ∀ b ∈ fp, ∃ o, h.get? b = some o ∧ ∀ v, o.data ≠ .cell v
  keep : ∀ i h h', tn i h → (∀ b ∈ fp, ∀ o, h.get? b = some o → h'.get? b = some o) → tn i h'
  item : ∀ (X : Cx), X.prog = P → X.w = w → X.K = K → ∀ (s : Shared), EndQ hb X s → ∀ (i : Nat) (pins : List (Addr × Obj)) (σ : St) (H : Hp) (E : Value → Shared → Prop), Inv X pins σ H s → (∀ b ∈ fp, FpOk X pins H b) → tn i s.heap → J.go i H →
    wpAny (model P w) X.A (pyNext (.ref it)) (fun r s1 => ∃ u, r = some u ∧
      wpAny (model P w) X.A (letOwnedTupleGo tg (.ref it) u) (fun _ s2 => ∃ x H', Inv X pins σ H' s2 ∧ RelV x u ∧ J.yld i H x H' ∧ tn (i + 1) s2.heap ∧ ∀ b ∈ fp, H' b = none) E s1) E s
  done : ∀ (X : Cx), X.prog = P → X.w = w → X.K = K → ∀ (s : Shared), EndQ hb X s → ∀ (i : Nat) (pins : List (Addr × Obj)) (σ : St) (H : Hp) (E : Value → Shared → Prop), Inv X pins σ H s → (∀ b ∈ fp, FpOk X pins H b) → tn i s.heap → J.stop i H →
    wpAny (model P w) X.A (pyNext (.ref it)) (fun r s1 => r = none ∧ Inv X pins σ H s1) E s
  self : ∀ (A : Around) (i : Nat) (s : Shared) (Q : Value → Shared → Prop) (E : Value → Shared → Prop), tn i s.heap → Q (.ref it) s → wpAny (model P w) A (pyIter (.ref it)) Q E s
abbrev TI := St → Hp → (It → Hp → Prop) → Prop
/-- an iterator has come -/
def PIE (X : Cx) (pins : List (Addr × Obj)) (σ : St) (tg : Expr) (R : It → Hp → Prop) (hb : Bool) (itv : Value) (s2 : Shared) : Prop :=
  ∃ (it : Addr) (fp : List Addr) (tn : Nat → Heap → Prop) (J : It) (H' : Hp), itv = .ref it ∧ Inv X pins σ H' s2 ∧ Turn X.prog X.w X.K tg J fp it tn hb ∧ tn 0 s2.heap ∧ (∀ b ∈ fp, FpOk X pins H' b) ∧ R J H'
def PI (X : Cx) (tg iter : Expr) (wi : TI) (hb : Bool := false) : Prop :=
  ∀ (pins : List (Addr × Obj)) (s : Shared) (σ : St) (H : Hp) (R : It → Hp → Prop), Inv X pins σ H s → wi σ H R →
    wpAny (model X.prog X.w) X.A (eval iter X.env) (fun v s1 => wpAny (model X.prog X.w) X.A (pyIter v) (PIE X pins σ tg R hb) X.xe s1) X.xe s

/-- the step ahead of the store is nothing for an iterator that keeps no tuple -/
theorem go_of {M : Model} {A : Around} {E : Value → Shared → Prop} {s : Shared} {tg : Expr} {it : Addr} {u : Value} {o : Obj} {n : String} {vs : Array Value} {Q : Unit → Shared → Prop} (ho : s.heap.get? it = some o) (hc : o.cls = .type n) (hd : o.data = .fields vs)
    (hn : ["enumerate", "zip", "dict_itemiterator", "dict_reverseitemiterator", "odict_iterator", "itertools.zip_longest", "itertools.pairwise"].contains n = false) (hQ : Q () s) : wpAny M A (letOwnedTupleGo tg (.ref it) u) Q E s := by
  unfold letOwnedTupleGo
  cases tg <;> first
    | exact wpAny_pure hQ
    | (cases u <;> first
        | exact wpAny_pure hQ
        | (refine wpAny_bind (wpAny_load ho ?_)
           rw [hc, hd]
           show wpAny M A (if (["enumerate", "zip", "dict_itemiterator", "dict_reverseitemiterator", "odict_iterator", "itertools.zip_longest", "itertools.pairwise"].contains n && vs[0]? == some (rawInt _)) = true then _ else _) Q E s
           rw [if_neg (by intro h; rw [hn, Bool.false_and] at h; cases h)]
           exact wpAny_pure hQ))

/-- the list at a, as it stands at each turn (a loop may append to it) -/
def Itl (K : PySem.W.Frag) (a : Addr) : It :=
  ⟨fun i H => ∃ xs x, SqL K H a xs ∧ xs[i]? = some x, fun i H x H' => H' = H ∧ ∀ xs, SqL K H a xs → xs[i]? = some x, fun i H => ∃ xs, SqL K H a xs ∧ xs.length ≤ i⟩
def Itt (K : PySem.W.Frag) (a : Addr) : It :=
  ⟨fun i H => ∃ xs x, SqT K H a xs ∧ xs[i]? = some x, fun i H x H' => H' = H ∧ ∀ xs, SqT K H a xs → xs[i]? = some x, fun i H => ∃ xs, SqT K H a xs ∧ xs.length ≤ i⟩
/-- lo, lo + 1, .. (n of them) -/
def Itr (lo : Int) (n : Nat) : It := ⟨fun i _ => i < n, fun i H x H' => H' = H ∧ x = .int (lo + i), fun i _ => n ≤ i⟩
theorem turn_list {P : Program} {w : World} {K : PySem.W.Frag} {tg : Expr} (a it : Addr) : Turn P w K tg (Itl K a) [it] it (fun i h => h.IsListIter it a i) where
  mem := by simp
  obj := fun i h st b hb => by
    have e : b = it := by simpa using hb
    subst e
    obtain ⟨o, e, c, d⟩ := st
    exact ⟨o, e, fun v z => by rw [d] at z; cases z⟩
  keep := fun i h h' st k => st.at fun o e => k it (by simp) o e
  item := by
    intro X hP hw hK s hc i pins σ H E I hf st hg
    subst hP hw hK
    obtain ⟨xs, x, hq, hx⟩ := hg
    obtain ⟨its, rv, p, hz⟩ := I.list hq
    obtain ⟨u, hu, ru⟩ := rv.get hx
    obtain ⟨f0, f1, f2, f3, f4, f5⟩ := hf it (by simp)
    refine wpAny_pyNext_list_item st p.isList (x := u) (by simpa using hu) fun h' st' sb => ?_
    have I1 : Inv X pins σ H { s with heap := h' } := I.turned (t' := s.toks) (fun b o hb e => (sb.2 b hb).trans e) f0 f1 f3 f4 f5
    obtain ⟨o, e, c, d⟩ := id st'
    exact ⟨u, rfl, go_of (s := { s with heap := h' }) e c d (by decide) ⟨x, H, I1, ru, ⟨rfl, fun ys hy => by rw [I.list_inj hy hq]; exact hx⟩, st', fun b hb => (hf b hb).1⟩⟩
  done := by
    intro X hP hw hK s hc i pins σ H E I hf st hg
    subst hP hw hK
    obtain ⟨xs, hq, hx⟩ := hg
    obtain ⟨its, rv, p, hz⟩ := I.list hq
    obtain ⟨f0, f1, f2, f3, f4, f5⟩ := hf it (by simp)
    have hl := rv.length
    exact wpAny_pyNext_list_end hc.none st p.isList (by simp; omega) fun h' eb => ⟨rfl, I.turned (t' := s.toks) (fun b o hb e => eb b o hb e) f0 f1 f3 f4 f5⟩
  self := fun _ _ _ _ _ st h => wpAny_pyIter_listiter st h
theorem turn_tuple {P : Program} {w : World} {K : PySem.W.Frag} {tg : Expr} (a it : Addr) : Turn P w K tg (Itt K a) [it] it (fun i h => h.IsTupleIter it a i) where
  mem := by simp
  obj := fun i h st b hb => by
    have e : b = it := by simpa using hb
    subst e
    obtain ⟨o, e, c, d⟩ := st
    exact ⟨o, e, fun v z => by rw [d] at z; cases z⟩
  keep := fun i h h' st k => st.at fun o e => k it (by simp) o e
  item := by
    intro X hP hw hK s hc i pins σ H E I hf st hg
    subst hP hw hK
    obtain ⟨xs, x, hq, hx⟩ := hg
    obtain ⟨its, rv, p, hz⟩ := I.tuple hq
    obtain ⟨u, hu, ru⟩ := rv.get hx
    obtain ⟨f0, f1, f2, f3, f4, f5⟩ := hf it (by simp)
    refine wpAny_pyNext_tuple_item st (show s.heap.IsTuple a its.toArray from p) (x := u) (by simpa using hu) fun h' st' sb => ?_
    have I1 : Inv X pins σ H { s with heap := h' } := I.turned (t' := s.toks) (fun b o hb e => (sb.2 b hb).trans e) f0 f1 f3 f4 f5
    obtain ⟨o, e, c, d⟩ := id st'
    exact ⟨u, rfl, go_of (s := { s with heap := h' }) e c d (by decide) ⟨x, H, I1, ru, ⟨rfl, fun ys hy => by rw [I.tuple_inj hy hq]; exact hx⟩, st', fun b hb => (hf b hb).1⟩⟩
  done := by
    intro X hP hw hK s hc i pins σ H E I hf st hg
    subst hP hw hK
    obtain ⟨xs, hq, hx⟩ := hg
    obtain ⟨its, rv, p, hz⟩ := I.tuple hq
    obtain ⟨f0, f1, f2, f3, f4, f5⟩ := hf it (by simp)
    have hl := rv.length
    exact wpAny_pyNext_tuple_end hc.none st (show s.heap.IsTuple a its.toArray from p) (by simp; omega) fun h' eb => ⟨rfl, I.turned (t' := s.toks) (fun b o hb e => eb b o hb e) f0 f1 f3 f4 f5⟩
  self := fun _ _ _ _ _ st h => wpAny_pyIter_tupleiter st h
section
variable {prog : Program} {w : World} {A : Around} {E : Value → Shared → Prop} {s : Shared} {e ea it : Addr} {o oe : Obj} {us vs : Array Value}
theorem ent_unchain : entryFor table "proto.unchain" = some Builtin.«proto.unchain» := entryFor_of_tree (by kernel_rfl)
/-- a new exception is raised while another one is handled, which has no context -/
theorem raise_hand {α : Type} {Q : α → Shared → Prop} (hh : A.handled = some (.ref ea)) (hea : s.heap.get? ea = some oe) (hd : oe.data = .fields vs) (h2 : vs[2]? = some .none) (he : s.heap.get? e = some o) (hde : o.data = .fields us) (hsz : 2 < us.size) (hne : ea ≠ e)
    (hE : E (.ref e) { s with heap := s.heap.update e (Obj.mapFields (·.setIfInBounds 2 (.ref ea))) }) : wpAny (model prog w) A (raiseNew (.ref e) : Sem α) Q E s := by
  have n : (Value.ref ea != Value.ref e) = true := by simp [hne]
  unfold raiseNew
  refine wpAny_bind (wpAny_handled ?_)
  rw [hh]
  show wpAny _ _ (if (Value.ref ea != Value.ref e) = true then _ else _) _ _ _
  rw [if_pos n]
  refine wpAny_bind (wpAny_holding (wpAny_runValue (codeAny_builtin ent_unchain ?_)))
  show wpAny _ _ (field (.ref ea) 2 >>= _) _ _ _
  refine wpAny_bind (wpAny_field hea hd h2 ?_)
  show wpAny _ _ (if (Value.none == Value.none) = true then _ else _) _ _ _
  rw [if_pos (show (Value.none == Value.none) = true from rfl)]
  refine wpAny_pure ?_
  exact wpAny_bind (wpAny_setField he hde hsz (wpAny_throw hE))
/-- a range's end, while an exception is handled -/
theorem range_end_hand {x left step : Int} {Q : Option Value → Shared → Prop} (hh : A.handled = some (.ref ea)) (hea : s.heap.get? ea = some oe) (hd : oe.data = .fields vs) (h2 : vs[2]? = some .none) (hit : IsRangeIter s.heap it x left step) (hleft : left ≤ 0)
    (hQ : ∀ h', Heap.ExtBut it s.heap h' → Q none { s with heap := h' }) : wpAny (model prog w) A (pyNext (.ref it)) Q E s := by
  have hT : s.TypeIs (.ref it) "range_iterator" := ⟨_, hit, rfl⟩
  have lt := Heap.lt_size hea
  unfold pyNext; refine wpAny_bind (wpAny_attempt (wpAny_callSpecial?_slot (name := Str.ofString "__next__") hT F.slot_range_iterator_next (wpAny_call_entry F.slot_range_iterator_next hT F.entry_range_iterator_next ?_ (F.args_range_iterator_next_1 _))))
  show wpAny _ _ (field (.ref it) 0 >>= _) _ _ s; refine wpAny_bind (wpAny_field hit rfl (x := rawInt x) rfl ?_); show wpAny _ _ (field (.ref it) 1 >>= _) _ _ s; refine wpAny_bind (wpAny_field hit rfl (x := rawInt left) rfl ?_)
  show wpAny _ _ (field (.ref it) 2 >>= _) _ _ s; refine wpAny_bind (wpAny_field hit rfl (x := rawInt step) rfl ?_); show wpAny _ _ (if left ≤ 0 then _ else _) _ _ s; rw [if_pos hleft]
  refine wpAny_bind (wpAny_rule (wpAny_bind ?_)); show wpAny _ _ (newExc (.type "StopIteration") [] >>= _) _ _ _; refine wpAny_bind ?_; simp only [newExc, newTuple]
  refine wpAny_bind (wpAny_newObj_type ?_ (by size_fits)); refine wpAny_bind (m := firstArgMember _ _) (wpAny_of_eq (a := Value.none) (by first | rfl | (simp only [firstArgMember]; rfl)) ?_); refine wpAny_newObj_type ?_ (by size_fits)
  refine raise_hand (oe := oe) (vs := vs) (by first | exact hh | exact (show A.in1.handled = _ from hh)) (Heap.get?_push_of_some _ (Heap.get?_push_of_some _ hea)) hd h2 (Heap.get?_push_size _ rfl) rfl (by simp; omega) (Nat.ne_of_lt (by rw [Heap.size_push]; exact Nat.lt_succ_of_lt lt)) ?_
  refine wpAny_bind (wpAny_isInstance (T := "StopIteration") (b := true) ⟨_, Heap.get?_update_self _ (Heap.get?_push_size _ rfl) rfl, rfl⟩ isSubtype_stop ?_)
  refine wpAny_pure (hQ _ fun b ob hb q => ?_)
  rw [Heap.get?_update_other _ _ (Nat.ne_of_gt (by rw [Heap.size_push]; exact Nat.lt_succ_of_lt (Heap.lt_size q)))]
  exact Heap.get?_push_of_some _ (Heap.get?_push_of_some _ q)
end
theorem turn_range {P : Program} {w : World} {K : PySem.W.Frag} {tg : Expr} (it : Addr) (lo : Int) (n : Nat) {hb : Bool} : Turn P w K tg (Itr lo n) [it] it (fun i h => IsRangeIter h it (lo + (i : Nat) * 1) ((n : Int) - (i : Nat)) 1) hb where
  mem := by simp
  obj := fun i h st b hb => by
    have e : b = it := by simpa using hb
    subst e
    exact ⟨_, st, fun v z => by
      have z' : Data.fields _ = Data.cell v := z
      cases z'⟩
  keep := fun i h h' st k => k it (by simp) _ st
  item := by
    intro X hP hw hK s hc i pins σ H E I hf st hg
    subst hP hw hK
    obtain ⟨f0, f1, f2, f3, f4, f5⟩ := hf it (by simp)
    have hi : i < n := hg
    refine wpAny_pyNext_range_item st (by omega) fun h' st' sb => ?_
    have I1 : Inv X pins σ H { s with heap := h', toks := s.toks + 1 } := I.turned (fun b o hb e => (sb.2 b hb).trans e) f0 f1 f3 f4 f5
    have e1 : lo + ((i : Nat) : Int) * 1 + 1 = lo + ((i + 1 : Nat) : Int) * 1 := by omega
    have e2 : (n : Int) - ((i : Nat) : Int) - 1 = (n : Int) - ((i + 1 : Nat) : Int) := by omega
    rw [e1, e2] at st'
    refine ⟨_, rfl, go_of (s := { s with heap := h', toks := s.toks + 1 }) (n := "range_iterator") st' rfl rfl (by decide) ⟨.int (lo + i), H, I1, ⟨s.toks, ?_⟩, ⟨rfl, rfl⟩, st', fun b hb => (hf b hb).1⟩⟩
    rw [Int.mul_one]
  done := by
    intro X hP hw hK s hc i pins σ H E I hf st hg
    subst hP hw hK
    obtain ⟨f0, f1, f2, f3, f4, f5⟩ := hf it (by simp)
    have hi : (n : Int) - ((i : Nat) : Int) ≤ 0 := by have : n ≤ i := hg; omega
    rcases hc with hc | ⟨_, ea, o, vs, h1, h2, h3, h4⟩
    · exact wpAny_pyNext_range_end hc st hi fun h' eb => ⟨rfl, I.turned (t' := s.toks) (fun b o hb e => eb b o hb e) f0 f1 f3 f4 f5⟩
    · exact range_end_hand h1 h2 h3 h4 st hi fun h' eb => ⟨rfl, I.turned (t' := s.toks) (fun b o hb e => eb b o hb e) f0 f1 f3 f4 f5⟩
  self := fun _ _ _ _ _ st h => wpAny_pyIter_rangeiter st h
end L2

namespace L2
open PySem PySem.Spec PyProof.Rows
section
variable {X : Cx} {tg : Expr}
def iList (K : PySem.W.Frag) (tl : TE) : TI := fun σ H R => tl σ H fun x H1 => ∃ a, x = .ref a ∧ (∃ xs, SqL K H1 a xs) ∧ R (Itl K a) H1
def iTup (K : PySem.W.Frag) (tl : TE) : TI := fun σ H R => tl σ H fun x H1 => ∃ a, x = .ref a ∧ (∃ xs, SqT K H1 a xs) ∧ R (Itt K a) H1
theorem pi_list {l : Expr} {tl : TE} (hl : PE X l tl) : PI X tg l (iList X.K tl) := by
  intro pins s σ H R I h
  refine thn (hl pins s σ H _ I h) fun v s1 ⟨x, H1, I1, r1, q1⟩ => ?_
  obtain ⟨a, e, ⟨xs, hq⟩, q⟩ := q1
  subst e
  cases r1
  obtain ⟨its, rv, p, hz⟩ := I1.list hq
  refine wpAny_pyIter_list p.isList ?_
  refine ⟨s1.heap.objs.size, [s1.heap.objs.size], _, _, H1, rfl, I1.kept (t' := s1.toks) fun b o e => Heap.get?_push_of_some _ e, turn_list a _, ⟨_, Heap.get?_push_size _ rfl, rfl, rfl⟩, fun b hb => ?_, q⟩
  have e : b = s1.heap.objs.size := by simpa using hb
  subst e
  exact I1.fpOk (Nat.le_refl _) (I1.hok.fresh (Nat.le_refl _))
theorem pi_tup {l : Expr} {tl : TE} (hl : PE X l tl) : PI X tg l (iTup X.K tl) := by
  intro pins s σ H R I h
  refine thn (hl pins s σ H _ I h) fun v s1 ⟨x, H1, I1, r1, q1⟩ => ?_
  obtain ⟨a, e, ⟨xs, hq⟩, q⟩ := q1
  subst e
  cases r1
  obtain ⟨its, rv, p, hz⟩ := I1.tuple hq
  refine wpAny_pyIter_tuple (show s1.heap.IsTuple a its.toArray from p) ?_
  refine ⟨s1.heap.objs.size, [s1.heap.objs.size], _, _, H1, rfl, I1.kept (t' := s1.toks) fun b o e => Heap.get?_push_of_some _ e, turn_tuple a _, ⟨_, Heap.get?_push_size _ rfl, rfl, rfl⟩, fun b hb => ?_, q⟩
  have e : b = s1.heap.objs.size := by simpa using hb
  subst e
  exact I1.fpOk (Nat.le_refl _) (I1.hok.fresh (Nat.le_refl _))
/-- a range object just made, walked -/
theorem range_it {hb : Bool} {pins : List (Addr × Obj)} {σ : St} {H : Hp} {s : Shared} {R : It → Hp → Prop} {E : Value → Shared → Prop} {lo hi : Int} {t u v : Tok} {tk : Nat} (I : Inv X pins σ H s) (h1 : -(2 ^ 62) ≤ lo) (h2 : lo < 2 ^ 62) (h3 : -(2 ^ 62) ≤ hi) (h4 : hi < 2 ^ 62)
    (q : R (Itr lo (hi - lo).toNat) H) : wpAny (model X.prog X.w) X.A (pyIter (.ref s.heap.objs.size)) (PIE X pins σ tg R hb) E { s with heap := s.heap.push { cls := .type "range", data := .fields #[.int lo t, .int hi u, .int 1 v] }, toks := tk } := by
  refine wpAny_pyIter_range (IsRange.new ..) (small_one h1 h2 h3 h4) ?_
  have I1 : Inv X pins σ H { s with heap := s.heap.push { cls := .type "range", data := .fields #[.int lo t, .int hi u, .int 1 v] }, toks := tk } := I.kept fun b o e => Heap.get?_push_of_some _ e
  refine ⟨(s.heap.push { cls := .type "range", data := .fields #[.int lo t, .int hi u, .int 1 v] }).objs.size, [(s.heap.push { cls := .type "range", data := .fields #[.int lo t, .int hi u, .int 1 v] }).objs.size], _, _, H, rfl,
    I1.kept (t' := tk) fun b o e => Heap.get?_push_of_some _ e, turn_range _ lo (hi - lo).toNat, ?_, fun b hb => ?_, q⟩
  · have e1 : lo + ((0 : Nat) : Int) * 1 = lo := by simp
    have e2 : (((hi - lo).toNat : Nat) : Int) - ((0 : Nat) : Int) = Builtin.Range.rangeSize lo hi 1 := by rw [rangeSize_one]; split <;> omega
    show IsRangeIter _ _ (lo + ((0 : Nat) : Int) * 1) ((((hi - lo).toNat : Nat) : Int) - ((0 : Nat) : Int)) 1
    rw [e1, e2]
    exact Heap.get?_push_size _ rfl
  · have e : b = (s.heap.push { cls := .type "range", data := .fields #[.int lo t, .int hi u, .int 1 v] }).objs.size := by simpa using hb
    subst e
    exact I1.fpOk (Nat.le_refl _) (I1.hok.fresh (Nat.le_refl _))
def iRng1 (ta : TA) : TI := fun σ H R => ta σ H fun vs H1 => ∃ j : Int, vs = [.int j] ∧ -(2 ^ 62) ≤ j ∧ j < 2 ^ 62 ∧ R (Itr 0 j.toNat) H1
def iRng2 (ta : TA) : TI := fun σ H R => ta σ H fun vs H1 => ∃ i j : Int, vs = [.int i, .int j] ∧ (-(2 ^ 62) ≤ i ∧ i < 2 ^ 62 ∧ -(2 ^ 62) ≤ j ∧ j < 2 ^ 62) ∧ R (Itr i (j - i).toNat) H1
theorem pi_range1 {hb : Bool} {a : Expr} {ta : TA} {p pos : Pos} (hg : Gl X "range") (hm : X.mg "range" = none) (ha : PA X [a] ta) (hs : starEach [a] X.env = [(false, eval a X.env)] := by rfl) : PI X tg (.Call (.Name "range" p) [a] [] pos) (iRng1 ta) hb := by
  intro pins s σ H R I h
  refine Call_ (ld_blt I hg hm boot_range (PyProof.Rows.callWith_type1 (thn (ha pos pins s σ H _ I h) fun us s1 ⟨vs, H1, I1, r1, q1⟩ => ?_) hs rfl))
  obtain ⟨j, e, q1, q2, q⟩ := q1
  subst e
  cases r1 with
  | cons r rr =>
    cases rr
    obtain ⟨t, rfl⟩ := r
    exact call_range_1 (range_it I1 (by omega) (by omega) q1 q2 (by simpa using q))
theorem pi_range2 {hb : Bool} {a b : Expr} {ta : TA} {p pos : Pos} (hg : Gl X "range") (hm : X.mg "range" = none) (ha : PA X [a, b] ta) (hs : starEach [a, b] X.env = [(false, eval a X.env), (false, eval b X.env)] := by rfl) (hs2 : starEach [b] X.env = [(false, eval b X.env)] := by rfl) :
    PI X tg (.Call (.Name "range" p) [a, b] [] pos) (iRng2 ta) hb := by
  intro pins s σ H R I h
  refine Call_ (ld_blt I hg hm boot_range (PyProof.Rows.callWith_type1 (thn (ha pos pins s σ H _ I h) fun us s1 ⟨vs, H1, I1, r1, q1⟩ => ?_) (by rw [hs, hs2]) (by rw [hs2]; rfl)))
  obtain ⟨i, j, e, ⟨q1, q2, q3, q4⟩, q⟩ := q1
  subst e
  cases r1 with
  | cons r rr =>
    cases rr with
    | cons r' rr =>
      cases rr
      obtain ⟨t, rfl⟩ := r
      obtain ⟨t', rfl⟩ := r'
      exact call_range_2 (range_it I1 q1 q2 q3 q4 q)

/-! ### for -/
/-- W: the invariant by the turn and a measure; N: what the body is to reach -/
def tFor (wi : TI) (g : TG) (tb : TS) : TS := fun D σ H => wi σ H fun J H1 => ∃ W : Nat → Nat → St → Hp → Prop, (∃ m, W 0 m σ H1) ∧ ∀ i m σ H, W i m σ H →
  (J.stop i H ∧ D.nx σ H) ∨ (J.go i H ∧ ∃ N : St → Hp → Prop, (∀ σ' H', N σ' H' → ∃ m', m' < m ∧ W (i + 1) m' σ' H') ∧ ∀ x H', J.yld i H x H' → g x σ H' fun σ2 H2 => tb { D with nx := N, ct := N, bk := D.nx } σ2 H2)
/-- the records at fp as they stand -/
def pinsAt (fp : List Addr) (h : Heap) : List (Addr × Obj) := fp.filterMap fun b => (h.get? b).map fun o => (b, o)
theorem mem_pinsAt {fp : List Addr} {h : Heap} {b : Addr} {o : Obj} (hb : b ∈ fp) (e : h.get? b = some o) : (b, o) ∈ pinsAt fp h := List.mem_filterMap.mpr ⟨b, hb, by rw [e]; rfl⟩
theorem of_pinsAt {fp : List Addr} {h : Heap} {p : Addr × Obj} (hp : p ∈ pinsAt fp h) : p.1 ∈ fp ∧ h.get? p.1 = some p.2 := by
  obtain ⟨b, hb, e⟩ := List.mem_filterMap.mp hp
  cases q : h.get? b with
  | none => rw [q] at e; cases e
  | some o =>
    rw [q] at e
    have e' : (b, o) = p := Option.some.inj e
    subst e'
    exact ⟨hb, q⟩
theorem Inv.pinned {pins : List (Addr × Obj)} {σ : St} {H : Hp} {s : Shared} {fp : List Addr} (I : Inv X pins σ H s) (hf : ∀ b ∈ fp, FpOk X pins H b) (ho : ∀ b ∈ fp, ∃ o, s.heap.get? b = some o ∧ ∀ v, o.data ≠ .cell v) : Inv X (pins ++ pinsAt fp s.heap) σ H s :=
  I.pins_of fun p hp => (List.mem_append.mp hp).elim (fun z => I.pin p (List.mem_append_right _ z)) fun z => by
    obtain ⟨hb, e⟩ := of_pinsAt z
    obtain ⟨f0, f1, f2, _⟩ := hf p.1 hb
    obtain ⟨o, e', d⟩ := ho p.1 hb
    rw [e] at e'; cases e'
    exact ⟨e, f0, f1, f2, d⟩
theorem Inv.unpinned {pins pl : List (Addr × Obj)} {σ : St} {H : Hp} {s : Shared} (I : Inv X (pins ++ pl) σ H s) : Inv X pins σ H s := I.pins_of fun p hp => I.pin p (List.mem_append_right _ (List.mem_append_left _ hp))
theorem ps_for {iter : Expr} {body : List Stmt} {wi : TI} {g : TG} {tb : TS} {pos : Pos} (hp : PassesOwn (model X.prog X.w) X.A X.env X.xe) (hc : X.calm = true) (hi : PI X tg iter wi) (hg : PG X tg g) (hb : PSs X body tb)
    (hs : ∀ x, foldedSetIterable iter X.env x = pure x := by intro _; rfl) : PS X (.For tg iter body [] pos) (tFor wi g tb) := by
  intro pins s σ H D I h
  refine wpAny_For (thn (hi pins s σ H _ I h) fun v s1 h1 => thn h1 fun itv s2 h2 => ?_) hs
  obtain ⟨it, fp, tn, J, H2, e, I2, T, st2, f2, W, ⟨m0, w0⟩, turn⟩ := h2
  subst e
  -- what stays true of the iterator's objects through the loop
  have stat : ∀ {H' : Hp}, (∀ b ∈ fp, H' b = none) → ∀ b ∈ fp, FpOk X pins H' b := fun hn b hb => ⟨hn b hb, (f2 b hb).2⟩
  refine codeAny_forLoop_any (fun n s' => ∃ i σ' H', Inv X pins σ' H' s' ∧ tn i s'.heap ∧ (∀ b ∈ fp, H' b = none) ∧ W i n σ' H') ?_ m0 ⟨0, σ, H2, I2, st2, fun b hb => (f2 b hb).1, w0⟩
  rintro n s3 ⟨i, σ3, H3, I3, st3, fr3, w3⟩
  rcases turn i n σ3 H3 w3 with ⟨stop, qn⟩ | ⟨go, N, hN, step⟩
  · refine wpAny_passesOwn hp (thn (T.done X rfl rfl rfl s3 (.inl (I3.ok.hd hc)) i pins σ3 H3 X.xe I3 (stat fr3) st3 stop) fun r s4 ⟨hr, I4⟩ => ?_)
    subst hr
    exact wpAny_execs_nil ⟨σ3, H3, I4, qn⟩
  · refine wpAny_passesOwn hp (thn (T.item X rfl rfl rfl s3 (.inl (I3.ok.hd hc)) i pins σ3 H3 X.xe I3 (stat fr3) st3 go) fun r s4 ⟨u, hr, h4⟩ => ?_)
    subst hr
    refine wpAny_passesOwn hp (thn h4 fun _ s5 ⟨x, H5, I5, r5, y5, st5, fr5⟩ => ?_)
    have I5' := I5.pinned (stat fr5) (T.obj _ _ st5)
    refine wpAny_passesOwn hp (thn (hg _ s5 σ3 H5 x u _ I5' r5 (step x H5 y5)) fun _ s6 ⟨σ6, H6, I6, q6⟩ => ?_)
    refine wpAny_passesOwn hp (thn (hb _ s6 σ6 H6 _ I6 q6) fun f s7 q7 => ?_)
    have again : ∀ {σ7 : St} {H7 : Hp}, Inv X (pins ++ pinsAt fp s5.heap) σ7 H7 s7 → N σ7 H7 → ∃ m, m < n ∧ ∃ i σ' H', Inv X pins σ' H' s7 ∧ tn i s7.heap ∧ (∀ b ∈ fp, H' b = none) ∧ W i m σ' H' := fun {σ7 H7} I7 n7 => by
      obtain ⟨m', hm, w7⟩ := hN σ7 H7 n7
      refine ⟨m', hm, i + 1, σ7, H7, I7.unpinned, T.keep _ _ _ st5 fun b hb o e => (I7.pin (b, o) (List.mem_append_right _ (List.mem_append_right _ (mem_pinsAt hb e)))).1, fun b hb => ?_, w7⟩
      obtain ⟨o, e, d⟩ := T.obj _ _ st5 b hb
      exact (I7.pin (b, o) (List.mem_append_right _ (List.mem_append_right _ (mem_pinsAt hb e)))).2.1
    cases f with
    | next => obtain ⟨σ7, H7, I7, n7⟩ := q7; exact again I7 n7
    | cont => obtain ⟨σ7, H7, I7, n7⟩ := q7; exact again I7 n7
    | brk => obtain ⟨σ7, H7, I7, q7⟩ := q7; exact ⟨σ7, H7, I7.unpinned, q7⟩
    | ret v => obtain ⟨x7, σ7, H7, I7, r7, q7⟩ := q7; exact ⟨x7, σ7, H7, I7.unpinned, r7, q7⟩
end

/-! ### the forms one uses -/
/-- over a list that the body leaves as it is -/
theorem for_list {K : PySem.W.Frag} {a : Addr} {xs : List V} {g : TG} {tb : TS} {D : Ends} {σ : St} {H : Hp} (Pv : Nat → St → Hp → Prop) (h0 : Pv 0 σ H) (hl : ∀ i σ H, i ≤ xs.length → Pv i σ H → SqL K H a xs)
    (hs : ∀ i x σ H, xs[i]? = some x → Pv i σ H → g x σ H fun σ2 H2 => tb { D with nx := Pv (i + 1), ct := Pv (i + 1), bk := D.nx } σ2 H2) (hd : ∀ σ H, Pv xs.length σ H → D.nx σ H) :
    ∃ W : Nat → Nat → St → Hp → Prop, (∃ m, W 0 m σ H) ∧ ∀ i m σ H, W i m σ H →
      ((Itl K a).stop i H ∧ D.nx σ H) ∨ ((Itl K a).go i H ∧ ∃ N : St → Hp → Prop, (∀ σ' H', N σ' H' → ∃ m', m' < m ∧ W (i + 1) m' σ' H') ∧ ∀ x H', (Itl K a).yld i H x H' → g x σ H' fun σ2 H2 => tb { D with nx := N, ct := N, bk := D.nx } σ2 H2) := by
  refine ⟨fun i m σ H => m = xs.length - i ∧ i ≤ xs.length ∧ Pv i σ H, ⟨xs.length, by simp, Nat.zero_le _, h0⟩, ?_⟩
  rintro i m σ H ⟨rfl, hi, p⟩
  have q := hl i σ H hi p
  by_cases hlt : i < xs.length
  · refine .inr ⟨⟨xs, xs[i], q, by simp [hlt]⟩, Pv (i + 1), fun σ' H' p' => ⟨xs.length - (i + 1), by omega, rfl, hlt, p'⟩, fun x H' y => ?_⟩
    obtain ⟨e, y⟩ := y
    subst e
    exact hs i x σ _ (y xs q) p
  · have e : i = xs.length := by omega
    subst e
    exact .inl ⟨⟨xs, q, Nat.le_refl _⟩, hd σ H p⟩
theorem for_tup {K : PySem.W.Frag} {a : Addr} {xs : List V} {g : TG} {tb : TS} {D : Ends} {σ : St} {H : Hp} (Pv : Nat → St → Hp → Prop) (h0 : Pv 0 σ H) (hl : ∀ i σ H, i ≤ xs.length → Pv i σ H → SqT K H a xs)
    (hs : ∀ i x σ H, xs[i]? = some x → Pv i σ H → g x σ H fun σ2 H2 => tb { D with nx := Pv (i + 1), ct := Pv (i + 1), bk := D.nx } σ2 H2) (hd : ∀ σ H, Pv xs.length σ H → D.nx σ H) :
    ∃ W : Nat → Nat → St → Hp → Prop, (∃ m, W 0 m σ H) ∧ ∀ i m σ H, W i m σ H →
      ((Itt K a).stop i H ∧ D.nx σ H) ∨ ((Itt K a).go i H ∧ ∃ N : St → Hp → Prop, (∀ σ' H', N σ' H' → ∃ m', m' < m ∧ W (i + 1) m' σ' H') ∧ ∀ x H', (Itt K a).yld i H x H' → g x σ H' fun σ2 H2 => tb { D with nx := N, ct := N, bk := D.nx } σ2 H2) := by
  refine ⟨fun i m σ H => m = xs.length - i ∧ i ≤ xs.length ∧ Pv i σ H, ⟨xs.length, by simp, Nat.zero_le _, h0⟩, ?_⟩
  rintro i m σ H ⟨rfl, hi, p⟩
  have q := hl i σ H hi p
  by_cases hlt : i < xs.length
  · refine .inr ⟨⟨xs, xs[i], q, by simp [hlt]⟩, Pv (i + 1), fun σ' H' p' => ⟨xs.length - (i + 1), by omega, rfl, hlt, p'⟩, fun x H' y => ?_⟩
    obtain ⟨e, y⟩ := y
    subst e
    exact hs i x σ _ (y xs q) p
  · have e : i = xs.length := by omega
    subst e
    exact .inl ⟨⟨xs, q, Nat.le_refl _⟩, hd σ H p⟩
theorem for_range {lo : Int} {n : Nat} {g : TG} {tb : TS} {D : Ends} {σ : St} {H : Hp} (Pv : Nat → St → Hp → Prop) (h0 : Pv 0 σ H)
    (hs : ∀ i σ H, i < n → Pv i σ H → g (.int (lo + i)) σ H fun σ2 H2 => tb { D with nx := Pv (i + 1), ct := Pv (i + 1), bk := D.nx } σ2 H2) (hd : ∀ σ H, Pv n σ H → D.nx σ H) :
    ∃ W : Nat → Nat → St → Hp → Prop, (∃ m, W 0 m σ H) ∧ ∀ i m σ H, W i m σ H →
      ((Itr lo n).stop i H ∧ D.nx σ H) ∨ ((Itr lo n).go i H ∧ ∃ N : St → Hp → Prop, (∀ σ' H', N σ' H' → ∃ m', m' < m ∧ W (i + 1) m' σ' H') ∧ ∀ x H', (Itr lo n).yld i H x H' → g x σ H' fun σ2 H2 => tb { D with nx := N, ct := N, bk := D.nx } σ2 H2) := by
  refine ⟨fun i m σ H => m = n - i ∧ i ≤ n ∧ Pv i σ H, ⟨n, by simp, Nat.zero_le _, h0⟩, ?_⟩
  rintro i m σ H ⟨rfl, hi, p⟩
  by_cases hlt : i < n
  · refine .inr ⟨hlt, Pv (i + 1), fun σ' H' p' => ⟨n - (i + 1), by omega, rfl, hlt, p'⟩, fun x H' y => ?_⟩
    obtain ⟨e, y⟩ := y
    subst e y
    exact hs i σ _ hlt p
  · have e : i = n := by omega
    subst e
    exact .inl ⟨Nat.le_refl _, hd σ H p⟩
/-- while, by a word and a measure of the state -/
theorem while_by {c : TT} {tb : TS} {D : Ends} {σ : St} {H : Hp} (Pv : St → Hp → Prop) (μ : St → Hp → Nat) (h0 : Pv σ H)
    (hs : ∀ σ H, Pv σ H → c σ H fun b H1 => if b = true then tb { D with nx := fun σ' H' => Pv σ' H' ∧ μ σ' H' < μ σ H, ct := fun σ' H' => Pv σ' H' ∧ μ σ' H' < μ σ H, bk := D.nx } σ H1 else D.nx σ H1)
    (mono : ∀ σ H Q Q', (∀ b H1, Q b H1 → Q' b H1) → c σ H Q → c σ H Q') : tWhile c tb D σ H := by
  refine ⟨fun m σ H => m = μ σ H ∧ Pv σ H, ⟨_, rfl, h0⟩, ?_⟩
  rintro m σ H ⟨rfl, p⟩
  refine mono σ H _ _ (fun b H1 q => ?_) (hs σ H p)
  cases b with
  | true => exact ⟨_, fun σ' H' ⟨p', l⟩ => ⟨_, l, rfl, p'⟩, q⟩
  | false => exact q
end L2

namespace L2
open PySem PySem.Spec PyProof.Rows

abbrev R2 := V → V → Hp → VK → Prop
/-- a two-place operation on values: f is binaryOp op, inplaceOp op or compareOp op -/
def OpR (X : Cx) (f : Value → Value → Sem Value) (r : R2) : Prop :=
  ∀ (pins : List (Addr × Obj)) (s : Shared) (σ : St) (H : Hp) (x y : V) (v u : Value) (Q : VK), Inv X pins σ H s → RelV x v → RelV y u → r x y H Q →
    wpAny (model X.prog X.w) X.A (f v u) (EP X pins σ Q) X.xe s
/-- a one-place operation -/
def UnR (X : Cx) (f : Value → Sem Value) (r : V → Hp → VK → Prop) : Prop :=
  ∀ (pins : List (Addr × Obj)) (s : Shared) (σ : St) (H : Hp) (x : V) (v : Value) (Q : VK), Inv X pins σ H s → RelV x v → r x H Q →
    wpAny (model X.prog X.w) X.A (f v) (EP X pins σ Q) X.xe s
/-- a call of a value that is known (a builtin, a type) with values -/
def CallR (X : Cx) (f : Value) (r : List V → Hp → VK → Prop) : Prop :=
  ∀ (pins : List (Addr × Obj)) (s : Shared) (σ : St) (H : Hp) (xs : List V) (us : List Value) (Q : VK), Inv X pins σ H s → Vals xs us → r xs H Q →
    wpAny (model X.prog X.w) X.A (call f us) (EP X pins σ Q) X.xe s
/-- a value's truth -/
def TruR (X : Cx) (r : V → Hp → (Bool → Hp → Prop) → Prop) : Prop :=
  ∀ (pins : List (Addr × Obj)) (s : Shared) (σ : St) (H : Hp) (x : V) (v : Value) (Q : Bool → Hp → Prop), Inv X pins σ H s → RelV x v → r x H Q →
    wpAny (model X.prog X.w) X.A (truthy v) (TP X pins σ Q) X.xe s

def tOp (r : R2) (ta tb : TE) : TE := fun σ H Q => ta σ H fun x H1 => tb σ H1 fun y H2 => r x y H2 Q
def tUn (r : V → Hp → VK → Prop) (ta : TE) : TE := fun σ H Q => ta σ H fun x H1 => r x H1 Q
/-- ints in, under C, and a value out -/
def rI (C : Int → Int → Prop) (g : Int → Int → V) : R2 := fun x y H Q => ∃ i j, x = .int i ∧ y = .int j ∧ C i j ∧ Q (g i j) H
def rI0 (g : Int → Int → V) : R2 := fun x y H Q => ∃ i j, x = .int i ∧ y = .int j ∧ Q (g i j) H
def rU (g : Int → V) : V → Hp → VK → Prop := fun x H Q => ∃ i, x = .int i ∧ Q (g i) H

section
variable {X : Cx} {a b c : Expr} {ta tb tc : TE} {pos : Pos}

theorem binT (ha : PE X a ta) (hb : PE X b tb) {pins : List (Addr × Obj)} {s : Shared} {σ : St} {H : Hp} {R : V → V → Hp → Prop} (I : Inv X pins σ H s)
    (h : ta σ H fun x H1 => tb σ H1 fun y H2 => R x y H2) {Q : Value → Shared → Prop} {f : Value → Value → Sem Value}
    (hf : ∀ v u s2 x y H2, Inv X pins σ H2 s2 → RelV x v → RelV y u → R x y H2 → wpAny (model X.prog X.w) X.A (f v u) Q X.xe s2) :
    wpAny (model X.prog X.w) X.A (eval a X.env) (fun v s₁ => wpAny (model X.prog X.w) X.A (eval b X.env) (fun u s₂ => wpAny (model X.prog X.w) X.A (f v u) Q X.xe s₂) X.xe s₁) X.xe s := by
  refine thn (ha pins s σ H _ I h) fun v s1 ⟨x, H1, I1, r1, q1⟩ => ?_
  refine thn (hb pins s1 σ H1 _ I1 q1) fun u s2 ⟨y, H2, I2, r2, q2⟩ => ?_
  exact hf v u s2 x y H2 I2 r1 r2 q2

theorem pe_op {op : Operator} {r : R2} (ho : OpR X (binaryOp op) r) (ha : PE X a ta) (hb : PE X b tb) : PE X (.BinOp a op b pos) (tOp r ta tb) := by
  intro pins s σ H Q I h
  exact wpAny_BinOp (binT ha hb I h fun v u s2 x y H2 I2 rx ry q => ho pins s2 σ H2 x y v u Q I2 rx ry q)
theorem pe_un {op : UnaryOp} {r : V → Hp → VK → Prop} (ho : UnR X (unaryOp op) r) (ha : PE X a ta) : PE X (.UnaryOp op a pos) (tUn r ta) := by
  intro pins s σ H Q I h
  exact UnaryOp_ (thn (ha pins s σ H _ I h) fun v s1 ⟨x, H1, I1, r1, q1⟩ => ho pins s1 σ H1 x v Q I1 r1 q1)
/-- a op= e at a name: the name's slot i -/
theorem augR {op : Operator} {r : R2} (ho : OpR X (inplaceOp op) r) {pins : List (Addr × Obj)} {s : Shared} {σ : St} {H : Hp} {x y : V} {v u : Value} {Q : VK} (I : Inv X pins σ H s)
    (rx : RelV x v) (ry : RelV y u) (q : r x y H Q) : wpAny (model X.prog X.w) X.A (inplaceOp op v u) (EP X pins σ Q) X.xe s := ho pins s σ H x y v u Q I rx ry q

/-! ### ints -/
theorem opI {f : Value → Value → Sem Value} {C : Int → Int → Prop} {g : Int → Int → Int}
    (rule : ∀ (i j : Int) (t u : Tok) (s : Shared) (Q : Value → Shared → Prop) (E : Value → Shared → Prop), C i j → Q (.int (g i j) s.toks) { s with toks := s.toks + 1 } → wpAny (model X.prog X.w) X.A (f (.int i t) (.int j u)) Q E s) :
    OpR X f (rI C fun i j => .int (g i j)) := by
  intro pins s σ H x y v u Q I rx ry h
  obtain ⟨i, j, rfl, rfl, hc, q⟩ := h
  obtain ⟨t, rfl⟩ := rx
  obtain ⟨t', rfl⟩ := ry
  exact rule i j t t' s _ _ hc ⟨.int (g i j), H, I.tok _, ⟨_, rfl⟩, q⟩
theorem opI0 {f : Value → Value → Sem Value} {g : Int → Int → Int}
    (rule : ∀ (i j : Int) (t u : Tok) (s : Shared) (Q : Value → Shared → Prop) (E : Value → Shared → Prop), Q (.int (g i j) s.toks) { s with toks := s.toks + 1 } → wpAny (model X.prog X.w) X.A (f (.int i t) (.int j u)) Q E s) :
    OpR X f (rI0 fun i j => .int (g i j)) := by
  intro pins s σ H x y v u Q I rx ry h
  obtain ⟨i, j, rfl, rfl, q⟩ := h
  obtain ⟨t, rfl⟩ := rx
  obtain ⟨t', rfl⟩ := ry
  exact rule i j t t' s _ _ ⟨.int (g i j), H, I.tok _, ⟨_, rfl⟩, q⟩
theorem opB0 {f : Value → Value → Sem Value} {g : Int → Int → Bool}
    (rule : ∀ (i j : Int) (t u : Tok) (s : Shared) (Q : Value → Shared → Prop) (E : Value → Shared → Prop), Q (.bool (g i j)) s → wpAny (model X.prog X.w) X.A (f (.int i t) (.int j u)) Q E s) :
    OpR X f (rI0 fun i j => .bl (g i j)) := by
  intro pins s σ H x y v u Q I rx ry h
  obtain ⟨i, j, rfl, rfl, q⟩ := h
  obtain ⟨t, rfl⟩ := rx
  obtain ⟨t', rfl⟩ := ry
  exact rule i j t t' s _ _ ⟨.bl (g i j), H, I, rfl, q⟩

def CDiv (i j : Int) : Prop := 0 < j ∧ j < 1073741824
def CDivN (i j : Int) : Prop := j ≠ 0 ∧ j.natAbs < 1073741824
def CPow (i j : Int) : Prop := 0 ≤ j ∧ j ≤ 1000000 ∧ i.natAbs < 2 ^ 64
def CMul (i j : Int) : Prop := (-(2 ^ 64) < i ∧ i < 2 ^ 64) ∨ (-(2 ^ 64) < j ∧ j < 2 ^ 64)
theorem CMul.ok {i j : Int} (h : CMul i j) : IntMulOk i j := by
  rcases h with ⟨h1, h2⟩ | ⟨h1, h2⟩
  · exact .of_left (intBits_le_64 h1 h2)
  · exact .of_right (intBits_le_64 h1 h2)
theorem two_pow_nn (k : Nat) : (0 : Int) ≤ 2 ^ k := by
  rw [two_pow_cast]
  exact Int.natCast_nonneg _

theorem op_add : OpR X (binaryOp .Add) (rI0 fun i j => .int (i + j)) := opI0 fun _ _ _ _ _ _ _ q => add_int q
theorem op_sub : OpR X (binaryOp .Sub) (rI0 fun i j => .int (i - j)) := opI0 fun _ _ _ _ _ _ _ q => sub_int q
theorem op_mul : OpR X (binaryOp .Mult) (rI CMul fun i j => .int (i * j)) := opI fun _ _ _ _ _ _ _ hc q => mul_int q hc.ok
/-- // by a positive divisor -/
theorem op_fdiv : OpR X (binaryOp .FloorDiv) (rI CDiv fun i j => .int (i / j)) := opI fun i j _ _ _ _ _ hc q => by
  have h1 : (0 : Int) < j := hc.1
  have h2 : j < 1073741824 := hc.2
  exact floordiv_int (by omega) (by rw [Int.fdiv_eq_ediv_of_nonneg i (by omega)]; exact q) (.inl (PyProof.noPylong_small (by omega)))
theorem op_fdivN : OpR X (binaryOp .FloorDiv) (rI CDivN fun i j => .int (i.fdiv j)) := opI fun _ _ _ _ _ _ _ hc q => floordiv_int hc.1 q (.inl (PyProof.noPylong_small hc.2))
/-- % by a positive divisor of any size -/
theorem op_mod : OpR X (binaryOp .Mod) (rI (fun _ j => 0 < j) fun i j => .int (i % j)) := opI fun i j _ _ _ _ _ hc q => by
  have h1 : (0 : Int) < j := hc
  exact mod_int' (by omega) (by rw [Int.fmod_eq_emod_of_nonneg i (by omega)]; exact q)
theorem op_modN : OpR X (binaryOp .Mod) (rI (fun _ j => j ≠ 0) fun i j => .int (i.fmod j)) := opI fun _ _ _ _ _ _ _ hc q => mod_int' hc q
theorem op_pow : OpR X (binaryOp .Pow) (rI CPow fun i j => .int (i ^ j.toNat)) := opI fun _ _ _ _ _ _ _ hc q => pow_int_small hc.1 hc.2.1 hc.2.2 q
theorem op_shl : OpR X (binaryOp .LShift) (rI CPow fun i j => .int (i * 2 ^ j.toNat)) := opI fun _ _ _ _ _ _ _ hc q => lshift_int_small hc.1 hc.2.1 hc.2.2 q
theorem op_shr : OpR X (binaryOp .RShift) (rI (fun _ j => 0 ≤ j) fun i j => .int (i / 2 ^ j.toNat)) := opI fun i j _ _ _ _ _ hc q =>
  rshift_int hc (by rw [Int.fdiv_eq_ediv_of_nonneg i (two_pow_nn _)]; exact q)
theorem op_and : OpR X (binaryOp .BitAnd) (rI0 fun i j => .int (Builtin.bitAnd i j)) := opI0 fun _ _ _ _ _ _ _ q => and_int q
theorem op_or : OpR X (binaryOp .BitOr) (rI0 fun i j => .int (Builtin.bitOr i j)) := opI0 fun _ _ _ _ _ _ _ q => or_int q
theorem op_xor : OpR X (binaryOp .BitXor) (rI0 fun i j => .int (Builtin.bitXor i j)) := opI0 fun _ _ _ _ _ _ _ q => xor_int q

theorem iop_add : OpR X (inplaceOp .Add) (rI0 fun i j => .int (i + j)) := opI0 fun _ _ _ _ _ _ _ q => iadd_int q
theorem iop_sub : OpR X (inplaceOp .Sub) (rI0 fun i j => .int (i - j)) := opI0 fun _ _ _ _ _ _ _ q => isub_int q
theorem iop_mul : OpR X (inplaceOp .Mult) (rI CMul fun i j => .int (i * j)) := opI fun _ _ _ _ _ _ _ hc q => imul_int q hc.ok
theorem iop_fdiv : OpR X (inplaceOp .FloorDiv) (rI CDiv fun i j => .int (i / j)) := opI fun i j _ _ _ _ _ hc q => by
  have h1 : (0 : Int) < j := hc.1
  have h2 : j < 1073741824 := hc.2
  exact ifloordiv_int (by omega) (by rw [Int.fdiv_eq_ediv_of_nonneg i (by omega)]; exact q) (.inl (PyProof.noPylong_small (by omega)))
theorem iop_mod : OpR X (inplaceOp .Mod) (rI (fun _ j => 0 < j) fun i j => .int (i % j)) := opI fun i j _ _ _ _ _ hc q => by
  have h1 : (0 : Int) < j := hc
  exact imod_int (by omega) (by rw [Int.fmod_eq_emod_of_nonneg i (by omega)]; exact q)
theorem iop_shl : OpR X (inplaceOp .LShift) (rI CPow fun i j => .int (i * 2 ^ j.toNat)) := opI fun _ _ _ _ _ _ _ hc q => ilshift_int_small hc.1 hc.2.1 hc.2.2 q
theorem iop_shr : OpR X (inplaceOp .RShift) (rI (fun _ j => 0 ≤ j) fun i j => .int (i / 2 ^ j.toNat)) := opI fun i j _ _ _ _ _ hc q =>
  irshift_int hc (by rw [Int.fdiv_eq_ediv_of_nonneg i (two_pow_nn _)]; exact q)
theorem iop_and : OpR X (inplaceOp .BitAnd) (rI0 fun i j => .int (Builtin.bitAnd i j)) := opI0 fun _ _ _ _ _ _ _ q => iand_int q
theorem iop_or : OpR X (inplaceOp .BitOr) (rI0 fun i j => .int (Builtin.bitOr i j)) := opI0 fun _ _ _ _ _ _ _ q => ior_int q
theorem iop_xor : OpR X (inplaceOp .BitXor) (rI0 fun i j => .int (Builtin.bitXor i j)) := opI0 fun _ _ _ _ _ _ _ q => ixor_int q

theorem unI {f : Value → Sem Value} {g : Int → Int}
    (rule : ∀ (i : Int) (t : Tok) (s : Shared) (Q : Value → Shared → Prop) (E : Value → Shared → Prop), Q (.int (g i) s.toks) { s with toks := s.toks + 1 } → wpAny (model X.prog X.w) X.A (f (.int i t)) Q E s) :
    UnR X f (rU fun i => .int (g i)) := by
  intro pins s σ H x v Q I rx h
  obtain ⟨i, rfl, q⟩ := h
  obtain ⟨t, rfl⟩ := rx
  exact rule i t s _ _ ⟨.int (g i), H, I.tok _, ⟨_, rfl⟩, q⟩
theorem un_neg : UnR X (unaryOp .USub) (rU fun i => .int (-i)) := unI fun _ _ _ _ _ q => neg_int q
theorem un_inv : UnR X (unaryOp .Invert) (rU fun i => .int (Builtin.bitNot i)) := unI fun _ _ _ _ _ q => invert_int q

/-! ### bools among ints: n += (a < b) -/
theorem op_add_ib : OpR X (binaryOp .Add) (fun x y H Q => ∃ i k, x = .int i ∧ y = .bl k ∧ Q (.int (i + b2i k)) H) := by
  intro pins s σ H x y v u Q I rx ry h
  obtain ⟨i, k, rfl, rfl, q⟩ := h
  obtain ⟨t, rfl⟩ := rx
  cases ry
  exact add_int_bool ⟨.int (i + b2i k), H, I.tok _, ⟨_, rfl⟩, q⟩
end

/-! ### comparisons -/
/-- the scalars that == tells apart as data does -/
def scal : V → V → Bool
  | .non, .non => true | .non, .int _ => true | .int _, .non => true | .non, .bl _ => true | .bl _, .non => true | .non, .str _ => true | .str _, .non => true
  | .int _, .int _ => true | .bl _, .bl _ => true | .str _, .str _ => true | .byt _, .byt _ => true
  | .int _, .str _ => true | .str _, .int _ => true | .bl _, .str _ => true | .str _, .bl _ => true
  | _, _ => false
def rEq : R2 := fun x y H Q => scal x y = true ∧ Q (.bl (decide (x = y))) H
def rNe : R2 := fun x y H Q => scal x y = true ∧ Q (.bl (!decide (x = y))) H

theorem dec_int {i j : Int} : decide (V.int i = V.int j) = (i == j) := by
  rw [Bool.eq_iff_iff]
  simp
theorem dec_bl {i j : Bool} : decide (V.bl i = V.bl j) = (i == j) := by
  rw [Bool.eq_iff_iff]
  simp
theorem dec_str {i j : Str} : decide (V.str i = V.str j) = (i == j) := by
  rw [Bool.eq_iff_iff]
  simp
theorem dec_byt {i j : Array UInt8} : decide (V.byt i = V.byt j) = (i.toList == j.toList) := by
  rw [Bool.eq_iff_iff]
  cases i
  cases j
  simp

section
variable {X : Cx} {a b c : Expr} {ta tb tc : TE} {pos : Pos}
theorem fin_bl {pins : List (Addr × Obj)} {σ : St} {H : Hp} {s : Shared} {Q : VK} {k k' : Bool} (I : Inv X pins σ H s) (q : Q (.bl k) H) (e : k = k') : EP X pins σ Q (.bool k') s := by
  subst e
  exact ⟨.bl k, H, I, rfl, q⟩
theorem op_eq : OpR X (compareOp .Eq) rEq := by
  intro pins s σ H x y v u Q I rx ry h
  obtain ⟨hs, q⟩ := h
  cases x with
  | non =>
    cases rx
    cases y with
    | non => cases ry; exact PySem.EqNone.eq_none_none (fin_bl I q (by simp))
    | bl j => cases ry; exact PySem.EqNone.eq_none_bool (fin_bl I q (by simp))
    | int j => obtain ⟨t', rfl⟩ := ry; exact PySem.EqNone.eq_none_int (fin_bl I q (by simp))
    | str j => obtain ⟨t', rfl⟩ := ry; exact PySem.EqNone.eq_none_str (fin_bl I q (by simp))
    | _ => exact absurd (show false = true from hs) Bool.false_ne_true
  | bl i =>
    cases rx
    cases y with
    | non => cases ry; exact PySem.EqNone.eq_bool_none (fin_bl I q (by simp))
    | bl j => cases ry; exact eq_bool (fin_bl I q dec_bl)
    | str j => obtain ⟨t', rfl⟩ := ry; exact PySem.EqMixed.eq_bool_str (fin_bl I q (by simp))
    | _ => exact absurd (show false = true from hs) Bool.false_ne_true
  | int i =>
    obtain ⟨t, rfl⟩ := rx
    cases y with
    | non => cases ry; exact PySem.EqNone.eq_int_none (fin_bl I q (by simp))
    | int j => obtain ⟨t', rfl⟩ := ry; exact eq_int (fin_bl I q dec_int)
    | str j => obtain ⟨t', rfl⟩ := ry; exact PySem.EqMixed.eq_int_str (fin_bl I q (by simp))
    | _ => exact absurd (show false = true from hs) Bool.false_ne_true
  | str i =>
    obtain ⟨t, rfl⟩ := rx
    cases y with
    | non => cases ry; exact PySem.EqNone.eq_str_none (fin_bl I q (by simp))
    | bl j => cases ry; exact PySem.EqMixed.eq_str_bool (fin_bl I q (by simp))
    | int j => obtain ⟨t', rfl⟩ := ry; exact PySem.EqMixed.eq_str_int (fin_bl I q (by simp))
    | str j => obtain ⟨t', rfl⟩ := ry; exact eq_str (fin_bl I q dec_str)
    | _ => exact absurd (show false = true from hs) Bool.false_ne_true
  | byt i =>
    obtain ⟨t, rfl⟩ := rx
    cases y with
    | byt j => obtain ⟨t', rfl⟩ := ry; exact PySem.W.eq_bytes (fin_bl I q dec_byt)
    | _ => exact absurd (show false = true from hs) Bool.false_ne_true
  | _ => cases y <;> exact absurd (show false = true from hs) Bool.false_ne_true
theorem op_ne : OpR X (compareOp .NotEq) rNe := by
  intro pins s σ H x y v u Q I rx ry h
  obtain ⟨hs, q⟩ := h
  cases x with
  | non =>
    cases rx
    cases y with
    | non => cases ry; exact PySem.EqNone.ne_none_none (fin_bl I q (by simp))
    | bl j => cases ry; exact PySem.EqNone.ne_none_bool (fin_bl I q (by simp))
    | int j => obtain ⟨t', rfl⟩ := ry; exact PySem.EqNone.ne_none_int (fin_bl I q (by simp))
    | str j => obtain ⟨t', rfl⟩ := ry; exact PySem.EqNone.ne_none_str (fin_bl I q (by simp))
    | _ => exact absurd (show false = true from hs) Bool.false_ne_true
  | bl i =>
    cases rx
    cases y with
    | non => cases ry; exact PySem.EqNone.ne_bool_none (fin_bl I q (by simp))
    | bl j => cases ry; exact ne_bool (fin_bl I q (congrArg not dec_bl))
    | str j => obtain ⟨t', rfl⟩ := ry; exact PySem.EqMixed.ne_bool_str (fin_bl I q (by simp))
    | _ => exact absurd (show false = true from hs) Bool.false_ne_true
  | int i =>
    obtain ⟨t, rfl⟩ := rx
    cases y with
    | non => cases ry; exact PySem.EqNone.ne_int_none (fin_bl I q (by simp))
    | int j => obtain ⟨t', rfl⟩ := ry; exact ne_int (fin_bl I q (congrArg not dec_int))
    | str j => obtain ⟨t', rfl⟩ := ry; exact PySem.EqMixed.ne_int_str (fin_bl I q (by simp))
    | _ => exact absurd (show false = true from hs) Bool.false_ne_true
  | str i =>
    obtain ⟨t, rfl⟩ := rx
    cases y with
    | non => cases ry; exact PySem.EqNone.ne_str_none (fin_bl I q (by simp))
    | bl j => cases ry; exact PySem.EqMixed.ne_str_bool (fin_bl I q (by simp))
    | int j => obtain ⟨t', rfl⟩ := ry; exact PySem.EqMixed.ne_str_int (fin_bl I q (by simp))
    | str j => obtain ⟨t', rfl⟩ := ry; exact ne_str (fin_bl I q (congrArg not dec_str))
    | _ => exact absurd (show false = true from hs) Bool.false_ne_true
  | byt i =>
    obtain ⟨t, rfl⟩ := rx
    cases y with
    | byt j => obtain ⟨t', rfl⟩ := ry; exact PySem.W.ne_bytes (fin_bl I q (congrArg not dec_byt))
    | _ => exact absurd (show false = true from hs) Bool.false_ne_true
  | _ => cases y <;> exact absurd (show false = true from hs) Bool.false_ne_true

theorem op_lt : OpR X (compareOp .Lt) (rI0 fun i j => .bl (decide (i < j))) := opB0 fun _ _ _ _ _ _ _ q => lt_int q
theorem op_le : OpR X (compareOp .LtE) (rI0 fun i j => .bl (decide (i ≤ j))) := opB0 fun _ _ _ _ _ _ _ q => le_int q
theorem op_gt : OpR X (compareOp .Gt) (rI0 fun i j => .bl (decide (j < i))) := opB0 fun _ _ _ _ _ _ _ q => gt_int q
theorem op_ge : OpR X (compareOp .GtE) (rI0 fun i j => .bl (decide (j ≤ i))) := opB0 fun _ _ _ _ _ _ _ q => ge_int q
theorem op_lt_str : OpR X (compareOp .Lt) (fun x y H Q => ∃ i j, x = .str i ∧ y = .str j ∧ Q (.bl (decide (i.cps.toList < j.cps.toList))) H) := by
  intro pins s σ H x y v u Q I rx ry h
  obtain ⟨i, j, rfl, rfl, q⟩ := h
  obtain ⟨t, rfl⟩ := rx
  obtain ⟨t', rfl⟩ := ry
  exact lt_str (fin_bl I q rfl)
/-- the one string within the other -/
theorem op_in_str : OpR X (compareOp .In) (fun x y H Q => ∃ i j, x = .str i ∧ y = .str j ∧ Q (.bl (!(Builtin.Str.occurrences j i 0 j.length 1).isEmpty)) H) := by
  intro pins s σ H x y v u Q I rx ry h
  obtain ⟨i, j, rfl, rfl, q⟩ := h
  obtain ⟨t, rfl⟩ := rx
  obtain ⟨t', rfl⟩ := ry
  exact in_str (fin_bl I q rfl)

/-- is None, is not None: the right side a value none -/
theorem op_isN : OpR X (compareOp .Is) (fun x y H Q => y = .non ∧ Q (.bl (decide (x = .non))) H) := by
  intro pins s σ H x y v u Q I rx ry h
  obtain ⟨rfl, q⟩ := h
  cases ry
  refine is_none_gen (fin_bl I q ?_)
  cases x <;> first
    | (cases rx; rfl)
    | (obtain ⟨t, rfl⟩ := rx; rfl)
theorem op_notN : OpR X (compareOp .IsNot) (fun x y H Q => y = .non ∧ Q (.bl (!decide (x = .non))) H) := by
  intro pins s σ H x y v u Q I rx ry h
  obtain ⟨rfl, q⟩ := h
  cases ry
  refine isnot_none_gen (fin_bl I q ?_)
  cases x <;> first
    | (cases rx; rfl)
    | (obtain ⟨t, rfl⟩ := rx; rfl)

theorem op_notin_str : OpR X (compareOp .NotIn) (fun x y H Q => ∃ i j, x = .str i ∧ y = .str j ∧ Q (.bl (!(!(Builtin.Str.occurrences j i 0 j.length 1).isEmpty))) H) := by
  intro pins s σ H x y v u Q I rx ry h
  obtain ⟨i, j, rfl, rfl, q⟩ := h
  obtain ⟨t, rfl⟩ := rx
  obtain ⟨t', rfl⟩ := ry
  exact notIn_str (fin_bl I q rfl)
/-- is, is not of two objects that are tracked lists or instances -/
def isObj : HO → Bool
  | .lst _ => true
  | .ins _ _ _ => true
  | _ => false
theorem obj_there {pins : List (Addr × Obj)} {s : Shared} {σ : St} {H : Hp} {a : Addr} {o : HO} (I : Inv X pins σ H s) (h : H a = some o) (p : isObj o = true) : ∃ ob, s.heap.get? a = some ob ∧ ob.cls ≠ .type "tuple" := by
  cases o with
  | lst xs =>
    obtain ⟨_, its, n, _, e⟩ : xs.length ≤ sizeLine ∧ ∃ (its : List Value) (n : Nat), Vals xs its ∧ s.heap.get? a = some { cls := .type "list", data := .seq its.toArray n } := I.hok a _ h
    exact ⟨_, e, (by show Value.type "list" ≠ .type "tuple"; decide +kernel)⟩
  | ins C dx fs =>
    have x := I.hok a _ h
    obtain ⟨_, _, _, e, _⟩ := x
    exact ⟨_, e, (by show Value.ref C ≠ .type "tuple"; exact fun z => by cases z)⟩
  | _ => exact absurd (show false = true from p) Bool.false_ne_true
theorem op_is_ref : OpR X (compareOp .Is) (fun x y H Q => ∃ a b oa ob, x = .ref a ∧ y = .ref b ∧ H a = some oa ∧ isObj oa = true ∧ H b = some ob ∧ isObj ob = true ∧ Q (.bl (decide (a = b))) H) := by
  intro pins s σ H x y v u Q I rx ry h
  obtain ⟨a, b, oa, ob, rfl, rfl, ha, pa, hb, pb, q⟩ := h
  cases rx
  cases ry
  obtain ⟨o1, e1, n1⟩ := obj_there I ha pa
  obtain ⟨o2, e2, _⟩ := obj_there I hb pb
  by_cases z : a = b
  · subst z
    exact wpAny_is_ref_self (fin_bl I q (by simp))
  · exact wpAny_is_ref_other z e1 e2 n1 (fin_bl I q (by simp [z]))
theorem op_isnot_ref : OpR X (compareOp .IsNot) (fun x y H Q => ∃ a b oa ob, x = .ref a ∧ y = .ref b ∧ H a = some oa ∧ isObj oa = true ∧ H b = some ob ∧ isObj ob = true ∧ Q (.bl (!decide (a = b))) H) := by
  intro pins s σ H x y v u Q I rx ry h
  obtain ⟨a, b, oa, ob, rfl, rfl, ha, pa, hb, pb, q⟩ := h
  cases rx
  cases ry
  obtain ⟨o1, e1, n1⟩ := obj_there I ha pa
  obtain ⟨o2, e2, _⟩ := obj_there I hb pb
  by_cases z : a = b
  · subst z
    exact wpAny_isNot_ref_self (fin_bl I q (by simp))
  · exact wpAny_isNot_ref_other z e1 e2 n1 (fin_bl I q (by simp [z]))

/-- two rules for one operation: by cases -/
theorem OpR.or {f : Value → Value → Sem Value} {r r' : R2} (h : OpR X f r) (h' : OpR X f r') : OpR X f (fun x y H Q => r x y H Q ∨ r' x y H Q) := by
  intro pins s σ H x y v u Q I rx ry q
  rcases q with q | q
  · exact h pins s σ H x y v u Q I rx ry q
  · exact h' pins s σ H x y v u Q I rx ry q

theorem nomark (b : Expr) {op : CmpOp} (h : op ≠ .In := by decide) (h2 : op ≠ .NotIn := by decide) : behindInMarks op b = false := by
  have e1 : (op == CmpOp.In) = false := by cases op <;> first | rfl | exact absurd rfl h
  have e2 : (op == CmpOp.NotIn) = false := by cases op <;> first | rfl | exact absurd rfl h2
  cases b <;> simp [behindInMarks, e1, e2]
/-- a comparison as a value; hm: nomark b, or (for in, not in) by with_unfolding_all rfl -/
theorem pe_cmpR {op : CmpOp} {r : R2} (ho : OpR X (compareOp op) r) (ha : PE X a ta) (hb : PE X b tb) (hm : behindInMarks op b = false) : PE X (.Compare a [op] [b] pos) (tOp r ta tb) := by
  intro pins s σ H Q I h
  exact wpAny_Compare1 (binT ha hb I h fun v u s2 x y H2 I2 rx ry q => ho pins s2 σ H2 x y v u Q I2 rx ry q) hm
/-- a reading of a value as a test -/
def tTest (t : TE) : TT := fun σ H Q => t σ H fun x H' => ∃ k, x = .bl k ∧ Q k H'
theorem pt_cmpR {op : CmpOp} {r : R2} (ho : OpR X (compareOp op) r) (ha : PE X a ta) (hb : PE X b tb) (hm : behindInMarks op b = false) : PT X (.Compare a [op] [b] pos) (tTest (tOp r ta tb)) := by
  intro pins s σ H Q I h
  refine wpAny_isTrue_Compare1 (thn (ha pins s σ H _ I h) fun v s1 ⟨x, H1, I1, r1, q1⟩ => thn (hb pins s1 σ H1 _ I1 q1) fun u s2 ⟨y, H2, I2, r2, q2⟩ =>
    thn (ho pins s2 σ H2 x y v u _ I2 r1 r2 q2) fun c s3 ⟨z, H3, I3, r3, k, e, q3⟩ => ?_) hm
  subst e
  cases r3
  exact wpAny_truthy_bool ⟨H3, I3, q3⟩
/-- a op1 b op2 c -/
def tChain (r r' : R2) (ta tb tc : TE) : TE := fun σ H Q => ta σ H fun x H1 => tb σ H1 fun y H2 => r x y H2 fun z H3 => ∃ k, z = .bl k ∧
  (if k = true then tc σ H3 fun w' H4 => r' y w' H4 Q else Q (.bl false) H3)
theorem pe_chain {op op' : CmpOp} {r r' : R2} (ho : OpR X (compareOp op) r) (ho' : OpR X (compareOp op') r') (ha : PE X a ta) (hb : PE X b tb) (hc : PE X c tc)
    (hm : lastMarks [op, op'] [b, c] = false := by with_unfolding_all rfl) : PE X (.Compare a [op, op'] [b, c] pos) (tChain r r' ta tb tc) := by
  intro pins s σ H Q I h
  refine Compare_chain (thn (ha pins s σ H _ I h) fun v s1 ⟨x, H1, I1, r1, q1⟩ => chain_link (thn (hb pins s1 σ H1 _ I1 q1) fun u s2 ⟨y, H2, I2, r2, q2⟩ =>
    thn (ho pins s2 σ H2 x y v u _ I2 r1 r2 q2) fun d s3 ⟨z, H3, I3, r3, k, e, q3⟩ => ?_)) hm
  subst e
  cases r3
  refine wpAny_truthy_bool ?_
  cases k with
  | false => exact ite_ff ⟨.bl false, H3, I3, rfl, q3⟩
  | true => exact ite_tt (chain_last (thn (hc pins s3 σ H3 _ I3 q3) fun w' s4 ⟨z', H4, I4, r4, q4⟩ => ho' pins s4 σ H4 y z' u w' Q I4 r2 r4 q4))
theorem pt_chain {op op' : CmpOp} {r r' : R2} (ho : OpR X (compareOp op) r) (ho' : OpR X (compareOp op') r') (ha : PE X a ta) (hb : PE X b tb) (hc : PE X c tc)
    (hm : lastMarks [op, op'] [b, c] = false := by with_unfolding_all rfl) : PT X (.Compare a [op, op'] [b, c] pos) (tTest (tChain r r' ta tb tc)) := by
  intro pins s σ H Q I h
  refine isTrue_chain (thn (ha pins s σ H _ I h) fun v s1 ⟨x, H1, I1, r1, q1⟩ => test_link (thn (hb pins s1 σ H1 _ I1 q1) fun u s2 ⟨y, H2, I2, r2, q2⟩ =>
    thn (ho pins s2 σ H2 x y v u _ I2 r1 r2 q2) fun d s3 ⟨z, H3, I3, r3, k, e, q3⟩ => ?_)) hm
  subst e
  cases r3
  refine wpAny_truthy_bool ?_
  cases k with
  | false =>
    obtain ⟨k', e', q'⟩ := q3
    cases e'
    exact ite_ff ⟨H3, I3, q'⟩
  | true =>
    refine ite_tt (test_last (thn (hc pins s3 σ H3 _ I3 q3) fun w' s4 ⟨z', H4, I4, r4, q4⟩ => thn (ho' pins s4 σ H4 y z' u w' _ I4 r2 r4 q4) fun d' s5 ⟨z2, H5, I5, r5, k2, e2, q5⟩ => ?_))
    subst e2
    cases r5
    exact wpAny_truthy_bool ⟨H5, I5, q5⟩

/-! ### truth -/
/-- a value's truth by the abstract heap -/
def TruV (K : PySem.W.Frag) (x : V) (H : Hp) (k : Bool) : Prop :=
  match x with
  | .non => k = false
  | .bl b => k = b
  | .int i => k = (i != 0)
  | .str y => y.length ≤ sizeLine ∧ k = ((y.length : Int) != 0)
  | .byt y => y.size ≤ sizeLine ∧ k = ((y.size : Int) != 0)
  | .ref p => (∃ xs, SqL K H p xs ∧ k = !xs.isEmpty) ∨ (∃ xs, SqT K H p xs ∧ k = !xs.isEmpty) ∨ ∃ kvs, H p = some (.dK kvs) ∧ k = !kvs.isEmpty
  | _ => False
theorem isEmpty_kv {κ : Type} {kvs : List (κ × V)} {vs : List (κ × Value)} (r : KV kvs vs) : (!vs.isEmpty) = !kvs.isEmpty := by
  cases r <;> rfl
theorem isEmpty_of {xs : List V} {its : List Value} (r : Vals xs its) : (!its.toArray.isEmpty) = !xs.isEmpty := by
  cases r <;> simp
theorem line63 : (sizeLine : Nat) < 2 ^ 63 := by rw [sizeLine_eq]; decide
theorem tru_ok : TruR X (fun x H Q => ∃ k, TruV X.K x H k ∧ Q k H) := by
  intro pins s σ H x v Q I rx h
  obtain ⟨k, e, q⟩ := h
  have hl := line63
  have hs : sizeLine = 16777216 := sizeLine_eq
  cases x with
  | non =>
    cases rx
    have e' : k = false := e
    subst e'
    exact truthy_none ⟨H, I, q⟩
  | bl b =>
    cases rx
    have e' : k = b := e
    subst e'
    exact wpAny_truthy_bool ⟨H, I, q⟩
  | int i =>
    obtain ⟨t, rfl⟩ := rx
    have e' : k = (i != 0) := e
    subst e'
    exact PySem.P.truthy_int ⟨H, I, q⟩
  | str y =>
    obtain ⟨t, rfl⟩ := rx
    obtain ⟨hy, e'⟩ : y.length ≤ sizeLine ∧ k = ((y.length : Int) != 0) := e
    subst e'
    exact PySem.P.truthy_str (by omega) ⟨H, I.tok _, q⟩
  | byt y =>
    obtain ⟨t, rfl⟩ := rx
    obtain ⟨hy, e'⟩ : y.size ≤ sizeLine ∧ k = ((y.size : Int) != 0) := e
    subst e'
    exact PySem.W.truthy_bytes (by omega) ⟨H, I.tok _, q⟩
  | ref p =>
    cases rx
    have e' : (∃ xs, SqL X.K H p xs ∧ k = !xs.isEmpty) ∨ (∃ xs, SqT X.K H p xs ∧ k = !xs.isEmpty) ∨ ∃ kvs, H p = some (.dK kvs) ∧ k = !kvs.isEmpty := e
    rcases e' with ⟨xs, hx, e'⟩ | ⟨xs, hx, e'⟩ | ⟨kvs, hx, e'⟩
    · subst e'
      obtain ⟨its, r, pl, hz⟩ := I.list hx
      have hlen := r.length
      exact wpAny_truthy_list pl.isList (by simp only [List.size_toArray]; omega) ⟨H, I.tok _, by rw [isEmpty_of r]; exact q⟩
    · subst e'
      obtain ⟨its, r, pl, hz⟩ := I.tuple hx
      have hlen := r.length
      exact truthy_tuple pl (by simp only [List.size_toArray]; omega) ⟨H, I.tok _, by rw [isEmpty_of r]; exact q⟩
    · subst e'
      obtain ⟨hz, hS, vs, r, m⟩ : kvs.length ≤ sizeLine ∧ (p == sysModules) = false ∧ ∃ vs, KV kvs vs ∧ s.heap.DictOf (mixKind X.prog X.w) p vs := I.hok p _ hx
      have hlen : kvs.length = vs.length := Paired.length r
      exact wpAny_truthy_dict hS m (by omega) ⟨H, I.tok _, by rw [isEmpty_kv r]; exact q⟩
  | _ => exact (show False from e).elim
/-- any expression whose test is its value's truth (a name, a call, a subscript, a field ..: he by fun _ => rfl) -/
theorem pt_truth (ha : PE X a ta) (he : ∀ whole, isTrue a X.env whole = (do let v ← whole; standAt a.pos; holding [v] (truthy v))) :
    PT X a (fun σ H Q => ta σ H fun x H' => ∃ k, TruV X.K x H' k ∧ Q k H') := by
  intro pins s σ H Q I h
  exact isTrue_plain (thn (ha pins s σ H _ I h) fun v s1 ⟨x, H1, I1, r1, q1⟩ => tru_ok pins s1 σ H1 x v Q I1 r1 q1) (he _)

/-! ### strs and bytes -/
theorem pe_byt {x : List UInt8} {k : Nat} : PE X (.Constant (.bytes x) k pos) (fun _ H Q => Q (.byt x.toArray) H) := fun _ _ _ H _ I h => PySem.W.Constant_bytes ⟨.byt x.toArray, H, I.tok _, ⟨_, rfl⟩, h⟩
theorem op_add_str : OpR X (binaryOp .Add) (fun x y H Q => ∃ i j, x = .str i ∧ y = .str j ∧ i.length + j.length ≤ sizeLine ∧ Q (.str (i ++ j)) H) := by
  intro pins s σ H x y v u Q I rx ry h
  obtain ⟨i, j, rfl, rfl, hz, q⟩ := h
  obtain ⟨t, rfl⟩ := rx
  obtain ⟨t', rfl⟩ := ry
  exact add_str (fun t' tk => ⟨.str (i ++ j), H, I.tok _, ⟨_, rfl⟩, q⟩) hz
theorem iop_add_str : OpR X (inplaceOp .Add) (fun x y H Q => ∃ i j, x = .str i ∧ y = .str j ∧ i.length + j.length ≤ sizeLine ∧ Q (.str (i ++ j)) H) := by
  intro pins s σ H x y v u Q I rx ry h
  obtain ⟨i, j, rfl, rfl, hz, q⟩ := h
  obtain ⟨t, rfl⟩ := rx
  obtain ⟨t', rfl⟩ := ry
  exact iadd_str (fun t' tk => ⟨.str (i ++ j), H, I.tok _, ⟨_, rfl⟩, q⟩) hz
theorem op_add_byt : OpR X (binaryOp .Add) (fun x y H Q => ∃ i j, x = .byt i ∧ y = .byt j ∧ i.size + j.size ≤ 16777216 ∧ Q (.byt (i ++ j)) H) := by
  intro pins s σ H x y v u Q I rx ry h
  obtain ⟨i, j, rfl, rfl, hz, q⟩ := h
  obtain ⟨t, rfl⟩ := rx
  obtain ⟨t', rfl⟩ := ry
  exact PySem.W.KBy.add_bytes hz (fun t' tk => ⟨.byt (i ++ j), H, I.tok _, ⟨_, rfl⟩, q⟩)

def PlainIxT (b : Expr) : Prop := ∀ o i, subscripted b false o i = operate [o, i] (getItem o i)
/-- s[i], 0 ≤ i < len -/
theorem pe_item_str (ha : PE X a ta) (hb : PE X b tb) (hs : PlainIxT b) :
    PE X (.Subscript a b pos) (tOp (fun x y H Q => ∃ z i c, x = .str z ∧ y = .int i ∧ 0 ≤ i ∧ i < 2 ^ 63 ∧ i < z.length ∧ z.cps[i.toNat]? = some c ∧ Q (.str ⟨#[c]⟩) H) ta tb) := by
  intro pins s σ H Q I h
  refine Subscript_ (binT ha hb I h fun v u s2 x y H2 I2 rx ry q => ?_)
  obtain ⟨z, i, c, rfl, rfl, h0, h63, h1, hc, q⟩ := q
  obtain ⟨t, rfl⟩ := rx
  obtain ⟨t', rfl⟩ := ry
  have e : seqIndex? i z.length = some i.toNat := PySem.StrLaws.seqIndex_nonneg h0 h1
  exact tail_any (typeIs_str s2 z t) slot_str_getitem.lookup (getItem_str (c := c) (by
    have e1 : decide (i < -(2 ^ 63 : Int)) = false := decide_eq_false (by omega)
    have e2 : decide (i ≥ 2 ^ 63) = false := decide_eq_false (by omega)
    rw [e1, e2] <;> rfl) (by rw [e]; exact hc) ⟨.str ⟨#[c]⟩, H2, I2.tok _, ⟨_, rfl⟩, q⟩) (hs _ _)
/-- b[i], 0 ≤ i < len -/
theorem pe_item_byt (ha : PE X a ta) (hb : PE X b tb) (hs : PlainIxT b) :
    PE X (.Subscript a b pos) (tOp (fun x y H Q => ∃ (z : List UInt8) (i : Int), x = .byt z.toArray ∧ y = .int i ∧ z.length ≤ sizeLine ∧ 0 ≤ i ∧ i < z.length ∧ Q (.int ((z.getD i.toNat 0).toNat : Nat)) H) ta tb) := by
  intro pins s σ H Q I h
  refine Subscript_ (binT ha hb I h fun v u s2 x y H2 I2 rx ry q => ?_)
  obtain ⟨z, i, rfl, rfl, hz, h0, h1, q⟩ := q
  obtain ⟨t, rfl⟩ := rx
  obtain ⟨t', rfl⟩ := ry
  have hl : sizeLine = 16777216 := sizeLine_eq
  exact tail_any (PySem.W.typeIs_bytes s2 z.toArray t) PySem.W.FB.slot_bytes_getitem.lookup (PySem.W.getItem_bytes (by omega) h0 h1 ⟨.int ((z.getD i.toNat 0).toNat : Nat), H2, I2.tok _, ⟨_, rfl⟩, q⟩) (hs _ _)

/-! ### scalar builtins, by CallR -/
theorem vals1 {x : V} {us : List Value} (r : Vals [x] us) : ∃ u, us = [u] ∧ RelV x u := by
  cases r with
  | cons r1 r2 => cases r2; exact ⟨_, rfl, r1⟩
theorem vals2 {x y : V} {us : List Value} (r : Vals [x, y] us) : ∃ u w', us = [u, w'] ∧ RelV x u ∧ RelV y w' := by
  cases r with
  | cons r1 r2 =>
    cases r2 with
    | cons r3 r4 => cases r4; exact ⟨_, _, rfl, r1, r3⟩
theorem call_abs : CallR X (.builtin "abs") (fun xs H Q => ∃ i, xs = [.int i] ∧ Q (.int (if i < 0 then -i else i)) H) := by
  intro pins s σ H xs us Q I r h
  obtain ⟨i, rfl, q⟩ := h
  obtain ⟨u, rfl, t, rfl⟩ := vals1 r
  exact call_abs_int fun u tk => ⟨.int (if i < 0 then -i else i), H, I.tok _, ⟨_, rfl⟩, q⟩
theorem call_max2 (hc : X.calm = true) : CallR X (.builtin "max") (fun xs H Q => ∃ i j, xs = [.int i, .int j] ∧ Q (.int (if j > i then j else i)) H) := by
  intro pins s σ H xs us Q I r h
  obtain ⟨i, j, rfl, q⟩ := h
  obtain ⟨u, w', rfl, ⟨t, rfl⟩, ⟨t', rfl⟩⟩ := vals2 r
  refine max_two_ints (I.ok.hd hc) fun h' tk k => ⟨_, H, I.kept k, ?_, q⟩
  by_cases hj : j > i
  · rw [if_pos hj, if_pos hj]; exact ⟨_, rfl⟩
  · rw [if_neg hj, if_neg hj]; exact ⟨_, rfl⟩
theorem call_min2 (hc : X.calm = true) : CallR X (.builtin "min") (fun xs H Q => ∃ i j, xs = [.int i, .int j] ∧ Q (.int (if j < i then j else i)) H) := by
  intro pins s σ H xs us Q I r h
  obtain ⟨i, j, rfl, q⟩ := h
  obtain ⟨u, w', rfl, ⟨t, rfl⟩, ⟨t', rfl⟩⟩ := vals2 r
  refine min_two_ints (I.ok.hd hc) fun h' tk k => ⟨_, H, I.kept k, ?_, q⟩
  by_cases hj : j < i
  · rw [if_pos hj, if_pos hj]; exact ⟨_, rfl⟩
  · rw [if_neg hj, if_neg hj]; exact ⟨_, rfl⟩
theorem call_int1 : CallR X (.type "int") (fun xs H Q => (∃ i, xs = [.int i] ∧ Q (.int i) H) ∨ ∃ k, xs = [.bl k] ∧ Q (.int (if k then 1 else 0)) H) := by
  intro pins s σ H xs us Q I r h
  rcases h with ⟨i, rfl, q⟩ | ⟨k, rfl, q⟩
  · obtain ⟨u, rfl, t, rfl⟩ := vals1 r
    exact call_int_int ⟨.int i, H, I, ⟨_, rfl⟩, q⟩
  · obtain ⟨u, rfl, r1⟩ := vals1 r
    cases r1
    exact call_int_bool ⟨.int (if k then 1 else 0), H, I.tok _, ⟨_, rfl⟩, q⟩
theorem call_bool1 : CallR X (.type "bool") (fun xs H Q => (∃ i, xs = [.int i] ∧ Q (.bl (i != 0)) H) ∨ ∃ k, xs = [.bl k] ∧ Q (.bl k) H) := by
  intro pins s σ H xs us Q I r h
  rcases h with ⟨i, rfl, q⟩ | ⟨k, rfl, q⟩
  · obtain ⟨u, rfl, t, rfl⟩ := vals1 r
    exact call_bool_int ⟨.bl (i != 0), H, I, rfl, q⟩
  · obtain ⟨u, rfl, r1⟩ := vals1 r
    cases r1
    exact call_bool_bool ⟨.bl k, H, I, rfl, q⟩
theorem call_str_int : CallR X (.type "str") (fun xs H Q => ∃ i, xs = [.int i] ∧ i.natAbs.log2 < 1920 ∧ Q (.str (toString i)) H) := by
  intro pins s σ H xs us Q I r h
  obtain ⟨i, rfl, hz, q⟩ := h
  obtain ⟨u, rfl, t, rfl⟩ := vals1 r
  exact PySem.P.str_of_int hz ⟨.str _, H, I.tok _, ⟨_, rfl⟩, q⟩
theorem call_ord : CallR X (.builtin "ord") (fun xs H Q => ∃ x, xs = [.str x] ∧ x.length = 1 ∧ Q (.int (x.cps.getD 0 0 : Nat)) H) := by
  intro pins s σ H xs us Q I r h
  obtain ⟨x, rfl, hz, q⟩ := h
  obtain ⟨u, rfl, t, rfl⟩ := vals1 r
  exact ord_of_one hz ⟨.int _, H, I.tok _, ⟨_, rfl⟩, q⟩
theorem call_chr : CallR X (.builtin "chr") (fun xs H Q => ∃ i, xs = [.int i] ∧ 0 ≤ i ∧ i ≤ 1114111 ∧ Q (.str ⟨#[i.toNat]⟩) H) := by
  intro pins s σ H xs us Q I r h
  obtain ⟨i, rfl, h0, h1, q⟩ := h
  obtain ⟨u, rfl, t, rfl⟩ := vals1 r
  exact chr_of_range h0 h1 ⟨.str _, H, I.tok _, ⟨_, rfl⟩, q⟩
/-- len of a str, a bytes, a list, a tuple -/
def LenV (K : PySem.W.Frag) (x : V) (H : Hp) (n : Nat) : Prop :=
  match x with
  | .str y => y.length ≤ sizeLine ∧ n = y.length
  | .byt y => y.size ≤ sizeLine ∧ n = y.size
  | .ref p => (∃ xs, SqL K H p xs ∧ n = xs.length) ∨ ∃ xs, SqT K H p xs ∧ n = xs.length
  | _ => False
theorem call_len : CallR X (.builtin "len") (fun xs H Q => ∃ x n, xs = [x] ∧ LenV X.K x H n ∧ Q (.int n) H) := by
  intro pins s σ H xs us Q I r h
  obtain ⟨x, n, rfl, e, q⟩ := h
  obtain ⟨u, rfl, rx⟩ := vals1 r
  have hl := line63
  have hs : sizeLine = 16777216 := sizeLine_eq
  cases x with
  | str y =>
    obtain ⟨t, rfl⟩ := rx
    obtain ⟨hy, e'⟩ : y.length ≤ sizeLine ∧ n = y.length := e
    subst e'
    exact len_str (by omega) ⟨.int _, H, I.tok _, ⟨_, rfl⟩, q⟩
  | byt y =>
    obtain ⟨t, rfl⟩ := rx
    obtain ⟨hy, e'⟩ : y.size ≤ sizeLine ∧ n = y.size := e
    subst e'
    exact PySem.W.len_bytes (by omega) ⟨.int _, H, I.tok _, ⟨_, rfl⟩, q⟩
  | ref p =>
    cases rx
    have e' : (∃ xs, SqL X.K H p xs ∧ n = xs.length) ∨ ∃ xs, SqT X.K H p xs ∧ n = xs.length := e
    rcases e' with ⟨xs, hx, e'⟩ | ⟨xs, hx, e'⟩
    · subst e'
      obtain ⟨its, r', pl, hz⟩ := I.list hx
      have hlen := r'.length
      exact Calls.call_len_list pl.isList (by simp only [List.size_toArray]; omega) ⟨.int xs.length, H, I.tok _, ⟨_, by simp only [List.size_toArray]; rw [hlen]⟩, q⟩
    · subst e'
      obtain ⟨its, r', pl, hz⟩ := I.tuple hx
      have hlen := r'.length
      exact len_tuple pl (by simp only [List.size_toArray]; omega) ⟨.int xs.length, H, I.tok _, ⟨_, by simp only [List.size_toArray]; rw [hlen]⟩, q⟩
  | _ => exact (show False from e).elim
/-- divmod: a new tuple -/
theorem call_divmod : CallR X (.builtin "divmod") (fun xs H Q => ∃ i j, xs = [.int i, .int j] ∧ CDiv i j ∧ ∀ p, H p = none → Q (.ref p) (upd H p (.tup [.int (i / j), .int (i % j)]))) := by
  intro pins s σ H xs us Q I r h
  obtain ⟨i, j, rfl, ⟨h1, h2⟩, q⟩ := h
  obtain ⟨u, w', rfl, ⟨t, rfl⟩, ⟨t', rfl⟩⟩ := vals2 r
  refine divmod_int (by omega) ?_ (.inl (PyProof.noPylong_small (by omega)))
  rw [Int.fdiv_eq_ediv_of_nonneg i (by omega), Int.fmod_eq_emod_of_nonneg i (by omega)]
  have hn : H s.heap.objs.size = none := I.hok.fresh (Nat.le_refl _)
  refine ⟨.ref s.heap.objs.size, _, ?_, rfl, q _ hn⟩
  refine I.laid (fun b o e => Heap.get?_push_of_some _ e) (Nat.le_refl _) ⟨by simp only [List.length_cons, List.length_nil]; rw [sizeLine_eq]; decide, [.int (i / j) s.toks, .int (i % j) (s.toks + 1)], .cons ⟨_, rfl⟩ (.cons ⟨_, rfl⟩ .nil), ?_⟩
  exact ⟨_, Heap.get?_push_size s.heap rfl, rfl, 0, rfl⟩
end
end L2

namespace L2
open PySem PySem.Spec PyProof.Rows

/-! ### an instance, its attributes a map -/
structure ObjM (h : Heap) (x dx C : Addr) (mA : Str → Option Value) : Prop where
  obj : h.get? x = some (PySem.W.instObj C dx)
  ns : h.Ns1 dx mA
  ne : dx ≠ x

theorem lookIn_ns {h : Heap} {dx : Addr} {mA : Str → Option Value} (n : h.Ns1 dx mA) : ∃ od, h.get? dx = some od ∧ ∀ name, PySem.W.lookIn name od = some (mA name) := by
  obtain ⟨o, es, ep, ho, hd, hk, _, hm⟩ := n
  refine ⟨o, ho, fun name => ?_⟩
  have e := hm name
  unfold nsFind findBy at e
  rw [← Array.find?_toList] at e
  unfold PySem.W.lookIn
  rw [hd]
  dsimp only
  split
  · rename_i y q
    rw [q] at e
    exact congrArg some e
  · rename_i q
    rw [q] at e
    have a : es.toList.any (·.refKey) = false := by
      rw [List.any_eq_false]
      intro y hy
      obtain ⟨z, t, hkey⟩ := hk y (Array.mem_toList_iff.mp hy)
      simp [DictEntry.refKey, hkey]
    have a' : ¬ es.toList.any (·.refKey) = true := by rw [a]; exact Bool.false_ne_true
    rw [if_neg a']
    exact congrArg some e

theorem ObjM.look {h : Heap} {x dx C : Addr} {mA : Str → Option Value} (I : ObjM h x dx C mA) : ∃ od, PySem.W.InstAt h x (PySem.W.instObj C dx) C (some od) ∧ ∀ name, PySem.W.lookIn name od = some (mA name) :=
  let ⟨od, ho, hl⟩ := lookIn_ns I.ns
  ⟨od, ⟨I.obj, rfl, rfl, ho⟩, hl⟩

section
variable {prog : Program} {w : World} {A : Around} {E : Value → Shared → Prop} {s : Shared} {K : PySem.W.Frag} {x dx C f : Addr} {mA : Str → Option Value} {name : Str} {v : Value}

theorem get_map {expr : Bool} {Q : Value → Shared → Prop} (X : K.In s.heap) (I : ObjM s.heap x dx C mA) (hg : PySem.W.plainGet K C name = true) (hh : PySem.W.hasDictIn K C = true)
    (ha : PySem.W.findIn K (.ref C) name = some none) (hv : mA name = some v) (hv' : PySem.W.handedIn v = true) (h : Q v { s with toks := s.toks + 1 }) :
    wpAny (model prog w) A (getAttr (.ref x) name expr) Q E s := by
  obtain ⟨od, J, hl⟩ := I.look
  exact PySem.W.get_value X J (PySem.W.plainGet_of hg).1 (PySem.W.findObj_own hh ha rfl (by rw [hl, hv])) hv' h

theorem get_const {expr : Bool} {a : Value} {Q : Value → Shared → Prop} (X : K.In s.heap) (I : ObjM s.heap x dx C mA) (hg : PySem.W.plainGet K C name = true) (hh : PySem.W.hasDictIn K C = true)
    (ha : PySem.W.findIn K (.ref C) name = some (some a)) (hn : PySem.W.specialIn K a "__get__" = some none) (hc : PySem.W.copiedNames.contains name = false) (hv : mA name = none) (hv' : PySem.W.handedIn a = true)
    (h : Q a { s with toks := s.toks + 1 }) : wpAny (model prog w) A (getAttr (.ref x) name expr) Q E s := by
  obtain ⟨od, J, hl⟩ := I.look
  exact PySem.W.get_value X J (PySem.W.plainGet_of hg).1 (PySem.W.findObj_cls hh ha hn hv' hc (by rw [hl, hv])) hv' h

theorem get_meth {pl : Sem Bool} {Q : Value × List Value → Shared → Prop} (X : K.In s.heap) (I : ObjM s.heap x dx C mA) (hg : PySem.W.plainGet K C name = true)
    (hf : PySem.W.findIn K (.ref C) name = some (some (.ref f))) (ht : PySem.W.isFn K (.ref f) = true) (hv : mA name = none) (h : Q (.ref f, [.ref x]) s) :
    wpAny (model prog w) A (getMethod (.ref x) name pl) Q E s := by
  obtain ⟨od, J, hl⟩ := I.look
  exact PySem.W.method_fn X J (PySem.W.plainGet_of hg).1 (PySem.W.plainGet_of hg).2 hf (beq_iff_eq.mp ht) (by show (PySem.W.lookIn name od).map (·.isSome) = some false; rw [hl, hv]; rfl) h

theorem set_map {ns : List Str} {Q : Unit → Shared → Prop} (X : K.In s.heap) (I : ObjM s.heap x dx C mA)
    (hs : PySem.W.findIn K (.ref C) "__setattr__" = some (some (.builtin "object.__setattr__"))) (hp : PySem.W.plainOver K C = true) (ht : PySem.W.takerIn K C name = some none) (hh : PySem.W.hasDictIn K C = true)
    (hw : PySem.Within mA ns) (hsz : ns.length ≤ sizeLine)
    (h : ∀ h', ObjM h' x dx C (fun y => if y = name then some v else mA y) → Heap.SameBut dx s.heap h' → Q () { s with heap := h', toks := s.toks + 2 }) :
    wpAny (model prog w) A (setAttr (.ref x) name v) Q E s := by
  obtain ⟨od, J, hl⟩ := I.look
  refine PySem.W.set_plain X J hs (PySem.W.osa_open (s := { s with toks := s.toks + 1 }) (r := none) X J hp ht fun b => ?_)
  obtain ⟨cd, hc, hd'⟩ := PySem.W.any_some hh
  have hx : s.heap.get? x = some ⟨.ref C, some dx, .plain, #[]⟩ := I.obj
  refine wpAny_bind (wpAny_pure (wpAny_bind (wpAny_bind (wpAny_loadPart hx (wpAny_bind (PySem.W.Looks.here (s := { s with toks := s.toks + 1 }) (PySem.W.looks_clsIn X hc) ?_))))))
  rw [hd']
  refine wpAny_pure (a := some dx) (wpAny_bind (wpAny_pure (wpAny_bind ?_)))
  refine wpAny_nsSet1 (s := { s with toks := s.toks + 1 }) I.ns fun h' hn2 hs2 => ?_
  obtain ⟨oD, esD, epD, hoD, hdD, hcD⟩ := hn2.count (PySem.Within.cons name v hw)
  refine wpAny_bind (wpAny_lookBehind hoD (by rw [hdD]; exact pastItsLine_dict (Nat.le_trans hcD (by rw [List.length_cons]; omega))) ?_)
  exact wpAny_pure (h _ ⟨(hs2.2 _ (Ne.symm I.ne)).trans I.obj, hn2, I.ne⟩ hs2)

/-- C(..): the dict at the heap's end, the instance behind it; then its __init__ -/
theorem make_map {R : Result → Shared → Prop} {vs : List Value} {kw : List (Str × Value)} (X : K.In s.heap) (hm : PySem.W.makesIn K C = true)
    (hi : PySem.W.findIn K (.ref C) "__init__" = some (some (.ref f))) (hf : PySem.W.typeIn K (.ref f) = some (.type "function"))
    (h : codeAny (model prog w) (A.under (.builtin "type.__call__" ⟨.ref C :: vs, kw⟩)) (.call (.ref f) ⟨.ref (s.heap.objs.size + 1) :: vs, kw⟩) (PySem.W.InitBack (s.heap.objs.size + 1) R)
      { s with heap := (s.heap.push PySem.W.emptyDict).push (PySem.W.instObj C s.heap.objs.size) }) :
    codeAny (model prog w) A (.call (.ref C) ⟨vs, kw⟩) R s := by
  obtain ⟨hh, g, d, t, os⟩ := s
  exact PySem.W.make_core (PySem.W.makes_of X hm) (PySem.W.looks_findIn X hi) (fun self => PySem.W.bind_fn X self hf) (.inl rfl) h
/-- C() where there is no __init__ but object's -/
theorem make_map0 {R : Result → Shared → Prop} (X : K.In s.heap) (hm : PySem.W.makesIn K C = true)
    (hi : PySem.W.findIn K (.ref C) "__init__" = some (some (.builtin "object.__init__")))
    (hb : ∀ self, PySem.W.Looks (model prog w) s.heap (bindSpecial (.builtin "object.__init__") self) (.builtin "object.__init__", [self]))
    (h : codeAny (model prog w) (A.under (.builtin "type.__call__" ⟨[.ref C], []⟩)) (.call (.builtin "object.__init__") ⟨[.ref (s.heap.objs.size + 1)], []⟩) (PySem.W.InitBack (s.heap.objs.size + 1) R)
      { s with heap := (s.heap.push PySem.W.emptyDict).push (PySem.W.instObj C s.heap.objs.size) }) :
    codeAny (model prog w) A (.call (.ref C) ⟨[], []⟩) R s := by
  obtain ⟨hh, g, d, t, os⟩ := s
  exact PySem.W.make_core (PySem.W.makes_of X hm) (PySem.W.looks_findIn X hi) hb (.inr ⟨rfl, rfl⟩) h
end

/-! ### the attributes as a list of pairs -/
def putF (f : Str) (v : V) : List (Str × V) → List (Str × V)
  | [] => [(f, v)]
  | (g, x) :: r => if g = f then (g, v) :: r else (g, x) :: putF f v r
theorem lookup_putF (f g : Str) (v : V) : ∀ fs : List (Str × V), (putF f v fs).lookup g = if g = f then some v else fs.lookup g
  | [] => by
    show List.lookup g [(f, v)] = _
    by_cases h : g = f
    · have hb : (g == f) = true := beq_iff_eq.mpr h
      simp only [List.lookup, hb, if_pos h]
    · have hb : (g == f) = false := beq_eq_false_iff_ne.mpr h
      simp only [List.lookup, hb, if_neg h]
  | (k, x) :: r => by
    have ih := lookup_putF f g v r
    rw [show putF f v ((k, x) :: r) = (if k = f then (k, v) :: r else (k, x) :: putF f v r) from rfl]
    by_cases hk : k = f
    · rw [if_pos hk]
      by_cases h : g = k
      · have hb : (g == k) = true := beq_iff_eq.mpr h
        simp only [List.lookup, hb, if_pos (h.trans hk)]
      · have hb : (g == k) = false := beq_eq_false_iff_ne.mpr h
        simp only [List.lookup, hb, if_neg (fun e : g = f => h (e.trans hk.symm))]
    · rw [if_neg hk]
      by_cases h : g = k
      · have hb : (g == k) = true := beq_iff_eq.mpr h
        simp only [List.lookup, hb, if_neg (fun e : g = f => hk (h.symm.trans e))]
      · have hb : (g == k) = false := beq_eq_false_iff_ne.mpr h
        simp only [List.lookup, hb]
        exact ih
theorem keys_putF (f : Str) (v : V) : ∀ fs : List (Str × V), f ∈ (putF f v fs).map (·.1) ∧ ∀ g, g ∈ fs.map (·.1) → g ∈ (putF f v fs).map (·.1)
  | [] => ⟨by simp [putF], fun g h => by simp at h⟩
  | (k, x) :: r => by
    obtain ⟨i1, i2⟩ := keys_putF f v r
    rw [show putF f v ((k, x) :: r) = (if k = f then (k, v) :: r else (k, x) :: putF f v r) from rfl]
    by_cases hk : k = f
    · rw [if_pos hk]
      subst hk
      exact ⟨by simp, fun g h => by simpa using h⟩
    · rw [if_neg hk]
      refine ⟨?_, fun g h => ?_⟩
      · rw [List.map_cons]
        exact List.mem_cons_of_mem _ i1
      · rw [List.map_cons] at h ⊢
        rcases List.mem_cons.mp h with e | e
        · exact List.mem_cons.mpr (.inl e)
        · exact List.mem_cons_of_mem _ (i2 g e)
theorem length_putF (f : Str) (v : V) : ∀ fs : List (Str × V), (putF f v fs).length ≤ fs.length + 1
  | [] => by simp [putF]
  | (k, x) :: r => by
    have ih := length_putF f v r
    rw [show putF f v ((k, x) :: r) = (if k = f then (k, v) :: r else (k, x) :: putF f v r) from rfl]
    by_cases hk : k = f
    · rw [if_pos hk, List.length_cons, List.length_cons]; omega
    · rw [if_neg hk, List.length_cons, List.length_cons]; omega

theorem RelO.some_of {v : V} {o : Option Value} (r : RelO (some v) o) : ∃ u, o = some u ∧ RelV v u := by
  cases o with
  | none => exact (show False from r).elim
  | some u => exact ⟨u, rfl, r⟩
theorem RelO.none_of {o : Option Value} (r : RelO none o) : o = none := by
  cases o with
  | none => rfl
  | some u => exact (show False from r).elim
theorem handed_of {v : V} {u : Value} (r : RelV v u) : PySem.W.handedIn u = true := by
  cases v with
  | non => cases (show u = Value.none from r); rfl
  | bl b => cases (show u = Value.bool b from r); rfl
  | int i => obtain ⟨t, e⟩ := (show ∃ t, u = Value.int i t from r); cases e; rfl
  | str x => obtain ⟨t, e⟩ := (show ∃ t, u = Value.str x t from r); cases e; rfl
  | byt b => obtain ⟨t, e⟩ := (show ∃ t, u = Value.bytes b t from r); cases e; rfl
  | flt b => obtain ⟨t, e⟩ := (show ∃ t, u = Value.float b t from r); cases e; rfl
  | ref a => cases (show u = Value.ref a from r); rfl
  | ty n => cases (show u = Value.type n from r); rfl

section
variable {P : Program} {w : World} {H H' : Hp} {h h' : Heap} {a C dx : Addr} {fs fs' : List (Str × V)}
theorem ins_get (hok : HOk P w H h) (e : H a = some (.ins C dx fs)) : ∃ mA, ObjM h a dx C mA ∧ (∀ f, RelO (fs.lookup f) (mA f)) ∧ PySem.Within mA (fs.map (·.1)) ∧ fs.length ≤ 1000 ∧ H dx = some (.own a) := by
  obtain ⟨d, z, ne, ob, mA, n, r, q⟩ := (show ObjOk P w H h a (.ins C dx fs) from hok a _ e)
  exact ⟨mA, ⟨ob, n, ne⟩, r, q, z, d⟩
end

/-! ### what of the text a class must have -/
structure Cls (K : PySem.W.Frag) (C : Addr) : Prop where
  pg : PySem.W.plainGet K C Str.empty = true
  hd : PySem.W.hasDictIn K C = true
  po : PySem.W.plainOver K C = true
  sa : PySem.W.findIn K (.ref C) "__setattr__" = some (some (.builtin "object.__setattr__"))
theorem Cls.get {K : PySem.W.Frag} {C : Addr} (c : Cls K C) (f : Str) : PySem.W.plainGet K C f = true := c.pg
/-- no class of it has the name -/
def NoAttr (K : PySem.W.Frag) (C : Addr) (f : Str) : Prop := PySem.W.findIn K (.ref C) f = some none
theorem NoAttr.taker {K : PySem.W.Frag} {C : Addr} {f : Str} (n : NoAttr K C f) : PySem.W.takerIn K C f = some none := by
  unfold PySem.W.takerIn
  rw [show PySem.W.findIn K (.ref C) f = some none from n]
  rfl
/-- a constant of the class -/
structure Con (K : PySem.W.Frag) (C : Addr) (f : Str) (v : V) (u : Value) : Prop where
  at_ : PySem.W.findIn K (.ref C) f = some (some u)
  rel : RelV v u
  get : PySem.W.specialIn K u "__get__" = some none
  cp : PySem.W.copiedNames.contains f = false
/-- a method: a plain def of the class or of one above it -/
structure Meth (K : PySem.W.Frag) (C : Addr) (m : Str) (f : Addr) : Prop where
  at_ : PySem.W.findIn K (.ref C) m = some (some (.ref f))
  fn : PySem.W.isFn K (.ref f) = true
  kp : PySem.W.keepIn K (.ref f) = true

section
variable {X : Cx} {pins : List (Addr × Obj)} {σ : St} {H : Hp} {s : Shared} {a C dx : Addr} {fs : List (Str × V)} {f : Str} {v : V} {A : Around} {E : Value → Shared → Prop}

theorem getattr_ok {b : Bool} {Q : Value → Shared → Prop} (I : Inv X pins σ H s) (e : H a = some (.ins C dx fs)) (c : Cls X.K C) (n : NoAttr X.K C f) (l : fs.lookup f = some v)
    (h : ∀ u s', Inv X pins σ H s' → RelV v u → Q u s') : wpAny (model X.prog X.w) A (getAttr (.ref a) f b) Q E s := by
  obtain ⟨mA, O, r, _, _, _⟩ := ins_get I.hok e
  obtain ⟨u, hu, ru⟩ := RelO.some_of (v := v) (o := mA f) (by rw [← l]; exact r f)
  exact get_map I.kIn O (c.get f) c.hd n hu (handed_of ru) (h u _ (I.tok _) ru)

theorem getcon_ok {b : Bool} {u : Value} {Q : Value → Shared → Prop} (I : Inv X pins σ H s) (e : H a = some (.ins C dx fs)) (c : Cls X.K C) (k : Con X.K C f v u) (l : fs.lookup f = none)
    (h : ∀ s', Inv X pins σ H s' → Q u s') : wpAny (model X.prog X.w) A (getAttr (.ref a) f b) Q E s := by
  obtain ⟨mA, O, r, _, _, _⟩ := ins_get I.hok e
  have hn : mA f = none := RelO.none_of (by rw [← l]; exact r f)
  exact get_const I.kIn O (c.get f) c.hd k.at_ k.get k.cp hn (handed_of k.rel) (h _ (I.tok _))

theorem getmeth_ok {m : Str} {g : Addr} {pl : Sem Bool} {Q : Value × List Value → Shared → Prop} (I : Inv X pins σ H s) (e : H a = some (.ins C dx fs)) (c : Cls X.K C) (k : Meth X.K C m g) (l : fs.lookup m = none)
    (h : Q (.ref g, [.ref a]) s) : wpAny (model X.prog X.w) A (getMethod (.ref a) m pl) Q E s := by
  obtain ⟨mA, O, r, _, _, _⟩ := ins_get I.hok e
  have hn : mA m = none := RelO.none_of (by rw [← l]; exact r m)
  exact get_meth I.kIn O (c.get m) k.at_ k.fn hn h

theorem setattr_ok {y : V} {u : Value} {Q : Unit → Shared → Prop} (I : Inv X pins σ H s) (e : H a = some (.ins C dx fs)) (c : Cls X.K C) (n : NoAttr X.K C f) (hl : fs.length < 1000) (ry : RelV y u)
    (h : ∀ s', Inv X pins σ (upd H a (.ins C dx (putF f y fs))) s' → Q () s') : wpAny (model X.prog X.w) A (setAttr (.ref a) f u) Q E s := by
  obtain ⟨mA, O, r, wi, _, ho⟩ := ins_get I.hok e
  have hz : (fs.map (·.1)).length ≤ sizeLine := by rw [List.length_map, sizeLine_eq]; omega
  refine set_map I.kIn O c.sa c.po n.taker c.hd wi hz fun h' O' sb => h _ ?_
  have hd : ∃ o, h'.get? dx = some o := let ⟨o, _, _, e', _⟩ := O'.ns; ⟨o, e'⟩
  refine I.write (x := a) (e := dx) (by rw [e]; exact True.intro) (.inr ho) (fun b q hb z => (sb.2 b hb).trans z) hd ?_
  refine ⟨by rw [upd_ne O.ne]; exact ho, ?_, O.ne, O'.obj, _, O'.ns, fun g => ?_, fun g hg => ?_⟩
  · have := length_putF f y fs; omega
  · show RelO ((putF f y fs).lookup g) (if g = f then some u else mA g)
    rw [lookup_putF]
    by_cases q : g = f
    · rw [if_pos q, if_pos q]; exact ry
    · rw [if_neg q, if_neg q]; exact r g
  · by_cases q : g = f
    · rw [q]; exact (keys_putF f y fs).1
    · refine (keys_putF f y fs).2 g (wi g fun z => hg ?_)
      show (if g = f then some u else mA g) = none
      rw [if_neg q]; exact z

/-- a new instance, tracked, without attributes -/
theorem Inv.made (I : Inv X pins σ H s) : Inv X pins σ (upd (upd H s.heap.objs.size (.own (s.heap.objs.size + 1))) (s.heap.objs.size + 1) (.ins C s.heap.objs.size []))
    { s with heap := (s.heap.push PySem.W.emptyDict).push (PySem.W.instObj C s.heap.objs.size) } := by
  have e1 : (s.heap.push PySem.W.emptyDict).get? s.heap.objs.size = some PySem.W.emptyDict := Heap.get?_push_size s.heap rfl
  have e2 : ((s.heap.push PySem.W.emptyDict).push (PySem.W.instObj C s.heap.objs.size)).get? (s.heap.objs.size + 1) = some (PySem.W.instObj C s.heap.objs.size) := by
    have := Heap.get?_push_size (s.heap.push PySem.W.emptyDict) (o := PySem.W.instObj C s.heap.objs.size) rfl
    rwa [Heap.size_push] at this
  have e3 : (s.heap.push PySem.W.emptyDict).Ns s.heap.objs.size (fun _ => none) := ⟨PySem.W.emptyDict, #[], _, e1, rfl, (fun e he => absurd he (by simp)), fun _ => rfl⟩
  have I1 := I.laid (a := s.heap.objs.size) (o := .own (s.heap.objs.size + 1)) (h' := s.heap.push PySem.W.emptyDict) (t' := s.toks) (fun b u q => Heap.get?_push_of_some _ q) (Nat.le_refl _) ⟨_, e1⟩
  refine I1.laid (a := s.heap.objs.size + 1) (o := .ins C s.heap.objs.size []) (t' := s.toks) (fun b u q => Heap.get?_push_of_some _ q) (Nat.le_of_eq (Heap.size_push _ _)) ?_
  have ne : s.heap.objs.size ≠ s.heap.objs.size + 1 := Nat.ne_of_lt (Nat.lt_succ_self _)
  refine ⟨by rw [upd_ne ne, upd_same], Nat.zero_le _, ne, e2, fun _ => none, (Heap.Ns1.of_empty e3).at fun o q => Heap.get?_push_of_some _ q, fun _ => True.intro, fun y hy => absurd rfl hy⟩

/-- e.f where nothing but the object is asked: through attributeBase (super) and the last hold -/
theorem attr_of {prog : Program} {w : World} {env : Env} {e : Expr} {f : Str} {pos : Pos} {s : Shared} {Q : Value → Shared → Prop} (hb : attributeBase e f env (eval e env) = eval e env)
    (h : wpAny (model prog w) A (eval e env) (fun o s₁ => wpAny (model prog w) A (getAttr o f true) Q E s₁) E s) : wpAny (model prog w) A (eval (.Attribute e f pos) env) Q E s :=
  Attribute_any_ h (by rw [arm_eval_Attribute, hb])
end

/-! ### readings and rules -/
/-- e.f, an attribute of the instance -/
def tFld (K : PySem.W.Frag) (ta : TE) (f : Str) : TE := fun σ H Q => ta σ H fun x H1 => ∃ a C dx fs v, x = .ref a ∧ H1 a = some (.ins C dx fs) ∧ Cls K C ∧ NoAttr K C f ∧ fs.lookup f = some v ∧ Q v H1
/-- e.f, a constant of the class -/
def tCon (K : PySem.W.Frag) (ta : TE) (f : Str) : TE := fun σ H Q => ta σ H fun x H1 => ∃ a C dx fs v u, x = .ref a ∧ H1 a = some (.ins C dx fs) ∧ Cls K C ∧ Con K C f v u ∧ fs.lookup f = none ∧ Q v H1
/-- e.f = value -/
def sFld (K : PySem.W.Frag) (ta tv : TE) (f : Str) : TS := fun D σ H => tv σ H fun y H1 => ta σ H1 fun x H2 => ∃ a C dx fs, x = .ref a ∧ H2 a = some (.ins C dx fs) ∧ Cls K C ∧ NoAttr K C f ∧ fs.length < 1000 ∧
  D.nx σ (upd H2 a (.ins C dx (putF f y fs)))
/-- an augmented operator on two values -/
def InOp (X : Cx) (op : Operator) (rd : V → V → Hp → VK → Prop) : Prop :=
  ∀ (pins : List (Addr × Obj)) (s : Shared) (σ : St) (H : Hp) (x y : V) (u v : Value) (Q : VK), Inv X pins σ H s → RelV x u → RelV y v → rd x y H Q → wpAny (model X.prog X.w) X.A (inplaceOp op u v) (EP X pins σ Q) X.xe s
/-- e.f op= value -/
def sFldAug (K : PySem.W.Frag) (ta tv : TE) (rd : V → V → Hp → VK → Prop) (f : Str) : TS := fun D σ H => ta σ H fun x H1 => ∃ a C dx fs v, x = .ref a ∧ H1 a = some (.ins C dx fs) ∧ Cls K C ∧ NoAttr K C f ∧ fs.lookup f = some v ∧
  tv σ H1 fun y H2 => rd v y H2 fun z H3 => ∃ dx' fs', H3 a = some (.ins C dx' fs') ∧ fs'.length < 1000 ∧ D.nx σ (upd H3 a (.ins C dx' (putF f z fs')))

section
variable {X : Cx} {o e value : Expr} {f : Str} {pos pos' tpos : Pos} {ta tv : TE}
theorem pe_fld (he : PE X e ta) (hb : attributeBase e f X.env (eval e X.env) = eval e X.env) : PE X (.Attribute e f pos) (tFld X.K ta f) := by
  intro pins s σ H Q I h
  refine attr_of hb (thn (he pins s σ H _ I h) fun u s1 ⟨x, H1, I1, rx, a, C, dx, fs, v, ex, ea, c, n, l, q⟩ => ?_)
  subst ex
  obtain rfl : u = Value.ref a := rx
  exact getattr_ok I1 ea c n l fun u' s2 I2 ru => ⟨v, H1, I2, ru, q⟩
theorem pe_con (he : PE X e ta) (hb : attributeBase e f X.env (eval e X.env) = eval e X.env) : PE X (.Attribute e f pos) (tCon X.K ta f) := by
  intro pins s σ H Q I h
  refine attr_of hb (thn (he pins s σ H _ I h) fun u s1 ⟨x, H1, I1, rx, a, C, dx, fs, v, u0, ex, ea, c, k, l, q⟩ => ?_)
  subst ex
  obtain rfl : u = Value.ref a := rx
  exact getcon_ok I1 ea c k l fun s2 I2 => ⟨v, H1, I2, k.rel, q⟩
theorem ps_fld (ha : PE X o ta) (hv : PE X value tv) (hs : swapsWith value (some (.Attribute o f pos')) pos.line X.env = pure false) : PS X (.Assign [.Attribute o f pos'] value pos) (sFld X.K ta tv f) := by
  intro pins s σ H D I h
  refine plainObj_wpAny_Assign_Attribute (thn (hv pins s σ H _ I h) fun u s1 ⟨y, H1, I1, ry, q⟩ => thn (ha pins s1 σ H1 _ I1 q) fun ov s2 ⟨x, H2, I2, rx, a, C, dx, fs, ex, ea, c, n, l, q2⟩ => ?_) hs
  subst ex
  obtain rfl : ov = Value.ref a := rx
  exact setattr_ok I2 ea c n l ry fun s3 I3 => ⟨σ, _, I3, q2⟩
theorem ps_fldaug {op : Operator} {rd : V → V → Hp → VK → Prop} (ha : PE X o ta) (hv : PE X value tv) (hop : InOp X op rd) : PS X (.AugAssign (.Attribute o f tpos) op value pos) (sFldAug X.K ta tv rd f) := by
  intro pins s σ H D I h
  refine wpAny_AugAssign_AttributeAny (thn (ha pins s σ H _ I h) fun ov s1 ⟨x, H1, I1, rx, a, C, dx, fs, v, ex, ea, c, n, l, q⟩ => ?_)
  subst ex
  obtain rfl : ov = Value.ref a := rx
  refine getattr_ok I1 ea c n l fun u s2 I2 ru => thn (hv pins s2 σ H1 _ I2 q) fun w3 s3 ⟨y, H2, I3, ry, q3⟩ => thn (hop pins s3 σ H2 v y u w3 _ I3 ru ry q3) fun w4 s4 ⟨z, H3, I4, rz, dx', fs', ea', l', q4⟩ => ?_
  exact setattr_ok I4 ea' c n l' rz fun s5 I5 => ⟨σ, _, I5, q4⟩
def rAdd : V → V → Hp → VK → Prop := fun x y H Q => ∃ i j, x = .int i ∧ y = .int j ∧ Q (.int (i + j)) H
def rSub : V → V → Hp → VK → Prop := fun x y H Q => ∃ i j, x = .int i ∧ y = .int j ∧ Q (.int (i - j)) H
theorem in_add : InOp X .Add rAdd := by
  rintro pins s σ H x y u v Q I rx ry ⟨i, j, rfl, rfl, q⟩
  obtain ⟨t, rfl⟩ := (show ∃ t, u = Value.int i t from rx)
  obtain ⟨t', rfl⟩ := (show ∃ t', v = Value.int j t' from ry)
  exact PyProof.Rows.iadd_int ⟨.int (i + j), H, I.tok _, ⟨_, rfl⟩, q⟩
theorem in_sub : InOp X .Sub rSub := by
  rintro pins s σ H x y u v Q I rx ry ⟨i, j, rfl, rfl, q⟩
  obtain ⟨t, rfl⟩ := (show ∃ t, u = Value.int i t from rx)
  obtain ⟨t', rfl⟩ := (show ∃ t', v = Value.int j t' from ry)
  exact PyProof.Rows.isub_int ⟨.int (i - j), H, I.tok _, ⟨_, rfl⟩, q⟩

/-- what is between an instance and its method: the tree of a method call -/
theorem methcall_of {pl : Sem Bool} {m : Str} {apos : Pos} {args : List Expr} {pins : List (Addr × Obj)} {s : Shared} {σ : St} {H : Hp} {Q : Value → Shared → Prop} {te : TE} (he : PE X e te) (I : Inv X pins σ H s)
    (h : te σ H fun x H1 => ∃ a C dx fs g, x = .ref a ∧ H1 a = some (.ins C dx fs) ∧ Cls X.K C ∧ Meth X.K C m g ∧ fs.lookup m = none ∧
      ∀ s1, Inv X pins σ H1 s1 → wpAny (model X.prog X.w) X.A (callWith pos (.ref g) [.ref a] (backTo pos (starEach args X.env)) (backToKw pos (keywordEach [] X.env))) Q X.xe s1)
    (ht : eval (.Call (.Attribute e m apos) args [] pos) X.env = (do
      let ov ← eval e X.env
      standAt apos.atName
      let (f, first) ← holding [ov] (getMethod ov m pl)
      callWith pos f first (backTo pos (starEach args X.env)) (backToKw pos (keywordEach [] X.env)))) :
    wpAny (model X.prog X.w) X.A (eval (.Call (.Attribute e m apos) args [] pos) X.env) Q X.xe s := by
  refine PySem.W.methodCall_KW (pl := pl) (thn (he pins s σ H _ I h) fun u s1 ⟨x, H1, I1, rx, a, C, dx, fs, g, ex, ea, c, k, l, q⟩ => ?_) ht
  subst ex
  obtain rfl : u = Value.ref a := rx
  exact getmeth_ok I1 ea c k l (q s1 I1)
end

/-! ### isinstance -/
section
variable {X : Cx} {pins : List (Addr × Obj)} {σ : St} {H : Hp} {s : Shared} {A : Around} {E : Value → Shared → Prop} {Q : Value → Shared → Prop} {c : Value} {b : Bool}
/-- the type of a value, as the fragment's deciders take it; for an instance its class -/
inductive TyOf (K : PySem.W.Frag) (H : Hp) : V → Value → Prop where
  | non : TyOf K H .non (.type "NoneType")
  | bl (x : Bool) : TyOf K H (.bl x) (.type "bool")
  | int (i : Int) : TyOf K H (.int i) (.type "int")
  | str (x : Str) : TyOf K H (.str x) (.type "str")
  | flt (x : UInt64) : TyOf K H (.flt x) (.type "float")
  | lst {a : Addr} {xs : List V} (e : H a = some (.lst xs)) : TyOf K H (.ref a) (.type "list")
  | frz {a : Addr} {o : Obj} {xs : List V} (e : H a = some (.frz o (.lst xs))) : TyOf K H (.ref a) (.type "list")
  | tup {a : Addr} {xs : List V} (e : H a = some (.tup xs)) : TyOf K H (.ref a) (.type "tuple")
  | dK {a : Addr} {kvs : List (Key × V)} (e : H a = some (.dK kvs)) : TyOf K H (.ref a) (.type "dict")
  | dT {a : Addr} {kvs : List (List Key × V)} (e : H a = some (.dT kvs)) : TyOf K H (.ref a) (.type "dict")
  | ins {a C dx : Addr} {fs : List (Str × V)} (e : H a = some (.ins C dx fs)) (cl : Cls K C) (ha : PySem.W.findIn K (.ref C) "__class__" = some (some (.builtin "object.__class__")))
      (hn : PySem.W.specialIn K (.builtin "object.__class__") "__get__" = some (some (.builtin "getset_descriptor.__get__"))) (htk : PySem.W.takesIn K (.builtin "object.__class__") = some true)
      (hm : PySem.W.mroIn K C (.type "object") = some true) : TyOf K H (.ref a) (.ref C)
/-- isinstance(x, c) for one class c, a built-in or an own one: kitOne's answer -/
theorem isinst_ok {x : V} {u t : Value} (I : Inv X pins σ H s) (rx : RelV x u) (ty : TyOf X.K H x t) (e : PySem.W.kitOne X.K t c = some b) (h : ∀ tk, Q (.bool b) { s with toks := tk }) :
    wpAny (model X.prog X.w) A (call (.builtin "isinstance") [u, c]) Q E s := by
  cases ty with
  | non => cases (show u = Value.none from rx); exact PySem.W.kia_one PySem.W.kitx_none I.kIn True.intro e (fun z => nomatch z) h
  | bl y => cases (show u = Value.bool y from rx); exact PySem.W.kia_one PySem.W.kitx_bool I.kIn True.intro e (fun z => nomatch z) h
  | int i => obtain ⟨t, q⟩ := (show ∃ t, u = Value.int i t from rx); cases q; exact PySem.W.kia_one PySem.W.kitx_int I.kIn True.intro e (fun z => nomatch z) h
  | str y => obtain ⟨t, q⟩ := (show ∃ t, u = Value.str y t from rx); cases q; exact PySem.W.kia_one PySem.W.kitx_str I.kIn True.intro e (fun z => nomatch z) h
  | flt y => obtain ⟨t, q⟩ := (show ∃ t, u = Value.float y t from rx); cases q; exact PySem.W.kia_one PySem.W.kitx_float I.kIn True.intro e (fun z => nomatch z) h
  | @lst a xs ea =>
    cases (show u = Value.ref a from rx)
    obtain ⟨_, _, n, _, h1⟩ := (show ObjOk X.prog X.w H s.heap a (.lst xs) from I.hok a _ ea)
    exact PySem.W.kia_one PySem.W.kitx_list I.kIn ⟨_, h1, rfl⟩ e (fun z => nomatch z) h
  | @frz a ob xs ea =>
    cases (show u = Value.ref a from rx)
    obtain ⟨_, _, _, n, _, h1⟩ := (show ObjOk X.prog X.w H s.heap a (.frz ob (.lst xs)) from I.hok a _ ea)
    exact PySem.W.kia_one PySem.W.kitx_list I.kIn ⟨_, h1, rfl⟩ e (fun z => nomatch z) h
  | @tup a xs ea =>
    cases (show u = Value.ref a from rx)
    obtain ⟨_, _, _, p⟩ := (show ObjOk X.prog X.w H s.heap a (.tup xs) from I.hok a _ ea)
    obtain ⟨o, h1, h2, _⟩ := p
    exact PySem.W.kia_one PySem.W.kitx_tuple I.kIn ⟨o, h1, h2⟩ e (fun z => nomatch z) h
  | @dK a kvs ea =>
    cases (show u = Value.ref a from rx)
    obtain ⟨_, _, vs, _, p⟩ := (show ObjOk X.prog X.w H s.heap a (.dK kvs) from I.hok a _ ea)
    obtain ⟨o, es, ep, h1, h2, _⟩ := p
    exact PySem.W.kia_one PySem.W.kitx_dict I.kIn ⟨o, h1, h2.1⟩ e (fun z => nomatch z) h
  | @dT a kvs ea =>
    cases (show u = Value.ref a from rx)
    obtain ⟨_, _, xs, _, o, es, ep, h1, h2, _⟩ := (show ObjOk X.prog X.w H s.heap a (.dT kvs) from I.hok a _ ea)
    exact PySem.W.kia_one PySem.W.kitx_dict I.kIn ⟨o, h1, h2.1⟩ e (fun z => nomatch z) h
  | @ins a C dx fs ea cl ha hn htk hm =>
    cases (show u = Value.ref a from rx)
    obtain ⟨mA, O, _⟩ := ins_get I.hok ea
    obtain ⟨od, J, _⟩ := O.look
    exact PySem.W.kia_one (PySem.W.kitx_own (cl.get _) cl.hd ha hn htk hm) I.kIn J e (fun z => nomatch z) h
end
end L2

namespace L2
open PySem PySem.Spec PyProof.Rows

/-! ### room -/
structure Room (k : Nat) (A : Around) (c : Bool := true) : Prop where
  hc : c = true → A.handled = none
  dp : A.depth + 3 * k + 5 < recursionLimit
  un : A.units + 16 * k + 200 < cLine
theorem Room.hd {k : Nat} {A : Around} (r : Room k A) : A.handled = none := r.hc rfl
theorem Room.mono {j k : Nat} {A : Around} {c : Bool} (r : Room k A c) (h : j ≤ k) : Room j A c := ⟨r.hc, by have := r.dp; omega, by have := r.un; omega⟩
theorem Room.deeper {k : Nat} {A : Around} {c : Bool} (r : Room (k + 1) A c) (env : Env) : Room k (A.deeper env) c :=
  ⟨r.hc, by have := r.dp; show A.depth + 1 + 3 * k + 5 < _; omega, by have := r.un; show A.units + 3 + 16 * k + 200 < _; omega⟩
theorem Room.in1 {k : Nat} {A : Around} {c : Bool} (r : Room (k + 1) A c) : Room k A.in1 c :=
  ⟨r.hc, by have := r.dp; show A.depth + 3 * k + 5 < _; omega, by have := r.un; show A.units + 1 + 16 * k + 200 < _; omega⟩
theorem make_depth {A : Around} {C : Addr} {us : List Value} {kw : List (Str × Value)} : (A.under (.builtin "type.__call__" ⟨.ref C :: us, kw⟩)).depth = A.depth + 1 := by
  first | rfl | simp [Around.under, Code.weight, Code.isCreation, Code.isGuard, Code.isCaller, Code.frames, Code.isFrame, guardIds]
theorem make_units {A : Around} {C : Addr} {us : List Value} {kw : List (Str × Value)} : (A.under (.builtin "type.__call__" ⟨.ref C :: us, kw⟩)).units = A.units + 1 := by
  first | rfl | simp [Around.under, Code.cUnits, Code.frames, Code.isFrame]
theorem Room.make {k : Nat} {A : Around} {c : Bool} (r : Room (k + 1) A c) (C : Addr) (us : List Value) (kw : List (Str × Value)) : Room k (A.under (.builtin "type.__call__" ⟨.ref C :: us, kw⟩)) c :=
  ⟨r.hc, by have := r.dp; rw [make_depth]; omega, by have := r.un; rw [make_units]; omega⟩
theorem Room.depth {k : Nat} {A : Around} {c : Bool} (r : Room k A c) : A.depth < recursionLimit := by have := r.dp; omega
theorem Room.units {k : Nat} {A : Around} {c : Bool} (r : Room k A c) : A.units + 64 < cLine := by have := r.un; omega
theorem Room.units0 {k : Nat} {A : Around} {c : Bool} (r : Room k A c) : A.units < cLine := by have := r.un; omega

/-! ### argument lists and displays -/
def tNil : TA := fun _ H Q => Q [] H
def tCons (ta : TE) (tr : TA) : TA := fun σ H Q => ta σ H fun x H1 => tr σ H1 fun xs H2 => Q (x :: xs) H2
section
variable {X : Cx} {e : Expr} {es : List Expr} {te : TE} {t : TA} {pos : Pos}
theorem pa_nil : PA X [] tNil := fun _ _ _ _ H Q I h => Calls.spliced_nil ⟨[], H, I, .nil, h⟩
theorem pa_cons (ha : PE X e te) (hr : PA X es t) (hs : starEach (e :: es) X.env = (false, eval e X.env) :: starEach es X.env := by rfl) : PA X (e :: es) (tCons te t) := by
  intro pos pins s σ H Q I h
  rw [hs]
  show wpAny _ _ (spliced ((false, eval e X.env) :: backTo pos (starEach es X.env))) _ _ s
  refine Calls.spliced_cons (thn (ha pins s σ H _ I h) fun u s1 ⟨x, H1, I1, r1, q1⟩ => ?_)
  exact thn (hr pos pins s1 σ H1 _ I1 q1) fun us s2 ⟨xs, H2, I2, r2, q2⟩ => ⟨x :: xs, H2, I2, .cons r1 r2, q2⟩

/-- a tuple, a list of written items -/
def tTup (t : TA) : TE := fun σ H Q => t σ H fun xs H1 => xs.length ≤ sizeLine ∧ ∀ p, H1 p = none → Q (.ref p) (upd H1 p (.tup xs))
def tLst (t : TA) : TE := fun σ H Q => t σ H fun xs H1 => xs.length ≤ sizeLine ∧ ∀ p, H1 p = none → Q (.ref p) (upd H1 p (.lst xs))
theorem pe_tup {x1} (h : PA X es t) : PE X (.Tuple es x1 pos) (tTup t) := by
  intro pins s σ H Q I hq
  refine wpAny_Tuple_spliced (thn (h pos pins s σ H _ I hq) fun us s1 ⟨xs, H1, I1, r, z, q⟩ => ⟨by rw [← r.length]; exact z, ?_⟩)
  have hf : H1 s1.heap.objs.size = none := I1.hok.fresh (Nat.le_refl _)
  refine ⟨.ref s1.heap.objs.size, upd H1 s1.heap.objs.size (.tup xs), I1.laid (t' := s1.toks) (fun b u e => Heap.get?_push_of_some _ e) (Nat.le_refl _) ?_, rfl, q _ hf⟩
  exact ⟨z, us, r, ⟨_, Heap.get?_push_size _ rfl, rfl, _, rfl⟩⟩
theorem pe_lst (h : PA X es t) : PE X (.List es pos) (tLst t) := by
  intro pins s σ H Q I hq
  refine wpAny_List_spliced (thn (h pos pins s σ H _ I hq) fun us s1 ⟨xs, H1, I1, r, z, q⟩ => ⟨by rw [← r.length]; exact z, ?_⟩)
  have hf : H1 s1.heap.objs.size = none := I1.hok.fresh (Nat.le_refl _)
  refine ⟨.ref s1.heap.objs.size, upd H1 s1.heap.objs.size (.lst xs), I1.laid (t' := s1.toks) (fun b u e => Heap.get?_push_of_some _ e) (Nat.le_refl _) ?_, rfl, q _ hf⟩
  exact ⟨z, us, 0, r, Heap.get?_push_size _ rfl⟩
end

/-! ### what a def promises -/
/-- a def's promise: the bound arguments in the parameters' order, the heap, the wanted end, the wanted exception -/
abbrev Sp := List V → Hp → VK → XK → Prop
/-- how an exception lies behind a call (file 08 gives it): the callers' frames, abstract heap and state ahead of the call, the wish, the exception, the state -/
abbrev CXT := List Env → Hp → Shared → XK → Value → Shared → Prop

/-- the state at a call -/
structure Env0 (P : Program) (w : World) (K : PySem.W.Frag) (mg : Str → Option Value) (base : Heap) (A : Around) (outer : List Env) (s : Shared) (H : Hp) : Prop where
  frames : A.frames = some outer
  mod : Mod K mg base
  bs : ∀ b o, base.get? b = some o → s.heap.get? b = some o ∧ H b = none
  bsz : base.objs.size ≤ s.heap.objs.size
  funs : s.heap.FunFrames base outer
  frf : ∀ b ∈ frs outer, H b = none
  hok : HOk P w H s.heap
  bare : AllBare s.gens
/-- a call's end -/
def CE (outer : List Env) (P : Program) (w : World) (H : Hp) (s : Shared) (Q : VK) (u : Value) (s' : Shared) : Prop :=
  ∃ v H', s'.os = s.os ∧ AllBare s'.gens ∧ Un (frs outer) [] H H' s.heap s'.heap ∧ HOk P w H' s'.heap ∧ RelV v u ∧ Q v H'
def CR (CX : CXT) (outer : List Env) (P : Program) (w : World) (H : Hp) (s : Shared) (Q : VK) (E : XK) (r : Result) (s' : Shared) : Prop :=
  match r with
  | .ok (.ret u) => CE outer P w H s Q u s'
  | .ok _ => False
  | .error e => CX outer H s E e s'
structure FnOk (P : Program) (w : World) (K : PySem.W.Frag) (mg : Str → Option Value) (base : Heap) (CX : CXT) (k : Nat) (f : Addr) (fd : FuncData) (ps : List Str) (sp : Sp) (c : Bool := true) : Prop where
  len : ∀ vs H Q E, sp vs H Q E → vs.length = ps.length
  run : ∀ (A : Around) (outer : List Env) (s : Shared) (H : Hp) (args : Args) (us : List Value) (vs : List V) (Q : VK) (E : XK), Room k A c → Env0 P w K mg base A outer s H → BindsTo s fd args (ps.zip us) → Vals vs us → sp vs H Q E →
    codeAny (model P w) A (.call (.ref f) args) (CR CX outer P w H s Q E) s
theorem FnOk.mono {P : Program} {w : World} {K : PySem.W.Frag} {mg : Str → Option Value} {base : Heap} {CX : CXT} {j k : Nat} {f : Addr} {fd : FuncData} {ps : List Str} {sp : Sp} {c : Bool} (F : FnOk P w K mg base CX j f fd ps sp c) (h : j ≤ k) :
    FnOk P w K mg base CX k f fd ps sp c := ⟨F.len, fun A outer s H args us vs Q E hr => F.run A outer s H args us vs Q E (hr.mono h)⟩
/-- a weaker promise -/
theorem FnOk.imp {P : Program} {w : World} {K : PySem.W.Frag} {mg : Str → Option Value} {base : Heap} {CX : CXT} {k : Nat} {f : Addr} {fd : FuncData} {ps : List Str} {sp sp' : Sp} {c : Bool} (F : FnOk P w K mg base CX k f fd ps sp c)
    (h : ∀ vs H Q E, sp' vs H Q E → sp vs H Q E) : FnOk P w K mg base CX k f fd ps sp' c :=
  ⟨fun vs H Q E q => F.len vs H Q E (h _ _ _ _ q), fun A outer s H args us vs Q E hr he hb hv hs => F.run A outer s H args us vs Q E hr he hb hv (h _ _ _ _ hs)⟩

theorem Env0.make {P : Program} {w : World} {K : PySem.W.Frag} {mg : Str → Option Value} {base : Heap} {A : Around} {outer : List Env} {s : Shared} {H : Hp} (e : Env0 P w K mg base A outer s H) (C : Addr) (us : List Value) (kw : List (Str × Value)) :
    Env0 P w K mg base (A.under (.builtin "type.__call__" ⟨.ref C :: us, kw⟩)) outer s H := ⟨by first | exact e.frames | (simpa [Around.under, Code.envs, Code.isFrame, pushEnvs] using e.frames), e.mod, e.bs, e.bsz, e.funs, e.frf, e.hok, e.bare⟩
theorem Env0.in1 {P : Program} {w : World} {K : PySem.W.Frag} {mg : Str → Option Value} {base : Heap} {A : Around} {outer : List Env} {s : Shared} {H : Hp} (e : Env0 P w K mg base A outer s H) :
    Env0 P w K mg base A.in1 outer s H := ⟨e.frames, e.mod, e.bs, e.bsz, e.funs, e.frf, e.hok, e.bare⟩

section
variable {X : Cx} {pins : List (Addr × Obj)} {σ : St} {H : Hp} {s s' : Shared}
/-- from a body: what a callee wants -/
theorem Inv.env0 (I : Inv X pins σ H s) : Env0 X.prog X.w X.K X.mg X.base X.A X.stack s H :=
  ⟨I.ok.frames, I.ok.mod, I.bs, Nat.le_trans I.ok.bsz I.sz, I.stack, I.stkFree, I.hok, I.bare⟩
/-- behind a call -/
theorem Inv.after {Q : VK} {u : Value} (I : Inv X pins σ H s) (h : CE X.stack X.prog X.w H s Q u s') : EP X pins σ Q u s' := by
  obtain ⟨v, H', os, bare, un, hok, r, q⟩ := h
  obtain ⟨hh, g, d, t, os'⟩ := s'
  obtain rfl : os' = s.os := os
  exact ⟨v, H', I.call (h' := hh) (g' := g) (d' := d) (t' := t) (ch := []) un hok bare (fun b z => absurd z (by simp)), r, q⟩
end

/-! ### calls -/
/-- f(..): the written arguments, then the defaults dvs; E: what is wanted of an exception -/
def tCall (sp : Sp) (dvs : List V) (E : XK) (t : TA) : TE := fun σ H Q => t σ H fun vs H1 => sp (vs ++ dvs) H1 Q E
/-- o.m(..) of an instance of the class at C -/
def tMeth (C : Addr) (m : Str) (sp : Sp) (dvs : List V) (E : XK) (ta : TE) (t : TA) : TE := fun σ H Q => ta σ H fun x H1 => ∃ a dx fs, x = .ref a ∧ H1 a = some (.ins C dx fs) ∧ fs.lookup m = none ∧
  t σ H1 fun vs H2 => sp (x :: (vs ++ dvs)) H2 Q E
/-- C(..): a new instance and its dict, then __init__ -/
def tMake (C : Addr) (sp : Sp) (dvs : List V) (E : XK) (t : TA) : TE := fun σ H Q => t σ H fun vs H1 => ∀ x dx, H1 x = none → H1 dx = none → dx ≠ x →
  sp (.ref x :: (vs ++ dvs)) (upd (upd H1 dx (.own x)) x (.ins C dx [])) (fun v H2 => v = .non ∧ Q (.ref x) H2) E

/-- how the parameters are bound: us the positional arguments, kw the keywords' values by name, ds the defaults that fill up -/
def Binds (K : PySem.W.Frag) (fd : FuncData) (ps : List Str) (ds : List Value) : Prop :=
  ∀ (s : Shared) (us : List Value), K.In s.heap → (us ++ ds).length = ps.length → BindsTo s fd ⟨us, []⟩ (ps.zip (us ++ ds))
/-- every parameter is given -/
theorem Binds.all {K : PySem.W.Frag} {fd : FuncData} {ps : List Str} (h : ∀ us : List Value, us.length = ps.length → bindArgs fd ⟨us, []⟩ = pure (ps.zip us)) : Binds K fd ps [] := fun s us _ hl => by
  rw [List.append_nil] at hl ⊢
  exact .of_eq (h us hl)

/-- an exception of a callee reaches what this body wants of exceptions -/
def Passes (CX : CXT) (X : Cx) (E : XK) : Prop := ∀ (pins : List (Addr × Obj)) (σ : St) (H : Hp) (s : Shared) (e : Value) (s' : Shared), Inv X pins σ H s → CX X.stack H s E e s' → X.xe e s'

section
variable {X : Cx} {CX : CXT} {k : Nat} {f C : Addr} {fd : FuncData} {ps : List Str} {sp : Sp} {dvs : List V} {ds : List Value} {E : XK} {x m : Str} {p pos apos : Pos} {e o : Expr} {es : List Expr} {ta : TE} {t : TA}

/-- the callee runs -/
theorem run_fn {pins : List (Addr × Obj)} {σ : St} {H : Hp} {s : Shared} {Q : VK} {us : List Value} {vs : List V} {cc : Bool} (F : FnOk X.prog X.w X.K X.mg X.base CX k f fd ps sp cc) (hr : Room k X.A cc) (hb : Binds X.K fd ps ds) (hd : Vals dvs ds) (hx : Passes CX X E)
    (I : Inv X pins σ H s) (r : Vals vs us) (h : sp (vs ++ dvs) H Q E) : wpAny (model X.prog X.w) X.A (call (.ref f) us) (EP X pins σ Q) X.xe s := by
  have r2 : Vals (vs ++ dvs) (us ++ ds) := r.append hd
  have hl : (us ++ ds).length = ps.length := by rw [← r2.length]; exact F.len _ _ _ _ h
  refine wpAny_call (codeAny_mono (F.run X.A X.stack s H ⟨us, []⟩ (us ++ ds) (vs ++ dvs) Q E hr I.env0 (hb s us I.kIn hl) r2 h) fun r s' hq => ?_)
  cases r with
  | error e => exact hx pins σ H s e s' I hq
  | ok fl =>
    cases fl with
    | ret u => exact I.after hq
    | next => exact False.elim hq
    | brk => exact False.elim hq
    | cont => exact False.elim hq

theorem pe_call {cc : Bool} (F : FnOk X.prog X.w X.K X.mg X.base CX k f fd ps sp cc) (hr : Room k X.A cc) (hg : Gl X x) (hm : X.mg x = some (.ref f)) (hk : PySem.W.keepIn X.K (.ref f) = true) (hb : Binds X.K fd ps ds) (hd : Vals dvs ds) (hx : Passes CX X E)
    (ha : PA X (e :: es) t) (hdb : (x == ("__debug__" : Str)) = false := by decide) (he : starEach (e :: es) X.env = (false, eval e X.env) :: starEach es X.env := by rfl) (hpl : (backTo pos (starEach es X.env)).any (·.1) = false := by rfl) :
    PE X (.Call (.Name x p) (e :: es) [] pos) (tCall sp dvs E t) := by
  intro pins s σ H Q I h
  refine wpAny_Call_Name_kw (ld_glob I hg hm ?_ hdb)
  refine PySem.W.callWith_K (h₀ := X.base) I.ok.mod.kin hk (thn (ha pos pins s σ H _ I h) fun us s1 ⟨vs, H1, I1, r, q⟩ => ⟨I1.kIn, ?_⟩) he hpl
  exact run_fn F hr hb hd hx I1 r q
theorem pe_call0 {cc : Bool} (F : FnOk X.prog X.w X.K X.mg X.base CX k f fd ps sp cc) (hr : Room k X.A cc) (hg : Gl X x) (hm : X.mg x = some (.ref f)) (hk : PySem.W.keepIn X.K (.ref f) = true) (hb : Binds X.K fd ps ds) (hd : Vals dvs ds) (hx : Passes CX X E)
    (hdb : (x == ("__debug__" : Str)) = false := by decide) : PE X (.Call (.Name x p) [] [] pos) (tCall sp dvs E tNil) := by
  intro pins s σ H Q I h
  refine wpAny_Call_Name_kw (ld_glob I hg hm ?_ hdb)
  exact PySem.W.callWith_K0 I.kIn hk (run_fn (us := []) F hr hb hd hx I .nil h)

/-- o.m(e, ..) -/
theorem pe_meth {pl : Sem Bool} (he : PE X o ta) (c : Cls X.K C) (hm : Meth X.K C m f) {cc : Bool} (F : FnOk X.prog X.w X.K X.mg X.base CX k f fd ps sp cc) (hr : Room k X.A cc) (hb : Binds X.K fd ps ds) (hd : Vals dvs ds) (hx : Passes CX X E) (ha : PA X (e :: es) t)
    (hst : starEach (e :: es) X.env = (false, eval e X.env) :: starEach es X.env := by rfl) (hpl : (backTo pos (starEach es X.env)).any (·.1) = false := by rfl)
    (ht : eval (.Call (.Attribute o m apos) (e :: es) [] pos) X.env = (do
      let ov ← eval o X.env
      standAt apos.atName
      let (f, first) ← holding [ov] (getMethod ov m pl)
      callWith pos f first (backTo pos (starEach (e :: es) X.env)) (backToKw pos (keywordEach [] X.env))) := by rfl) :
    PE X (.Call (.Attribute o m apos) (e :: es) [] pos) (tMeth C m sp dvs E ta t) := by
  intro pins s σ H Q I h
  refine PySem.W.methodCall_KW (pl := pl) (thn (he pins s σ H _ I h) fun u s1 ⟨x, H1, I1, rx, a, dx, fs, ex, ea, l, q⟩ => ?_) ht
  subst ex
  obtain rfl : u = Value.ref a := rx
  refine getmeth_ok I1 ea c hm l ?_
  refine PySem.W.callWith_K (first := [.ref a]) (h₀ := X.base) I.ok.mod.kin hm.kp (thn (ha pos pins s1 σ H1 _ I1 q) fun us s2 ⟨vs, H2, I2, r, q2⟩ => ⟨I2.kIn, ?_⟩) hst hpl
  exact run_fn (us := .ref a :: us) (vs := .ref a :: vs) F hr hb hd hx I2 (.cons rfl r) q2
/-- o.m() -/
theorem pe_meth0 {pl : Sem Bool} (he : PE X o ta) (c : Cls X.K C) (hm : Meth X.K C m f) {cc : Bool} (F : FnOk X.prog X.w X.K X.mg X.base CX k f fd ps sp cc) (hr : Room k X.A cc) (hb : Binds X.K fd ps ds) (hd : Vals dvs ds) (hx : Passes CX X E)
    (ht : eval (.Call (.Attribute o m apos) [] [] pos) X.env = (do
      let ov ← eval o X.env
      standAt apos.atName
      let (f, first) ← holding [ov] (getMethod ov m pl)
      callWith pos f first (backTo pos (starEach [] X.env)) (backToKw pos (keywordEach [] X.env))) := by rfl) :
    PE X (.Call (.Attribute o m apos) [] [] pos) (tMeth C m sp dvs E ta tNil) := by
  intro pins s σ H Q I h
  refine PySem.W.methodCall_KW (pl := pl) (thn (he pins s σ H _ I h) fun u s1 ⟨x, H1, I1, rx, a, dx, fs, ex, ea, l, q⟩ => ?_) ht
  subst ex
  obtain rfl : u = Value.ref a := rx
  refine getmeth_ok I1 ea c hm l ?_
  exact PySem.W.callWith_K0 (first := [.ref a]) I1.kIn hm.kp (run_fn (us := [.ref a]) (vs := [.ref a]) F hr hb hd hx I1 (.cons rfl .nil) q)

/-- what a class must have to be made -/
structure Mk (K : PySem.W.Frag) (C f : Addr) : Prop where
  makes : PySem.W.makesIn K C = true
  init : PySem.W.findIn K (.ref C) "__init__" = some (some (.ref f))
  fn : PySem.W.isFn K (.ref f) = true
  kp : PySem.W.keepIn K (.ref C) = true

theorem run_make {pins : List (Addr × Obj)} {σ : St} {H : Hp} {s : Shared} {Q : VK} {us : List Value} {vs : List V} (M : Mk X.K C f) {cc : Bool} (F : FnOk X.prog X.w X.K X.mg X.base CX k f fd ps sp cc) (hr : Room (k + 1) X.A cc) (hb : Binds X.K fd ps ds) (hd : Vals dvs ds)
    (hx : Passes CX X E) (I : Inv X pins σ H s) (r : Vals vs us)
    (h : ∀ x dx, H x = none → H dx = none → dx ≠ x → sp (.ref x :: (vs ++ dvs)) (upd (upd H dx (.own x)) x (.ins C dx [])) (fun v H2 => v = .non ∧ Q (.ref x) H2) E) :
    wpAny (model X.prog X.w) X.A (call (.ref C) us) (EP X pins σ Q) X.xe s := by
  have hq := h (s.heap.objs.size + 1) s.heap.objs.size (I.hok.fresh (Nat.le_succ _)) (I.hok.fresh (Nat.le_refl _)) (Nat.ne_of_lt (Nat.lt_succ_self _))
  have I2 := Inv.made (C := C) I
  have r2 : Vals (V.ref (s.heap.objs.size + 1) :: (vs ++ dvs)) (Value.ref (s.heap.objs.size + 1) :: (us ++ ds)) := .cons rfl (r.append hd)
  have hl : (Value.ref (s.heap.objs.size + 1) :: us ++ ds).length = ps.length := by
    have e := r2.length
    rw [F.len _ _ _ _ hq] at e
    exact e.symm
  refine wpAny_call (make_map (f := f) I.kIn M.makes M.init (beq_iff_eq.mp M.fn) (codeAny_mono (F.run _ X.stack _ _ ⟨Value.ref (s.heap.objs.size + 1) :: us, []⟩ (Value.ref (s.heap.objs.size + 1) :: (us ++ ds)) _ _ E (hr.make C us [])
    (I2.env0.make C us []) (hb _ (Value.ref (s.heap.objs.size + 1) :: us) I2.kIn hl) r2 hq) fun r s' hq' => ?_))
  cases r with
  | error e => exact hx pins σ _ _ e s' I2 hq'
  | ok fl =>
    cases fl with
    | ret u =>
      obtain ⟨v, H', I3, rv, ev, q3⟩ := I2.after hq'
      subst ev
      exact ⟨rv, ⟨V.ref (s.heap.objs.size + 1), H', I3, rfl, q3⟩⟩
    | next => exact False.elim hq'
    | brk => exact False.elim hq'
    | cont => exact False.elim hq'
theorem pe_make (M : Mk X.K C f) {cc : Bool} (F : FnOk X.prog X.w X.K X.mg X.base CX k f fd ps sp cc) (hr : Room (k + 1) X.A cc) (hg : Gl X x) (hm : X.mg x = some (.ref C)) (hb : Binds X.K fd ps ds) (hd : Vals dvs ds) (hx : Passes CX X E)
    (ha : PA X (e :: es) t) (hdb : (x == ("__debug__" : Str)) = false := by decide) (he : starEach (e :: es) X.env = (false, eval e X.env) :: starEach es X.env := by rfl) (hpl : (backTo pos (starEach es X.env)).any (·.1) = false := by rfl) :
    PE X (.Call (.Name x p) (e :: es) [] pos) (tMake C sp dvs E t) := by
  intro pins s σ H Q I h
  refine wpAny_Call_Name_kw (ld_glob I hg hm ?_ hdb)
  refine PySem.W.callWith_K (h₀ := X.base) I.ok.mod.kin M.kp (thn (ha pos pins s σ H _ I h) fun us s1 ⟨vs, H1, I1, r, q⟩ => ⟨I1.kIn, ?_⟩) he hpl
  exact run_make M F hr hb hd hx I1 r q
theorem pe_make0 (M : Mk X.K C f) {cc : Bool} (F : FnOk X.prog X.w X.K X.mg X.base CX k f fd ps sp cc) (hr : Room (k + 1) X.A cc) (hg : Gl X x) (hm : X.mg x = some (.ref C)) (hb : Binds X.K fd ps ds) (hd : Vals dvs ds) (hx : Passes CX X E)
    (hdb : (x == ("__debug__" : Str)) = false := by decide) : PE X (.Call (.Name x p) [] [] pos) (tMake C sp dvs E tNil) := by
  intro pins s σ H Q I h
  refine wpAny_Call_Name_kw (ld_glob I hg hm ?_ hdb)
  exact PySem.W.callWith_K0 I.kIn M.kp (run_make (us := []) M F hr hb hd hx I .nil h)
end

/-! ### keywords -/
/-- the values of the keywords, from the left -/
def PK (X : Cx) (kws : List Keyword) (t : TA) : Prop :=
  ∀ (pos : Pos) (pins : List (Addr × Obj)) (s : Shared) (σ : St) (H : Hp) (Q : List V → Hp → Prop), Inv X pins σ H s → t σ H Q → wpAny (model X.prog X.w) X.A (evalAll ((backToKw pos (keywordEach kws X.env)).map (·.2))) (AP X pins σ Q) X.xe s
section
variable {X : Cx} {CX : CXT} {k : Nat} {f C : Addr} {fd : FuncData} {ps ks : List Str} {sp : Sp} {E : XK} {x m : Str} {p pos apos kpos : Pos} {e o : Expr} {es : List Expr} {kws : List Keyword} {te ta : TE} {t tk : TA} {nm : Option Str}
theorem pk_nil : PK X [] tNil := fun _ _ _ _ H Q I h => wpAny_evalAll_nil ⟨[], H, I, .nil, h⟩
theorem pk_cons (ha : PE X e te) (hr : PK X kws t) : PK X (⟨nm, e, kpos⟩ :: kws) (tCons te t) := by
  intro pos pins s σ H Q I h
  show wpAny _ _ (evalAll ((do let v ← eval e X.env; standAt pos; pure v) :: (backToKw pos (keywordEach kws X.env)).map (·.2))) _ _ s
  refine wpAny_evalAll_cons (wpAny_bind (thn (ha pins s σ H _ I h) fun u s1 ⟨x, H1, I1, r1, q1⟩ => wpAny_bind (wpAny_standAt (wpAny_pure ?_))))
  exact thn (hr pos pins s1 σ H1 _ I1 q1) fun us s2 ⟨xs, H2, I2, r2, q2⟩ => ⟨x :: xs, H2, I2, .cons r1 r2, q2⟩

/-- how a call with keywords binds: g puts the positional values us and the keywords' values ws (names ks) in the parameters' order, defaults among them -/
structure KBinds (K : PySem.W.Frag) (fd : FuncData) (ps ks : List Str) (g : List Value → List Value → List Value) (gV : List V → List V → List V) : Prop where
  to : ∀ (s : Shared) (us ws : List Value), K.In s.heap → (g us ws).length = ps.length → BindsTo s fd ⟨us, ks.zip ws⟩ (ps.zip (g us ws))
  rel : ∀ {vs : List V} {us : List Value} {zs : List V} {ws : List Value}, Vals vs us → Vals zs ws → Vals (gV vs zs) (g us ws)
def tCallK (sp : Sp) (gV : List V → List V → List V) (E : XK) (t tk : TA) : TE := fun σ H Q => t σ H fun vs H1 => tk σ H1 fun zs H2 => sp (gV vs zs) H2 Q E
variable {g : List Value → List Value → List Value} {gV : List V → List V → List V}
theorem run_fnk {pins : List (Addr × Obj)} {σ : St} {H : Hp} {s : Shared} {Q : VK} {us ws : List Value} {vs zs : List V} {cc : Bool} (F : FnOk X.prog X.w X.K X.mg X.base CX k f fd ps sp cc) (hr : Room k X.A cc) (hb : KBinds X.K fd ps ks g gV) (hx : Passes CX X E)
    (I : Inv X pins σ H s) (r : Vals vs us) (rz : Vals zs ws) (h : sp (gV vs zs) H Q E) : wpAny (model X.prog X.w) X.A (call (.ref f) us (ks.zip ws)) (EP X pins σ Q) X.xe s := by
  have r2 := hb.rel r rz
  have hl : (g us ws).length = ps.length := by rw [← r2.length]; exact F.len _ _ _ _ h
  refine wpAny_call (codeAny_mono (F.run X.A X.stack s H ⟨us, ks.zip ws⟩ (g us ws) (gV vs zs) Q E hr I.env0 (hb.to s us ws I.kIn hl) r2 h) fun r s' hq => ?_)
  cases r with
  | error e => exact hx pins σ H s e s' I hq
  | ok fl =>
    cases fl with
    | ret u => exact I.after hq
    | next => exact False.elim hq
    | brk => exact False.elim hq
    | cont => exact False.elim hq
/-- f(e, .., k = v, ..) -/
theorem pe_callK {cc : Bool} (F : FnOk X.prog X.w X.K X.mg X.base CX k f fd ps sp cc) (hr : Room k X.A cc) (hg : Gl X x) (hm : X.mg x = some (.ref f)) (hk : PySem.W.keepIn X.K (.ref f) = true) (hb : KBinds X.K fd ps ks g gV) (hx : Passes CX X E)
    (ha : PA X (e :: es) t) (hkw : PK X kws tk) (hall : (backToKw pos (keywordEach kws X.env)).all (·.1.isSome) = true := by rfl) (hks : (backToKw pos (keywordEach kws X.env)).filterMap (·.1) = ks := by rfl)
    (hdb : (x == ("__debug__" : Str)) = false := by decide) (he : starEach (e :: es) X.env = (false, eval e X.env) :: starEach es X.env := by rfl)
    (hpl : ((backTo pos (starEach (e :: es) X.env)).any (·.1) || (backToKw pos (keywordEach kws X.env)).any (·.1.isNone)) = false := by rfl) :
    PE X (.Call (.Name x p) (e :: es) kws pos) (tCallK sp gV E t tk) := by
  intro pins s σ H Q I h
  refine wpAny_Call_Name_kw (ld_glob I hg hm ?_ hdb)
  refine PySem.W.callWith_KW (h₀ := X.base) I.ok.mod.kin hk hall (thn (ha pos pins s σ H _ I h) fun us s1 ⟨vs, H1, I1, r, q⟩ => ?_) hpl he
  refine thn (hkw pos pins s1 σ H1 _ I1 q) fun ws s2 ⟨zs, H2, I2, rz, q2⟩ => ⟨I2.kIn, ?_⟩
  rw [hks]
  exact run_fnk F hr hb hx I2 r rz q2
end

/-! ### a def's body keeps its promise -/
/-- names: the parameters first -/
structure FnScope (N P : List Str) (sc : Scope) : Prop where
  kind : sc.kind = .function
  co : sc.isCoroutine = false
  gen : sc.isGenerator = false
  nd : N.Nodup
  pre : N.take P.length = P
  par : ∀ x ∈ P, sc.names.lookup x = some .local ∨ sc.names.lookup x = some .cell
  nofree : ∀ y ∈ sc.names, y.2 ≠ .free

theorem bindL_out {kindOf : Str → Option NameKind} {x : Str} : ∀ {binds : List (Str × Value)} {m : Str → Option Value}, (∀ v, (x, v) ∉ binds) → bindL kindOf binds m x = m x
  | [], _, _ => rfl
  | (n, v) :: r, m, h => by
    unfold bindL
    rw [bindL_out fun w hw => h w (List.mem_cons_of_mem _ hw)]
    split
    · have : x ≠ n := by rintro rfl; exact h v List.mem_cons_self
      simp [this]
    · rfl
theorem bindC_out {kindOf : Str → Option NameKind} {x : Str} : ∀ {binds : List (Str × Value)} {m : Str → Option Value}, (∀ v, (x, v) ∉ binds) → bindC kindOf binds m x = m x
  | [], _, _ => rfl
  | (n, v) :: r, m, h => by
    unfold bindC
    rw [bindC_out fun w hw => h w (List.mem_cons_of_mem _ hw)]
    split
    · rfl
    · have : x ≠ n := by rintro rfl; exact h v List.mem_cons_self
      simp [this]
theorem bindL_get {kindOf : Str → Option NameKind} {x : Str} {v : Value} : ∀ {P : List Str} {vs : List Value} {i : Nat} {m : Str → Option Value}, P.Nodup → P[i]? = some x → vs[i]? = some v → kindOf x = some .local →
    bindL kindOf (P.zip vs) m x = some v
  | [], _, _, _, _, h, _, _ => by simp at h
  | _ :: _, [], _, _, _, _, h, _ => by simp at h
  | p :: P, w :: vs, 0, m, nd, h1, h2, hk => by
    simp at h1 h2; subst h1; subst h2
    show bindL kindOf ((p, w) :: P.zip vs) m p = _
    unfold bindL
    rw [bindL_out fun v hv => (List.nodup_cons.mp nd).1 (List.of_mem_zip hv).1, if_pos hk]
    simp
  | p :: P, w :: vs, i + 1, m, nd, h1, h2, hk => by
    show bindL kindOf ((p, w) :: P.zip vs) m x = _
    unfold bindL
    exact bindL_get (i := i) (List.nodup_cons.mp nd).2 (by simpa using h1) (by simpa using h2) hk
theorem bindC_get {kindOf : Str → Option NameKind} {x : Str} {v : Value} : ∀ {P : List Str} {vs : List Value} {i : Nat} {m : Str → Option Value}, P.Nodup → P[i]? = some x → vs[i]? = some v → kindOf x ≠ some .local →
    bindC kindOf (P.zip vs) m x = some v
  | [], _, _, _, _, h, _, _ => by simp at h
  | _ :: _, [], _, _, _, _, h, _ => by simp at h
  | p :: P, w :: vs, 0, m, nd, h1, h2, hk => by
    simp at h1 h2; subst h1; subst h2
    show bindC kindOf ((p, w) :: P.zip vs) m p = _
    unfold bindC
    rw [bindC_out fun v hv => (List.nodup_cons.mp nd).1 (List.of_mem_zip hv).1, if_neg hk]
    simp
  | p :: P, w :: vs, i + 1, m, nd, h1, h2, hk => by
    show bindC kindOf ((p, w) :: P.zip vs) m x = _
    unfold bindC
    exact bindC_get (i := i) (List.nodup_cons.mp nd).2 (by simpa using h1) (by simpa using h2) hk

/-- the names' values at the entry -/
def start (N : List Str) (vs : List V) : St := vs.map some ++ List.replicate (N.length - vs.length) none

/-- the context of a def's body, at its entry; an exception leaves the frame, then lies as CX says -/
def cxOf (CX : CXT) (P : Program) (w : World) (K : PySem.W.Frag) (mg : Str → Option Value) (base : Heap) (N : List Str) (qual : Str) (scope : Scope) (f : Addr) (cd : Value) (A : Around) (outer : List Env) (s : Shared) (H : Hp) (E : XK) (c : Bool := true) : Cx where
  prog := P
  w := w
  K := K
  mg := mg
  base := base
  A := A.deeper (envOfC qual scope s.heap.objs.size f cd)
  N := N
  s₀ := s
  H₀ := H
  env := envOfC qual scope s.heap.objs.size f cd
  outer := outer
  stack := envOfC qual scope s.heap.objs.size f cd :: outer
  ex := []
  calm := c
  fn := fun _ => true
  pn := []
  xe := fun e s' => wpAny (model P w) (A.deeper (envOfC qual scope s.heap.objs.size f cd)) (leaving (envOfC qual scope s.heap.objs.size f cd) e) (fun _ s'' => CX outer H s E e s'') (fun e' s'' => CX outer H s E e' s'') s'

theorem cell_has {sc : Scope} {n : Nat} {x : Str} (h : sc.names.lookup x = some .cell) : ∃ c, (cellsFrom n sc.names []).lookup x = some c := by
  have q := PySem.W.cellsFrom_some sc.names n [] (.inl h)
  exact Option.isSome_iff_exists.mp q

theorem inv_start {CX : CXT} {P : Program} {w : World} {K : PySem.W.Frag} {mg : Str → Option Value} {base : Heap} {N ps : List Str} {qual : Str} {scope : Scope} {f : Addr} {cd : Value} {A : Around} {outer : List Env} {s s1 : Shared} {H : Hp} {E : XK} {us : List Value} {vs : List V} {c : Bool}
    (S : FnScope N ps scope) (hd : c = true → A.handled = none) (e0 : Env0 P w K mg base A outer s H) (hl : vs.length = ps.length) (r : Vals vs us)
    (x : InCallC s s.heap.objs.size (bindL (envOfC qual scope s.heap.objs.size f cd).kindOf (ps.zip us) fun _ => none) (cellsFrom (s.heap.objs.size + 1) scope.names []) (bindC (envOfC qual scope s.heap.objs.size f cd).kindOf (ps.zip us) fun _ => none) s1) :
    Inv (cxOf CX P w K mg base N qual scope f cd A outer s H E c) [] (start N vs) H s1 := by
  have hpl : ps.length ≤ N.length := by have := congrArg List.length S.pre; rw [List.length_take] at this; omega
  obtain ⟨h1, tk, rfl, hk⟩ := x.done
  have noA : ∀ b : Addr, b ∉ (cxOf CX P w K mg base N qual scope f cd A outer s H E c).ex := fun b z => absurd (show b ∈ ([] : List Addr) from z) (by simp)
  refine ⟨⟨e0.mod, S.kind, rfl, rfl, Nat.le_refl _, fun y z c' h1 h2 => ?_, fun y hy => ?_, fun y c _ h => ?_, hd, Around.frames_deeper e0.frames, .inr ⟨rfl, rfl⟩, fun b z => absurd z (noA b), e0.bs, e0.bsz, fun b _ _ => noA b, fun b z => absurd z (noA b), e0.funs, e0.frf⟩,
    rfl, e0.bare, Un.kept hk, ⟨_, x.toInCall.ns, fun i y v h1 h2 h3 => ?_⟩, fun y c h => ⟨_, x.cell y c h⟩, e0.hok.fresh (Nat.le_refl _), fun y c h => ?_, fun p hp => absurd (show p ∈ ([] : List (Addr × Obj)) from hp) (by simp), e0.hok.kept hk, ?_⟩
  · exact name_of_addr x.apart (PySem.mem_of_lookup h1) (PySem.mem_of_lookup h2)
  · have hy : scope.names.lookup y = some .cell ∨ scope.names.lookup y = some .free := hy
    rcases hy with hy | hy
    · exact cell_has hy
    · exact absurd rfl (S.nofree _ (PySem.mem_of_lookup hy))
  · exact Nat.le_of_lt (x.above y c (PySem.mem_of_lookup h))
  · have hi : i < vs.length := by
      unfold start at h2
      by_cases hi : i < vs.length
      · exact hi
      · rw [List.getElem?_append_right (by simpa using hi)] at h2
        rw [List.getElem?_replicate] at h2
        split at h2 <;> cases h2
    have ha : vs[i]? = some v := by
      unfold start at h2
      rw [List.getElem?_append_left (by simpa using hi), List.getElem?_map] at h2
      cases e : vs[i]? with
      | none => rw [e] at h2; cases h2
      | some a => rw [e] at h2; cases h2; rfl
    obtain ⟨u, hu, rv⟩ := r.get ha
    have hp : ps[i]? = some y := by
      rw [← S.pre, List.getElem?_take_of_lt (by omega)]; exact h1
    have ndP : ps.Nodup := by rw [← S.pre]; exact S.nd.sublist (List.take_sublist _ _)
    refine ⟨u, rv, ?_⟩
    rcases S.par y (List.mem_of_getElem? hp) with k | k
    · exact .inl ⟨k, bindL_get ndP hp hu k⟩
    · obtain ⟨c, e⟩ := cell_has (n := s.heap.objs.size + 1) k
      refine .inr ⟨.inl k, c, e, ?_⟩
      have q := x.cell y c e
      rw [bindC_get ndP hp hu (by show scope.names.lookup y ≠ _; rw [k]; decide)] at q
      exact q
  · exact e0.hok.fresh (Nat.le_of_lt (x.above y c (PySem.mem_of_lookup h)))
  · unfold start
    show _ = N.length
    rw [List.length_append, List.length_map, List.length_replicate]
    omega

/-- THE RULE: a def (or a method) of the text, by its body. The body's reading t is chosen for each entry; it is run at the parameters' values -/
theorem fn_of {CX : CXT} {P : Program} {w : World} {K : PySem.W.Frag} {mg : Str → Option Value} {base : Heap} {k : Nat} {f : Addr} {name qual : Str} {params : Arguments} {body : List Stmt} {scope : Scope} {dV kV doc pm cdv ct oc : Value} {an od : Option Addr}
    {osl : Array (Option Value)} {N ps : List Str} {sp : Sp} {c : Bool} (lk : K.lookup f = some ⟨oc, od, .func (PySem.W.fnOf name qual params body scope dV kV doc pm an cdv ct), osl⟩) (hcd : PySem.W.codeIn K cdv qual = true) (S : FnScope N ps scope)
    (len : ∀ vs H Q E, sp vs H Q E → vs.length = ps.length)
    (hbody : ∀ (A : Around) (outer : List Env) (s : Shared) (H : Hp) (vs : List V) (Q : VK) (E : XK), Room k (A.deeper (envOfC qual scope s.heap.objs.size f cdv)) c → sp vs H Q E →
      ∃ t, PSs (cxOf CX P w K mg base N qual scope f cdv A outer s H E c) body t ∧ t { nx := fun _ H' => Q .non H', rt := Q } (start N vs) H) :
    FnOk P w K mg base CX (k + 1) f (PySem.W.fnOf name qual params body scope dV kV doc pm an cdv ct) ps sp c := by
  refine ⟨len, fun A outer s H args us vs Q E hr e0 hb r hsp => ?_⟩
  have hl := len _ _ _ _ hsp
  have KX : K.In s.heap := e0.mod.kin.keeps fun b o e => (e0.bs b o e).1
  have lim : s.heap.NoLimit := e0.mod.nolimit.keeps fun b o e => (e0.bs b o e).1
  have hkind : ∀ y ∈ ps.zip us, scope.names.lookup y.1 = some .local ∨ (scope.names.lookup y.1 = some .cell ∧ ((cellsFrom (s.heap.objs.size + 1) scope.names []).lookup y.1).isSome = true) := fun ⟨n, v⟩ hy => by
    rcases S.par n (List.of_mem_zip hy).1 with q | q
    · exact .inl q
    · exact .inr ⟨q, PySem.W.cellsFrom_some _ _ _ (.inl q)⟩
  refine codeAny_call_function hr.depth (KX _ _ lk) rfl S.co S.gen rfl (PySem.W.codeRec_of KX hcd) (hb _ _ _ _ ?_)
  refine wpAny_newFunctionEnv_cells S.kind hkind fun env he s1 x => ?_
  subst he
  refine ⟨lim.keeps x.toInCall.keep, codeAny_func ?_⟩
  obtain ⟨t, ht, hq⟩ := hbody A outer s H vs Q E (hr.deeper _) hsp
  have I : Inv (cxOf CX P w K mg base N qual scope f cdv A outer s H E c) [] (start N vs) H s1 := inv_start S hr.hc e0 hl r x
  refine wpAny_mono (ht [] s1 (start N vs) H _ I hq) (fun fl s' hs => ?_) fun e s' hs => hs
  have fin : ∀ {σ' : St} {H' : Hp} {v : V} {u : Value}, Inv (cxOf CX P w K mg base N qual scope f cdv A outer s H E c) [] σ' H' s' → RelV v u → Q v H' → CE outer P w H s Q u s' :=
    fun {σ' H' v u} J rv q => ⟨v, H', J.os, J.bare, J.base, J.hok, rv, q⟩
  cases fl with
  | ret u =>
    obtain ⟨v, σ', H', J, rv, q⟩ := hs
    exact fin J rv q
  | next =>
    obtain ⟨σ', H', J, q⟩ := hs
    exact fin (v := V.non) (u := Value.none) J rfl q
  | brk =>
    obtain ⟨_, _, _, q⟩ := hs
    exact False.elim q
  | cont =>
    obtain ⟨_, _, _, q⟩ := hs
    exact False.elim q
end L2

namespace L2
open PySem PySem.Spec PyProof.Rows
section
variable {X : Cx} {x : Str} {p pos : Pos} {e : Expr} {es : List Expr} {t : TA} {id T : String} {r : List V → Hp → VK → Prop}

def tCB (r : List V → Hp → VK → Prop) (t : TA) : TE := fun σ H Q => t σ H fun vs H1 => r vs H1 Q
/-- f(e, ..), f a built-in function -/
theorem pe_callB (hc : CallR X (.builtin id) r) (hg : Gl X x) (hm : X.mg x = none) (hv : bootBuiltins x = some (.builtin id)) (ha : PA X (e :: es) t) (hn : x ≠ "__name__" := by decide) (hdb : (x == ("__debug__" : Str)) = false := by decide)
    (he : starEach (e :: es) X.env = (false, eval e X.env) :: starEach es X.env := by rfl) (hpl : (backTo pos (starEach es X.env)).any (·.1) = false := by rfl) : PE X (.Call (.Name x p) (e :: es) [] pos) (tCB r t) := by
  intro pins s σ H Q I h
  refine wpAny_Call_Name_kw (ld_blt I hg hm hv ?_ hn hdb)
  exact PyProof.Rows.callWith_builtin1 (thn (ha pos pins s σ H _ I h) fun us s1 ⟨vs, H1, I1, r1, q1⟩ => hc pins s1 σ H1 vs us Q I1 r1 q1) he hpl
/-- T(e, ..), T a built-in type -/
theorem pe_callTy (hc : CallR X (.type T) r) (hg : Gl X x) (hm : X.mg x = none) (hv : bootBuiltins x = some (.type T)) (ha : PA X (e :: es) t) (hn : x ≠ "__name__" := by decide) (hdb : (x == ("__debug__" : Str)) = false := by decide)
    (he : starEach (e :: es) X.env = (false, eval e X.env) :: starEach es X.env := by rfl) (hpl : (backTo pos (starEach es X.env)).any (·.1) = false := by rfl) : PE X (.Call (.Name x p) (e :: es) [] pos) (tCB r t) := by
  intro pins s σ H Q I h
  refine wpAny_Call_Name_kw (ld_blt I hg hm hv ?_ hn hdb)
  exact PyProof.Rows.callWith_type1 (thn (ha pos pins s σ H _ I h) fun us s1 ⟨vs, H1, I1, r1, q1⟩ => hc pins s1 σ H1 vs us Q I1 r1 q1) he hpl
/-- T() -/
theorem pe_callTy0 (hc : CallR X (.type T) r) (hg : Gl X x) (hm : X.mg x = none) (hv : bootBuiltins x = some (.type T)) (hn : x ≠ "__name__" := by decide) (hdb : (x == ("__debug__" : Str)) = false := by decide) :
    PE X (.Call (.Name x p) [] [] pos) (tCB r tNil) := by
  intro pins s σ H Q I h
  refine wpAny_Call_Name_kw (ld_blt I hg hm hv ?_ hn hdb)
  exact PyProof.Rows.callWith_type0 (hc pins s σ H [] [] Q I .nil h)
end
end L2

namespace HT
open PySem PyProof.Rows

/-- t < u of tuples of ints -/
def lexLt : List Int → List Int → Bool
  | [], [] => false
  | [], _ :: _ => true
  | _ :: _, [] => false
  | x :: xs, y :: ys => if x = y then lexLt xs ys else decide (x < y)
theorem lexLt_cons (x y : Int) (xs ys : List Int) : lexLt (x :: xs) (y :: ys) = if x = y then lexLt xs ys else decide (x < y) := rfl
theorem lexLt_nil_nil : lexLt [] [] = false := rfl
theorem lexLt_nil_cons (y : Int) (ys : List Int) : lexLt [] (y :: ys) = true := rfl
theorem lexLt_cons_nil (x : Int) (xs : List Int) : lexLt (x :: xs) [] = false := rfl

theorem eqAt_int (A : Around) (s : Shared) (a : Int) (t : Tok) (c : Int) (u : Tok) : ∃ e, SeqAt.EqAt A s (.int a t) (.int c u) e ∧ (e = true ↔ a = c) :=
  ⟨(a == c), SeqAt.EqAt.int_int a t c u, by simp⟩
theorem rcLt_int (A : Around) (s : Shared) (a : Int) (t : Tok) (c : Int) (u : Tok) (prog : Program) (w : World) (E : Value → Shared → Prop) (Q : Value → Shared → Prop) (h : Q (.bool (decide (a < c))) s) :
    wpAny (model prog w) A (richCompare .Lt (.int a t) (.int c u)) Q E s :=
  (PyProof.Rows.lt_int h : wpAny (model prog w) A (compareOp .Lt (.int a t) (.int c u)) Q E s)

section
open PySem.SeqAt
open PySem.AutoSeq1 (wpAny_loadPart')
open PySem.MeetsSeq PySem.MeetsSeq2 PySem.MeetsSeq3

theorem tuple_lt_ints (l b : Addr) (items items2 : Array Value) (n n2 : Nat) (dd dd2 : Option Addr) (sl sl2 : Array (Option Value)) (ns ms : List Int) (hi : IntsAre items.toList ns) (hj : IntsAre items2.toList ms) :
    Meets (Builtin.«tuple.__lt__» ⟨[.ref l, .ref b], []⟩)
      (fun _ R s => s.heap.get? l = some { cls := .type "tuple", dict := dd, data := .seq items n, slots := sl } ∧ s.heap.get? b = some { cls := .type "tuple", dict := dd2, data := .seq items2 n2, slots := sl2 } ∧
        R (.ok (.ret (.bool (lexLt ns ms)))) s) :=
  .of_wp fun prog w A R s h => by
    obtain ⟨hp, g, d, tk, os⟩ := s; obtain ⟨hl, hb, h⟩ := h
    have f2 := AutoSeq1.sub_tuple_tuple
    have z1 : items.size = ns.length := by rw [← hi.length]; simp
    have z2 : items2.size = ms.length := by rw [← hj.length]; simp
    wp_walk using wpAny_loadPart' hl, wpAny_loadPart' hb, wpAny_forIn_list _ (fun rest b s' => b.1 = none ∧ s' = ⟨hp, g, d, tk, os⟩ ∧ ∃ (vs ws : List Value) (ns' ms' : List Int), rest = vs.zip ws ∧
      IntsAre vs ns' ∧ IntsAre ws ms' ∧ ns'.length + items2.size = ms'.length + items.size ∧ R (.ok (.ret (.bool (lexLt ns' ms')))) ⟨hp, g, d, tk, os⟩) _
    case turn =>
      rintro ⟨y, x⟩ rest b s' ⟨hb', rfl, vs, ws, ns', ms', hz, hvi, hwi, hlen, hR⟩
      cases hvi with
      | nil => rw [List.zip_nil_left] at hz; cases hz
      | cons a t hvi' =>
        cases hwi with
        | nil => rw [List.zip_nil_right] at hz; cases hz
        | cons c u hwi' =>
          rw [List.zip_cons_cons] at hz
          injection hz with hyx hrest
          injection hyx with hy hx
          subst hy hx
          rw [lexLt_cons] at hR
          simp only [List.length_cons] at hlen
          obtain ⟨e, he, hiff⟩ := eqAt_int A.in1 ⟨hp, g, d, tk, os⟩ a t c u
          refine wpAny_bind (he prog w _ _ ?_)
          cases e with
          | true =>
            rw [if_pos (hiff.mp rfl)] at hR
            wp_walk
            exact ⟨rfl, rfl, _, _, _, _, hrest, hvi', hwi', by omega, hR⟩
          | false =>
            rw [if_neg (fun q => absurd (hiff.mpr q) Bool.false_ne_true)] at hR
            have hri := rcLt_int A.in1 ⟨hp, g, d, tk, os⟩ a t c u prog w
            wp_walk using hri
            exact ⟨_, rfl, by simpa using hR⟩
    case fin =>
      rintro ⟨b1, b2⟩ s' ⟨hb', rfl, vs, ws, ns', ms', hz, hvi, hwi, hlen, hR⟩
      simp only at hb'
      subst hb'
      have hv : lexLt ns' ms' = decide (items.size < items2.size) := by
        cases hvi with
        | nil =>
          cases hwi with
          | nil =>
            simp only [List.length_nil] at hlen
            rw [lexLt_nil_nil]
            exact (decide_eq_false (by omega)).symm
          | cons c u hw =>
            simp only [List.length_nil, List.length_cons] at hlen
            rw [lexLt_nil_cons]
            exact (decide_eq_true (by omega)).symm
        | cons a t hv =>
          cases hwi with
          | nil =>
            simp only [List.length_nil, List.length_cons] at hlen
            rw [lexLt_cons_nil]
            exact (decide_eq_false (by omega)).symm
          | cons c u hw =>
            rw [List.zip_cons_cons] at hz
            cases hz
      rw [hv] at hR
      wp_walk
      exact ⟨_, rfl, by simpa [Builtin.Tuple.tupleCompareSizes] using hR⟩
    case h =>
      exact ⟨rfl, rfl, items.toList, items2.toList, ns, ms, rfl, hi, hj, by omega, h⟩
end

section
variable {prog : Program} {w : World} {A : Around} {E : Value → Shared → Prop} {s : Shared}

theorem lt_tupInts {l b : Addr} {items items2 : Array Value} {ns ms : List Int} {Q : Value → Shared → Prop} (hl : IsTup s.heap l items) (hb : IsTup s.heap b items2) (hi : IntsAre items.toList ns) (hj : IntsAre items2.toList ms)
    (hu : A.units < cLine) (h : Q (.bool (lexLt ns ms)) s) : wpAny (model prog w) A (compareOp .Lt (.ref l) (.ref b)) Q E s := by
  obtain ⟨⟨cls, dd, data, sl⟩, ho, hc, n, hd⟩ := id hl
  obtain ⟨⟨cls2, dd2, data2, sl2⟩, ho2, hc2, n2, hd2⟩ := id hb
  simp only at hc hd hc2 hd2
  subst hc hd hc2 hd2
  exact richCompare_meets_room (op := .Lt) ⟨_, ho, rfl⟩ ⟨_, ho2, rfl⟩ PySem.F.slot_tuple_lt PySem.F.entry_tuple_lt (PySem.F.args_tuple_lt_2 _ _) (tuple_lt_ints l b items items2 n n2 dd dd2 sl sl2 ns ms hi hj)
    ⟨ho, ho2, show Value.bool (lexLt ns ms) ≠ Value.notImplemented ∧ Q (.bool (lexLt ns ms)) s from ⟨(fun x => nomatch x), h⟩⟩ hu

/-- t + u, t not empty -/
theorem cat_tup {t b : Addr} {vs ws : List Value} {Q : Value → Shared → Prop} (ht : IsTup s.heap t vs.toArray) (hb : IsTup s.heap b ws.toArray) (hv : vs ≠ [])
    (h1 : ws = [] → Q (.ref t) s) (h2 : ws ≠ [] → Q (.ref s.heap.objs.size) { s with heap := s.heap.push { cls := .type "tuple", data := .seq (vs ++ ws).toArray } })
    (hsz : vs.length + ws.length ≤ sizeLine) : wpAny (model prog w) A (binaryOp .Add (.ref t) (.ref b)) Q E s := by
  obtain ⟨⟨cls, dd, data, sl⟩, ho, hc, n, hd⟩ := id ht
  obtain ⟨⟨cls2, dd2, data2, sl2⟩, ho2, hc2, n2, hd2⟩ := id hb
  simp only at hc hd hc2 hd2
  subst hc hd hc2 hd2
  have e : vs.toArray ++ ws.toArray = (vs ++ ws).toArray := by simp
  by_cases hw : ws = []
  · exact concat_meets ⟨_, ho, rfl⟩ ⟨_, ho2, rfl⟩ noFill_tuple_add seq_tuple_add PySem.F.slot_tuple_add PySem.F.entry_tuple_add (PySem.F.args_tuple_add_2 _ _)
      (tuple_addW1 t b vs.toArray ws.toArray n n2 dd dd2 sl sl2 (by simpa using hv) (by simp [hw])) ⟨ho, ho2, h1 hw⟩
  · refine concat_meets ⟨_, ho, rfl⟩ ⟨_, ho2, rfl⟩ noFill_tuple_add seq_tuple_add PySem.F.slot_tuple_add PySem.F.entry_tuple_add (PySem.F.args_tuple_add_2 _ _)
      (tuple_addW2 t b vs.toArray ws.toArray n n2 dd dd2 sl sl2 (by simpa using hv) (by simpa using hw) (by rw [List.size_toArray, List.size_toArray]; exact hsz)) ⟨ho, ho2, ?_⟩
    rw [e]
    exact h2 hw

/-! ### t[a:b], not the whole -/
/-- a slice's bound as a place among n (d where it is left out) -/
def sIx (n d : Nat) : Option Int → Nat
  | none => d
  | some v => if v < 0 then (v + (n : Int)).toNat else min v.toNat n
theorem sIx_none (n d : Nat) : sIx n d none = d := rfl
theorem sIx_nat (n d k : Nat) : sIx n d (some (k : Int)) = min k n := by
  show (if (k : Int) < 0 then ((k : Int) + (n : Int)).toNat else min (k : Int).toNat n) = min k n
  rw [if_neg (by omega), Int.toNat_natCast]
theorem sIx_le (n d : Nat) (hd : d ≤ n) (o : Option Int) : sIx n d o ≤ n := by
  cases o with
  | none => exact hd
  | some v =>
    show (if v < 0 then (v + (n : Int)).toNat else min v.toNat n) ≤ n
    by_cases hv : v < 0
    · rw [if_pos hv]; omega
    · rw [if_neg hv]; exact Nat.min_le_right _ _
theorem clip_eq (v : Int) (n d : Nat) : (if v < 0 then max (v + (n : Int)) 0 else min v (n : Int)) = ((sIx n d (some v) : Nat) : Int) := by
  show (if v < 0 then max (v + (n : Int)) 0 else min v (n : Int)) = (((if v < 0 then (v + (n : Int)).toNat else min v.toNat n) : Nat) : Int)
  by_cases hv : v < 0
  · simp only [if_pos hv]; omega
  · simp only [if_neg hv]; omega
theorem adjust_gen (lo hi : Option Int) (n : Nat) : Builtin.Slice.sliceAdjust lo hi 1 (n : Int) = (((sIx n 0 lo : Nat) : Int), ((sIx n n hi : Nat) : Int)) := by
  have h1 : ¬ ((1 : Int) < 0) := by omega
  unfold Builtin.Slice.sliceAdjust
  simp only [h1, if_false]
  refine Prod.ext ?_ ?_
  · cases lo with
    | none => rfl
    | some v => exact clip_eq v n 0
  · cases hi with
    | none => rfl
    | some v => exact clip_eq v n n
theorem places_gen (i j : Nat) : Builtin.Slice.slicePlaces (i : Int) (j : Int) 1 = j - i := by
  unfold Builtin.Slice.slicePlaces
  have h1 : (1 : Int) > 0 := by omega
  simp only [h1, if_true, Int.ediv_one]
  split <;> omega
theorem slicePart_ {v : Value} {o : Option Int} {Q : Option Int → Shared → Prop} (p : IsPart v o) (h : Q o s) : wpAny (model prog w) A (Builtin.Slice.slicePartIndex v) Q E s := by
  cases p with
  | none => exact slicePart_none h
  | int i t => exact slicePart_int h
theorem sliceApplied_gen {sl : Addr} {vl vu : Value} {lo hi : Option Int} {n : Nat} {Q : Int × Int × Nat → Shared → Prop} (hs : s.heap.IsSliceOf sl vl vu .none) (pl : IsPart vl lo) (pu : IsPart vu hi)
    (h : Q (((sIx n 0 lo : Nat) : Int), 1, sIx n n hi - sIx n 0 lo) s) : wpAny (model prog w) A (Builtin.Slice.sliceApplied (.ref sl) (pure (n : Int))) Q E s := by
  obtain ⟨os, hos, hcs, hds⟩ := id hs
  unfold Builtin.Slice.sliceApplied Builtin.Slice.sliceFields
  refine wpAny_bind (wpAny_bind (wpAny_field hos hds (x := vl) rfl (wpAny_bind (wpAny_field hos hds (x := vu) rfl (wpAny_bind (wpAny_field hos hds (x := .none) rfl (wpAny_pure ?_)))))))
  refine wpAny_bind (slicePart_none ?_)
  show wpAny _ _ (if ((1 : Int) == 0) = true then _ else _) _ _ s
  rw [if_neg (by decide)]
  refine wpAny_bind (slicePart_ pl (wpAny_bind (slicePart_ pu (wpAny_bind (wpAny_pure ?_)))))
  show wpAny _ _ (match Builtin.Slice.sliceAdjust lo hi 1 (n : Int) with | (lo, hi) => pure (lo, (1 : Int), Builtin.Slice.slicePlaces lo hi 1)) _ _ s
  rw [adjust_gen lo hi n]
  show wpAny _ _ (pure (((sIx n 0 lo : Nat) : Int), (1 : Int), Builtin.Slice.slicePlaces ((sIx n 0 lo : Nat) : Int) ((sIx n n hi : Nat) : Int) 1)) _ _ s
  rw [places_gen]
  exact wpAny_pure h
theorem pick_gen (xs : Array Value) (i k : Nat) : ((List.range k).filterMap fun (m : Nat) => xs[((i : Int) + (m : Int) * 1).toNat]?).toArray = ((xs.toList.drop i).take k).toArray := by
  have e : (fun (m : Nat) => xs[((i : Int) + (m : Int) * 1).toNat]?) = fun m => xs[i + m]? := by
    funext m
    have : ((i : Int) + (m : Int) * 1).toNat = i + m := by omega
    rw [this]
  rw [e]
  have := pick_run xs i k
  rw [List.filterMap_map] at this
  have e2 : ((fun x => xs[x]?) ∘ fun x => i + x) = fun m => xs[i + m]? := rfl
  rw [e2] at this
  rw [this]

theorem getItem_tuple_cut {t sl : Addr} {items : Array Value} {vl vu : Value} {lo hi : Option Int} {Q : Value → Shared → Prop} (ht : IsTup s.heap t items) (hs : s.heap.IsSliceOf sl vl vu .none) (pl : IsPart vl lo) (pu : IsPart vu hi)
    (hw : ¬ (sIx items.size 0 lo = 0 ∧ sIx items.size items.size hi = items.size))
    (h : Q (.ref s.heap.objs.size) { s with heap := s.heap.push { cls := .type "tuple", data := .seq ((items.toList.drop (sIx items.size 0 lo)).take (sIx items.size items.size hi - sIx items.size 0 lo)).toArray } })
    (hsz : items.size ≤ sizeLine) : wpAny (model prog w) A (getItem (.ref t) (.ref sl)) Q E s := by
  have htake : sizeOk (.seq ((items.toList.drop (sIx items.size 0 lo)).take (sIx items.size items.size hi - sIx items.size 0 lo)).toArray) := by
    show ((items.toList.drop (sIx items.size 0 lo)).take (sIx items.size items.size hi - sIx items.size 0 lo)).toArray.size ≤ sizeLine
    rw [List.size_toArray, List.length_take, List.length_drop, Array.length_toList]
    omega
  have hj : sIx items.size items.size hi ≤ items.size := sIx_le _ _ (Nat.le_refl _) hi
  obtain ⟨os, hos, hcs, hds⟩ := id hs
  have hTs : s.TypeIs (.ref sl) "slice" := ⟨os, hos, hcs⟩
  unfold getItem
  try with_reducible refine wpAny_holding ?_
  first | refine wpAny_bind (wpAny_pure ?_) | skip
  refine wpAny_bind (wpAny_sequenceKey ht.typeIs (by decide) ?_)
  refine wpAny_bind (wpAny_callSpecial?_slot (name := Str.ofString "__getitem__") ht.typeIs PyProof.Rows.slot_tuple_getitem
    (wpAny_call_entry PyProof.Rows.slot_tuple_getitem ht.typeIs entry_tuple_getitem ?_ (args_tuple_getitem _ _)))
  show wpAny _ _ (Builtin.Tuple.tupleItemsOf (.ref t) >>= _) _ _ s
  refine wpAny_bind (tupleItemsOf_ ht ?_)
  refine wpAny_bind (wpAny_typeOf hTs ?_)
  rw [if_pos (by decide)]
  refine wpAny_bind (sliceApplied_gen hs pl pu ?_)
  have hno : ¬ ((((sIx items.size 0 lo : Nat) : Int) == 0 && (1 : Int) == 1 && (sIx items.size items.size hi - sIx items.size 0 lo) == items.size) = true) := by
    intro q
    rw [Bool.and_eq_true, Bool.and_eq_true] at q
    have q1 : ((sIx items.size 0 lo : Nat) : Int) = 0 := eq_of_beq q.1.1
    have q2 : sIx items.size items.size hi - sIx items.size 0 lo = items.size := eq_of_beq q.2
    exact hw ⟨by omega, by omega⟩
  show wpAny _ _ (if (((sIx items.size 0 lo : Nat) : Int) == 0 && (1 : Int) == 1 && (sIx items.size items.size hi - sIx items.size 0 lo) == items.size) = true then _ else _) _ _ s
  rw [if_neg hno, pick_gen]
  first
    | exact wpAny_bind (m := Builtin.Tuple.tupleExact _) (wpAny_newObj_type (wpAny_pure ⟨_, rfl, wpAny_pure h⟩) htake)
    | exact wpAny_bind (m := Builtin.Tuple.tupleExact _) (wpAny_newObj_type (wpAny_bind (wpAny_pure (wpAny_pure ⟨_, rfl, wpAny_pure h⟩))) htake)
    | exact wpAny_bind (wpAny_bind (m := Builtin.Tuple.tupleExact _) (wpAny_newObj_type (wpAny_pure (wpAny_pure ⟨_, rfl, wpAny_pure h⟩)) htake))
    | exact wpAny_bind (wpAny_bind (m := Builtin.Tuple.tupleExact _) (wpAny_newObj_type (wpAny_pure ⟨_, rfl, wpAny_pure h⟩) htake))
end
end HT

namespace L2
open PySem PySem.Spec PyProof.Rows

/-! ### the parts of a slice -/
abbrev TO := St → Hp → (Option Int → Hp → Prop) → Prop
/-- a slice's part (left out, or an int) -/
def PO (X : Cx) (e : Option Expr) (t : TO) : Prop :=
  ∀ (pins : List (Addr × Obj)) (s : Shared) (σ : St) (H : Hp) (Q : Option Int → Hp → Prop), Inv X pins σ H s → t σ H Q →
    wpAny (model X.prog X.w) X.A (evalPart e X.env) (fun u s' => ∃ o H', Inv X pins σ H' s' ∧ IsPart u o ∧ Q o H') X.xe s
def tNoPart : TO := fun _ H Q => Q none H
def tPart (t : TE) : TO := fun σ H Q => t σ H fun x H1 => ∃ i, x = .int i ∧ Q (some i) H1

theorem intsAre_of {ns : List Int} : ∀ {us : List Value}, Vals (ns.map V.int) us → IntsAre us ns := by
  induction ns with
  | nil => intro us r; rw [List.map_nil] at r; cases r; exact .nil
  | cons n ns ih =>
    intro us r
    rw [List.map_cons] at r
    cases r with
    | cons r1 r2 =>
      obtain ⟨t, e⟩ := r1
      subst e
      exact .cons n t (ih r2)

section
variable {X : Cx} {e : Expr} {te : TE} {lo hi : Option Expr} {tl th : TO} {pos p2 : Pos}

theorem po_none : PO X none tNoPart := by
  intro pins s σ H Q I h
  rw [evalPart_none]
  exact wpAny_pure ⟨none, H, I, .none, h⟩
theorem po_some (h : PE X e te) : PO X (some e) (tPart te) := by
  intro pins s σ H Q I hw
  rw [evalPart_some]
  refine thn (h pins s σ H _ I hw) fun u s1 ⟨x, H1, I1, r1, q1⟩ => ?_
  obtain ⟨i, rfl, q⟩ := q1
  obtain ⟨t, rfl⟩ := r1
  exact ⟨some i, H1, I1, .int i t, q⟩

/-- what a slice of a value is, by values: the slice object stands at sl -/
def SlR (X : Cx) (r : V → Option Int → Option Int → Hp → VK → Prop) : Prop :=
  ∀ (pins : List (Addr × Obj)) (s : Shared) (σ : St) (H : Hp) (x : V) (v vl vu : Value) (lo hi : Option Int) (sl : Addr) (Q : VK), Inv X pins σ H s → RelV x v → s.heap.IsSliceOf sl vl vu .none → IsPart vl lo → IsPart vu hi → r x lo hi H Q →
    ∃ T id, typeLookup (.type T) "__getitem__" = pure (some (.builtin id)) ∧ s.TypeIs v T ∧ wpAny (model X.prog X.w) X.A (getItem v (.ref sl)) (EP X pins σ Q) X.xe s
theorem SlR.or {r r' : V → Option Int → Option Int → Hp → VK → Prop} (h : SlR X r) (h' : SlR X r') : SlR X (fun x lo hi H Q => r x lo hi H Q ∨ r' x lo hi H Q) := by
  intro pins s σ H x v vl vu lo hi sl Q I rx hs pl pu q
  rcases q with q | q
  · exact h pins s σ H x v vl vu lo hi sl Q I rx hs pl pu q
  · exact h' pins s σ H x v vl vu lo hi sl Q I rx hs pl pu q
def tSl (r : V → Option Int → Option Int → Hp → VK → Prop) (te : TE) (tl th : TO) : TE := fun σ H Q => te σ H fun x H1 => tl σ H1 fun l H2 => th σ H2 fun u H3 => r x l u H3 Q
/-- a[lo:hi], any a -/
theorem pe_slice {r : V → Option Int → Option Int → Hp → VK → Prop} (hr : SlR X r) (he : PE X e te) (hl : PO X lo tl) (hu : PO X hi th) : PE X (.Subscript e (.Slice lo hi none p2) pos) (tSl r te tl th) := by
  intro pins s σ H Q I h
  refine Subscript_ (thn (he pins s σ H _ I h) fun v s1 ⟨x, H1, I1, r1, q1⟩ => ?_)
  refine wpAny_Slice (thn (hl pins s1 σ H1 _ I1 q1) fun vl s2 ⟨l, H2, I2, pl, q2⟩ => thn (hu pins s2 σ H2 _ I2 q2) fun vu s3 ⟨u, H3, I3, pu, q3⟩ => ?_)
  rw [evalPart_none]
  refine wpAny_pure ?_
  have I4 : Inv X pins σ H3 { s3 with heap := s3.heap.push { cls := .type "slice", data := .fields #[vl, vu, .none] } } := I3.kept (t' := s3.toks) fun b ob q => Heap.get?_push_of_some _ q
  obtain ⟨T, id, hT, ht, hg⟩ := hr pins { s3 with heap := s3.heap.push { cls := .type "slice", data := .fields #[vl, vu, .none] } } σ H3 x v vl vu l u s3.heap.objs.size Q I4 r1 (Heap.IsSliceOf.new ..) pl pu q3
  show wpAny (model X.prog X.w) X.A (subscriptTail e (.Slice lo hi none p2) v (.ref s3.heap.objs.size)) (EP X pins σ Q) X.xe { s3 with heap := s3.heap.push { cls := .type "slice", data := .fields #[vl, vu, .none] } }
  exact tail_any (ops := [.ref s3.heap.objs.size, v]) ht hT hg (by with_unfolding_all rfl)

/-- the items of xs[lo:hi] -/
def cutV (xs : List V) (lo hi : Option Int) : List V := (xs.drop (HT.sIx xs.length 0 lo)).take (HT.sIx xs.length xs.length hi - HT.sIx xs.length 0 lo)
theorem cutV_length (xs : List V) (lo hi : Option Int) : (cutV xs lo hi).length ≤ xs.length := by
  unfold cutV
  rw [List.length_take, List.length_drop]
  omega
/-- t[lo:hi], not the whole of it (the whole would be t itself) -/
def rSlT (K : PySem.W.Frag) : V → Option Int → Option Int → Hp → VK → Prop := fun x lo hi H Q => ∃ a xs, x = .ref a ∧ SqT K H a xs ∧
  ¬ (HT.sIx xs.length 0 lo = 0 ∧ HT.sIx xs.length xs.length hi = xs.length) ∧ ∀ p, H p = none → Q (.ref p) (upd H p (.tup (cutV xs lo hi)))
theorem sl_tup : SlR X (rSlT X.K) := by
  intro pins s σ H x v vl vu lo hi sl Q I rx hs pl pu h
  obtain ⟨a, xs, rfl, hx, hw, q⟩ := h
  cases rx
  obtain ⟨its, r, ht, hz⟩ := I.tuple hx
  have hlen : its.toArray.size = xs.length := by rw [List.size_toArray]; exact r.length.symm
  refine ⟨"tuple", _, PyProof.Rows.slot_tuple_getitem.lookup, ht.typeIs, ?_⟩
  refine HT.getItem_tuple_cut ht hs pl pu (by rw [hlen]; exact hw) ?_ (by rw [hlen]; exact hz)
  rw [hlen]
  refine ⟨.ref s.heap.objs.size, _, I.laid (t' := s.toks) (o := .tup (cutV xs lo hi)) (fun b ob q => Heap.get?_push_of_some _ q) (Nat.le_refl _) ?_, rfl, q _ (I.hok.fresh (Nat.le_refl _))⟩
  exact ⟨Nat.le_trans (cutV_length xs lo hi) hz, _, (r.drop (HT.sIx xs.length 0 lo)).take (HT.sIx xs.length xs.length hi - HT.sIx xs.length 0 lo), IsTup.new _ _⟩

/-! ### t < u, t + u -/
def rLtT (K : PySem.W.Frag) : R2 := fun x y H Q => ∃ a b ns ms, x = .ref a ∧ y = .ref b ∧ SqT K H a (ns.map V.int) ∧ SqT K H b (ms.map V.int) ∧ Q (.bl (HT.lexLt ns ms)) H
theorem op_ltT (hu : X.A.units < cLine) : OpR X (compareOp .Lt) (rLtT X.K) := by
  intro pins s σ H x y v u Q I rx ry h
  obtain ⟨a, b, ns, ms, rfl, rfl, ha, hb, q⟩ := h
  cases rx
  cases ry
  obtain ⟨its, r1, p1, _⟩ := I.tuple ha
  obtain ⟨its2, r2, p2, _⟩ := I.tuple hb
  have i1 : IntsAre its.toArray.toList ns := intsAre_of r1
  have i2 : IntsAre its2.toArray.toList ms := intsAre_of r2
  exact HT.lt_tupInts p1 p2 i1 i2 hu ⟨.bl (HT.lexLt ns ms), H, I, rfl, q⟩
/-- t + u, t not empty: u empty gives t itself -/
def rCatT (K : PySem.W.Frag) : R2 := fun x y H Q => ∃ a b xs ys, x = .ref a ∧ y = .ref b ∧ SqT K H a xs ∧ SqT K H b ys ∧ xs ≠ [] ∧ xs.length + ys.length ≤ sizeLine ∧
  (ys = [] → Q (.ref a) H) ∧ (ys ≠ [] → ∀ p, H p = none → Q (.ref p) (upd H p (.tup (xs ++ ys))))
theorem Vals.nil_iff {xs : List V} {us : List Value} (r : Vals xs us) : us = [] ↔ xs = [] := by
  cases r with
  | nil => simp
  | cons _ _ => simp
theorem op_catT : OpR X (binaryOp .Add) (rCatT X.K) := by
  intro pins s σ H x y v u Q I rx ry h
  obtain ⟨a, b, xs, ys, rfl, rfl, ha, hb, hx, hz, q1, q2⟩ := h
  cases rx
  cases ry
  obtain ⟨its, r1, p1, _⟩ := I.tuple ha
  obtain ⟨its2, r2, p2, _⟩ := I.tuple hb
  refine HT.cat_tup p1 p2 (fun z => hx (r1.nil_iff.mp z)) (fun z => ⟨.ref a, H, I, rfl, q1 (r2.nil_iff.mp z)⟩) (fun z => ?_) (by rw [← r1.length, ← r2.length]; exact hz)
  refine ⟨.ref s.heap.objs.size, _, I.laid (t' := s.toks) (o := .tup (xs ++ ys)) (fun b ob q => Heap.get?_push_of_some _ q) (Nat.le_refl _) ?_, rfl, q2 (fun w => z (r2.nil_iff.mpr w)) _ (I.hok.fresh (Nat.le_refl _))⟩
  exact ⟨by rw [List.length_append]; exact hz, _, r1.append r2, IsTup.new _ _⟩
/-- tuple(t) -/
theorem call_tupleT : CallR X (.type "tuple") (fun xs H Q => ∃ a ys, xs = [.ref a] ∧ SqT X.K H a ys ∧ Q (.ref a) H) := by
  intro pins s σ H xs us Q I r h
  obtain ⟨a, ys, rfl, ha, q⟩ := h
  obtain ⟨u, rfl, ru⟩ := vals1 r
  cases ru
  obtain ⟨its, _, p1, _⟩ := I.tuple ha
  exact call_tuple_same (items := its.toArray) p1 ⟨.ref a, H, I, rfl, q⟩
end
end L2

namespace L2
open PySem PySem.Spec PyProof.Rows

/-! ### places -/
/-- the place that an index of any sign means -/
def ixN (n : Nat) (i : Int) : Option Nat := if 0 ≤ i then (if i < n then some i.toNat else none) else if -(n : Int) ≤ i then some (i + n).toNat else none
def atI {α : Type} (xs : List α) (i : Int) : Option α := (ixN xs.length i).bind fun j => xs[j]?
theorem ixN_seq {n : Nat} {i : Int} {j : Nat} (h : ixN n i = some j) : seqIndex? i n = some j ∧ j < n ∧ -(n : Int) ≤ i ∧ i < n := by
  unfold ixN at h
  by_cases h0 : 0 ≤ i
  · rw [if_pos h0] at h
    by_cases h1 : i < n
    · rw [if_pos h1] at h
      have e : i.toNat = j := Option.some.inj h
      exact ⟨by rw [seqIndex_of h0 h1, e], by omega, by omega, h1⟩
    · rw [if_neg h1] at h; cases h
  · rw [if_neg h0] at h
    by_cases h1 : -(n : Int) ≤ i
    · rw [if_pos h1] at h
      have e : (i + n).toNat = j := Option.some.inj h
      exact ⟨by rw [seqIndex_neg (by omega) h1, e], by omega, h1, by omega⟩
    · rw [if_neg h1] at h; cases h
theorem atI_get {α : Type} {xs : List α} {i : Int} {v : α} (h : atI xs i = some v) : ∃ j, seqIndex? i xs.length = some j ∧ xs[j]? = some v ∧ j < xs.length ∧ -(xs.length : Int) ≤ i ∧ i < xs.length := by
  unfold atI at h
  cases e : ixN xs.length i with
  | none => rw [e] at h; cases h
  | some j =>
    rw [e] at h
    obtain ⟨h1, h2, h3, h4⟩ := ixN_seq e
    exact ⟨j, h1, h, h2, h3, h4⟩
theorem atI_nat {α : Type} {xs : List α} {j : Nat} {v : α} (h : xs[j]? = some v) : atI xs (j : Int) = some v := by
  have hj : j < xs.length := (List.getElem?_eq_some_iff.mp h).1
  have e : ixN xs.length (j : Int) = some j := by
    unfold ixN
    rw [if_pos (by omega), if_pos (by omega)]; simp
  unfold atI; rw [e]; exact h
theorem atI_last {α : Type} (xs : List α) (v : α) : atI (xs ++ [v]) (-1) = some v := by
  have hl : (xs ++ [v]).length = xs.length + 1 := by simp
  have e : ixN (xs ++ [v]).length (-1) = some xs.length := by
    unfold ixN
    rw [hl, if_neg (by decide), if_pos (by omega)]
    congr 1
    omega
  unfold atI
  rw [e]
  show (xs ++ [v])[xs.length]? = some v
  simp

/-! ### what may be subscripted -/
/-- what stands as an index of a plain subscript -/
def PlainIx (b : Expr) : Prop := ∀ o i, subscripted b false o i = operate [o, i] (getItem o i)
/-- a subscript by values -/
def IxR (X : Cx) (r : R2) : Prop :=
  ∀ (value slice : Expr) (pins : List (Addr × Obj)) (s : Shared) (σ : St) (H : Hp) (x y : V) (v u : Value) (Q : VK), Inv X pins σ H s → RelV x v → RelV y u → r x y H Q →
    subscripted slice false v u = operate [v, u] (getItem v u) → wpAny (model X.prog X.w) X.A (subscriptTail value slice v u) (EP X pins σ Q) X.xe s
/-- a call of a builtin's method by values: the receiver, the arguments -/
def MtR (X : Cx) (id : String) (r : V → List V → Hp → VK → Prop) : Prop :=
  ∀ (pins : List (Addr × Obj)) (s : Shared) (σ : St) (H : Hp) (x : V) (xs : List V) (v : Value) (us : List Value) (Q : VK), Inv X pins σ H s → RelV x v → Vals xs us → r x xs H Q →
    wpAny (model X.prog X.w) X.A (call (.builtin id) (v :: us)) (EP X pins σ Q) X.xe s
section
variable {X : Cx} {a b : Expr} {ta tb : TE} {pos : Pos}
theorem IxR.or {r r' : R2} (h : IxR X r) (h' : IxR X r') : IxR X (fun x y H Q => r x y H Q ∨ r' x y H Q) := by
  intro value slice pins s σ H x y v u Q I rx ry q hs
  rcases q with q | q
  · exact h value slice pins s σ H x y v u Q I rx ry q hs
  · exact h' value slice pins s σ H x y v u Q I rx ry q hs
theorem MtR.or {id : String} {r r' : V → List V → Hp → VK → Prop} (h : MtR X id r) (h' : MtR X id r') : MtR X id (fun x xs H Q => r x xs H Q ∨ r' x xs H Q) := by
  intro pins s σ H x xs v us Q I rx rs q
  rcases q with q | q
  · exact h pins s σ H x xs v us Q I rx rs q
  · exact h' pins s σ H x xs v us Q I rx rs q
/-- a[b] -/
theorem pe_ix {r : R2} (hr : IxR X r) (ha : PE X a ta) (hb : PE X b tb) (hs : PlainIx b) : PE X (.Subscript a b pos) (tOp r ta tb) := by
  intro pins s σ H Q I h
  exact Subscript_ (binT ha hb I h fun v u s2 x y H2 I2 rx ry q => hr a b pins s2 σ H2 x y v u Q I2 rx ry q (hs _ _))

def rIxL (K : PySem.W.Frag) : R2 := fun x y H Q => ∃ p xs i v, x = .ref p ∧ y = .int i ∧ SqL K H p xs ∧ atI xs i = some v ∧ Q v H
def rIxT (K : PySem.W.Frag) : R2 := fun x y H Q => ∃ p xs i v, x = .ref p ∧ y = .int i ∧ SqT K H p xs ∧ atI xs i = some v ∧ Q v H
def rIxS : R2 := fun x y H Q => ∃ z i c, x = .str z ∧ y = .int i ∧ z.length ≤ sizeLine ∧ atI z.cps.toList i = some c ∧ Q (.str ⟨#[c]⟩) H
theorem ix_list : IxR X (rIxL X.K) := by
  intro value slice pins s σ H x y v u Q I rx ry h hs
  obtain ⟨p, xs, i, z, rfl, rfl, hq, he, q⟩ := h
  cases rx
  obtain ⟨t, rfl⟩ := ry
  obtain ⟨its, r, pl, hz⟩ := I.list hq
  obtain ⟨j, h1, h2, h3, h4, h5⟩ := atI_get he
  obtain ⟨w, ew, rw'⟩ := r.get h2
  have hl := r.length
  have hn := line63
  have fin : EP X pins σ Q w s := ⟨z, H, I, rw', q⟩
  by_cases h0 : 0 ≤ i
  · have hj : i.toNat = j := by
      rw [seqIndex_of h0 h5] at h1
      exact Option.some.inj h1
    exact item_listR pl.isList h0 (by omega) (by rw [hj]; simpa using ew) fin hs
  · have hj : (i + (its.toArray.size : Int)).toNat = j := by
      rw [seqIndex_neg (by omega) h4] at h1
      rw [List.size_toArray, ← hl]
      exact Option.some.inj h1
    exact subscriptTail_builtinR (x := w) pl.isList.typeIs slot_list_getitem.lookup
      (wpAny_getItem_list_neg (Q := fun r s' => r = w ∧ EP X pins σ Q r s') pl.isList (by omega) (by rw [List.size_toArray] <;> omega) (by omega) (by rw [hj]; simpa using ew) ⟨rfl, fin⟩) hs
theorem ix_tup : IxR X (rIxT X.K) := by
  intro value slice pins s σ H x y v u Q I rx ry h hs
  obtain ⟨p, xs, i, z, rfl, rfl, hq, he, q⟩ := h
  cases rx
  obtain ⟨t, rfl⟩ := ry
  obtain ⟨its, r, pl, hz⟩ := I.tuple hq
  obtain ⟨j, h1, h2, h3, h4, h5⟩ := atI_get he
  obtain ⟨w, ew, rw'⟩ := r.get h2
  have hl := r.length
  have hn := line63
  have fin : EP X pins σ Q w s := ⟨z, H, I, rw', q⟩
  exact subscriptTail_builtinR (x := w) pl.typeIs slot_tuple_getitem.lookup
    (getItem_tuple (j := j) (Q := fun r s' => r = w ∧ EP X pins σ Q r s') pl (by omega) (by omega) (by rw [List.size_toArray, ← hl]; exact h1) (by simpa using ew) ⟨rfl, fin⟩) hs
theorem ix_str : IxR X rIxS := by
  intro value slice pins s σ H x y v u Q I rx ry h hs
  obtain ⟨z, i, c, rfl, rfl, hz, he, q⟩ := h
  obtain ⟨t, rfl⟩ := rx
  obtain ⟨t', rfl⟩ := ry
  obtain ⟨j, h1, h2, h3, h4, h5⟩ := atI_get he
  have hl : z.cps.toList.length = z.length := by simp [Str.length]
  rw [hl] at h1 h4 h5
  have hn := line63
  exact tail_any (typeIs_str s z t) slot_str_getitem.lookup (getItem_str (c := c) (by
    have e1 : decide (i < -(2 ^ 63 : Int)) = false := decide_eq_false (by omega)
    have e2 : decide (i ≥ 2 ^ 63) = false := decide_eq_false (by omega)
    rw [e1, e2, Bool.or_false]) (by rw [h1]; simpa using h2) ⟨.str ⟨#[c]⟩, H, I.tok _, ⟨_, rfl⟩, q⟩) hs
/-- list, tuple or str -/
def rIx (K : PySem.W.Frag) : R2 := fun x y H Q => rIxL K x y H Q ∨ rIxT K x y H Q ∨ rIxS x y H Q
theorem ix_seq : IxR X (rIx X.K) := ix_list.or (ix_tup.or ix_str)

/-! ### xs[i] = v, any sign -/
/-- the list's object behind a store -/
theorem mapSeq_set (its : List Value) (n j : Nat) (u : Value) : Obj.mapSeq (·.setIfInBounds j u) { cls := .type "list", data := .seq its.toArray n } = { cls := .type "list", data := .seq (its.set j u).toArray n } := by
  simp [Obj.mapSeq]
theorem Inv.lst {pins : List (Addr × Obj)} {σ : St} {H : Hp} {s : Shared} {p : Addr} {xs : List V} (I : Inv X pins σ H s) (h : H p = some (.lst xs)) :
    ∃ (its : List Value) (n : Nat), Vals xs its ∧ s.heap.get? p = some { cls := .type "list", data := .seq its.toArray n } ∧ xs.length ≤ sizeLine := by
  obtain ⟨z, its, n, r, e⟩ := I.hok p _ h
  exact ⟨its, n, r, e, z⟩
/-- the list at p is written by an update of its object -/
theorem Inv.lstUpd {pins : List (Addr × Obj)} {σ : St} {H : Hp} {s : Shared} {p : Addr} {xs ys : List V} {its its' : List Value} {n n' : Nat} {f : Obj → Obj} (I : Inv X pins σ H s) (h : H p = some (.lst xs))
    (ho : s.heap.get? p = some { cls := .type "list", data := .seq its.toArray n }) (hf : f { cls := .type "list", data := .seq its.toArray n } = { cls := .type "list", data := .seq its'.toArray n' }) (r : Vals ys its') (hz : ys.length ≤ sizeLine) (t : Nat) :
    Inv X pins σ (upd H p (.lst ys)) { s with heap := s.heap.update p f, toks := t } := by
  have e : (s.heap.update p f).get? p = some { cls := .type "list", data := .seq its'.toArray n' } := by
    rw [Heap.get?_update_self f ho (by rw [hf] <;> rfl), hf]
  refine I.write (x := p) (e := p) (by rw [h]; trivial) (.inl rfl) (fun b u hb q => (Heap.get?_update_other _ _ (Ne.symm hb)).trans q) ⟨_, e⟩ ?_
  exact ⟨hz, its', n', r, e⟩
def rSetL : V → V → V → Hp → (Hp → Prop) → Prop := fun o i v H Q => ∃ p xs k j, o = .ref p ∧ i = .int k ∧ H p = some (.lst xs) ∧ ixN xs.length k = some j ∧ Q (upd H p (.lst (xs.set j v)))
theorem set_list : PSet X rSetL := by
  intro pins s σ H o i v ov iv u Q I ro ri rv h
  obtain ⟨p, xs, k, j, rfl, rfl, hp, hj, q⟩ := h
  cases ro
  obtain ⟨t, rfl⟩ := ri
  obtain ⟨its, n, r, ho, hz⟩ := I.lst hp
  obtain ⟨h1, h2, h3, h4⟩ := ixN_seq hj
  have hl := r.length
  have hn := line63
  have I' : Inv X pins σ (upd H p (.lst (xs.set j v))) { s with heap := s.heap.update p (Obj.mapSeq (·.setIfInBounds j u)) } :=
    I.lstUpd hp ho (mapSeq_set its n j u) (r.set rv j) (by rw [List.length_set]; exact hz) s.toks
  by_cases h0 : 0 ≤ k
  · have hk : k.toNat = j := by
      rw [seqIndex_of h0 h4] at h1
      exact Option.some.inj h1
    exact PySem.W.ki_setAt ho h0 (by omega) (by rw [List.size_toArray, ← hl]; exact h4) (by rw [hk]; exact ⟨_, I', q⟩)
  · have hk : (k + (its.toArray.size : Int)).toNat = j := by
      rw [seqIndex_neg (by omega) h3] at h1
      rw [List.size_toArray, ← hl]
      exact Option.some.inj h1
    exact PySem.W.ki_setBack ho (by omega) (by rw [List.size_toArray, ← hl]; exact h3) (by omega) (by rw [hk]; exact ⟨_, I', q⟩)

/-! ### slices -/
theorem slice_bounds (lo hi : Option Int) (n : Nat) : (sliceBounds lo hi none n).1 = ((HT.sIx n 0 lo : Nat) : Int) ∧ (sliceBounds lo hi none n).2.1 = ((HT.sIx n n hi : Nat) : Int) ∧ (sliceBounds lo hi none n).2.2 = 1 := by
  refine ⟨?_, ?_, rfl⟩
  · cases lo with
    | none => simp [sliceBounds, HT.sIx]
    | some i =>
      simp only [sliceBounds, HT.sIx, Option.getD_none, show (1 : Int) > 0 by decide, if_true]
      by_cases h : i < 0
      · simp only [h, if_true] <;> omega
      · simp only [h, if_false] <;> omega
  · cases hi with
    | none => simp [sliceBounds, HT.sIx]
    | some i =>
      simp only [sliceBounds, HT.sIx, Option.getD_none, show (1 : Int) > 0 by decide, if_true]
      by_cases h : i < 0
      · simp only [h, if_true] <;> omega
      · simp only [h, if_false] <;> omega
theorem slicePick_cut (its : List Value) (lo hi : Option Int) : slicePick its.toArray lo hi none = ((its.drop (HT.sIx its.length 0 lo)).take (HT.sIx its.length its.length hi - HT.sIx its.length 0 lo)).toArray := by
  obtain ⟨h1, h2, h3⟩ := slice_bounds lo hi its.toArray.size
  unfold slicePick
  rw [h1, h2, h3]
  simp only [sliceRange_one, pick_run, List.size_toArray] <;> rfl
/-- xs[lo:hi] of a list: a new list -/
def rSlL (K : PySem.W.Frag) : V → Option Int → Option Int → Hp → VK → Prop := fun x lo hi H Q => ∃ a xs, x = .ref a ∧ SqL K H a xs ∧ ∀ p, H p = none → Q (.ref p) (upd H p (.lst (cutV xs lo hi)))
theorem sl_list : SlR X (rSlL X.K) := by
  intro pins s σ H x v vl vu lo hi sl Q I rx hs pl pu h
  obtain ⟨a, xs, rfl, hx, q⟩ := h
  cases rx
  obtain ⟨its, r, ht, hz⟩ := I.list hx
  have hlen := r.length
  refine ⟨"list", _, slot_list_getitem.lookup, ht.isList.typeIs, ?_⟩
  refine wpAny_getItem_list_slice ht.isList hs pl pu .none (by simp) ?_ (by rw [List.size_toArray] <;> omega)
  rw [slicePick_cut, ← hlen]
  refine ⟨.ref s.heap.objs.size, _, I.laid (t' := s.toks) (o := .lst (cutV xs lo hi)) (fun b ob q => Heap.get?_push_of_some _ q) (Nat.le_refl _) ?_, rfl, q _ (I.hok.fresh (Nat.le_refl _))⟩
  exact ⟨Nat.le_trans (cutV_length xs lo hi) hz, _, 0, (r.drop (HT.sIx xs.length 0 lo)).take (HT.sIx xs.length xs.length hi - HT.sIx xs.length 0 lo), Heap.get?_push_size _ rfl⟩

/-! ### in, not in: flat items -/
def flatV : V → Bool
  | .non => true
  | .bl _ => true
  | .int _ => true
  | .str _ => true
  | _ => false
/-- == of flat values -/
def eqV : V → V → Bool
  | .non, .non => true
  | .bl a, .bl b => a == b
  | .bl a, .int b => (if a then 1 else 0) == b
  | .int a, .bl b => a == (if b then 1 else 0)
  | .int a, .int b => a == b
  | .str a, .str b => a == b
  | _, _ => false
theorem eqAt_V {A : Around} {s : Shared} {y x : V} {u v : Value} (ry : RelV y u) (rx : RelV x v) (fy : flatV y = true) (fx : flatV x = true) : SeqAt.EqAt A s u v (eqV y x) := by
  cases y with
  | non =>
    cases ry
    cases x with
    | non => cases rx; exact SeqAt.EqAt.same _
    | bl b => cases rx; exact SeqAt.EqAt.none_bool b
    | int b => obtain ⟨t, rfl⟩ := rx; exact SeqAt.EqAt.none_int b t
    | str b => obtain ⟨t, rfl⟩ := rx; exact SeqAt.EqAt.none_str b t
    | _ => exact absurd (show false = true from fx) Bool.false_ne_true
  | bl a =>
    cases ry
    cases x with
    | non => cases rx; exact SeqAt.EqAt.bool_none a
    | bl b => cases rx; exact SeqAt.EqAt.bool_bool a b
    | int b => obtain ⟨t, rfl⟩ := rx; exact SeqAt.EqAt.bool_int a b t
    | str b => obtain ⟨t, rfl⟩ := rx; exact SeqAt.EqAt.bool_str a b t
    | _ => exact absurd (show false = true from fx) Bool.false_ne_true
  | int a =>
    obtain ⟨t', rfl⟩ := ry
    cases x with
    | non => cases rx; exact SeqAt.EqAt.int_none a t'
    | bl b => cases rx; exact SeqAt.EqAt.int_bool a t' b
    | int b => obtain ⟨t, rfl⟩ := rx; exact SeqAt.EqAt.int_int a t' b t
    | str b => obtain ⟨t, rfl⟩ := rx; exact SeqAt.EqAt.int_str a t' b t
    | _ => exact absurd (show false = true from fx) Bool.false_ne_true
  | str a =>
    obtain ⟨t', rfl⟩ := ry
    cases x with
    | non => cases rx; exact SeqAt.EqAt.str_none a t'
    | bl b => cases rx; exact SeqAt.EqAt.str_bool a t' b
    | int b => obtain ⟨t, rfl⟩ := rx; exact SeqAt.EqAt.str_int a t' b t
    | str b => obtain ⟨t, rfl⟩ := rx; exact SeqAt.EqAt.str_str a t' b t
    | _ => exact absurd (show false = true from fx) Bool.false_ne_true
  | _ => exact absurd (show false = true from fy) Bool.false_ne_true
/-- the items' answers, read off the values (a value's own answer does not lean on its token) -/
def eqU (x : V) (u : Value) : Bool := match u with
  | .none => eqV .non x
  | .bool b => eqV (.bl b) x
  | .int i _ => eqV (.int i) x
  | .str z _ => eqV (.str z) x
  | _ => false
theorem eqU_of {x y : V} {u : Value} (r : RelV y u) (f : flatV y = true) : eqU x u = eqV y x := by
  cases y with
  | non => cases r; rfl
  | bl b => cases r; rfl
  | int i => obtain ⟨t, rfl⟩ := r; rfl
  | str z => obtain ⟨t, rfl⟩ := r; rfl
  | _ => exact absurd (show false = true from f) Bool.false_ne_true
theorem any_eqU {x : V} : ∀ {xs : List V} {us : List Value}, Vals xs us → xs.all flatV = true → us.any (eqU x) = xs.any fun y => eqV y x
  | _, _, .nil, _ => rfl
  | y :: xs, u :: us, .cons r t, f => by
    rw [List.all_cons, Bool.and_eq_true] at f
    rw [List.any_cons, List.any_cons, eqU_of r f.1, any_eqU t f.2]
theorem mem_eqAt {A : Around} {s : Shared} {x : V} {v : Value} (rx : RelV x v) (fx : flatV x = true) : ∀ {xs : List V} {us : List Value}, Vals xs us → xs.all flatV = true → ∀ u ∈ us, SeqAt.EqAt A s u v (eqU x u)
  | _, _, .nil, _ => fun u hu => by cases hu
  | y :: xs, u :: us, .cons r t, f => fun u' hu => by
    rw [List.all_cons, Bool.and_eq_true] at f
    rcases List.mem_cons.mp hu with rfl | hu
    · rw [eqU_of r f.1]; exact eqAt_V r rx f.1 fx
    · exact mem_eqAt rx fx t f.2 u' hu
def inV (x : V) (xs : List V) : Bool := xs.any fun y => eqV y x
/-- x in a list or tuple of flat items -/
def rIn (K : PySem.W.Frag) (neg : Bool) : R2 := fun x y H Q => ∃ p xs, y = .ref p ∧ (SqL K H p xs ∨ SqT K H p xs) ∧ flatV x = true ∧ xs.all flatV = true ∧ Q (.bl (if neg then !inV x xs else inV x xs)) H
theorem op_in_seq : OpR X (compareOp .In) (rIn X.K false) := by
  intro pins s σ H x y v u Q I rx ry h
  obtain ⟨p, xs, rfl, hq, fx, fs, q⟩ := h
  cases ry
  rcases hq with hq | hq
  · obtain ⟨its, r, pl, hz⟩ := I.list hq
    refine SeqAt.in_listAt (eqU x) pl.isList (fun w hw => mem_eqAt rx fx r fs w (by simpa using hw)) ⟨.bl _, H, I, rfl, ?_⟩
    rw [show its.toArray.any (eqU x) = its.any (eqU x) by simp, any_eqU r fs]
    exact q
  · obtain ⟨its, r, pl, hz⟩ := I.tuple hq
    refine SeqAt.in_tupleAt (eqU x) pl (fun w hw => mem_eqAt rx fx r fs w (by simpa using hw)) ⟨.bl _, H, I, rfl, ?_⟩
    rw [show its.toArray.any (eqU x) = its.any (eqU x) by simp, any_eqU r fs]
    exact q
theorem op_notIn_seq : OpR X (compareOp .NotIn) (rIn X.K true) := by
  intro pins s σ H x y v u Q I rx ry h
  obtain ⟨p, xs, rfl, hq, fx, fs, q⟩ := h
  cases ry
  rcases hq with hq | hq
  · obtain ⟨its, r, pl, hz⟩ := I.list hq
    refine SeqAt.notIn_listAt (eqU x) pl.isList (fun w hw => mem_eqAt rx fx r fs w (by simpa using hw)) ⟨.bl _, H, I, rfl, ?_⟩
    rw [show its.toArray.any (eqU x) = its.any (eqU x) by simp, any_eqU r fs]
    exact q
  · obtain ⟨its, r, pl, hz⟩ := I.tuple hq
    refine SeqAt.notIn_tupleAt (eqU x) pl (fun w hw => mem_eqAt rx fx r fs w (by simpa using hw)) ⟨.bl _, H, I, rfl, ?_⟩
    rw [show its.toArray.any (eqU x) = its.any (eqU x) by simp, any_eqU r fs]
    exact q
theorem op_notIn_str : OpR X (compareOp .NotIn) (fun x y H Q => ∃ i j, x = .str i ∧ y = .str j ∧ Q (.bl (!(!(Builtin.Str.occurrences j i 0 j.length 1).isEmpty))) H) := by
  intro pins s σ H x y v u Q I rx ry h
  obtain ⟨i, j, rfl, rfl, q⟩ := h
  obtain ⟨t, rfl⟩ := rx
  obtain ⟨t', rfl⟩ := ry
  exact notIn_str ⟨.bl _, H, I, rfl, q⟩

/-! ### len, list(x), tuple(x) of any list or tuple that is read -/
theorem call_len_seq : CallR X (.builtin "len") (fun xs H Q => ∃ p ys, xs = [.ref p] ∧ (SqL X.K H p ys ∨ SqT X.K H p ys) ∧ Q (.int ys.length) H) := by
  intro pins s σ H xs us Q I r h
  obtain ⟨p, ys, rfl, hq, q⟩ := h
  obtain ⟨u, rfl, rx⟩ := vals1 r
  cases rx
  have hn := line63
  rcases hq with hq | hq
  · obtain ⟨its, r', pl, hz⟩ := I.list hq
    have hlen := r'.length
    exact Calls.call_len_list pl.isList (by simp only [List.size_toArray] <;> omega) ⟨.int ys.length, H, I.tok _, ⟨s.toks + 1, by rw [List.size_toArray, hlen]⟩, q⟩
  · obtain ⟨its, r', pl, hz⟩ := I.tuple hq
    have hlen := r'.length
    exact len_tuple pl (by simp only [List.size_toArray] <;> omega) ⟨.int ys.length, H, I.tok _, ⟨s.toks + 1, by rw [List.size_toArray, hlen]⟩, q⟩
theorem call_len_str : CallR X (.builtin "len") (fun xs H Q => ∃ z, xs = [.str z] ∧ z.length ≤ sizeLine ∧ Q (.int z.length) H) := by
  intro pins s σ H xs us Q I r h
  obtain ⟨z, rfl, hz, q⟩ := h
  obtain ⟨u, rfl, t, rfl⟩ := vals1 r
  have hn := line63
  exact len_str (by omega) ⟨.int z.length, H, I.tok _, ⟨_, rfl⟩, q⟩
theorem CallR.or {f : Value} {r r' : List V → Hp → VK → Prop} (h : CallR X f r) (h' : CallR X f r') : CallR X f (fun xs H Q => r xs H Q ∨ r' xs H Q) := by
  intro pins s σ H xs us Q I rs q
  rcases q with q | q
  · exact h pins s σ H xs us Q I rs q
  · exact h' pins s σ H xs us Q I rs q
theorem call_list_of : CallR X (.type "list") (fun xs H Q => ∃ p ys, xs = [.ref p] ∧ (SqL X.K H p ys ∨ SqT X.K H p ys) ∧ ∀ l, H l = none → Q (.ref l) (upd H l (.lst ys))) := by
  intro pins s σ H xs us Q I r h
  obtain ⟨p, ys, rfl, hq, q⟩ := h
  obtain ⟨u, rfl, rx⟩ := vals1 r
  cases rx
  have fin : ∀ (its : List Value), Vals ys its → ys.length ≤ sizeLine → ∀ (h' : Heap) (c' : Nat), (∀ b o', s.heap.get? b = some o' → h'.get? b = some o') →
      h'.get? s.heap.objs.size = some { cls := .type "list", dict := none, data := .seq its.toArray c', slots := #[] } → EP X pins σ Q (.ref s.heap.objs.size) { s with heap := h' } := fun its r' hz h' c' kp e =>
    ⟨.ref s.heap.objs.size, _, I.laid (t' := s.toks) kp (Nat.le_refl _) (show ObjOk X.prog X.w _ h' _ (.lst ys) from ⟨hz, its, c', r', e⟩), rfl, q _ (I.hok.fresh (Nat.le_refl _))⟩
  rcases hq with hq | hq
  · obtain ⟨its, r', pl, hz⟩ := I.list hq
    have hlen := r'.length
    obtain ⟨o, ho, hc, n, hd⟩ := pl.isList
    exact call_list_seq p (.inl rfl) ho hc hd (fun h' c' kp e => fin its r' hz h' c' kp e) (by simp only [List.size_toArray] <;> omega)
  · obtain ⟨its, r', pl, hz⟩ := I.tuple hq
    have hlen := r'.length
    obtain ⟨o, ho, hc, n, hd⟩ := pl
    exact call_list_seq p (.inr rfl) ho hc hd (fun h' c' kp e => fin its r' hz h' c' kp e) (by simp only [List.size_toArray] <;> omega)
theorem call_tuple_of : CallR X (.type "tuple") (fun xs H Q => ∃ p ys, xs = [.ref p] ∧ ((SqL X.K H p ys ∧ ∀ l, H l = none → Q (.ref l) (upd H l (.tup ys))) ∨ (SqT X.K H p ys ∧ Q (.ref p) H))) := by
  intro pins s σ H xs us Q I r h
  obtain ⟨p, ys, rfl, h⟩ := h
  obtain ⟨u, rfl, rx⟩ := vals1 r
  cases rx
  rcases h with ⟨hq, q⟩ | ⟨hq, q⟩
  · obtain ⟨its, r', pl, hz⟩ := I.list hq
    have hlen := r'.length
    refine call_tuple_list pl.isList (fun h' kp => ?_) (by simp only [List.size_toArray] <;> omega)
    have I1 : Inv X pins σ H { s with heap := h' } := I.kept (t' := s.toks) kp
    have I2 : Inv X pins σ (upd H h'.objs.size (.tup ys)) { s with heap := h'.push { cls := .type "tuple", data := .seq its.toArray } } :=
      I1.laid (t' := s.toks) (fun b o e => Heap.get?_push_of_some _ e) (Nat.le_refl _) (show ObjOk X.prog X.w _ _ _ (.tup ys) from ⟨hz, its, r', IsTup.new _ _⟩)
    exact ⟨.ref h'.objs.size, _, I2, rfl, q _ (I1.hok.fresh (Nat.le_refl _))⟩
  · obtain ⟨its, r', pl, hz⟩ := I.tuple hq
    exact call_tuple_same pl ⟨.ref p, H, I, rfl, q⟩

/-! ### the call of a builtin's method: o.m(..) -/
/-- the value is of that builtin type -/
def tyV (K : PySem.W.Frag) (T : String) (x : V) (H : Hp) : Prop := match x with
  | .str _ => T = "str"
  | .int _ => T = "int"
  | .ref p => (T = "list" ∧ ∃ xs, SqL K H p xs) ∨ (T = "tuple" ∧ ∃ o, K.lookup p = some o ∧ o.cls = .type "tuple" ∧ o.dict = none) ∨
      (T = "dict" ∧ ((∃ kvs, H p = some (.dK kvs)) ∨ ∃ kvs, H p = some (.dT kvs))) ∨ (T = "set" ∧ ∃ S n, H p = some (.set S n))
  | _ => False
theorem tyV_is {pins : List (Addr × Obj)} {σ : St} {H : Hp} {s : Shared} {T : String} {x : V} {v : Value} (I : Inv X pins σ H s) (r : RelV x v) (ty : tyV X.K T x H) :
    s.TypeIs v T ∧ ∀ a, v = .ref a → ∃ ob, s.heap.get? a = some ob ∧ ob.dict = none := by
  cases x with
  | str z =>
    obtain ⟨t, rfl⟩ := r
    cases (show T = "str" from ty)
    exact ⟨typeIs_str s z t, fun _ e => nomatch e⟩
  | int i =>
    obtain ⟨t, rfl⟩ := r
    cases (show T = "int" from ty)
    exact ⟨typeIs_int s i t, fun _ e => nomatch e⟩
  | ref p =>
    cases r
    rcases ty with ⟨rfl, xs, hq⟩ | ⟨rfl, o, hk, hc, hd⟩ | ⟨rfl, hk⟩ | ⟨rfl, S, n, hk⟩
    · obtain ⟨its, _, pl, _⟩ := I.list hq
      refine ⟨pl.isList.typeIs, fun a e => ?_⟩
      cases e
      obtain ⟨o, n, e, c, hd, _⟩ := pl
      exact ⟨o, e, hd⟩
    · refine ⟨⟨o, I.kIn p o hk, hc⟩, fun a e => ?_⟩
      cases e
      exact ⟨o, I.kIn _ o hk, hd⟩
    · have z : ∃ o, s.heap.get? p = some o ∧ o.ExactDict := by
        rcases hk with ⟨kvs, hk⟩ | ⟨kvs, hk⟩
        · obtain ⟨_, _, _, _, o, _, _, e, ex, _⟩ := I.hok p _ hk
          exact ⟨o, e, ex⟩
        · obtain ⟨_, _, _, _, o, _, _, e, ex, _⟩ := I.hok p _ hk
          exact ⟨o, e, ex⟩
      obtain ⟨o, e, ex⟩ := z
      refine ⟨⟨o, e, ex.1⟩, fun a e2 => ?_⟩
      cases e2
      exact ⟨o, e, ex.2.1⟩
    · obtain ⟨o, _, _, _, e, ex, _⟩ := I.hok p _ hk
      refine ⟨⟨o, e, ex.1⟩, fun a e2 => ?_⟩
      cases e2
      exact ⟨o, e, ex.2.1⟩
  | _ => exact False.elim ty
def tBM0 (K : PySem.W.Frag) (T : String) (r : V → List V → Hp → VK → Prop) (to : TE) : TE := fun σ H Q => to σ H fun x H1 => tyV K T x H1 ∧ r x [] H1 Q
def tBM (K : PySem.W.Frag) (T : String) (r : V → List V → Hp → VK → Prop) (to : TE) (t : TA) : TE := fun σ H Q => to σ H fun x H1 => tyV K T x H1 ∧ t σ H1 fun xs H2 => r x xs H2 Q
variable {o e : Expr} {es : List Expr} {to : TE} {t : TA} {name : Str} {apos cpos : Pos} {T id : String} {r : V → List V → Hp → VK → Prop}
theorem pe_bm0 (pa : PlainAttrs T) (slot : Slot T name id) (hty : typeOf (.builtin id) = pure (.type "method_descriptor")) (hm : MtR X id r) (ho : PE X o to)
    (hbase : attributeBase o name X.env (eval o X.env) = eval o X.env := by rfl) (hline : (apos.endLine == cpos.line) = true := by rfl) : PE X (.Call (.Attribute o name apos) [] [] cpos) (tBM0 X.K T r to) := by
  intro pins s σ H Q I h
  refine wpAny_Call_method0_late hbase hline (thn (ho pins s σ H _ I h) fun v s1 ⟨x, H1, I1, r1, ty, q1⟩ => ?_)
  obtain ⟨h1, h2⟩ := tyV_is I1 r1 ty
  exact ⟨T, id, pa, slot, hty, h1, h2, Calls.callWith_builtin rfl (PySem.evalArgs_none (hm pins s1 σ H1 x [] v [] Q I1 r1 .nil q1))⟩
theorem pe_bm (pa : PlainAttrs T) (slot : Slot T name id) (hty : typeOf (.builtin id) = pure (.type "method_descriptor")) (hm : MtR X id r) (ho : PE X o to) (ha : PA X (e :: es) t)
    (hbase : attributeBase o name X.env (eval o X.env) = eval o X.env := by rfl)
    (hfew : ((backTo cpos (starEach (e :: es) X.env)).all (fun x => !x.1) && (backToKw cpos (keywordEach [] X.env)).all (fun x => x.1.isSome)
      && decide ((e :: es).length + ([] : List Keyword).length + (if ([] : List Keyword).isEmpty then 0 else 1) < 30)) = true := by rfl)
    (hline : (apos.endLine == cpos.line) = true := by rfl) (hs : starEach (e :: es) X.env = (false, eval e X.env) :: starEach es X.env := by rfl) (hplain : (backTo cpos (starEach es X.env)).any (·.1) = false := by rfl) :
    PE X (.Call (.Attribute o name apos) (e :: es) [] cpos) (tBM X.K T r to t) := by
  intro pins s σ H Q I h
  refine wpAny_Call_method_late hbase hfew hline rfl (thn (ho pins s σ H _ I h) fun v s1 ⟨x, H1, I1, r1, ty, q1⟩ => ?_)
  obtain ⟨h1, h2⟩ := tyV_is I1 r1 ty
  refine ⟨T, id, pa, slot, hty, h1, h2, ?_⟩
  have hA := ha cpos pins s1 σ H1 _ I1 q1
  rw [hs] at hA ⊢
  refine Calls.callWith_builtin (by show (false || (backTo cpos (starEach es X.env)).any (·.1)) = false; rw [hplain] <;> rfl) (Calls.evalArgs_plain ?_)
  exact thn hA fun us s2 ⟨vs, H2, I2, r2, q2⟩ => hm pins s2 σ H2 x vs v us Q I2 r1 r2 q2
/- xs.append(e), list.index on a module's tuple .. are MtR facts of 06m -/
end
end L2

namespace L2
open PySem PySem.Spec PyProof.Rows

def MtM (X : Cx) (id : String) (r : V → List V → Hp → VK → Prop) : Prop :=
  ∀ (pins : List (Addr × Obj)) (s : Shared) (σ : St) (H : Hp) (x : V) (xs : List V) (v : Value) (us : List Value) (Q : VK), Inv X pins σ H s → RelV x v → Vals xs us → r x xs H Q →
    wpAny (model X.prog X.w) X.A (call (.builtin id) (v :: us)) (EP X pins σ Q) X.xe s

/-! ### lists of values -/
theorem Vals.one : ∀ {x : V} {us : List Value}, Vals [x] us → ∃ u, us = [u] ∧ RelV x u
  | _, _, .cons r .nil => ⟨_, rfl, r⟩
theorem Vals.two : ∀ {x y : V} {us : List Value}, Vals [x, y] us → ∃ u v, us = [u, v] ∧ RelV x u ∧ RelV y v
  | _, _, _, .cons r (.cons q .nil) => ⟨_, _, rfl, r, q⟩
theorem Vals.zero : ∀ {us : List Value}, Vals [] us → us = []
  | _, .nil => rfl
theorem Vals.dropLast {xs : List V} {us : List Value} (h : Vals xs us) : Vals xs.dropLast us.dropLast := by
  induction h with
  | nil => exact .nil
  | cons r t ih =>
    cases t with
    | nil => exact .nil
    | cons q t' => exact .cons r ih
theorem Vals.eraseIdx : ∀ {xs : List V} {us : List Value} (i : Nat), Vals xs us → Vals (xs.eraseIdx i) (us.eraseIdx i)
  | _, _, _, .nil => .nil
  | _, _, 0, .cons _ t => t
  | _, _, i + 1, .cons r t => .cons r (Vals.eraseIdx i t)
theorem Vals.reverse {xs : List V} {us : List Value} (h : Vals xs us) : Vals xs.reverse us.reverse := by
  induction h with
  | nil => exact .nil
  | cons r t ih => rw [List.reverse_cons, List.reverse_cons]; exact Vals.append ih (.cons r .nil)
theorem Vals.rep {xs : List V} {us : List Value} (h : Vals xs us) : ∀ k : Nat, Vals (List.replicate k xs).flatten (List.replicate k us).flatten
  | 0 => .nil
  | k + 1 => by
    rw [List.replicate_succ, List.replicate_succ, List.flatten_cons, List.flatten_cons]
    exact Vals.append h (Vals.rep h k)
theorem erase_last {α : Type} (l : List α) : l.eraseIdx (l.length - 1) = l.dropLast := by
  induction l with
  | nil => rfl
  | cons a r ih =>
    cases r with
    | nil => rfl
    | cons b r =>
      have e : (a :: b :: r).length - 1 = ((b :: r).length - 1) + 1 := by
        have h1 : (a :: b :: r).length = r.length + 2 := rfl
        have h2 : (b :: r).length = r.length + 1 := rfl
        omega
      rw [e, List.eraseIdx_cons_succ, ih]
      all_goals rfl
theorem len_erase {α : Type} : ∀ (l : List α) (i : Nat), (l.eraseIdx i).length ≤ l.length
  | [], _ => Nat.le_refl _
  | _ :: _, 0 => Nat.le_succ _
  | _ :: r, i + 1 => Nat.succ_le_succ (len_erase r i)
theorem foldl_rep (its : List Value) : ∀ (k : Nat) (acc : List Value),
    List.foldl (fun x1 x2 => x1 ++ x2) acc.toArray (List.replicate k its.toArray) = (acc ++ (List.replicate k its).flatten).toArray
  | 0, acc => by simp
  | k + 1, acc => by
    have e : acc.toArray ++ its.toArray = (acc ++ its).toArray := by simp
    have e2 : (acc ++ its) ++ (List.replicate k its).flatten = acc ++ (List.replicate (k + 1) its).flatten := by
      rw [List.replicate_succ, List.flatten_cons, List.append_assoc]
    rw [← e2, ← foldl_rep its k (acc ++ its), ← e, List.replicate_succ, List.foldl_cons]

section
variable {X : Cx} {pins : List (Addr × Obj)} {σ : St} {H : Hp} {s : Shared} {l b : Addr} {xs ys zs : List V}

/-! ### the two steps: a tracked list is rewritten, a new list is laid -/
theorem Inv.lset {its its' : List Value} {n : Nat} {f : Array Value → Array Value} {t' : Nat} (I : Inv X pins σ H s) (hH : H l = some (.lst xs))
    (e : s.heap.get? l = some { cls := .type "list", data := .seq its.toArray n }) (hf : f its.toArray = its'.toArray) (hv : Vals ys its') (hz : ys.length ≤ sizeLine) :
    Inv X pins σ (upd H l (.lst ys)) { s with heap := s.heap.update l (Obj.mapSeq f), toks := t' } := by
  have q := PySem.IsL.update e f
  rw [hf] at q
  refine I.write (x := l) (e := l) (by rw [hH]; exact trivial) (.inl rfl) (fun b' u hb hu => (Heap.get?_update_other s.heap (Obj.mapSeq f) (Ne.symm hb)).trans hu) ⟨_, q⟩ ?_
  exact ⟨hz, its', _, hv, q⟩
theorem Inv.lnew {its : List Value} {t' : Nat} (I : Inv X pins σ H s) (hv : Vals ys its) (hz : ys.length ≤ sizeLine) :
    Inv X pins σ (upd H s.heap.objs.size (.lst ys)) { s with heap := s.heap.push { cls := .type "list", data := .seq its.toArray }, toks := t' } :=
  I.laid (fun _ _ q => Heap.get?_push_of_some _ q) (Nat.le_refl _) ⟨hz, its, 0, hv, Heap.get?_push_size _ rfl⟩
theorem Inv.fresh (I : Inv X pins σ H s) : H s.heap.objs.size = none := I.hok.fresh (Nat.le_refl _)
theorem Inv.lstM (I : Inv X pins σ H s) (hH : H l = some (.lst xs)) : xs.length ≤ sizeLine ∧ ∃ (its : List Value) (n : Nat), Vals xs its ∧ xs.length = its.length ∧ s.heap.get? l = some { cls := .type "list", data := .seq its.toArray n } := by
  obtain ⟨z, its, n, r, e⟩ := I.hok l _ hH
  exact ⟨z, its, n, r, r.length, e⟩

theorem notLongL {n : Nat} (h : n ≤ sizeLine) : Builtin.List.listTooLong n = false := by
  unfold Builtin.List.listTooLong
  exact decide_eq_false (by omega)
end

section
variable {X : Cx}

/-! ### methods -/
def rAppend : V → List V → Hp → VK → Prop := fun x vs H Q => ∃ l xs y, x = .ref l ∧ vs = [y] ∧ H l = some (.lst xs) ∧ xs.length < sizeLine ∧ Q .non (upd H l (.lst (xs ++ [y])))
theorem mt_append : MtM X "list.append" rAppend := by
  intro pins s σ H x vs v us Q I rx rv h
  obtain ⟨l, xs, y, rfl, rfl, hH, hz, q⟩ := h
  cases rx
  obtain ⟨u, rfl, ru⟩ := rv.one
  obtain ⟨z, its, n, r, hl, e⟩ := I.lstM hH
  refine call_meets F.slot_list_append ⟨_, e, rfl⟩ F.entry_list_append (F.args_list_append_2 _ _) (PySem.list_append l its.toArray n u (by rw [List.size_toArray]; omega)) ⟨e, ?_⟩
  refine ⟨.non, _, I.lset (its' := its ++ [u]) hH e (by simp) (r.append (.cons ru .nil)) ?_, rfl, q⟩
  rw [List.length_append, List.length_singleton]
  omega

def rExtend : V → List V → Hp → VK → Prop := fun x vs H Q => ∃ l b xs zs, x = .ref l ∧ vs = [.ref b] ∧ H l = some (.lst xs) ∧ H b = some (.lst zs) ∧ xs.length + zs.length ≤ sizeLine ∧ Q .non (upd H l (.lst (xs ++ zs)))
theorem mt_extend : MtM X "list.extend" rExtend := by
  intro pins s σ H x vs v us Q I rx rv h
  obtain ⟨l, b, xs, zs, rfl, rfl, hH, hB, hz, q⟩ := h
  cases rx
  obtain ⟨u, rfl, ru⟩ := rv.one
  cases ru
  obtain ⟨z, its, n, r, hl, e⟩ := I.lstM hH
  obtain ⟨z2, its2, n2, r2, hl2, e2⟩ := I.lstM hB
  have hsz : its.toArray.size + its2.toArray.size ≤ sizeLine := by rw [List.size_toArray, List.size_toArray]; omega
  have hlong : ¬ (!its.toArray.isEmpty && Builtin.List.listTooLong (its.toArray.size + its2.toArray.size)) = true := by
    rw [notLongL hsz, Bool.and_false]
    exact Bool.false_ne_true
  refine call_meets F.slot_list_extend ⟨_, e, rfl⟩ F.entry_list_extend (F.args_list_extend_2 _ _)
    (AutoSeq1.list_extend_list_list_0 l its.toArray n b its2.toArray n2 hlong (by rw [List.size_toArray]; omega) (by omega)) ⟨e, e2, ?_⟩
  refine ⟨.non, _, I.lset (its' := its ++ its2) hH e (by simp) (r.append r2) ?_, rfl, q⟩
  rw [List.length_append]
  omega

def rPop : V → List V → Hp → VK → Prop := fun x vs H Q => ∃ l xs y, x = .ref l ∧ vs = [] ∧ H l = some (.lst xs) ∧ xs[xs.length - 1]? = some y ∧ Q y (upd H l (.lst xs.dropLast))
theorem mt_pop : MtM X "list.pop" rPop := by
  intro pins s σ H x vs v us Q I rx rv h
  obtain ⟨l, xs, y, rfl, rfl, hH, hy, q⟩ := h
  cases rx
  have hus := rv.zero
  subst hus
  obtain ⟨z, its, n, r, hl, e⟩ := I.lstM hH
  obtain ⟨u, hu, ru⟩ := r.get hy
  have hy' : its.toArray[its.toArray.size - 1]? = some u := by
    show its.toArray[its.length - 1]? = some u
    rw [← Array.getElem?_toList, ← hl]
    exact hu
  refine call_meets F.slot_list_pop ⟨_, e, rfl⟩ F.entry_list_pop (F.args_list_pop_1 _) (MeetsSeq.list_pop_last l its.toArray n u hy' (by rw [List.size_toArray]; omega)) ⟨e, ?_⟩
  refine ⟨y, _, I.lset (its' := its.dropLast) hH e ?_ r.dropLast ?_, ru, q⟩
  · show its.toArray.eraseIdxIfInBounds (its.toArray.size - 1) = its.dropLast.toArray
    rw [List.size_toArray, List.eraseIdxIfInBounds_toArray, erase_last]
  · rw [List.length_dropLast]
    omega

def rPopAt : V → List V → Hp → VK → Prop := fun x vs H Q => ∃ l xs i k y, x = .ref l ∧ vs = [.int i] ∧ H l = some (.lst xs) ∧ -(2 ^ 63) ≤ i ∧ i < 2 ^ 63 ∧ seqIndex? i xs.length = some k ∧ xs[k]? = some y ∧ Q y (upd H l (.lst (xs.eraseIdx k)))
theorem mt_popAt : MtM X "list.pop" rPopAt := by
  intro pins s σ H x vs v us Q I rx rv h
  obtain ⟨l, xs, i, k, y, rfl, rfl, hH, h1, h2, hk, hy, q⟩ := h
  cases rx
  obtain ⟨u, rfl, ru⟩ := rv.one
  obtain ⟨t, rfl⟩ := ru
  obtain ⟨z, its, n, r, hl, e⟩ := I.lstM hH
  obtain ⟨w, hw, rw'⟩ := r.get hy
  refine call_meets F.slot_list_pop ⟨_, e, rfl⟩ F.entry_list_pop (F.args_list_pop_2 _ _)
    (MeetsSeq.list_pop_at l its.toArray n i t k w (fitsIndex_both h1 h2) (by rw [List.size_toArray, ← hl]; exact hk) (by rw [← Array.getElem?_toList]; exact hw) (by rw [List.size_toArray]; omega)) ⟨e, ?_⟩
  refine ⟨y, _, I.lset (its' := its.eraseIdx k) hH e ?_ (r.eraseIdx k) ?_, rw', q⟩
  · show its.toArray.eraseIdxIfInBounds k = (its.eraseIdx k).toArray
    rw [List.eraseIdxIfInBounds_toArray]
  · have := len_erase xs k
    omega

def rReverse : V → List V → Hp → VK → Prop := fun x vs H Q => ∃ l xs, x = .ref l ∧ vs = [] ∧ H l = some (.lst xs) ∧ Q .non (upd H l (.lst xs.reverse))
theorem mt_reverse : MtM X "list.reverse" rReverse := by
  intro pins s σ H x vs v us Q I rx rv h
  obtain ⟨l, xs, rfl, rfl, hH, q⟩ := h
  cases rx
  have hus := rv.zero
  subst hus
  obtain ⟨z, its, n, r, hl, e⟩ := I.lstM hH
  refine call_meets F.slot_list_reverse ⟨_, e, rfl⟩ F.entry_list_reverse (F.args_list_reverse_1 _) (AutoSeq1.list_reverse_list_0 l its.toArray n (by rw [List.size_toArray]; omega)) ⟨e, ?_⟩
  refine ⟨.non, _, I.lset (its' := its.reverse) hH e (by simp) r.reverse ?_, rfl, q⟩
  rw [List.length_reverse]
  omega

def rClear : V → List V → Hp → VK → Prop := fun x vs H Q => ∃ l xs, x = .ref l ∧ vs = [] ∧ H l = some (.lst xs) ∧ Q .non (upd H l (.lst []))
theorem mt_clear : MtM X "list.clear" rClear := by
  intro pins s σ H x vs v us Q I rx rv h
  obtain ⟨l, xs, rfl, rfl, hH, q⟩ := h
  cases rx
  have hus := rv.zero
  subst hus
  obtain ⟨z, its, n, r, hl, e⟩ := I.lstM hH
  refine call_meets F.slot_list_clear ⟨_, e, rfl⟩ F.entry_list_clear (F.args_list_clear_1 _) (AutoSeq1.list_clear_list_0 l its.toArray n (by rw [List.size_toArray]; omega)) ⟨e, ?_⟩
  exact ⟨.non, _, I.lset (its' := []) (ys := []) hH e rfl .nil (Nat.zero_le _), rfl, q⟩

/-! ### list + list, list += list, list * int -/
def rCat : R2 := fun x y H Q => ∃ l b xs zs, x = .ref l ∧ y = .ref b ∧ H l = some (.lst xs) ∧ H b = some (.lst zs) ∧ xs.length + zs.length ≤ sizeLine ∧ ∀ p, H p = none → Q (.ref p) (upd H p (.lst (xs ++ zs)))
theorem op_cat : OpR X (binaryOp .Add) rCat := by
  intro pins s σ H x y v u Q I rx ry h
  obtain ⟨l, b, xs, zs, rfl, rfl, hH, hB, hz, q⟩ := h
  cases rx
  cases ry
  obtain ⟨z, its, n, r, hl, e⟩ := I.lstM hH
  obtain ⟨z2, its2, n2, r2, hl2, e2⟩ := I.lstM hB
  refine PySem.P.add_list e e2 ?_ (by rw [List.size_toArray, List.size_toArray]; omega)
  have ea : its.toArray ++ its2.toArray = (its ++ its2).toArray := by simp
  rw [ea]
  exact ⟨.ref _, _, I.lnew (t' := s.toks) (r.append r2) (by rw [List.length_append]; omega), rfl, q _ I.fresh⟩
/-- a list times an int (a negative one is nothing) -/
def rRep : R2 := fun x y H Q => ∃ l k xs, x = .ref l ∧ y = .int k ∧ H l = some (.lst xs) ∧ -(2 ^ 63) ≤ k ∧ k < 2 ^ 63 ∧ xs.length * k.toNat ≤ sizeLine ∧
  ∀ p, H p = none → Q (.ref p) (upd H p (.lst (List.replicate k.toNat xs).flatten))
theorem len_rep {α : Type} (xs : List α) (k : Nat) : (List.replicate k xs).flatten.length = k * xs.length := by
  induction k with
  | zero => simp
  | succ k ih => rw [List.replicate_succ, List.flatten_cons, List.length_append, ih, Nat.succ_mul, Nat.add_comm]
theorem op_rep : OpR X (binaryOp .Mult) rRep := by
  intro pins s σ H x y v u Q I rx ry h
  obtain ⟨l, k, xs, rfl, rfl, hH, h1, h2, hz, q⟩ := h
  cases rx
  obtain ⟨t, rfl⟩ := ry
  obtain ⟨z, its, n, r, hl, e⟩ := I.lstM hH
  have hlen : its.toArray.size * k.toNat ≤ sizeLine := by rw [List.size_toArray, ← hl]; exact hz
  have hcap : ¬ its.toArray.size * k.toNat > (2 ^ 63 - 1) / 8 := by
    have : (sizeLine : Nat) ≤ (2 ^ 63 - 1) / 8 := by decide
    omega
  have hfit : ¬ (!Builtin.List.listFitsIndex k) = true := by
    rw [fitsIndex_both h1 h2]
    exact Bool.false_ne_true
  have hlong : ¬ Builtin.List.listTooLong (its.toArray.size * k.toNat) = true := by
    rw [notLongL hlen]
    exact Bool.false_ne_true
  have hnew : List.foldl (fun x1 x2 => x1 ++ x2) #[] (List.replicate (if its.toArray.isEmpty = true then 0 else k.toNat) its.toArray) = (List.replicate k.toNat its).flatten.toArray := by
    have f0 : ∀ m : Nat, List.foldl (fun x1 x2 => x1 ++ x2) #[] (List.replicate m its.toArray) = (List.replicate m its).flatten.toArray := fun m => by
      have := foldl_rep its m []
      rw [List.nil_append] at this
      exact this
    rw [f0]
    cases its with
    | nil => simp
    | cons a r' => rw [if_neg (by simp)]
  refine wpAny_binaryOp_repeat_ref (T := "list") (U := "int") (by decide) ⟨_, e, rfl⟩ (fun s' => typeIs_int s' k t) noFill_list_mul F.fills_int_mul F.slot_int_rmul repeat_list F.slot_int_index.lookup
    (call_meets F.slot_int_rmul (typeIs_int s k t) F.entry_int_rmul (F.args_int_rmul_2 _ _) (int___rmul___int_list k t l its.toArray n)
      ⟨e, rfl, ⟨_, e, rfl⟩, call_meets F.slot_list_mul ⟨_, e, rfl⟩ F.entry_list_mul (F.args_list_mul_2 _ _) (AutoListH.list___mul___list_int_3 l its.toArray n k t hfit hcap hlong) ⟨e, ?_⟩⟩)
  rw [hnew]
  exact ⟨.ref _, _, I.lnew (t' := s.toks) (r.rep k.toNat) (by rw [len_rep, Nat.mul_comm]; exact hz), rfl, q _ I.fresh⟩

/-! ### del xs[i] -/
theorem del_list {pins : List (Addr × Obj)} {s : Shared} {σ : St} {H : Hp} {l : Addr} {xs : List V} {i : Int} {t : Tok} {k : Nat} {Q : Unit → Shared → Prop} (I : Inv X pins σ H s) (hH : H l = some (.lst xs))
    (h1 : -(2 ^ 63) ≤ i) (h2 : i < 2 ^ 63) (hk : seqIndex? i xs.length = some k) (h : ∀ s', Inv X pins σ (upd H l (.lst (xs.eraseIdx k))) s' → Q () s') :
    wpAny (model X.prog X.w) X.A (delItem (.ref l) (.int i t)) Q X.xe s := by
  obtain ⟨z, its, n, r, hl, e⟩ := I.lstM hH
  refine PySem.P.delItem_list (k := k) e (fitsIndex_both h1 h2) (by rw [List.size_toArray, ← hl]; exact hk) (h _ ?_) (by rw [List.size_toArray]; omega)
  refine I.lset (its' := its.eraseIdx k) (t' := s.toks) hH e ?_ (r.eraseIdx k) ?_
  · show its.toArray.eraseIdxIfInBounds k = (its.eraseIdx k).toArray
    rw [List.eraseIdxIfInBounds_toArray]
  · have := len_erase xs k
    omega
end

/-! ### xs[a:b] = ys -/
section
variable {prog : Program} {w : World} {A : Around} {E : Value → Shared → Prop} {s : Shared}
theorem splice_eq (its its2 : List Value) (a c : Nat) : its.toArray.extract 0 a ++ its2.toArray ++ its.toArray.extract c its.toArray.size = (its.take a ++ its2 ++ its.drop c).toArray := by
  apply Array.toList_inj.mp
  first
    | (simp
       exact List.take_of_length_le (by simp))
    | simp [List.take_of_length_le]
    | simp
theorem bounds_run {a c n : Nat} (hac : a ≤ c) (hc : c ≤ n) : sliceBounds (some (a : Int)) (some (c : Int)) none n = ((a : Int), (c : Int), 1) := by
  simp only [sliceBounds, Option.getD_none]
  have h1 : ¬ ((a : Int) < 0) := by omega
  have h2 : ¬ ((c : Int) < 0) := by omega
  simp only [h1, h2, if_false, show (1 : Int) > 0 by decide, if_true]
  congr 1
  · omega
  · congr 1; omega
set_option maxRecDepth 100000 in
/-- list.__setitem__ with a slice of step one and another list -/
theorem setItem_slice {l b sl : Addr} {items new : Array Value} {n n2 : Nat} {vl vu : Value} {a c : Nat} {Q : Unit → Shared → Prop}
    (e : s.heap.get? l = some { cls := .type "list", data := .seq items n }) (e2 : s.heap.get? b = some { cls := .type "list", data := .seq new n2 }) (hne : l ≠ b)
    (hs : s.heap.IsSliceOf sl vl vu .none) (pl : IsPart vl (some (a : Int))) (pu : IsPart vu (some (c : Int))) (hac : a ≤ c) (hc : c ≤ items.size)
    (hsz : items.size + new.size ≤ sizeLine) (h : Q () { s with heap := s.heap.update l (Obj.mapSeq fun xs => xs.extract 0 a ++ new ++ xs.extract c xs.size) }) :
    wpAny (model prog w) A (setItem (.ref l) (.ref sl) (.ref b)) Q E s := by
  have hl : s.heap.IsList l items := PySem.IsL.isList e
  have hb : s.heap.IsList b new := PySem.IsL.isList e2
  obtain ⟨os, hos, hcs, hds⟩ := id hs
  have hTs : s.TypeIs (.ref sl) "slice" := ⟨os, hos, hcs⟩
  have hstep : ¬ ((rawPart none == rawInt 0) = true) := Bool.false_ne_true
  have hsame : Builtin.List.listSameRef (.ref l) (.ref b) = false := by
    unfold Builtin.List.listSameRef
    exact beq_eq_false_iff_ne.mpr hne
  have hmax : (max (a : Int) (c : Int)).toNat = c := by omega
  have hz' : ((fun xs : Array Value => xs.extract 0 a ++ new ++ xs.extract c xs.size) items).size ≤ sizeLine + 1 := by
    simp only [Array.size_append, Array.size_extract]
    omega
  unfold setItem
  try with_reducible refine wpAny_holding ?_
  first | refine wpAny_bind (wpAny_pure ?_) | skip
  refine wpAny_bind (wpAny_sequenceKey hl.typeIs (by decide) ?_)
  refine wpAny_bind (wpAny_callSpecial?_slot (name := Str.ofString "__setitem__") hl.typeIs slot_list_setitem
    (wpAny_call_entry slot_list_setitem hl.typeIs entry_list_setitem ?_ (args_list_setitem _ _ _)))
  show wpAny _ _ (Builtin.List.listSubscript? (.ref sl) >>= _) _ _ s
  refine wpAny_bind ?_
  unfold Builtin.List.listSubscript?
  refine wpAny_bind (wpAny_specialOf hTs slice_no_index ?_)
  simp only [Option.isNone_none, if_true]
  refine wpAny_pure ?_
  show wpAny _ _ (typeOf (.ref sl) >>= _) _ _ s
  refine wpAny_bind (wpAny_typeOf hTs ?_)
  first
    | rw [if_neg (by decide)]
    | refine PySem.W.KFB.if_not (by decide) ?_
  rw [listSliceParts_eq]
  refine wpAny_bind (wpAny_bind (wpAny_field hos hds (x := .none) rfl (wpAny_bind (wpAny_listPart .none ?_))))
  rw [if_neg hstep]
  refine wpAny_bind (wpAny_field hos hds (x := vl) rfl (wpAny_bind (wpAny_listPart pl ?_)))
  refine wpAny_bind (wpAny_field hos hds (x := vu) rfl (wpAny_bind (wpAny_listPart pu (wpAny_pure ?_))))
  first
    | simp only [hsame, Bool.false_eq_true, if_false]
    | refine PySem.W.KFB.if_not hsame ?_
    | (dsimp only
       rw [if_neg (by rw [hsame]; exact Bool.false_ne_true)])
  refine wpAny_bind (m := Builtin.List.listAllItems (.ref b) "must assign iterable to extended slice") ?_
  unfold Builtin.List.listAllItems
  refine wpAny_bind (wpAny_typeOf hb.typeIs ?_)
  first
    | refine PySem.W.KFB.if_so (by decide) ?_
    | rw [if_pos (by decide)]
    | simp only [beq_self_eq_true, Bool.true_or, if_true]
  unfold Builtin.List.listItems
  refine wpAny_bind (wpAny_seqItems e2 rfl (wpAny_pure ?_))
  refine wpAny_bind (wpAny_bind (wpAny_seqItems e rfl (wpAny_pure ?_)))
  refine wpAny_bind (wpAny_of_eq ((sliceIndices_raw (some (a : Int)) (some (c : Int)) none items.size (by simp)).trans (congrArg (pure : Int × Int × Int → Sem (Int × Int × Int)) (bounds_run hac hc))) ?_)
  show wpAny _ _ (if ((1 : Int) == 1) = true then _ else _) _ _ s
  rw [if_pos (by decide)]
  refine wpAny_bind (wpAny_rule ?_)
  first
    | simp only [notLongL hsz, Bool.false_eq_true, if_false]
    | refine PySem.W.KFB.if_not (notLongL hsz) ?_
  first | refine wpAny_bind (wpAny_pure ?_) | skip
  show wpAny _ _ (updateSeq l (fun xs => xs.extract 0 ((a : Int)).toNat ++ new ++ xs.extract (max (a : Int) (c : Int)).toNat xs.size) >>= _) _ _ s
  rw [hmax, Int.toNat_natCast]
  refine wpAny_bind (wpAny_updateSeq (hz := Nat.le_trans (Nat.le_add_right _ _) hsz) (_hz' := hz') e rfl ?_)
  refine wpAny_bind (wpAny_letGo ?_)
  first
    | exact wpAny_bind (wpAny_pure (wpAny_pure ⟨.none, rfl, wpAny_pure h⟩))
    | exact wpAny_pure ⟨.none, rfl, wpAny_pure h⟩
end

section
variable {X : Cx}
/-- xs[a:c] = ys of another list, at the value level: sl is the slice object that was just made -/
theorem set_slice {pins : List (Addr × Obj)} {s : Shared} {σ : St} {H : Hp} {l b sl : Addr} {xs ys : List V} {a c : Int} {vl vu : Value} {Q : Unit → Shared → Prop} (I : Inv X pins σ H s)
    (hH : H l = some (.lst xs)) (hB : H b = some (.lst ys)) (hne : l ≠ b) (hs : s.heap.IsSliceOf sl vl vu .none) (ra : RelV (.int a) vl) (rc : RelV (.int c) vu) (h0 : 0 ≤ a) (hac : a ≤ c) (hc : c ≤ xs.length)
    (hz : xs.length + ys.length ≤ sizeLine) (h : ∀ s', Inv X pins σ (upd H l (.lst (xs.take a.toNat ++ ys ++ xs.drop c.toNat))) s' → Q () s') :
    wpAny (model X.prog X.w) X.A (setItem (.ref l) (.ref sl) (.ref b)) Q X.xe s := by
  obtain ⟨ta, rfl⟩ := ra
  obtain ⟨tc, rfl⟩ := rc
  obtain ⟨z, its, n, r, hl, e⟩ := I.lstM hH
  obtain ⟨z2, its2, n2, r2, hl2, e2⟩ := I.lstM hB
  obtain ⟨a', rfl⟩ := Int.eq_ofNat_of_zero_le h0
  obtain ⟨c', rfl⟩ := Int.eq_ofNat_of_zero_le (Int.le_trans h0 hac)
  simp only [Int.toNat_natCast] at h
  refine setItem_slice (a := a') (c := c') e e2 hne hs (.int _ _) (.int _ _) (by omega) (by rw [List.size_toArray]; omega) (by rw [List.size_toArray, List.size_toArray]; omega) (h _ ?_)
  refine I.lset (its' := its.take a' ++ its2 ++ its.drop c') (t' := s.toks) hH e ?_ (Vals.append (Vals.append (r.take _) r2) (r.drop _)) ?_
  · exact splice_eq its its2 a' c'
  · rw [List.length_append, List.length_append, List.length_take, List.length_drop]
    omega
end
end L2

namespace Att
open PySem PySem.W PySem.Calls PyProof.Rows

/-! ### the script -/
theorem ints_of_wellAll {P : Params} {h : Heap} : ∀ (ns : List Int) (vs : List Value), WellAll P h vs (ns.map WData.int) → IntsAre vs ns := by
  intro ns
  induction ns with
  | nil =>
    intro vs w
    rw [List.map_nil] at w
    cases w
    exact .nil
  | cons n ns ih =>
    intro vs w
    rw [List.map_cons] at w
    cases w with
    | cons a b =>
      cases a
      exact .cons _ _ (ih _ b)

theorem script_of {l : OpenLaw} {n : Nat} (hn : l.most = some n) {P : Params} {h : Heap} {args : List WData} {vals : List Value}
    (hpre : l.row.toRowW.claim.pre args = true) (hwl : WellAll P h vals args) :
    ∃ a vs ns, vals = [Value.ref a] ∧ args = [WData.list (ns.map WData.int)] ∧ h.get? a = some { cls := .type "list", data := .seq vs.toArray } ∧ IntsAre vs ns ∧ ns.length ≤ n := by
  have hsh : WShape.hasAll [] args [.list .int] = true := (pre_splitW hpre).1
  have hc : l.pre.holds [] { args := args } = true := (pre_splitW hpre).2
  obtain ⟨d, r, rfl, h1, h2⟩ := hasAllW_cons hsh
  obtain rfl := hasAllW_nil h2
  obtain ⟨xs, rfl, h3⟩ := hasW_list h1
  obtain ⟨ns, rfl⟩ := items_int h3
  have hlen : ns.length ≤ n := by
    unfold OpenLaw.pre at hc
    have h4 : (WTm.not (.lt (.lit (.int (n : Int))) (.len (.arg 0)))).holds [] { args := [.list (ns.map .int)] } = true := by
      have h4 := (holds_andW hc).1
      rw [hn] at h4
      exact h4
    have h5 := condW_of h4 (w_not (w_lt w_lit (w_len_list (w_arg rfl))))
    rw [List.length_map] at h5
    refine Nat.le_of_not_lt fun q => ?_
    have q' : (n : Int) < ((ns.length : Nat) : Int) := by omega
    first
      | (rw [decide_eq_true q'] at h5; exact absurd h5 (by decide))
      | (simp at h5; omega)
  cases hwl with
  | cons w1 w2 =>
    cases w2
    cases w1 with
    | list ho hall => exact ⟨_, _, ns, rfl, rfl, ho, ints_of_wellAll ns _ hall, hlen⟩

theorem post_true (l : OpenLaw) (args : List WData) : l.row.toRowW.claim.post args (.bool true) args = true :=
  postW_of (r := l.row.toRowW) (X := (true == true))
    (show WShape.has [] (.bool true) .bool = true by first | rfl | decide | simp [WShape.has, WShape.arms, WShape.armsAll])
    (show (WTm.eq .res (.lit (.bool true))).value [] { args := args, res := some (.bool true), after := args } = some (.bool (true == true)) from w_eq_bool (w_res rfl) w_lit) rfl

/-! ### the attachment: holds_open's last premise (the goal 'hc' behind k_head) from a wpAny of the law's body -/
theorem attach {l : OpenLaw} {n : Nat} {q : Program} {loose : List Str} {XP : (Str → Option Value) → Heap → Prop} {YP : World → Heap → Prop} {d : DefRec} {x : Str}
    (hn : l.most = some n) (hdf : d.params.defaults = [])
    (hbind : ∀ pm cd doc v : Value, bindArgs (docDef d.name d.params d.body d.scope pm cd doc) ⟨[v], []⟩ = pure [(x, v)])
    (hx : d.scope.names.lookup x = some .local ∨ d.scope.names.lookup x = some .cell)
    (hk : d.scope.kind = .function) (hco : d.scope.isCoroutine = false) (hgen : d.scope.isGenerator = false)
    (body : ∀ (w : World) (s₀ s₁ s : Shared) (mg mb : Str → Option Value) (fa : Addr) (o : Obj) (pm cd doc : Value) (a : Addr) (vs : List Value) (ns : List Int),
      Ground q loose [] XP w s₀ mg mb s₁.heap → YP w s₁.heap →
      s₁.heap.get? fa = some o → o.data = .func (docDef d.name d.params d.body d.scope pm cd doc) → s₁.heap.CodeRec cd d.name → mg d.name = some (.ref fa) →
      s₁.heap.get? a = some { cls := .type "list", data := .seq vs.toArray } → IntsAre vs ns → ns.length ≤ n →
      s.gens = #[] → s.os = s₁.os →
      Fr s₁.heap s₁.heap.objs.size s.heap (bindL (envOfC d.name d.scope s₁.heap.objs.size fa cd).kindOf [(x, .ref a)] fun _ => none) →
      Cl s₁.heap.objs.size (cellsFrom (s₁.heap.objs.size + 1) d.scope.names []) s.heap (bindC (envOfC d.name d.scope s₁.heap.objs.size fa cd).kindOf [(x, .ref a)] fun _ => none) →
      wpAny (model l.prog w) (callerA.deeper (envOfC d.name d.scope s₁.heap.objs.size fa cd)) (execs d.body (envOfC d.name d.scope s₁.heap.objs.size fa cd))
        (fun f s' => f = .ret (.bool true) ∧ OldK s₁.heap s'.heap ∧ s'.os = s₁.os ∧ AllBare s'.gens) (fun _ _ => False) s) :
    WalkO q loose XP YP l.row.toRowW d [] (fun f vs => PySem.call f vs) := by
  intro w s₀ s₁ mg mb G Y fa o pm cd doc dV kV ho hd hcd hD hmg hg args vals as hpre hlay hrd hwl hlo
  obtain rfl : dV = .none := Dflts.none hD hdf
  obtain rfl : kV = .none := Dflts.noKw hD
  obtain ⟨a, vs, ns, rfl, rfl, hobj, hints, hlen⟩ := script_of hn hpre hwl
  refine enter_call ?_
  refine call_cells_ret (o := o) (by rw [depth_caller]; decide) ho (fd_plain hd) G.T.nolimit hcd (hbind pm cd doc (.ref a)) (fun y hy => ?_) (fun h₁ tk F X => ?_) hco hgen hk
  · obtain rfl : y = (x, Value.ref a) := List.mem_singleton.mp hy
    rcases hx with e | e
    · exact .inl e
    · exact .inr ⟨e, cellsFrom_some _ _ _ (.inl e)⟩
  · refine wpAny_mono (body w s₀ s₁ { s₁ with heap := h₁, toks := tk } mg mb fa o pm cd doc a vs ns G Y ho (fd_plain hd) hcd hmg hobj hints hlen hg rfl F X) (fun f s' hq => ?_) (fun _ _ hq => hq)
    obtain ⟨rfl, h2, h3, h4⟩ := hq
    exact ⟨.inl ⟨.bool true, .bool true, [], rfl, fun _ => rfl, .bool true, post_true l _, fun _ => ⟨List.Pairwise.nil, fun _ hm => (nomatch hm)⟩⟩, h2, h3, h4⟩

/-- the same from a codeAny of the CALL (for a layer whose function contracts speak of calls) -/
theorem attach_call {l : OpenLaw} {n : Nat} {q : Program} {loose : List Str} {XP : (Str → Option Value) → Heap → Prop} {YP : World → Heap → Prop} {d : DefRec}
    (hn : l.most = some n) (hdf : d.params.defaults = [])
    (call : ∀ (w : World) (s₀ s₁ : Shared) (mg mb : Str → Option Value) (fa : Addr) (o : Obj) (pm cd doc : Value) (a : Addr) (vs : List Value) (ns : List Int),
      Ground q loose [] XP w s₀ mg mb s₁.heap → YP w s₁.heap →
      s₁.heap.get? fa = some o → o.data = .func (docDef d.name d.params d.body d.scope pm cd doc) → s₁.heap.CodeRec cd d.name → mg d.name = some (.ref fa) →
      s₁.heap.get? a = some { cls := .type "list", data := .seq vs.toArray } → IntsAre vs ns → ns.length ≤ n → s₁.gens = #[] →
      codeAny (model l.prog w) callerA (.call (.ref fa) ⟨[.ref a], []⟩) (fun r s' => r = .ok (.ret (.bool true)) ∧ OldK s₁.heap s'.heap ∧ s'.os = s₁.os ∧ AllBare s'.gens) s₁) :
    WalkO q loose XP YP l.row.toRowW d [] (fun f vs => PySem.call f vs) := by
  intro w s₀ s₁ mg mb G Y fa o pm cd doc dV kV ho hd hcd hD hmg hg args vals as hpre hlay hrd hwl hlo
  obtain rfl : dV = .none := Dflts.none hD hdf
  obtain rfl : kV = .none := Dflts.noKw hD
  obtain ⟨a, vs, ns, rfl, rfl, hobj, hints, hlen⟩ := script_of hn hpre hwl
  refine enter_call (codeAny_mono (call w s₀ s₁ mg mb fa o pm cd doc a vs ns G Y ho (fd_plain hd) hcd hmg hobj hints hlen hg) fun r s' hq => ?_)
  obtain ⟨rfl, h2, h3, h4⟩ := hq
  exact ⟨.inl ⟨.bool true, .bool true, [], rfl, fun _ => rfl, .bool true, post_true l _, fun _ => ⟨List.Pairwise.nil, fun _ hm => (nomatch hm)⟩⟩, h2, h3, h4⟩

/-- the same where the top left finished generators (o_head chose holds_openN): nothing may have changed at all and no generator may be left -/
theorem attachN {l : OpenLaw} {n : Nat} {q : Program} {loose : List Str} {XP : (Str → Option Value) → Heap → Prop} {YP : World → Heap → Prop} {d : DefRec} {x : Str}
    (hn : l.most = some n) (hdf : d.params.defaults = [])
    (hbind : ∀ pm cd doc v : Value, bindArgs (docDef d.name d.params d.body d.scope pm cd doc) ⟨[v], []⟩ = pure [(x, v)])
    (hx : d.scope.names.lookup x = some .local ∨ d.scope.names.lookup x = some .cell)
    (hk : d.scope.kind = .function) (hco : d.scope.isCoroutine = false) (hgen : d.scope.isGenerator = false)
    (body : ∀ (w : World) (s₀ s₁ s : Shared) (mg mb : Str → Option Value) (fa : Addr) (o : Obj) (pm cd doc : Value) (a : Addr) (vs : List Value) (ns : List Int),
      Ground q loose [] XP w s₀ mg mb s₁.heap → YP w s₁.heap →
      s₁.heap.get? fa = some o → o.data = .func (docDef d.name d.params d.body d.scope pm cd doc) → s₁.heap.CodeRec cd d.name → mg d.name = some (.ref fa) →
      s₁.heap.get? a = some { cls := .type "list", data := .seq vs.toArray } → IntsAre vs ns → ns.length ≤ n →
      s.gens = #[] → s.os = s₁.os →
      Fr s₁.heap s₁.heap.objs.size s.heap (bindL (envOfC d.name d.scope s₁.heap.objs.size fa cd).kindOf [(x, .ref a)] fun _ => none) →
      Cl s₁.heap.objs.size (cellsFrom (s₁.heap.objs.size + 1) d.scope.names []) s.heap (bindC (envOfC d.name d.scope s₁.heap.objs.size fa cd).kindOf [(x, .ref a)] fun _ => none) →
      wpAny (model l.prog w) (callerA.deeper (envOfC d.name d.scope s₁.heap.objs.size fa cd)) (execs d.body (envOfC d.name d.scope s₁.heap.objs.size fa cd))
        (fun f s' => f = .ret (.bool true) ∧ (∀ b o, s₁.heap.get? b = some o → s'.heap.get? b = some o) ∧ s'.os = s₁.os ∧ s'.gens = #[]) (fun _ _ => False) s) :
    WalkN q loose XP YP l.row.toRowW d [] (fun f vs => PySem.call f vs) := by
  intro w s₀ s₁ mg mb G Y fa o pm cd doc dV kV ho hd hcd hD hmg hg args vals as hpre hlay hrd hwl hlo
  obtain rfl : dV = .none := Dflts.none hD hdf
  obtain rfl : kV = .none := Dflts.noKw hD
  obtain ⟨a, vs, ns, rfl, rfl, hobj, hints, hlen⟩ := script_of hn hpre hwl
  refine enter_callW ?_
  refine call_cells_ret (o := o) (by rw [depth_caller]; decide) ho (fd_plain hd) G.T.nolimit hcd (hbind pm cd doc (.ref a)) (fun y hy => ?_) (fun h₁ tk F X => ?_) hco hgen hk
  · obtain rfl : y = (x, Value.ref a) := List.mem_singleton.mp hy
    rcases hx with e | e
    · exact .inl e
    · exact .inr ⟨e, cellsFrom_some _ _ _ (.inl e)⟩
  · refine wpAny_mono (body w s₀ s₁ { s₁ with heap := h₁, toks := tk } mg mb fa o pm cd doc a vs ns G Y ho (fd_plain hd) hcd hmg hobj hints hlen hg rfl F X) (fun f s' hq => ?_) (fun _ _ hq => hq)
    obtain ⟨rfl, h2, h3, h4⟩ := hq
    exact ⟨.inl ⟨.bool true, .bool true, [], rfl, fun _ => rfl, .bool true, post_true l _, fun _ => ⟨List.Pairwise.nil, fun _ hm => (nomatch hm)⟩⟩, h2, h3, h4⟩

/-! ### rules over ANY heap (no ledger) from facts about the written part K: the library's own take a ledger (News) for what they write -/
section
variable {prog : Program} {w : World} {A : Around} {E : Value → Shared → Prop} {s : Shared} {K : Frag}

/-- a def of the module, or a method (qual 'C.m'), entered: the frame is the next address; cells behind it -/
theorem call_fn {R : Result → Shared → Prop} {name qual : Str} {params : Arguments} {body : List Stmt} {scope : Scope} {dV kV doc pm cdv ct oc : Value} {an od : Option Addr} {osl : Array (Option Value)} {f : Addr} {args : Args} {binds : List (Str × Value)}
    (X : K.In s.heap) (hlim : s.heap.NoLimit) (ho : K.lookup f = some ⟨oc, od, .func (fnOf name qual params body scope dV kV doc pm an cdv ct), osl⟩) (hcd : codeIn K cdv qual = true) (hroom : A.depth < recursionLimit)
    (hbind : BindsTo s (fnOf name qual params body scope dV kV doc pm an cdv ct) args binds)
    (hkind : (binds.all fun y => scope.names.lookup y.1 == some .local || scope.names.lookup y.1 == some .cell) = true)
    (h : ∀ s₁, InCallC s s.heap.objs.size (bindL (envOfC qual scope s.heap.objs.size f cdv).kindOf binds fun _ => none) (cellsFrom (s.heap.objs.size + 1) scope.names [])
        (bindC (envOfC qual scope s.heap.objs.size f cdv).kindOf binds fun _ => none) s₁ →
      wpAny (model prog w) (A.deeper (envOfC qual scope s.heap.objs.size f cdv)) (execs body (envOfC qual scope s.heap.objs.size f cdv))
        (fun fl s' => R (.ok (.ret (match fl with | .ret v => v | _ => .none))) s')
        (fun e s' => wpAny (model prog w) (A.deeper (envOfC qual scope s.heap.objs.size f cdv)) (leaving (envOfC qual scope s.heap.objs.size f cdv) e) (fun _ s'' => R (.error e) s'') (fun e' s'' => R (.error e') s'') s') s₁)
    (hco : scope.isCoroutine = false) (hgen : scope.isGenerator = false) (hk : scope.kind = .function) : codeAny (model prog w) A (.call (.ref f) args) R s := by
  refine codeAny_call_function hroom (X _ _ ho) rfl hco hgen rfl (codeRec_of X hcd) (hbind _ _ _ _ ?_)
  refine wpAny_newFunctionEnv_cells hk (kindsX hkind _) fun env he s₁ x => ?_
  subst he
  exact ⟨hlim.keeps x.toInCall.keep, codeAny_func (h s₁ x)⟩

/-- C(..): dict at size, instance at size + 1, then __init__ -/
theorem make_obj {R : Result → Shared → Prop} {C fI : Addr} {rest : List Value} {kw : List (Str × Value)}
    (X : K.In s.heap) (hm : makesIn K C = true) (hi : findIn K (.ref C) "__init__" = some (some (.ref fI))) (hf : isFn K (.ref fI) = true)
    (h : codeAny (model prog w) (A.under (.builtin "type.__call__" ⟨.ref C :: rest, kw⟩)) (.call (.ref fI) ⟨.ref (s.heap.objs.size + 1) :: rest, kw⟩) (InitBack (s.heap.objs.size + 1) R)
      { s with heap := (s.heap.push emptyDict).push (instObj C s.heap.objs.size) }) : codeAny (model prog w) A (.call (.ref C) ⟨rest, kw⟩) R s := by
  obtain ⟨hh, g, d, t, os⟩ := s
  exact make_core (makes_of X hm) (looks_findIn X hi) (fun self => bind_fn X self (beq_iff_eq.mp hf)) (.inl rfl) h

/-- x.name where the instance's dict holds the name and the class does not -/
theorem get_field {x C : Addr} {ox : Obj} {es : List DictEntry} {n : Nat} {name : Str} {expr : Bool} {v : Value} {Q : Value → Shared → Prop}
    (X : K.In s.heap) (I : PySem.W.InstAt s.heap x ox C (some (dictOf es n))) (hg : plainGet K C name = true) (hh : hasDictIn K C = true) (ha : findIn K (.ref C) name = some none)
    (hl : getL name es = some (some v)) (hv : handedIn v = true) (h : Q v { s with toks := s.toks + 1 }) : wpAny (model prog w) A (getAttr (.ref x) name expr) Q E s :=
  get_value X I (plainGet_of hg).1 (findObj_own hh ha rfl hl) hv h

/-- x.m(..): the method found in the class -/
theorem get_method {x C f : Addr} {ox : Obj} {es : List DictEntry} {n : Nat} {name : Str} {pl : Sem Bool} {Q : Value × List Value → Shared → Prop}
    (X : K.In s.heap) (I : PySem.W.InstAt s.heap x ox C (some (dictOf es n))) (hg : plainGet K C name = true) (hf : findIn K (.ref C) name = some (some (.ref f))) (ht : isFn K (.ref f) = true)
    (hl : getL name es = some none) (h : Q (.ref f, [.ref x]) s) : wpAny (model prog w) A (getMethod (.ref x) name pl) Q E s :=
  method_fn X I (plainGet_of hg).1 (plainGet_of hg).2 hf (beq_iff_eq.mp ht) (by show (lookIn name (dictOf es n)).map _ = _; rw [lookIn_dict, hl]; rfl) h

/-! the whole heap as the ledger: makes every rule that writes through a ledger a rule over any heap -/
def noObjs (h : Heap) : Heap := { h with objs := #[] }
theorem noObjs_get (h : Heap) (b : Addr) : (noObjs h).get? b = none := by
  cases e : (noObjs h).get? b with
  | none => rfl
  | some o => exact absurd (Heap.lt_size e) (Nat.not_lt_zero _)
def ledger (h : Heap) (L d : Addr) : List (Addr × Obj) := (List.range h.objs.size).filterMap fun a => if a = L ∨ a = d then none else (h.get? a).map fun o => (a, o)
theorem mem_ledger {h : Heap} {L d a : Addr} {o : Obj} : (a, o) ∈ ledger h L d ↔ a ≠ L ∧ a ≠ d ∧ h.get? a = some o := by
  unfold ledger
  rw [List.mem_filterMap]
  constructor
  · rintro ⟨b, _, e⟩
    split at e
    · cases e
    · rename_i hb
      obtain ⟨o', ho, e'⟩ := Option.map_eq_some_iff.mp e
      cases e'
      exact ⟨fun q => hb (.inl q), fun q => hb (.inr q), ho⟩
  · rintro ⟨n1, n2, ho⟩
    refine ⟨a, List.mem_range.mpr (Heap.lt_size ho), ?_⟩
    rw [if_neg (show ¬ (a = L ∨ a = d) from fun q => q.elim n1 n2), ho] <;> rfl
theorem news_ledger {h : Heap} {L d : Addr} {od : Obj} (hne : d ≠ L) (ho : h.get? d = some od) : News (noObjs h) L h ([] ++ (d, od) :: ledger h L d) := by
  rintro ⟨a, o⟩ hp
  rcases List.mem_cons.mp hp with e | hp
  · cases e
    exact ⟨ho, hne, noObjs_get _ _⟩
  · obtain ⟨n1, n2, e⟩ := mem_ledger.mp hp
    exact ⟨e, n1, noObjs_get _ _⟩
theorem fr_all {h : Heap} {L : Addr} {m : Str → Option Value} (n : h.Ns L m) : Fr (noObjs h) L h m :=
  ⟨n, fun b o e => (by rw [noObjs_get] at e; cases e), Nat.zero_le _⟩
/-- Upd of the head entry (for append_K, setItem_K ..) -/
theorem upd_ledger {h : Heap} {L d : Addr} {o o' : Obj} : Upd d o o' ((d, o) :: ledger h L d) ((d, o') :: ledger h L d) :=
  .head fun ⟨_, _⟩ hp => (mem_ledger.mp hp).2.1

/-- x.name = v over any heap: L is any namespace of the heap (the frame's, say): its map stays, its object is not told; all else but the dict stays -/
theorem set_field {x C dx L : Addr} {ox : Obj} {m : Str → Option Value} {es es' : List DictEntry} {n n' : Nat} {name : Str} {v : Value} {Q : Unit → Shared → Prop}
    (X : K.In s.heap) (I : PySem.W.InstAt s.heap x ox C (some (dictOf es n))) (hd : ox.dict = some dx) (hL : s.heap.Ns L m) (hne : dx ≠ L)
    (hs : findIn K (.ref C) "__setattr__" = some (some (.builtin "object.__setattr__"))) (hp : plainOver K C = true) (ht : takerIn K C name = some none) (hh : hasDictIn K C = true) (hl : (getL name es).isSome = true)
    (e : (putL name (PyData.keyHash w.params name) (.str name (s.toks + 1)) v es, putN name es n) = (es', n')) (hz : es'.length ≤ 1000)
    (h : ∀ h' : Heap, h'.Ns L m → h'.get? dx = some (dictOf es' n') → (∀ b o, b ≠ dx → b ≠ L → s.heap.get? b = some o → h'.get? b = some o) → Q () { s with heap := h', toks := s.toks + 2 }) :
    wpAny (model prog w) A (setAttr (.ref x) name v) Q E s := by
  obtain ⟨e1, e2⟩ := Prod.mk.inj e
  have hdx : s.heap.get? dx = some (dictOf es n) := by
    have := I.dict
    rw [hd] at this
    exact this
  refine set_plain X I hs (osa_dict (s := { s with toks := s.toks + 1 }) (h₀ := noObjs s.heap) (L := L) (m := m) (od := dictOf es n) (od' := dictOf es' n') (es := es') (n := n') (pre := []) (post := ledger s.heap L dx)
    (fr_all hL) (news_ledger hne hdx) X I hd hp ht hh hl (fun _ q => nomatch q) (fun ⟨_, _⟩ q => (mem_ledger.mp q).2.1) (by rw [putName_dict, e1, e2]) rfl hz fun h' F' N' => ?_)
  exact h h' F'.ns (N'.get (List.Mem.head _)) fun b o n1 n2 ho => N'.get (List.Mem.tail _ (mem_ledger.mpr ⟨n2, n1, ho⟩))
end
end Att

namespace L2
open PySem PySem.Spec PyProof.Rows

theorem vals_ints : ∀ {vs : List Value} {ns : List Int}, IntsAre vs ns → Vals (ns.map V.int) vs
  | _, _, .nil => .nil
  | _, _, .cons n t h => .cons ⟨t, rfl⟩ (vals_ints h)

/-- nothing is tracked but the script, known to the object (or it is an object of the module) -/
def Only (H : Hp) : Prop := ∀ b, H b = none ∨ ∃ o xs, H b = some (.frz o (.lst xs))

/-- THE HEAD: the law's promise, at the heap behind the top. F, the promise of the law's def, may use that base is part of the heap (so K.In base, base.Ns mainGlobals mg stand in Mod) -/
theorem law_call {P : Program} {w : World} {K : PySem.W.Frag} {mg mb : Str → Option Value} {CX : CXT} {k : Nat} {fa a : Addr} {fd : FuncData} {x : Str} {sp : Sp} {s₁ : Shared} {vs : List Value} {ns : List Int}
    (KX : K.In s₁.heap) (hns : s₁.heap.Ns mainGlobals mg) (hb : s₁.heap.Ns builtinsNs mb) (hbb : ∀ x : Str, x ≠ "__name__" → mb x = bootBuiltins x) (hlim : s₁.heap.NoLimit) (hg : s₁.gens = #[])
    (ha : s₁.heap.get? a = some { cls := .type "list", data := .seq vs.toArray }) (hi : IntsAre vs ns) (hl : ns.length ≤ sizeLine) (hr : Room k callerA)
    (F : ∀ base : Heap, K.In base → base.Ns mainGlobals mg → FnOk P w K mg base CX k fa fd [x] sp) (hbind : ∀ (s : Shared) (u : Value), BindsTo s fd ⟨[u], []⟩ [(x, u)])
    (hsp : ∀ H : Hp, Only H → SqL K H a (ns.map V.int) → sp [.ref a] H (fun v _ => v = .bl true) fun _ _ _ => False)
    (hCX : ∀ H e s', CX [] H s₁ (fun _ _ _ => False) e s' → False) :
    codeAny (model P w) callerA (.call (.ref fa) ⟨[.ref a], []⟩) (fun r s' => r = .ok (.ret (.bool true)) ∧ OldK s₁.heap s'.heap ∧ s'.os = s₁.os ∧ AllBare s'.gens) s₁ := by
  have rv := vals_ints hi
  have lenV := hi.length
  -- from an abstract heap in which nothing but the script may be tracked
  have core : ∀ H : Hp, Only H → SqL K H a (ns.map V.int) → HOk P w H s₁.heap → (∀ b, H b ≠ none → b = a) → (H a ≠ none → K.lookup a = none) →
      codeAny (model P w) callerA (.call (.ref fa) ⟨[.ref a], []⟩) (fun r s' => r = .ok (.ret (.bool true)) ∧ OldK s₁.heap s'.heap ∧ s'.os = s₁.os ∧ AllBare s'.gens) s₁ := by
    intro H hO hS hok hA hK
    have base_of : ∀ {b : Addr} {o : Obj}, s₁.heap.get? b = some o → H b = none → (hidT s₁.heap H).get? b = some o := fun e n => hidT_get e n
    have noA : ∀ {b : Addr} {o : Obj} {es : Array DictEntry} {ep : Nat}, s₁.heap.get? b = some o → o.data = .dict es ep → H b = none := fun {b o es ep} e d => by
      cases q : H b with
      | none => rfl
      | some u =>
        have e' : b = a := hA b (by rw [q]; simp)
        subst e'
        rw [ha] at e; cases e
        have d' : Data.seq vs.toArray _ = Data.dict es ep := d
        cases d'
    have nsK : ∀ {b : Addr} {m : Str → Option Value}, s₁.heap.Ns b m → (hidT s₁.heap H).Ns b m := fun {b m} ⟨o, es, ep, e, d, r⟩ => ⟨o, es, ep, base_of e (noA e d), d, r⟩
    have hKb : K.In (hidT s₁.heap H) := fun b o e => base_of (KX b o e) (by
      cases q : H b with
      | none => rfl
      | some u =>
        have e' : b = a := hA b (by rw [q]; simp)
        subst e'
        rw [hK (by rw [q]; simp)] at e; cases e)
    have hM : Mod K mg (hidT s₁.heap H) := ⟨hKb, nsK hns, ⟨mb, nsK hb, hbb⟩, let ⟨mc, h1, h2⟩ := hlim; ⟨mc, nsK h1, h2⟩⟩
    have e0 : Env0 P w K mg (hidT s₁.heap H) callerA [] s₁ H := ⟨rfl, hM, fun b o e => of_hidT e, Nat.le_of_eq (hidT_size _ _), trivial, fun b hb => absurd (show b ∈ ([] : List Addr) from hb) (by simp), hok, .of_eq hg⟩
    refine codeAny_mono ((F _ hKb (nsK hns)).run callerA [] s₁ H ⟨[.ref a], []⟩ [.ref a] [.ref a] _ _ hr e0 (hbind s₁ (.ref a)) (.cons rfl .nil) (hsp H hO hS)) fun r s' h => ?_
    cases r with
    | error e => exact (hCX H e s' h).elim
    | ok fl =>
      cases fl with
      | next => exact False.elim h
      | brk => exact False.elim h
      | cont => exact False.elim h
      | ret u =>
        obtain ⟨v, H', os, bare, un, hok', r', q⟩ := h
        have q' : v = .bl true := q
        subst q'
        obtain rfl : u = Value.bool true := r'
        refine ⟨rfl, OldK.of_keep fun b o e => ?_, os, bare⟩
        cases q : H b with
        | none => exact un.keep b o e q (by intro z; exact absurd (show b ∈ ([] : List Addr) from z) (by simp)) (by simp)
        | some u =>
          rcases hO b with z | ⟨ob, xs, z⟩
          · rw [q] at z; cases z
          · have z2 := un.frzs b ob _ z
            obtain ⟨e1, _⟩ := hok b _ z
            obtain ⟨e2, _⟩ := hok' b _ z2
            rw [e] at e1; cases e1
            exact e2
  cases hk : K.lookup a with
  | some o =>
    -- the script is one of the module's own objects
    have e := KX a o hk
    rw [ha] at e
    cases e
    refine core (fun _ => none) (fun _ => .inl rfl) (.inr ⟨_, vs.toArray, _, hk, rfl, rfl, rfl, by rw [List.size_toArray, lenV]; exact hl, by simpa using rv⟩) (fun b u z => by have z' : (none : Option HO) = some u := z; cases z') (fun b z => absurd rfl z) fun z => absurd rfl z
  | none =>
    refine core (fun b => if b = a then some (.frz { cls := .type "list", data := .seq vs.toArray } (.lst (ns.map V.int))) else none) (fun b => ?_) (.inl (.inr ⟨{ cls := .type "list", data := .seq vs.toArray }, if_pos rfl⟩)) (fun b u z => ?_) (fun b z => ?_) fun _ => hk
    · by_cases hb : b = a
      · exact .inr ⟨_, _, if_pos hb⟩
      · exact .inl (if_neg hb)
    · by_cases hb : b = a
      · have z' := (if_pos hb).symm.trans z
        cases z'
        subst hb
        exact ⟨ha, by rw [List.length_map]; exact hl, vs, _, rv, ha⟩
      · have z' := (if_neg hb).symm.trans z
        cases z'
    · by_cases hb : b = a
      · exact hb
      · exact absurd (if_neg hb) z
end L2

namespace L2
open PySem PySem.Spec PyProof.Rows

abbrev KOf {K : PySem.W.Frag} {h : Heap} (_ : K.In h) : PySem.W.Frag := K

/-- the goal that k_head leaves (case hc), from the law's promise. F gives the function object fd (K's own) once, then the promise over every base -/
theorem walk_of {l : PySem.W.OpenLaw} {n k : Nat} {q : Program} {loose : List Str} {XP : (Str → Option Value) → Heap → Prop} {YP : World → Heap → Prop} {d : DefRec} {K : Params → PySem.W.Frag} {CX : World → CXT} {sp : World → Sp} {x : Str}
    (hn : l.most = some n) (hn2 : n ≤ sizeLine) (hdf : d.params.defaults = []) (hr : Room k callerA)
    (hY : ∀ (w : World) (h : Heap), YP w h → (K w.params).In h)
    (F : ∀ (w : World) (mg : Str → Option Value) (fa : Addr) (h : Heap), (K w.params).In h → h.Ns mainGlobals mg → mg d.name = some (.ref fa) →
      ∃ fd : FuncData, (∀ (s : Shared) (u : Value), BindsTo s fd ⟨[u], []⟩ [(x, u)]) ∧
        ∀ base : Heap, (K w.params).In base → base.Ns mainGlobals mg → FnOk l.prog w (K w.params) mg base (CX w) k fa fd [x] (sp w))
    (hsp : ∀ (w : World) (H : Hp) (a : Addr) (ns : List Int), ns.length ≤ n → Only H → SqL (K w.params) H a (ns.map V.int) → sp w [.ref a] H (fun v _ => v = .bl true) fun _ _ _ => False)
    (hCX : ∀ (w : World) (H : Hp) (s : Shared) (e : Value) (s' : Shared), CX w [] H s (fun _ _ _ => False) e s' → False) :
    PySem.W.WalkO q loose XP YP l.row.toRowW d [] (fun f vs => PySem.call f vs) := by
  refine Att.attach_call hn hdf fun w s₀ s₁ mg mb fa o pm cd doc a vs ns G Y ho hd hcd hmg hobj hints hlen hg => ?_
  have KX := hY w _ Y
  obtain ⟨fd, hb, hF⟩ := F w mg fa _ KX G.T.g hmg
  exact law_call KX G.T.g G.T.b G.T.builtins G.T.nolimit hg hobj hints (Nat.le_trans hlen hn2) hr hF hb (fun H hO hS => hsp w H a ns hlen hO hS) fun H e s' => hCX w H s₁ e s'
/-- the same where the promise hangs on the written part alone: (sp := My.sp_law), no hole under a binder -/
theorem walk_ofK {l : PySem.W.OpenLaw} {n k : Nat} {q : Program} {loose : List Str} {XP : (Str → Option Value) → Heap → Prop} {YP : World → Heap → Prop} {d : DefRec} {K : Params → PySem.W.Frag} {CX : CXT} {sp : PySem.W.Frag → Sp} {x : Str}
    (hn : l.most = some n) (hn2 : n ≤ sizeLine) (hdf : d.params.defaults = []) (hr : Room k callerA)
    (hY : ∀ (w : World) (h : Heap), YP w h → (K w.params).In h)
    (F : ∀ (w : World) (mg : Str → Option Value) (fa : Addr) (h : Heap), (K w.params).In h → h.Ns mainGlobals mg → mg d.name = some (.ref fa) →
      ∃ fd : FuncData, (∀ (s : Shared) (u : Value), BindsTo s fd ⟨[u], []⟩ [(x, u)]) ∧
        ∀ base : Heap, (K w.params).In base → base.Ns mainGlobals mg → FnOk l.prog w (K w.params) mg base CX k fa fd [x] (sp (K w.params)))
    (hsp : ∀ (K : PySem.W.Frag) (H : Hp) (a : Addr) (ns : List Int), ns.length ≤ n → Only H → SqL K H a (ns.map V.int) → sp K [.ref a] H (fun v _ => v = .bl true) fun _ _ _ => False)
    (hCX : ∀ (H : Hp) (s : Shared) (e : Value) (s' : Shared), CX [] H s (fun _ _ _ => False) e s' → False) :
    PySem.W.WalkO q loose XP YP l.row.toRowW d [] (fun f vs => PySem.call f vs) :=
  walk_of (K := K) (CX := fun _ => CX) (sp := fun w => sp (K w.params)) hn hn2 hdf hr hY F (fun w H a ns h1 h2 h3 => hsp (K w.params) H a ns h1 h2 h3) fun _ H s e s' => hCX H s e s'
end L2

/- THE LAST THEOREM (shape; LID, My.* are yours):
   My.Adr: a structure of the addresses that your layer names (classes, functions); My.Txt K t: a structure (Prop) of the equations over K;
   My.txt_mk : {K} {implicit addresses ..} (e1 : nsIn K mainGlobals "law" = some (some (.ref f))) (e2 : K.lookup f = some ⟨oc, od, .func (fnOf "law" "law" params body scope dV kV doc pm an cdv ct), sl⟩) (e3 : codeIn K cdv "law" = true) .. : ∃ t, My.Txt K t

set_option maxRecDepth 100000 in
set_option maxHeartbeats 0 in
theorem PySem.Challenge.cw_LID_holds : PySem.Challenge.rw_LID.Holds := by
  w_on; o_law; k_head; (case hw => w_witness2)
  k_fill
  refine L2.walk_of (l := PySem.Challenge.rw_LID) (n := 63) (k := 40) (x := "script") (CX := fun w => ..) (sp := fun _ => My.sp_law) rfl (by decide) rfl ⟨rfl, by decide, by decide⟩ (fun w h Y => PySem.W.kIn_of Y) ?F ?S ?C
  case F =>
    intro w mg fa h KX G hmg
    have T : ∃ t, My.Txt (L2.KOf KX) t := by
      dsimp only [L2.KOf]                          -- K must stand as «<heap const> w.params» for k_is
      refine' My.txt_mk ?e1 ?e2 ?e3 ..
      (case e1 => PySem.W.k_is)                    -- in the order: a name -> its address -> its object -> its parts
      (case e2 => PySem.W.k_is)
      ..
    obtain ⟨t, T⟩ := T
    have e0 := hmg.symm.trans (PySem.W.mg_of KX G T.law)
    cases e0                                       -- fa is the law's own address
    exact ⟨_, fun s u => .of_eq rfl, fun base kb nb => My.law_fn T kb nb⟩     -- if «.of_eq rfl» comes too early: refine' ⟨_, ?b, fun base kb nb => My.law_fn T kb nb⟩; exact fun s u => .of_eq rfl
  case S => exact fun w H a ns hl hO hS => ..
  case C => exact ..
(the tactic k_is has no namespace: write k_is) -/

/-! SHORT WORDS over the layer: a def of the text, its body, what a loop and a test want. -/
namespace L2
open PySem PySem.Spec PyProof.Rows

/-! ### the text by places -/
/-- the j-th statement of a class's body -/
def inClass (s : Stmt) (j : Nat) : Stmt := match s with
  | .ClassDef _ _ _ body _ _ _ _ _ _ _ => body.getD j (.Pass ⟨0, 0, 0, 0⟩)
  | _ => .Pass ⟨0, 0, 0, 0⟩
def defArgs (s : Stmt) : Arguments := match s with
  | .FunctionDef _ a _ _ _ _ _ _ _ _ => a
  | _ => { posonlyargs := [], args := [], vararg := none, kwonlyargs := [], kw_defaults := [], kwarg := none, defaults := [] }
def defBody (s : Stmt) : List Stmt := match s with
  | .FunctionDef _ _ b _ _ _ _ _ _ _ => b
  | _ => []
def defScope (s : Stmt) : Scope := match s with
  | .FunctionDef _ _ _ _ _ _ sc _ _ _ => sc
  | _ => { kind := .function, names := [], isGenerator := false, isCoroutine := false }

/-! ### no exception leaves a def -/
abbrev CX0 : CXT := fun _ _ _ _ _ _ => False
abbrev E0 : XK := fun _ _ _ => False
theorem pass0 {X : Cx} : Passes CX0 X E0 := fun _ _ _ _ _ _ _ h => h.elim

/-! ### a def (or method) of the text as it stands behind the top -/
structure Fun (K : PySem.W.Frag) (x qual : Str) (st : Stmt) (f : Addr) (fd : FuncData) : Prop where
  ex : ∃ (oc : Value) (od : Option Addr) (kV doc pm : Value) (an : Option Addr) (cdv ct : Value) (osl : Array (Option Value)),
    fd = PySem.W.fnOf x qual (defArgs st) (defBody st) (defScope st) .none kV doc pm an cdv ct ∧ K.lookup f = some ⟨oc, od, .func fd, osl⟩ ∧ PySem.W.codeIn K cdv qual = true
  kp : PySem.W.keepIn K (.ref f) = true
section
variable {P : Program} {w : World} {K : PySem.W.Frag} {mg : Str → Option Value} {base : Heap}
/-- THE RULE for a def: its body as a term of rules, and the reading of that term -/
theorem Fun.ok {x qual : Str} {st : Stmt} {f : Addr} {fd : FuncData} {N ps : List Str} {k : Nat} {sp : Sp} {c : Bool} (F : Fun K x qual st f fd) (S : FnScope N ps (defScope st)) (len : ∀ vs H Q E, sp vs H Q E → vs.length = ps.length)
    (hbody : ∀ (cdv : Value) (A : Around) (outer : List Env) (s : Shared) (H : Hp) (vs : List V) (Q : VK) (E : XK), Room k (A.deeper (envOfC qual (defScope st) s.heap.objs.size f cdv)) c → sp vs H Q E →
      ∃ t, PSs (cxOf CX0 P w K mg base N qual (defScope st) f cdv A outer s H E c).nox (defBody st) t ∧ t { nx := fun _ H' => Q .non H', rt := Q } (start N vs) H) : FnOk P w K mg base CX0 (k + 1) f fd ps sp c := by
  obtain ⟨oc, od, kV, doc, pm, an, cdv, ct, osl, rfl, lk, hcd⟩ := F.ex
  refine fn_of lk hcd S len fun A outer s H vs Q E hr hsp => ?_
  obtain ⟨t, h, q⟩ := hbody cdv A outer s H vs Q E hr hsp
  exact ⟨t, h.nox, q⟩
/-- how its arguments bind (no defaults): h is «fun _ _ _ _ _ _ us hl => match us, hl with | [_, _], _ => rfl», one _ a parameter -/
theorem Fun.binds {x qual : Str} {st : Stmt} {f : Addr} {fd : FuncData} {ps : List Str} (F : Fun K x qual st f fd)
    (h : ∀ (kV doc pm : Value) (an : Option Addr) (cdv ct : Value) (us : List Value), us.length = ps.length → bindArgs (PySem.W.fnOf x qual (defArgs st) (defBody st) (defScope st) .none kV doc pm an cdv ct) ⟨us, []⟩ = pure (ps.zip us)) : Binds K fd ps [] := by
  obtain ⟨oc, od, kV, doc, pm, an, cdv, ct, osl, rfl, lk, hcd⟩ := F.ex
  exact .all (h kV doc pm an cdv ct)
theorem fun_mk {x qual : Str} {st : Stmt} {f : Addr} {oc : Value} {od an : Option Addr} {osl : Array (Option Value)} {kV doc pm cdv ct : Value} (l : K.lookup f = some ⟨oc, od, .func (PySem.W.fnOf x qual (defArgs st) (defBody st) (defScope st) .none kV doc pm an cdv ct), osl⟩)
    (c : PySem.W.codeIn K cdv qual = true) (k : PySem.W.keepIn K (.ref f) = true) : Fun K x qual st f (PySem.W.fnOf x qual (defArgs st) (defBody st) (defScope st) .none kV doc pm an cdv ct) := ⟨⟨oc, od, kV, doc, pm, an, cdv, ct, osl, rfl, l, c⟩, k⟩
end
theorem hu_of {A : Around} {k : Nat} {c : Bool} (hr : Room k A c) : A.units + 1 < cLine := Nat.lt_of_le_of_lt (Nat.add_le_add_left (by decide : 1 ≤ 64) _) hr.units
theorem small1000 {n : Nat} (h : n ≤ 1000) : n < sizeLine := Nat.lt_of_le_of_lt h (by decide)

/-! ### expressions in short: the name that stands in the i-th slot -/
section
variable {X : Cx}
theorem pv (i : Nat) {x : Str} {pos : Pos} (hN : X.N[i]? = some x := by rfl) (hv : Vis X.env.scope x := by first | exact Or.inl rfl | exact Or.inr (Or.inl rfl) | exact Or.inr (Or.inr rfl)) (hd : (x == ("__debug__" : Str)) = false := by decide)
    (hcd : (x == ("__classdict__" : Str)) = false := by decide) : PE X (.Name x pos) (tVar i) := pe_var hN hv hd hcd
end

/-! ### tests -/
theorem iteF {A B : Prop} (h : B) : if false = true then A else B := by
  rw [if_neg Bool.false_ne_true]
  exact h
theorem iteT {A B : Prop} (h : A) : if true = true then A else B := by
  rw [if_pos rfl]
  exact h
theorem ite2 {c A B : Prop} [Decidable c] (h1 : c → A) (h2 : ¬ c → B) : if c then A else B := by
  by_cases h : c
  · rw [if_pos h]
    exact h1 h
  · rw [if_neg h]
    exact h2 h
theorem iteNS {c A B : Prop} [Decidable c] (hc : c) (h : B) : if (!decide c) = true then A else B := by
  rw [decide_eq_true hc]
  exact iteF h

/-! ### heaps -/
/-- all that was tracked is as it was -/
def Same (H H' : Hp) : Prop := ∀ b o, H b = some o → H' b = some o
theorem Same.refl (H : Hp) : Same H H := fun _ _ h => h
theorem Same.trans {H H1 H2 : Hp} (a : Same H H1) (b : Same H1 H2) : Same H H2 := fun c o h => b c o (a c o h)
theorem Same.free {H H' : Hp} (e : Same H H') {l : Addr} (h : H' l = Option.none) : H l = Option.none := by
  cases q : H l with
  | none => rfl
  | some o =>
    rw [e l o q] at h
    cases h
theorem Same.seq {K : PySem.W.Frag} {H H' : Hp} {a : Addr} {xs : List V} (e : Same H H') (h : SqL K H a xs) : SqL K H' a xs := by
  rcases h with (h | ⟨o, h⟩) | h
  · exact .inl (.inl (e _ _ h))
  · exact .inl (.inr ⟨o, e _ _ h⟩)
  · exact .inr h

end L2
namespace L2
open PySem PySem.Spec PyProof.Rows

/-! ### no exception -/
abbrev NoX : Value → Shared → Prop := fun _ _ => False
theorem noX {α : Type} {M : Model} {A : Around} {t : Sem α} {Q : α → Shared → Prop} {E : Value → Shared → Prop} {s : Shared} (h : wpAny M A t Q NoX s) : wpAny M A t Q E s := wpAny_mono h (fun _ _ q => q) fun _ _ z => z.elim

/-! ### a comprehension's turns -/
abbrev tstSem (ifs : List Expr) (env : Env) : Sem Bool := forIn ifs true fun c r => if r = true then do let ok ← isTrue c env (eval c env); pure (ForInStep.yield ok) else pure (ForInStep.yield r)
section
variable {prog : Program} {w : World} {A : Around} {R : Result → Shared → Prop} {s : Shared}
theorem comp_loop {elt tg iter : Expr} {ifs : List Expr} {sc : Scope} {pos : Pos} {it acc : Value} {env : Env} (I : Nat → Shared → Prop)
    (turn : ∀ n s, I n s → wpAny (model prog w) A (pyNext it) (fun r s1 => match r with
      | none => R (.ok .next) s1
      | some v => wpAny (model prog w) A (letOwnedTupleGo tg it v) (fun _ s2 => wpAny (model prog w) A (assign tg env v) (fun _ s3 => wpAny (model prog w) A (tstSem ifs env) (fun ok s4 =>
          if ok = true then wpAny (model prog w) A (eval elt env) (fun x s5 => wpAny (model prog w) A (call (.builtin "list.append") [acc, x]) (fun _ s6 => ∃ m, m < n ∧ I m s6) NoX s5) NoX s4
          else ∃ m, m < n ∧ I m s4) NoX s3) NoX s2) NoX s1) NoX s)
    (n : Nat) (h : I n s) : codeAny (model prog w) A (.compLoop (.ListComp elt [⟨tg, iter, ifs, 0⟩] sc pos) 0 it acc env) R s := by
  refine codeAny_loop rfl I (fun n s hI => ?_) n h
  show wpAny _ A ((compTurn (.ListComp elt [⟨tg, iter, ifs, 0⟩] sc pos) 0 it acc env).onRaise (fun x => do noteFrame x env; theTreesLotGoes x)) _ _ s
  refine wpAny_noted ?_
  rw [compTurn_list]
  refine wpAny_bind (wpAny_standAt (wpAny_bind (noX (thn (turn n s hI) fun r s1 h1 => ?_))))
  cases r with
  | none => exact wpAny_pure h1
  | some v =>
    refine wpAny_bind (noX (thn h1 fun _ s2 h2 => wpAny_bind (noX (thn h2 fun _ s3 h3 => wpAny_bind (noX (thn h3 fun ok s4 h4 => ?_))))))
    cases ok with
    | false => exact wpAny_pure ⟨rfl, h4⟩
    | true => exact wpAny_bind (wpAny_bind (noX (thn h4 fun x s5 h5 => wpAny_bind (noX (thn h5 fun _ s6 h6 => wpAny_pure (wpAny_pure ⟨rfl, h6⟩))))))
end

/-! ### the cells of the names that a block takes from around it -/
theorem closure_go {env : Env} : ∀ (l : List (Str × NameKind)) (acc : List (Str × Addr)), (∀ y ∈ l, y.2 = .free → ∃ c, env.cells.lookup y.1 = some c) → (∀ y c, acc.lookup y = some c → env.cells.lookup y = some c) →
    ∃ cl, (forIn l acc fun x r => if (x.2 == NameKind.free) = true then (do let c ← cellOf env x.1; pure (ForInStep.yield ((x.1, c) :: r))) else pure (ForInStep.yield r)) = (pure cl : Sem (List (Str × Addr))) ∧
      (∀ y c, cl.lookup y = some c → env.cells.lookup y = some c) ∧ (∀ y ∈ l, y.2 = .free → ∃ c, cl.lookup y.1 = some c) ∧ (∀ y c, acc.lookup y = some c → ∃ c', cl.lookup y = some c')
  | [], acc, _, h2 => ⟨acc, rfl, h2, (fun _ z => nomatch z), (fun _ c e => ⟨c, e⟩)⟩
  | (n, k) :: r, acc, h1, h2 => by
    rw [List.forIn_cons]
    by_cases hk : k = .free
    · subst hk
      obtain ⟨c, hc⟩ := h1 (n, .free) List.mem_cons_self rfl
      have e : cellOf env n = pure c := by
        have hc' : env.cells.lookup n = some c := hc
        unfold cellOf
        rw [hc']
      obtain ⟨cl, q1, q2, q3, q4⟩ := closure_go r ((n, c) :: acc) (fun y hy => h1 y (List.mem_cons_of_mem _ hy)) (fun y c' e' => by
        rw [List.lookup_cons] at e'
        by_cases hy : (y == n) = true
        · rw [hy] at e'
          have hn : y = n := eq_of_beq hy
          subst hn
          cases e'
          exact hc
        · rw [Bool.not_eq_true] at hy
          rw [hy] at e'
          exact h2 y c' e')
      refine ⟨cl, ?_, q2, fun y hy hf => ?_, fun y c' e' => ?_⟩
      · simp only [beq_self_eq_true, if_true, e, pure_bind]
        exact q1
      · rcases List.mem_cons.mp hy with rfl | hy
        · exact q4 n c (by simp)
        · exact q3 y hy hf
      · by_cases hy : (y == n) = true
        · have hn : y = n := eq_of_beq hy
          subst hn
          exact q4 y c (by simp)
        · rw [Bool.not_eq_true] at hy
          exact q4 y c' (by rw [List.lookup_cons, hy]; exact e')
    · have hb : (k == NameKind.free) = false := by simpa using hk
      obtain ⟨cl, q1, q2, q3, q4⟩ := closure_go r acc (fun y hy => h1 y (List.mem_cons_of_mem _ hy)) h2
      refine ⟨cl, ?_, q2, fun y hy hf => ?_, q4⟩
      · simp only [hb, Bool.false_eq_true, if_false, pure_bind]
        exact q1
      · rcases List.mem_cons.mp hy with rfl | hy
        · exact absurd hf hk
        · exact q3 y hy hf
theorem closure_ok {env : Env} {sc : Scope} (h : ∀ y ∈ sc.names, y.2 = .free → ∃ c, env.cells.lookup y.1 = some c) :
    ∃ cl, closureFor sc env = pure cl ∧ (∀ y c, cl.lookup y = some c → env.cells.lookup y = some c) ∧ ∀ y ∈ sc.names, y.2 = .free → ∃ c, cl.lookup y.1 = some c := by
  obtain ⟨cl, q1, q2, q3, _⟩ := closure_go sc.names [] h (fun _ _ z => nomatch z)
  refine ⟨cl, ?_, q2, q3⟩
  unfold closureFor
  rw [bind_pure]
  exact q1
theorem relabel_look {env : Env} {y : Str} {k : NameKind} {sc : Scope} (h : (relabel sc env).names.lookup y = some k) : ∃ k0, sc.names.lookup y = some k0 ∧ (k = k0 ∨ (k0 = .free ∧ k = .cell)) := by
  have go : ∀ l : List (Str × NameKind), (l.map fun (n, k) => if (k == .free && env.scope.kind == .function && env.kindOf n == some .cell) then (n, NameKind.cell) else (n, k)).lookup y = some k → ∃ k0, l.lookup y = some k0 ∧ (k = k0 ∨ (k0 = .free ∧ k = .cell)) := by
    intro l
    induction l with
    | nil => intro z; cases z
    | cons a r ih =>
      obtain ⟨n, k1⟩ := a
      intro z
      rw [List.map_cons] at z
      by_cases hc : (k1 == NameKind.free && env.scope.kind == .function && env.kindOf n == some .cell) = true
      · have hf : k1 = .free := by
          rw [Bool.and_eq_true, Bool.and_eq_true] at hc
          simpa using hc.1.1
        simp only [hc, if_true] at z
        rw [List.lookup_cons] at z ⊢
        by_cases hy : (y == n) = true
        · rw [hy] at z ⊢
          cases z
          exact ⟨k1, rfl, .inr ⟨hf, rfl⟩⟩
        · rw [Bool.not_eq_true] at hy
          rw [hy] at z ⊢
          exact ih z
      · simp only [hc, Bool.false_eq_true, if_false] at z
        rw [List.lookup_cons] at z ⊢
        by_cases hy : (y == n) = true
        · rw [hy] at z ⊢
          cases z
          exact ⟨_, rfl, .inl rfl⟩
        · rw [Bool.not_eq_true] at hy
          rw [hy] at z ⊢
          exact ih z
  exact go sc.names h
theorem relabel_free {env : Env} {y : Str} {sc : Scope} (h : sc.names.lookup y = some .free) : (relabel sc env).names.lookup y = some .cell ∨ (relabel sc env).names.lookup y = some .free := by
  have go : ∀ l : List (Str × NameKind), l.lookup y = some .free → (l.map fun (n, k) => if (k == .free && env.scope.kind == .function && env.kindOf n == some .cell) then (n, NameKind.cell) else (n, k)).lookup y = some .cell ∨
      (l.map fun (n, k) => if (k == .free && env.scope.kind == .function && env.kindOf n == some .cell) then (n, NameKind.cell) else (n, k)).lookup y = some .free := by
    intro l
    induction l with
    | nil => intro z; cases z
    | cons a r ih =>
      obtain ⟨n, k1⟩ := a
      intro z
      rw [List.lookup_cons] at z
      rw [List.map_cons]
      by_cases hy : (y == n) = true
      · rw [hy] at z
        cases z
        by_cases hc : (NameKind.free == NameKind.free && env.scope.kind == .function && env.kindOf n == some .cell) = true
        · simp only [hc, if_true]
          exact .inl (by rw [List.lookup_cons, hy])
        · simp only [hc, Bool.false_eq_true, if_false]
          exact .inr (by rw [List.lookup_cons, hy])
      · rw [Bool.not_eq_true] at hy
        rw [hy] at z
        by_cases hc : (k1 == NameKind.free && env.scope.kind == .function && env.kindOf n == some .cell) = true
        · simp only [hc, if_true]
          rw [List.lookup_cons, hy]
          exact ih z
        · simp only [hc, Bool.false_eq_true, if_false]
          rw [List.lookup_cons, hy]
          exact ih z
  exact go sc.names h

/-! ### the block's context -/
abbrev cxComp (X : Cx) (N : List Str) (sc : Scope) (cl : List (Str × Addr)) (C : Addr) (s : Shared) (H : Hp) (ex : List Addr) (pn : List (Addr × Obj)) : Cx :=
  { prog := X.prog, w := X.w, K := X.K, mg := X.mg, base := X.base, A := X.A, N := N, s₀ := s, H₀ := H, env := compEnvC sc cl C X.env, outer := X.stack, stack := X.stack, ex := ex, fn := fun _ => false, calm := X.calm, pn := pn, xe := fun _ _ => False }
/-- a block's tests -/
def PTs (X : Cx) (ifs : List Expr) (t : TT) : Prop :=
  ∀ (pins : List (Addr × Obj)) (s : Shared) (σ : St) (H : Hp) (Q : Bool → Hp → Prop), Inv X pins σ H s → t σ H Q → wpAny (model X.prog X.w) X.A (tstSem ifs X.env) (TP X pins σ Q) X.xe s
def tTrue : TT := fun _ H Q => Q true H
theorem ttT {σ : St} {H : Hp} {A B : Hp → Prop} (h : A H) : tTrue σ H (fun b H4 => if b = true then A H4 else B H4) := by
  show if true = true then A H else B H
  rw [if_pos rfl]
  exact h
theorem pts_nil {X : Cx} : PTs X [] tTrue := fun _ _ _ H _ I h => wpAny_tests_nil ⟨H, I, h⟩
theorem pts_one {X : Cx} {c : Expr} {t : TT} (hc : PT X c t) : PTs X [c] t := fun pins s σ H Q I h => wpAny_tests_one (hc pins s σ H Q I h)
/-- what the block sees of the names around it -/
def capV (σ : St) (caps : List Nat) : St := caps.map fun i => (σ[i]?).getD none
def CompW (J : It) (p : Addr) (tt : TT) (te : TE) (cs : St) (Q : VK) (H1 : Hp) : Prop := ∃ W : Nat → Nat → List V → Hp → Prop, (∃ m, W 0 m [] (upd H1 p (.lst []))) ∧ ∀ i m ys H2, W i m ys H2 →
  (J.stop i H2 ∧ Q (.ref p) H2) ∨ (J.go i H2 ∧ ∃ N : List V → Hp → Prop, (∀ ys' H', N ys' H' → ∃ m', m' < m ∧ W (i + 1) m' ys' H') ∧
    ∀ v H3, J.yld i H2 v H3 → tt (some v :: cs) H3 fun b H4 => if b = true then te (some v :: cs) H4 fun y H5 => H5 p = some (.lst ys) ∧ ys.length < sizeLine ∧ N (ys ++ [y]) (upd H5 p (.lst (ys ++ [y]))) else N ys H4)
/-- .. with what must hold of the heap at each turn and at the end -/
def CompWG (Gs : Hp → Prop) (J : It) (p : Addr) (tt : TT) (te : TE) (cs : St) (Q : VK) (H1 : Hp) : Prop := ∃ W : Nat → Nat → List V → Hp → Prop, (∃ m, W 0 m [] (upd H1 p (.lst []))) ∧ ∀ i m ys H2, W i m ys H2 →
  (J.stop i H2 ∧ Gs H2 ∧ Q (.ref p) H2) ∨ (J.go i H2 ∧ Gs H2 ∧ ∃ N : List V → Hp → Prop, (∀ ys' H', N ys' H' → ∃ m', m' < m ∧ W (i + 1) m' ys' H') ∧
    ∀ v H3, J.yld i H2 v H3 → tt (some v :: cs) H3 fun b H4 => if b = true then te (some v :: cs) H4 fun y H5 => H5 p = some (.lst ys) ∧ ys.length < sizeLine ∧ N (ys ++ [y]) (upd H5 p (.lst (ys ++ [y]))) else N ys H4)
def tCompC (CW : It → Addr → St → VK → Hp → Prop) (wi : TI) (caps : List Nat) : TE := fun σ H Q => wi σ H fun J H1 => ∀ p, H1 p = none → CW J p (capV σ caps) Q H1
def tCompG (Gs : Hp → Prop) (wi : TI) (tt : TT) (te : TE) (caps : List Nat) : TE := tCompC (fun J p cs Q H1 => CompWG Gs J p tt te cs Q H1) wi caps
def tComp (wi : TI) (tt : TT) (te : TE) (caps : List Nat) : TE := fun σ H Q => wi σ H fun J H1 => ∀ p, H1 p = none → CompW J p tt te (capV σ caps) Q H1

theorem comp_go {X : Cx} {use : Option (Value → Sem Unit)} {Post : Value → Shared → Prop} {pins : List (Addr × Obj)} {s : Shared} {σ : St} {H : Hp} {Q : VK} {Gs : Hp → Prop} {hb : Bool} {CW : It → Addr → St → VK → Hp → Prop} {elt iter : Expr} {ifs : List Expr} {x : Str} {px pos : Pos} {sc : Scope} {wi : TI} {tt : TT} {te : TE} (caps : List Nat) (capsN : List Str)
    (hi : PI X (.Name x px) iter wi hb)
    (ht : ∀ cl C s H ex pn, PTs (cxComp X (x :: capsN) sc cl C s H ex pn) ifs tt)
    (he : ∀ cl C s H ex pn, PE (cxComp X (x :: capsN) sc cl C s H ex pn) elt te)
    (hkind : sc.kind = .function) (hcell : ∀ y ∈ sc.names, y.2 ≠ .cell) (hnames : ∀ y ∈ sc.names, y.2 = .local → sc.names.lookup y.1 = some .local) (hx : sc.names.lookup x = some .local)
    (hfr : ∀ y ∈ sc.names, y.2 = .free → y.1 ∈ capsN)
    (hcap : ∀ (j : Nat) (y : Str), capsN[j]? = some y → ∃ i : Nat, caps[j]? = some i ∧ X.N[i]? = some y ∧ sc.names.lookup y = some .free ∧ (X.env.kindOf y = some .cell ∨ X.env.kindOf y = some .free)) (hlen : caps.length = capsN.length)
    (hnd : (x :: capsN).Nodup) (hc : X.calm = true ∨ (hb = true ∧ ∀ s H, HOk X.prog X.w H s.heap → Gs H → HandQ X s)) (kW : ∀ J p cs Q H1, CW J p cs Q H1 → CompWG Gs J p tt te cs Q H1)
    (hs : ∀ x, foldedSetIterable iter X.env x = pure x) (I : Inv X pins σ H s) (h : tCompC CW wi caps σ H Q)
    (fin : ∀ (C p : Addr) (H5 : Hp) (s5 : Shared), (∃ m, s5.heap.Ns C m) → Inv X pins σ H5 s5 → FpOk X pins H5 C → Q (.ref p) H5 → compPost (model X.prog X.w) X.A X.xe use Post (.ref p) C (.ok .next) s5) :
    wpAny (model X.prog X.w) X.A (comprehension (.ListComp elt [⟨.Name x px, iter, ifs, 0⟩] sc pos) sc X.env (firstIterPos [⟨.Name x px, iter, ifs, 0⟩] pos) (newList []) (firstAsync [⟨.Name x px, iter, ifs, 0⟩]) (firstIter [⟨.Name x px, iter, ifs, 0⟩] X.env) use) Post X.xe s := by
  have hEnd : ∀ s H, HOk X.prog X.w H s.heap → Gs H → EndQ hb X s := by
    rcases hc with hc | ⟨e, k⟩
    · exact fun _ _ _ _ => .inl (I.ok.hd hc)
    · exact fun s H o g => .inr ⟨e, k s H o g⟩
  obtain ⟨cl, hclos, hq2, hq3⟩ := closure_ok (env := X.env) (sc := sc) (fun y hy hf => by
    obtain ⟨j, hj⟩ := List.mem_iff_getElem?.mp (hfr y hy hf)
    obtain ⟨_, _, _, _, k⟩ := hcap j y.1 hj
    exact I.ok.has y.1 k)
  refine wpAny_comprehension_free (use := use) rfl hs hclos hkind hnames (thn (hi pins s σ H _ I h) fun v s1 h1 => thn h1 fun itv s2 h2 => ?_)
  obtain ⟨it, fp, tn, J, H2, e, I2, T, st2, f2, q⟩ := h2
  subst e
  refine wpAny_newObj_type (wpAny_newFunctionEnv hcell (by intro y hy; simp at hy) (fun h1 hns hsb => ?_) hkind)
  dsimp only at hns hsb ⊢
  obtain ⟨W, ⟨m0, w0⟩, turn⟩ := kW _ _ _ _ _ (q s2.heap.objs.size (I2.hok.fresh (Nat.le_refl _)))
  have I3 : Inv X pins σ (upd H2 s2.heap.objs.size (.lst [])) { s2 with heap := s2.heap.push { cls := .type "list", dict := none, data := .seq ([] : List Value).toArray }, toks := s2.toks } := I2.lnew (its := []) (ys := []) (t' := s2.toks) .nil (Nat.zero_le _)
  generalize hH3 : s2.heap.push { cls := .type "list", dict := none, data := .seq ([] : List Value).toArray } = g3 at hns hsb I3 ⊢
  have hsz3 : g3.objs.size = s2.heap.objs.size + 1 := by rw [← hH3, Heap.size_push]
  generalize hHp : upd H2 s2.heap.objs.size (.lst []) = Hp3 at w0 I3
  have hlt : ∀ b o, g3.get? b = some o → b ≠ g3.objs.size := fun b o e => Nat.ne_of_lt (Heap.lt_size e)
  have old : ∀ b o, g3.get? b = some o → h1.get? b = some o := fun b o e => hsb.extBut b o (hlt b o e) (Heap.get?_push_of_some _ e)
  have fpo : ∀ b ∈ fp, ∃ o, g3.get? b = some o := fun b hb => by
    obtain ⟨o, e, _⟩ := T.obj 0 s2.heap st2 b hb
    exact ⟨o, by rw [← hH3]; exact Heap.get?_push_of_some _ e⟩
  have fpC : ∀ b ∈ fp, b ≠ g3.objs.size := fun b hb => by obtain ⟨o, e⟩ := fpo b hb; exact hlt b o e
  have fpH : ∀ b ∈ fp, Hp3 b = none := fun b hb => by
    obtain ⟨o, e, _⟩ := T.obj 0 s2.heap st2 b hb
    rw [← hHp, upd_ne (Nat.ne_of_lt (Heap.lt_size e))]
    exact (f2 b hb).1
  have fsSub : ∀ b, b ≠ X.env.locals → b ∉ X.fs → b ∉ frs X.stack := fun b h1 h2 z => by
    rcases List.mem_cons.mp (I2.stkSub b z) with z | z
    · exact h1 z
    · exact h2 z
  -- the block's context
  have okc : (cxComp X (x :: capsN) sc cl g3.objs.size { s2 with heap := g3, toks := s2.toks } Hp3 fp (X.pn ++ pins)).Ok := by
    refine ⟨I3.ok.mod, hkind, I3.ok.glob, I3.ok.blt, Nat.le_refl _, fun y z c e1 e2 => I3.ok.inj y z c (hq2 y c e1) (hq2 z c e2), fun y hy => ?_, fun y c z => absurd z Bool.false_ne_true, I3.ok.hd, I3.ok.frames, .inl rfl, fun b hb => ⟨fpC b hb, fun y c e => (f2 b hb).2.2.2.2.1 y c (hq2 y c e)⟩,
      I3.bs, Nat.le_trans I3.ok.bsz I3.sz, fun b o e hb => ?_, fun b hb => fsSub b (f2 b hb).2.1 (f2 b hb).2.2.1, I3.stack, I3.stkFree⟩
    · have hy' : ∃ k, (relabel sc X.env).names.lookup y = some k ∧ (k = .cell ∨ k = .free) := by
        rcases hy with hy | hy
        · exact ⟨_, hy, .inl rfl⟩
        · exact ⟨_, hy, .inr rfl⟩
      obtain ⟨k, e, hk⟩ := hy'
      obtain ⟨k0, e0, hk0⟩ := relabel_look e
      have em := PySem.mem_of_lookup e0
      rcases hk0 with rfl | ⟨rfl, _⟩
      · rcases hk with rfl | rfl
        · exact absurd rfl (hcell _ em)
        · exact hq3 _ em rfl
      · exact hq3 _ em rfl
    · rcases (f2 b hb).2.2.2.1 with z | z
      · exact I3.ok.noex b o e z
      · have h1 : b < X.base.objs.size := Heap.lt_size e
        have h2 := I3.ok.bsz
        exact absurd (Nat.lt_of_lt_of_le h1 (Nat.le_trans h2 z)) (Nat.lt_irrefl _)
  have Ic : Inv (cxComp X (x :: capsN) sc cl g3.objs.size { s2 with heap := g3, toks := s2.toks } Hp3 fp (X.pn ++ pins)) [] (none :: capV σ caps) Hp3 { s2 with heap := h1, toks := s2.toks + ([] : List (Str × Value)).length } := by
    refine ⟨okc, rfl, I3.bare, Un.kept old, ⟨_, hns, fun i y v e1 e2 e3 => ?_⟩, fun y c e => ?_, I3.hok.fresh (Nat.le_refl _), fun y c e => I3.freeC y c (hq2 y c e), fun p hp => ?_, I3.hok.kept old, ?_⟩
    · cases i with
      | zero => cases e2
      | succ j =>
        have e1' : capsN[j]? = some y := e1
        obtain ⟨i, c1, c2, c3, c4⟩ := hcap j y e1'
        have e2' : (capV σ caps)[j]? = some (some v) := e2
        have hv : σ[i]? = some (some v) := by
          unfold capV at e2'
          rw [List.getElem?_map, c1] at e2'
          have e4 : (σ[i]?).getD none = some v := Option.some.inj e2'
          cases e5 : σ[i]? with
          | none => rw [e5] at e4; cases e4
          | some w => rw [e5] at e4; exact congrArg some e4
        obtain ⟨m, _, hl⟩ := I3.loc
        have vis : Vis X.env.scope y := by
          rcases c4 with z | z
          · exact .inr (.inl z)
          · exact .inr (.inr z)
        obtain ⟨u, r, l⟩ := hl i y v c2 hv vis
        refine ⟨u, r, .inr ⟨relabel_free c3, ?_⟩⟩
        rcases l with ⟨lk, _⟩ | ⟨_, c, ec, o, ho, hd⟩
        · rcases c4 with z | z <;> (rw [lk] at z; cases z)
        · obtain ⟨c', e'⟩ := hq3 _ (PySem.mem_of_lookup c3) rfl
          have e'' := hq2 _ _ e'
          have e3' : (some c' : Option Addr) = some c := e''.symm.trans ec
          cases e3'
          exact ⟨c, e', o, old _ _ ho, hd⟩
    · obtain ⟨v, o, ho, hd⟩ := I3.cell y c (hq2 y c e)
      exact ⟨v, o, old _ _ ho, hd⟩
    · have hp' : p ∈ X.pn ++ pins := by simpa using hp
      obtain ⟨e1, e2, e3, e4, e5⟩ := I3.pin p hp'
      exact ⟨old _ _ e1, e2, hlt _ _ e1, fsSub _ e3 e4, e5⟩
    · show (capV σ caps).length + 1 = capsN.length + 1
      unfold capV
      rw [List.length_map, hlen]
  have stat : ∀ {H' : Hp}, (∀ b ∈ fp, H' b = none) → ∀ b ∈ fp, FpOk (cxComp X (x :: capsN) sc cl g3.objs.size { s2 with heap := g3, toks := s2.toks } Hp3 fp (X.pn ++ pins)) [] H' b := fun hn b hb =>
    ⟨hn b hb, fpC b hb, fsSub b (f2 b hb).2.1 (f2 b hb).2.2.1, .inl hb, fun y c e => (f2 b hb).2.2.2.2.1 y c (hq2 y c e), fun p hp => (f2 b hb).2.2.2.2.2 p (by simpa using hp)⟩
  -- behind the block
  have back : ∀ {pins5 : List (Addr × Obj)} {σ5 : St} {H5 : Hp} {s5 : Shared} {h' : Heap}, Inv (cxComp X (x :: capsN) sc cl g3.objs.size { s2 with heap := g3, toks := s2.toks } Hp3 fp (X.pn ++ pins)) pins5 σ5 H5 s5 → Heap.SameBut g3.objs.size s5.heap h' → Inv X pins σ H5 { s5 with heap := h' } := by
    intro pins5 σ5 H5 s5 h' I5 sb
    have un : Un (frs X.stack) fp Hp3 H5 g3 s5.heap := I5.base
    have fr : H5 g3.objs.size = none := I5.free
    have un' : Un (frs X.stack) fp Hp3 H5 g3 h' := ⟨fun b o e n hb hx => (sb.2 b (hlt b o e)).trans (un.keep b o e n hb hx),
      fun b o e n hb hx => by obtain ⟨sl, z⟩ := un.slot b o e n hb hx; exact ⟨sl, (sb.2 b (hlt b o e)).trans z⟩, un.free,
      fun b o e hx => by obtain ⟨o', z⟩ := un.there b o e hx; exact ⟨o', (sb.2 b (hlt b o e)).trans z⟩, un.tups, un.frzs, un.tbls⟩
    have hok : HOk X.prog X.w H5 h' := fun b u e => (I5.hok b u e).stay (fun c v hc' z => (sb.2 c (by
      rintro rfl
      rcases hc' with hc' | hc'
      · rw [hc', e] at fr; cases fr
      · rw [fr] at hc'; cases hc')).trans z) (fun _ z => z) (fun _ _ z => z)
    obtain ⟨hh, g, d, t, os⟩ := s5
    have eo : os = s2.os := I5.os
    subst eo
    have z := I3.call (h' := h') (g' := g) (d' := d) (t' := t) (ch := fp) un' hok I5.bare fun b hb => ⟨(f2 b hb).2.2.2.1, (f2 b hb).2.1, (f2 b hb).2.2.2.2.1, (f2 b hb).2.2.2.2.2⟩
    exact z
  have st4 : tn 0 h1 := T.keep 0 s2.heap h1 st2 fun b hb o e => old b o (by rw [← hH3]; exact Heap.get?_push_of_some _ e)
  have loop : codeAny (model X.prog X.w) X.A (.compLoop (.ListComp elt [⟨.Name x px, iter, ifs, 0⟩] sc pos) 0 (.ref it) (.ref s2.heap.objs.size) (compEnvC sc cl g3.objs.size X.env))
      (compPost (model X.prog X.w) X.A X.xe use Post (.ref s2.heap.objs.size) g3.objs.size) { s2 with heap := h1, toks := s2.toks + ([] : List (Str × Value)).length } := by
    refine comp_loop (fun n s' => ∃ i ys v0 H', Inv (cxComp X (x :: capsN) sc cl g3.objs.size { s2 with heap := g3, toks := s2.toks } Hp3 fp (X.pn ++ pins)) [] (v0 :: capV σ caps) H' s' ∧ tn i s'.heap ∧ (∀ b ∈ fp, H' b = none) ∧ W i n ys H') ?_ m0 ⟨0, [], none, Hp3, Ic, st4, fpH, w0⟩
    rintro n s' ⟨i, ys, v0, H', I', st', fr', w'⟩
    rcases turn i n ys H' w' with ⟨stop, gs, qn⟩ | ⟨go, gs, N, hN, step⟩
    · refine thn (T.done (cxComp X (x :: capsN) sc cl g3.objs.size { s2 with heap := g3, toks := s2.toks } Hp3 fp (X.pn ++ pins)) rfl rfl rfl s' (hEnd s' H' I'.hok gs) i [] _ H' NoX I' (stat fr') st' stop) fun r s5 ⟨hr, I5⟩ => ?_
      subst hr
      obtain ⟨m, hn, _⟩ := id I5.loc
      exact fin g3.objs.size s2.heap.objs.size H' s5 ⟨m, hn⟩ (back (h' := s5.heap) I5 ⟨rfl, fun _ _ => rfl⟩) (I3.fpOk (Nat.le_refl _) I5.free) qn
    · refine thn (T.item (cxComp X (x :: capsN) sc cl g3.objs.size { s2 with heap := g3, toks := s2.toks } Hp3 fp (X.pn ++ pins)) rfl rfl rfl s' (hEnd s' H' I'.hok gs) i [] _ H' NoX I' (stat fr') st' go) fun r s5 ⟨u, hr, h5⟩ => ?_
      subst hr
      refine thn h5 fun _ s6 ⟨v, H6, I6, r6, y6, st6, fr6⟩ => ?_
      have I6' := I6.pinned (stat fr6) (T.obj _ _ st6)
      have again : ∀ {σ7 : St} {H7 : Hp} {s7 : Shared} {ys' : List V}, σ7 = some v :: capV σ caps → Inv (cxComp X (x :: capsN) sc cl g3.objs.size { s2 with heap := g3, toks := s2.toks } Hp3 fp (X.pn ++ pins)) ([] ++ pinsAt fp s6.heap) σ7 H7 s7 → N ys' H7 →
          ∃ m, m < n ∧ ∃ i ys v0 H', Inv (cxComp X (x :: capsN) sc cl g3.objs.size { s2 with heap := g3, toks := s2.toks } Hp3 fp (X.pn ++ pins)) [] (v0 :: capV σ caps) H' s7 ∧ tn i s7.heap ∧ (∀ b ∈ fp, H' b = none) ∧ W i m ys H' := by
        intro σ7 H7 s7 ys' eσ I7 n7
        subst eσ
        obtain ⟨m', hm, w7⟩ := hN ys' H7 n7
        refine ⟨m', hm, i + 1, ys', some v, H7, I7.unpinned, T.keep _ _ _ st6 fun b hb o e => (I7.pin (b, o) (List.mem_append_right _ (List.mem_append_right _ (mem_pinsAt hb e)))).1, fun b hb => ?_, w7⟩
        obtain ⟨o, e, d⟩ := T.obj _ _ st6 b hb
        exact (I7.pin (b, o) (List.mem_append_right _ (List.mem_append_right _ (mem_pinsAt hb e)))).2.1
      refine thn (pg_name (X := cxComp X (x :: capsN) sc cl g3.objs.size { s2 with heap := g3, toks := s2.toks } Hp3 fp (X.pn ++ pins)) (i := 0) hnd rfl (Or.inl (lookup_relabel_local hx)) (.inr (lookup_relabel_local hx)) _ s6 _ H6 v u
        (fun σ' H' => σ' = some v :: capV σ caps ∧ H' = H6) I6' r6 ⟨rfl, rfl⟩) fun _ s7 ⟨σ7, H7, I7, e7, e7'⟩ => ?_
      subst e7 e7'
      refine thn (ht _ _ _ _ _ _ _ s7 _ H7 _ I7 (step v H7 y6)) fun ok s8 ⟨H8, I8, q8⟩ => ?_
      cases ok with
      | false => exact again rfl I8 q8
      | true =>
        refine thn (he _ _ _ _ _ _ _ s8 _ H8 _ I8 q8) fun y s9 ⟨yv, H9, I9, r9, hp9, hz9, n9⟩ => ?_
        refine thn (mt_append (X := cxComp X (x :: capsN) sc cl g3.objs.size { s2 with heap := g3, toks := s2.toks } Hp3 fp (X.pn ++ pins)) _ s9 _ H9 (.ref s2.heap.objs.size) [yv] (.ref s2.heap.objs.size) [y] (fun _ H' => H' = upd H9 s2.heap.objs.size (.lst (ys ++ [yv]))) I9 rfl (.cons r9 .nil)
          ⟨s2.heap.objs.size, ys, yv, rfl, rfl, hp9, hz9, rfl⟩) fun _ s10 ⟨_, H10, I10, _, e10⟩ => ?_
        subst e10
        exact again rfl I10 n9
  exact codeAny_compStart_list loop (T.self X.A 0 _ _ _ st4 loop)

theorem pe_compG {X : Cx} {Gs : Hp → Prop} {hb : Bool} {CW : It → Addr → St → VK → Hp → Prop} {elt iter : Expr} {ifs : List Expr} {x : Str} {px pos : Pos} {sc : Scope} {wi : TI} {tt : TT} {te : TE} (caps : List Nat) (capsN : List Str)
    (hi : PI X (.Name x px) iter wi hb)
    (ht : ∀ cl C s H ex pn, PTs (cxComp X (x :: capsN) sc cl C s H ex pn) ifs tt)
    (he : ∀ cl C s H ex pn, PE (cxComp X (x :: capsN) sc cl C s H ex pn) elt te)
    (hkind : sc.kind = .function) (hcell : ∀ y ∈ sc.names, y.2 ≠ .cell) (hnames : ∀ y ∈ sc.names, y.2 = .local → sc.names.lookup y.1 = some .local) (hx : sc.names.lookup x = some .local)
    (hfr : ∀ y ∈ sc.names, y.2 = .free → y.1 ∈ capsN)
    (hcap : ∀ (j : Nat) (y : Str), capsN[j]? = some y → ∃ i : Nat, caps[j]? = some i ∧ X.N[i]? = some y ∧ sc.names.lookup y = some .free ∧ (X.env.kindOf y = some .cell ∨ X.env.kindOf y = some .free)) (hlen : caps.length = capsN.length)
    (hnd : (x :: capsN).Nodup) (hc : X.calm = true ∨ (hb = true ∧ ∀ s H, HOk X.prog X.w H s.heap → Gs H → HandQ X s)) (kW : ∀ J p cs Q H1, CW J p cs Q H1 → CompWG Gs J p tt te cs Q H1)
    (hs : ∀ x, foldedSetIterable iter X.env x = pure x := by intro _; rfl) :
    PE X (.ListComp elt [⟨.Name x px, iter, ifs, 0⟩] sc pos) (tCompC CW wi caps) := by
  intro pins s σ H Q I h
  rw [eval_ListComp]
  exact comp_go (use := none) caps capsN hi ht he hkind hcell hnames hx hfr hcap hlen hnd hc kW hs I h fun C p H5 s5 ⟨m, hn⟩ I5 f q => ⟨m, hn, fun h' sb => ⟨.ref p, H5, I5.turned (t' := s5.toks) (fun b o hb e => (sb.2 b hb).trans e) f.1 f.2.1 f.2.2.2.1 f.2.2.2.2.1 f.2.2.2.2.2, rfl, q⟩⟩
/-- y = [.. for ..], y a local name: stored ahead of the block's own names' end -/
theorem ps_setC {X : Cx} {Gs : Hp → Prop} {hb : Bool} {CW : It → Addr → St → VK → Hp → Prop} {elt iter : Expr} {ifs : List Expr} {x y : Str} {px pos pos' pos2 : Pos} {sc : Scope} {wi : TI} {tt : TT} {te : TE} {i : Nat} (hN : X.N.Nodup) (hiN : X.N[i]? = some y) (hy : X.env.scope.names.lookup y = some .local) (caps : List Nat) (capsN : List Str)
    (hi : PI X (.Name x px) iter wi hb)
    (ht : ∀ cl C s H ex pn, PTs (cxComp X (x :: capsN) sc cl C s H ex pn) ifs tt)
    (he : ∀ cl C s H ex pn, PE (cxComp X (x :: capsN) sc cl C s H ex pn) elt te)
    (hkind : sc.kind = .function) (hcell : ∀ y ∈ sc.names, y.2 ≠ .cell) (hnames : ∀ y ∈ sc.names, y.2 = .local → sc.names.lookup y.1 = some .local) (hx : sc.names.lookup x = some .local)
    (hfr : ∀ y ∈ sc.names, y.2 = .free → y.1 ∈ capsN)
    (hcap : ∀ (j : Nat) (y : Str), capsN[j]? = some y → ∃ i : Nat, caps[j]? = some i ∧ X.N[i]? = some y ∧ sc.names.lookup y = some .free ∧ (X.env.kindOf y = some .cell ∨ X.env.kindOf y = some .free)) (hlen : caps.length = capsN.length)
    (hnd : (x :: capsN).Nodup) (hc : X.calm = true ∨ (hb = true ∧ ∀ s H, HOk X.prog X.w H s.heap → Gs H → HandQ X s)) (kW : ∀ J p cs Q H1, CW J p cs Q H1 → CompWG Gs J p tt te cs Q H1)
    (hsw : swapsWith (.ListComp elt [⟨.Name x px, iter, ifs, 0⟩] sc pos) (some (.Name y pos')) pos2.line X.env = pure true := by rfl)
    (hs : ∀ x, foldedSetIterable iter X.env x = pure x := by intro _; rfl) :
    PS X (.Assign [.Name y pos'] (.ListComp elt [⟨.Name x px, iter, ifs, 0⟩] sc pos) pos2) (tAsg (tCompC CW wi caps) (gName i)) := by
  intro pins s σ H D I h
  rw [exec_Assign_Name_used _ _ _ _ hsw, arm_evalThenUse_ListComp]
  refine wpAny_bind (wpAny_standAt (wpAny_bind (wpAny_bind (comp_go (use := some (assign (.Name y pos') X.env)) caps capsN hi ht he hkind hcell hnames hx hfr hcap hlen hnd hc kW hs I h fun C p H5 s5 ⟨m, hn⟩ I5 f q => ?_))))
  refine wpAny_assign_Name (store_ok2 I5 hN hiN (.inl hy) (show RelV (.ref p) (.ref p) from rfl) (fun s6 I6 ⟨a, sb, ha⟩ => ?_) (.inr hy))
  have nC : C ≠ a := by
    rcases ha with ha | ha
    · rw [ha]; exact f.2.1
    · exact fun z => f.2.2.2.2.1 y a ha z.symm
  obtain ⟨o, es, ep, ho, r⟩ := hn
  refine ⟨m, ⟨o, es, ep, (sb.2 C nC).trans ho, r⟩, fun h' sb' => ?_⟩
  have I7 := I6.turned (t' := s6.toks) (h' := h') (fun b o hb e => (sb'.2 b hb).trans e) f.1 f.2.1 f.2.2.2.1 f.2.2.2.2.1 f.2.2.2.2.2
  exact wpAny_pure (wpAny_pure ⟨_, H5, I7, q⟩)
theorem CompW.g {J : It} {p : Addr} {tt : TT} {te : TE} {cs : St} {Q : VK} {H1 : Hp} (h : CompW J p tt te cs Q H1) : CompWG (fun _ => True) J p tt te cs Q H1 := by
  obtain ⟨W, h0, h1⟩ := h
  refine ⟨W, h0, fun i m ys H2 w => ?_⟩
  rcases h1 i m ys H2 w with ⟨a, b⟩ | ⟨a, b⟩
  · exact .inl ⟨a, trivial, b⟩
  · exact .inr ⟨a, trivial, b⟩
theorem pe_comp {X : Cx} {elt iter : Expr} {ifs : List Expr} {x : Str} {px pos : Pos} {sc : Scope} {wi : TI} {tt : TT} {te : TE} (caps : List Nat) (capsN : List Str)
    (hi : PI X (.Name x px) iter wi)
    (ht : ∀ cl C s H ex pn, PTs (cxComp X (x :: capsN) sc cl C s H ex pn) ifs tt)
    (he : ∀ cl C s H ex pn, PE (cxComp X (x :: capsN) sc cl C s H ex pn) elt te)
    (hkind : sc.kind = .function) (hcell : ∀ y ∈ sc.names, y.2 ≠ .cell) (hnames : ∀ y ∈ sc.names, y.2 = .local → sc.names.lookup y.1 = some .local) (hx : sc.names.lookup x = some .local)
    (hfr : ∀ y ∈ sc.names, y.2 = .free → y.1 ∈ capsN)
    (hcap : ∀ (j : Nat) (y : Str), capsN[j]? = some y → ∃ i : Nat, caps[j]? = some i ∧ X.N[i]? = some y ∧ sc.names.lookup y = some .free ∧ (X.env.kindOf y = some .cell ∨ X.env.kindOf y = some .free)) (hlen : caps.length = capsN.length)
    (hnd : (x :: capsN).Nodup) (hc : X.calm = true)
    (hs : ∀ x, foldedSetIterable iter X.env x = pure x := by intro _; rfl) :
    PE X (.ListComp elt [⟨.Name x px, iter, ifs, 0⟩] sc pos) (tComp wi tt te caps) :=
  pe_compG (Gs := fun _ => True) (hb := false) (CW := fun J p cs Q H1 => CompW J p tt te cs Q H1) caps capsN hi ht he hkind hcell hnames hx hfr hcap hlen hnd (.inl hc) (fun _ _ _ _ _ h => h.g) hs

/-- a block over n items, by its word: turn, what is made so far, heap -/
theorem comp_by {J : It} {p : Addr} {tt : TT} {te : TE} {cs : St} {Q : VK} {H1 : Hp} (n : Nat) (Pv : Nat → List V → Hp → Prop) (h0 : Pv 0 [] (upd H1 p (.lst [])))
    (hs : ∀ i ys H, i < n → Pv i ys H → J.go i H ∧ ∀ v H3, J.yld i H v H3 → tt (some v :: cs) H3 fun b H4 => if b = true then te (some v :: cs) H4 fun y H5 => H5 p = some (.lst ys) ∧ ys.length < sizeLine ∧ Pv (i + 1) (ys ++ [y]) (upd H5 p (.lst (ys ++ [y]))) else Pv (i + 1) ys H4)
    (hd : ∀ ys H, Pv n ys H → J.stop n H ∧ Q (.ref p) H) : CompW J p tt te cs Q H1 := by
  refine ⟨fun i m ys H => m = n - i ∧ i ≤ n ∧ Pv i ys H, ⟨n, by simp, Nat.zero_le _, h0⟩, ?_⟩
  rintro i m ys H ⟨rfl, hi, pv⟩
  by_cases hlt : i < n
  · obtain ⟨g, st⟩ := hs i ys H hlt pv
    exact .inr ⟨g, Pv (i + 1), fun ys' H' p' => ⟨n - (i + 1), by omega, rfl, hlt, p'⟩, st⟩
  · have e : i = n := by omega
    subst e
    exact .inl (hd ys H pv)

/-! ### over a text's signs -/
def Its (z : Str) : It := ⟨fun i _ => i < z.length, fun i H x H' => H' = H ∧ ∃ c, z.cps[i]? = some c ∧ x = .str ⟨#[c]⟩, fun i _ => z.length ≤ i⟩
theorem turn_ascii {P : Program} {w : World} {K : PySem.W.Frag} {tg : Expr} (z : Str) (t : Tok) (it : Addr) : Turn P w K tg (Its z) [it] it (fun i h => h.IsStrIter it "str_ascii_iterator" z t i) where
  mem := by simp
  obj := fun i h st b hb => by
    have e : b = it := by simpa using hb
    subst e
    obtain ⟨o, e, c, d⟩ := st
    exact ⟨o, e, fun v z => by rw [d] at z; cases z⟩
  keep := fun i h h' st k => by
    obtain ⟨o, e, r⟩ := st
    exact ⟨o, k it (by simp) o e, r⟩
  item := by
    intro X hP hw hK s hc i pins σ H E I hf st hg
    subst hP hw hK
    obtain ⟨f0, f1, f2, f3, f4, f5⟩ := hf it (by simp)
    have hi : i < z.cps.size := hg
    refine wpAny_pyNext_ascii_item st (c := z.cps[i]) (by simp [hi]) fun h' st' sb => ?_
    have I1 : Inv X pins σ H { s with heap := h', toks := s.toks + 1 } := I.turned (fun b o hb e => (sb.2 b hb).trans e) f0 f1 f3 f4 f5
    obtain ⟨o, e, c, d⟩ := id st'
    exact ⟨_, rfl, go_of (s := { s with heap := h', toks := s.toks + 1 }) e c d (by decide) ⟨.str ⟨#[z.cps[i]]⟩, H, I1, ⟨_, rfl⟩, ⟨rfl, _, by simp [hi], rfl⟩, st', fun b hb => (hf b hb).1⟩⟩
  done := by
    intro X hP hw hK s hc i pins σ H E I hf st hg
    subst hP hw hK
    obtain ⟨f0, f1, f2, f3, f4, f5⟩ := hf it (by simp)
    have hi : z.cps.size ≤ i := hg
    exact wpAny_pyNext_ascii_end hc.none st (by simp [hi]) fun h' eb => ⟨rfl, I.turned (t' := s.toks) (fun b o hb e => eb b o hb e) f0 f1 f3 f4 f5⟩
  self := fun _ _ _ _ _ st h => wpAny_pyIter_striter_ascii st h
theorem turn_wide {P : Program} {w : World} {K : PySem.W.Frag} {tg : Expr} (z : Str) (t : Tok) (it : Addr) : Turn P w K tg (Its z) [it] it (fun i h => h.IsStrIter it "str_iterator" z t i) where
  mem := by simp
  obj := fun i h st b hb => by
    have e : b = it := by simpa using hb
    subst e
    obtain ⟨o, e, c, d⟩ := st
    exact ⟨o, e, fun v z => by rw [d] at z; cases z⟩
  keep := fun i h h' st k => by
    obtain ⟨o, e, r⟩ := st
    exact ⟨o, k it (by simp) o e, r⟩
  item := by
    intro X hP hw hK s hc i pins σ H E I hf st hg
    subst hP hw hK
    obtain ⟨f0, f1, f2, f3, f4, f5⟩ := hf it (by simp)
    have hi : i < z.cps.size := hg
    refine wpAny_pyNext_wide_item st (c := z.cps[i]) (by simp [hi]) fun h' st' sb => ?_
    have I1 : Inv X pins σ H { s with heap := h', toks := s.toks + 1 } := I.turned (fun b o hb e => (sb.2 b hb).trans e) f0 f1 f3 f4 f5
    obtain ⟨o, e, c, d⟩ := id st'
    exact ⟨_, rfl, go_of (s := { s with heap := h', toks := s.toks + 1 }) e c d (by decide) ⟨.str ⟨#[z.cps[i]]⟩, H, I1, ⟨_, rfl⟩, ⟨rfl, _, by simp [hi], rfl⟩, st', fun b hb => (hf b hb).1⟩⟩
  done := by
    intro X hP hw hK s hc i pins σ H E I hf st hg
    subst hP hw hK
    obtain ⟨f0, f1, f2, f3, f4, f5⟩ := hf it (by simp)
    have hi : z.cps.size ≤ i := hg
    exact wpAny_pyNext_wide_end hc.none st (by simp [hi]) fun h' eb => ⟨rfl, I.turned (t' := s.toks) (fun b o hb e => eb b o hb e) f0 f1 f3 f4 f5⟩
  self := fun _ _ _ _ _ st h => wpAny_pyIter_striter_wide st h
def iStr (tl : TE) : TI := fun σ H R => tl σ H fun x H1 => ∃ z, x = .str z ∧ R (Its z) H1
theorem pi_str {X : Cx} {tg l : Expr} {tl : TE} (hl : PE X l tl) : PI X tg l (iStr tl) := by
  intro pins s σ H R I h
  refine thn (hl pins s σ H _ I h) fun v s1 ⟨x, H1, I1, r1, q1⟩ => ?_
  obtain ⟨z, e, q⟩ := q1
  subst e
  obtain ⟨t, rfl⟩ := r1
  have hf : H1 s1.heap.objs.size = none := I1.hok.fresh (Nat.le_refl _)
  cases ha : z.cps.all (· < 128)
  · refine wpAny_pyIter_wide ha ?_
    exact ⟨s1.heap.objs.size, [s1.heap.objs.size], _, Its z, H1, rfl, I1.kept (t' := s1.toks) fun b u e => Heap.get?_push_of_some _ e, turn_wide z t _, ⟨_, Heap.get?_push_size _ rfl, rfl, rfl⟩, fun b hb => by
      have e : b = s1.heap.objs.size := by simpa using hb
      subst e
      exact I1.fpOk (Nat.le_refl _) hf, q⟩
  · refine wpAny_pyIter_ascii ha ?_
    exact ⟨s1.heap.objs.size, [s1.heap.objs.size], _, Its z, H1, rfl, I1.kept (t' := s1.toks) fun b u e => Heap.get?_push_of_some _ e, turn_ascii z t _, ⟨_, Heap.get?_push_size _ rfl, rfl, rfl⟩, fun b hb => by
      have e : b = s1.heap.objs.size := by simpa using hb
      subst e
      exact I1.fpOk (Nat.le_refl _) hf, q⟩

/-! ### isinstance -/
section
variable {X : Cx}
theorem call_isinst : CallR X (.builtin "isinstance") (fun vs H Q => ∃ x T t b, vs = [x, .ty T] ∧ TyOf X.K H x t ∧ PySem.W.kitOne X.K t (.type T) = some b ∧ Q (.bl b) H) := by
  intro pins s σ H xs us Q I r h
  obtain ⟨x, T, t, b, rfl, ty, e, q⟩ := h
  obtain ⟨u, v, rfl, rx, rv⟩ := r.two
  cases (show v = Value.type T from rv)
  exact isinst_ok I rx ty e fun tk => ⟨.bl b, H, I.tok tk, rfl, q⟩

/-! ### texts -/
theorem strsAre_of {ys : List Str} : ∀ {us : List Value}, Vals (ys.map V.str) us → StrsAre us ys := by
  induction ys with
  | nil => intro us r; rw [List.map_nil] at r; cases r; exact .nil
  | cons y ys ih =>
    intro us r
    rw [List.map_cons] at r
    cases r with
    | cons r1 r2 =>
      obtain ⟨t, e⟩ := r1
      subst e
      exact .cons y t (ih r2)
def rJoin (K : PySem.W.Frag) : V → List V → Hp → VK → Prop := fun x xs H Q => ∃ z p ys, x = .str z ∧ xs = [.ref p] ∧ SqL K H p (ys.map V.str) ∧ (ys.map (·.length)).sum + ys.length * z.length ≤ 16777216 ∧ Q (.str (Txt.join z ys)) H
theorem mt_join : MtR X "str.join" (rJoin X.K) := by
  intro pins s σ H x xs v us Q I rx rs h
  obtain ⟨z, p, ys, rfl, rfl, hq, hz, q⟩ := h
  obtain ⟨t, rfl⟩ := rx
  obtain ⟨u, rfl, ru⟩ := rs.one
  cases ru
  obtain ⟨its, r, pl, _⟩ := I.list hq
  exact join_list pl.isList (strsAre_of (by simpa using r)) hz fun t' k => ⟨.str _, H, I.tok k, ⟨_, rfl⟩, q⟩
def rIndexS : V → List V → Hp → VK → Prop := fun x xs H Q => ∃ z y, x = .str z ∧ xs = [.str y] ∧ 0 ≤ Txt.find z y ∧ Q (.int (Txt.find z y)) H
theorem mt_indexS (hh : X.A.handled = none) : MtR X "str.index" rIndexS := by
  intro pins s σ H x xs v us Q I rx rs h
  obtain ⟨z, y, rfl, rfl, hf, q⟩ := h
  obtain ⟨t, rfl⟩ := rx
  obtain ⟨u, rfl, ru⟩ := rs.one
  obtain ⟨t', rfl⟩ := ru
  exact index_or hh (fun e => absurd e (by omega)) fun _ _ => ⟨.int _, H, I.tok _, ⟨_, rfl⟩, q⟩
def rSlS : V → Option Int → Option Int → Hp → VK → Prop := fun x lo hi H Q => ∃ z, x = .str z ∧ z.length ≤ sizeLine ∧ Q (.str (Txt.slice z lo hi)) H
theorem sl_str : SlR X rSlS := by
  intro pins s σ H x v vl vu lo hi sl Q I rx hs pl pu h
  obtain ⟨z, rfl, hz, q⟩ := h
  obtain ⟨t, rfl⟩ := rx
  refine ⟨"str", _, PySem.F.slot_str_getitem.lookup, typeIs_str _ _ _, ?_⟩
  obtain ⟨o, ho, hc, hd⟩ := hs
  have fin : ∀ {l u : Option Int}, (∀ t' k, EP X pins σ Q (.str (Txt.slice z l u) t') { s with toks := k }) → ∀ t' k, EP X pins σ Q (.str (Txt.slice z l u) t') { s with toks := k } := fun h => h
  cases pl with
  | none =>
    cases pu with
    | none => exact wpAny_getItem_str_slice (l := none) (u := none) (st := none) ⟨o, ho, hc, hd⟩ rfl (post_val_or_str ⟨Nat.le_trans (Txt.slice_le z _ _) hz, fun t' k => ⟨.str _, H, I.tok k, ⟨_, rfl⟩, q⟩⟩)
    | int j uj => exact wpAny_getItem_str_slice (l := none) (u := some (j, uj)) (st := none) ⟨o, ho, hc, hd⟩ rfl (post_val_or_str ⟨Nat.le_trans (Txt.slice_le z _ _) hz, fun t' k => ⟨.str _, H, I.tok k, ⟨_, rfl⟩, q⟩⟩)
  | int i ui =>
    cases pu with
    | none => exact wpAny_getItem_str_slice (l := some (i, ui)) (u := none) (st := none) ⟨o, ho, hc, hd⟩ rfl (post_val_or_str ⟨Nat.le_trans (Txt.slice_le z _ _) hz, fun t' k => ⟨.str _, H, I.tok k, ⟨_, rfl⟩, q⟩⟩)
    | int j uj => exact wpAny_getItem_str_slice (l := some (i, ui)) (u := some (j, uj)) (st := none) ⟨o, ho, hc, hd⟩ rfl (post_val_or_str ⟨Nat.le_trans (Txt.slice_le z _ _) hz, fun t' k => ⟨.str _, H, I.tok k, ⟨_, rfl⟩, q⟩⟩)

/-! ### lists compared, flat items -/
def eqVs : List V → List V → Bool
  | [], [] => true
  | x :: xs, y :: ys => eqV x y && eqVs xs ys
  | _, _ => false
theorem eqVs_len : ∀ {xs ys : List V}, xs.length ≠ ys.length → eqVs xs ys = false
  | [], [], h => absurd rfl h
  | [], _ :: _, _ => rfl
  | _ :: _, [], _ => rfl
  | x :: xs, y :: ys, h => by
    have h' : xs.length ≠ ys.length := fun e => h (by rw [List.length_cons, List.length_cons, e])
    show (eqV x y && eqVs xs ys) = false
    rw [eqVs_len h', Bool.and_false]
def eqAtN (xs ys : List V) (j : Nat) : Bool := match xs[j]?, ys[j]? with
  | some a, some b => eqV a b
  | _, _ => false
theorem all_eqAtN : ∀ {xs ys : List V}, xs.length = ys.length → (List.range xs.length).all (eqAtN xs ys) = eqVs xs ys
  | [], [], _ => rfl
  | [], _ :: _, h => by simp at h
  | _ :: _, [], h => by simp at h
  | x :: xs, y :: ys, h => by
    have h' : xs.length = ys.length := by simpa using h
    rw [List.length_cons, List.range_succ_eq_map, List.all_cons, List.all_map]
    have e : ((eqAtN (x :: xs) (y :: ys)) ∘ Nat.succ) = eqAtN xs ys := by
      funext j
      simp [eqAtN]
    rw [e, all_eqAtN h']
    rfl
theorem items_eqAt {A : Around} {s : Shared} {xs ys : List V} {us vs : List Value} (r : Vals xs us) (q : Vals ys vs) (fx : xs.all flatV = true) (fy : ys.all flatV = true) (j : Nat) (h1 : j < us.toArray.size) (h2 : j < vs.toArray.size) :
    SeqAt.EqAt A s us.toArray[j] vs.toArray[j] (eqAtN xs ys j) := by
  have l1 := r.length
  have l2 := q.length
  have h1' : j < xs.length := by rw [l1]; simpa using h1
  have h2' : j < ys.length := by rw [l2]; simpa using h2
  obtain ⟨u, eu, ru⟩ := r.get (i := j) (x := xs[j]) (by simp [h1'])
  obtain ⟨v, ev, rv⟩ := q.get (i := j) (x := ys[j]) (by simp [h2'])
  have e1 : us.toArray[j] = u := by
    obtain ⟨_, e⟩ := List.getElem?_eq_some_iff.mp eu
    simpa using e
  have e2 : vs.toArray[j] = v := by
    obtain ⟨_, e⟩ := List.getElem?_eq_some_iff.mp ev
    simpa using e
  have e3 : eqAtN xs ys j = eqV xs[j] ys[j] := by simp [eqAtN, h1', h2']
  rw [e1, e2, e3]
  exact eqAt_V ru rv (List.all_eq_true.mp fx _ (List.getElem_mem h1')) (List.all_eq_true.mp fy _ (List.getElem_mem h2'))
def rEqL (K : PySem.W.Frag) (neg : Bool) : R2 := fun x y H Q => ∃ a b xs ys, x = .ref a ∧ y = .ref b ∧ SqL K H a xs ∧ SqL K H b ys ∧ xs.all flatV = true ∧ ys.all flatV = true ∧ Q (.bl (if neg then !eqVs xs ys else eqVs xs ys)) H
theorem op_eqL (hu : X.A.units < cLine) : OpR X (compareOp .Eq) (rEqL X.K false) := by
  intro pins s σ H x y v u Q I rx ry h
  obtain ⟨a, b, xs, ys, rfl, rfl, ha, hb, fx, fy, q⟩ := h
  cases rx
  cases ry
  obtain ⟨its, r1, p1, _⟩ := I.list ha
  obtain ⟨its2, r2, p2, _⟩ := I.list hb
  have l1 := r1.length
  have l2 := r2.length
  by_cases hl : xs.length = ys.length
  · refine SeqAt.eq_listAt (e := eqAtN xs ys) p1.isList p2.isList (by simp; omega) hu (fun j h1 h2 => items_eqAt r1 r2 fx fy j h1 h2) ⟨.bl _, H, I, rfl, ?_⟩
    rw [List.size_toArray, ← l1, all_eqAtN hl]
    exact q
  · refine SeqAt.eq_list_lengthsAt p1.isList p2.isList (by simp; omega) hu ⟨.bl false, H, I, rfl, ?_⟩
    have e := eqVs_len hl
    simp only [e] at q
    exact q
theorem op_neL (hu : X.A.units < cLine) : OpR X (compareOp .NotEq) (rEqL X.K true) := by
  intro pins s σ H x y v u Q I rx ry h
  obtain ⟨a, b, xs, ys, rfl, rfl, ha, hb, fx, fy, q⟩ := h
  cases rx
  cases ry
  obtain ⟨its, r1, p1, _⟩ := I.list ha
  obtain ⟨its2, r2, p2, _⟩ := I.list hb
  have l1 := r1.length
  have l2 := r2.length
  by_cases hl : xs.length = ys.length
  · refine SeqAt.RcNeAt.lists (e := eqAtN xs ys) p1.isList p2.isList (by simp; omega) hu (fun j h1 h2 => items_eqAt r1 r2 fx fy j h1 h2) _ _ _ _ ⟨.bl _, H, I, rfl, ?_⟩
    rw [List.size_toArray, ← l1, all_eqAtN hl]
    exact q
  · refine SeqAt.RcNeAt.lists_lengths p1.isList p2.isList (by simp; omega) hu _ _ _ _ ⟨.bl true, H, I, rfl, ?_⟩
    have e := eqVs_len hl
    simp only [e] at q
    exact q

/-! ### sum of a list of ints -/
theorem ints_items : ∀ {ns : List Int} {us : List Value}, Vals (ns.map V.int) us → ∃ xs : List (Int × Tok), us = xs.map (fun p => Value.int p.1 p.2) ∧ xs.map (·.1) = ns
  | [], us, r => by
    rw [List.map_nil] at r
    cases r
    exact ⟨[], rfl, rfl⟩
  | n :: ns, us, r => by
    rw [List.map_cons] at r
    cases r with
    | cons r1 r2 =>
      obtain ⟨t, e⟩ := r1
      subst e
      obtain ⟨xs, e1, e2⟩ := ints_items r2
      exact ⟨(n, t) :: xs, by rw [e1]; rfl, by rw [List.map_cons, e2]⟩
theorem call_sum (hh : X.A.handled = none) : CallR X (.builtin "sum") (fun vs H Q => ∃ (p : Addr) (ns : List Int), vs = [.ref p] ∧ SqL X.K H p (ns.map V.int) ∧ Q (.int ns.sum) H) := by
  intro pins s σ H xs us Q I r h
  obtain ⟨p, ns, rfl, hq, q⟩ := h
  obtain ⟨u, rfl, ru⟩ := r.one
  cases ru
  obtain ⟨its, r1, p1, _⟩ := I.list hq
  obtain ⟨ps, e1, e2⟩ := ints_items r1
  have hl : s.heap.IsList p (intItems ps.toArray) := by
    have z := p1.isList
    rw [e1] at z
    have e3 : intItems ps.toArray = (ps.map fun p => Value.int p.1 p.2).toArray := by simp [intItems]
    rw [e3]
    exact z
  refine sum_intListG hh hl fun h' tk t' hk => ⟨.int ns.sum, H, I.kept hk, ⟨t', ?_⟩, q⟩
  rw [preSum_eq, List.take_of_length_le (by simp), e2]

/-! ### // by any written positive number -/
theorem op_fdivB : OpR X (binaryOp .FloorDiv) (rI (fun _ j => 0 < j ∧ j.natAbs.log2 < 9000) fun i j => .int (i / j)) := opI fun i j _ _ _ _ _ hc q => by
  have h1 : (0 : Int) < j := hc.1
  exact floordiv_int (by omega) (by rw [Int.fdiv_eq_ediv_of_nonneg i (by omega)]; exact q) (.inl (PyProof.noPylong_of_log2 hc.2))
/-! ### tuples put together: whichever is empty -/
theorem cat_all {prog : Program} {w : World} {A : Around} {E : Value → Shared → Prop} {s : Shared} {t b : Addr} {vs ws : List Value} {Q : Value → Shared → Prop} (ht : IsTup s.heap t vs.toArray) (hb : IsTup s.heap b ws.toArray) (hv : vs = [])
    (h0 : Q (.ref b) s) : wpAny (model prog w) A (binaryOp .Add (.ref t) (.ref b)) Q E s := by
  obtain ⟨⟨cls, dd, data, sl⟩, ho, hc, n, hd⟩ := id ht
  obtain ⟨⟨cls2, dd2, data2, sl2⟩, ho2, hc2, n2, hd2⟩ := id hb
  simp only at hc hd hc2 hd2
  subst hc hd hc2 hd2
  exact concat_meets ⟨_, ho, rfl⟩ ⟨_, ho2, rfl⟩ noFill_tuple_add seq_tuple_add PySem.F.slot_tuple_add PySem.F.entry_tuple_add (PySem.F.args_tuple_add_2 _ _) (tuple_addW0 t b _ _ n n2 dd dd2 sl sl2 (by simp [hv])) ⟨ho, ho2, h0⟩
def rCatA : R2 := fun x y H Q => ∃ a b xs ys, x = .ref a ∧ y = .ref b ∧ H a = some (.tup xs) ∧ H b = some (.tup ys) ∧ xs.length + ys.length ≤ sizeLine ∧ ∀ r H', Same H H' → H' r = some (.tup (xs ++ ys)) → Q (.ref r) H'
theorem op_catA : OpR X (binaryOp .Add) rCatA := by
  intro pins s σ H x y v u Q I rx ry h
  obtain ⟨a, b, xs, ys, rfl, rfl, ha, hb, hz, q⟩ := h
  by_cases hx : xs = []
  · cases rx
    cases ry
    obtain ⟨its, r1, p1, _⟩ := I.tuple (SqT.of ha)
    obtain ⟨its2, r2, p2, _⟩ := I.tuple (SqT.of hb)
    refine cat_all p1 p2 (r1.nil_iff.mpr hx) ⟨.ref b, H, I, rfl, q b H (Same.refl H) ?_⟩
    rw [hx]
    exact hb
  · refine op_catT pins s σ H (.ref a) (.ref b) v u Q I rx ry ⟨a, b, xs, ys, rfl, rfl, SqT.of ha, SqT.of hb, hx, hz, fun e => q a H (Same.refl H) ?_, fun _ p hp => q p _ (fun c o e => by rw [upd_ne (ne_of_none e hp)]; exact e) upd_same⟩
    rw [e, List.append_nil]
    exact ha
end
end L2
namespace L2
open PySem PySem.Spec PyProof.Rows

/-! ### an exception of an own class: its object, its traceback -/
/-- e is an instance of the exception class at C, its dict at dd, its traceback tb -/
def ExAt (h : Heap) (e C : Addr) (dd : Option Addr) (tb : Value) : Prop := ∃ vs sl, h.get? e = some ⟨.ref C, dd, .fields vs, sl⟩ ∧ vs.size = 6 ∧ vs[1]? = some tb ∧ vs[2]? = some .none
/-- the traceback's first entry: in flight at fl -/
def TbAt (h : Heap) (T : Addr) (fl : Value) : Prop := ∃ oT ts, h.get? T = some oT ∧ oT.data = .fields ts ∧ ts[3]? = some fl
theorem ExAt.lt {h : Heap} {e C : Addr} {dd : Option Addr} {tb : Value} (x : ExAt h e C dd tb) : e < h.objs.size := by obtain ⟨_, _, q, _⟩ := x; exact Heap.lt_size q
theorem TbAt.lt {h : Heap} {T : Addr} {fl : Value} (x : TbAt h T fl) : T < h.objs.size := by obtain ⟨_, _, q, _⟩ := x; exact Heap.lt_size q
theorem ExAt.keep {h h' : Heap} {e C : Addr} {dd : Option Addr} {tb : Value} (x : ExAt h e C dd tb) (k : ∀ o, h.get? e = some o → h'.get? e = some o) : ExAt h' e C dd tb := by
  obtain ⟨vs, sl, q, r⟩ := x; exact ⟨vs, sl, k _ q, r⟩
theorem TbAt.keep {h h' : Heap} {T : Addr} {fl : Value} (x : TbAt h T fl) (k : ∀ o, h.get? T = some o → h'.get? T = some o) : TbAt h' T fl := by
  obtain ⟨oT, ts, q, r⟩ := x; exact ⟨oT, ts, k _ q, r⟩

section
variable {M : Model} {A : Around} {E : Value → Shared → Prop} {s : Shared}
/-- a field of the exception is put -/
theorem ExAt.put {h : Heap} {e C : Addr} {dd : Option Addr} {tb : Value} (x : ExAt h e C dd tb) (v : Value) : ExAt (h.update e (Obj.mapFields (·.setIfInBounds 1 v))) e C dd v := by
  obtain ⟨vs, sl, q, z, r, r2⟩ := x
  refine ⟨vs.setIfInBounds 1 v, sl, ?_, by simpa using z, by simp [z], by rw [Array.getElem?_setIfInBounds_ne (by decide)]; exact r2⟩
  rw [Heap.get?_update_self _ q rfl]
  rfl
theorem TbAt.put {h : Heap} {T : Addr} {fl : Value} (x : TbAt h T fl) (v : Value) : TbAt (h.update T (Obj.mapFields (·.setIfInBounds 3 v))) T v := by
  obtain ⟨oT, ts, q, d, r⟩ := x
  have hz := (Array.getElem?_eq_some_iff.mp r).1
  have d' := Obj.data_mapFields d (·.setIfInBounds 3 v)
  exact ⟨_, _, Heap.get?_update_self _ q (Obj.isFreed_of_fields d'), d', by simp [hz]⟩
theorem setFlight_to {e C T : Addr} {dd : Option Addr} {fl : Value} {fr : Option Addr} {Q : Unit → Shared → Prop} (x : ExAt s.heap e C dd (.ref T)) (t : TbAt s.heap T fl)
    (h : Q () { s with heap := s.heap.update T (Obj.mapFields (·.setIfInBounds 3 (fr.elim .none fun f => rawInt f))) }) : wpAny M A (setFlight (.ref e) fr) Q E s := by
  obtain ⟨vs, sl, q, z, r, _⟩ := x
  obtain ⟨oT, ts, qT, dT, rT⟩ := t
  unfold setFlight
  refine wpAny_bind (wpAny_field q rfl r ?_)
  rw [if_pos (show (Value.ref T != Value.none) = true from by simp)]
  exact wpAny_setField qT dT (Array.getElem?_eq_some_iff.mp rT).1 h
theorem setFlight_ok {e C T : Addr} {dd : Option Addr} {fl : Value} {Q : Unit → Shared → Prop} (x : ExAt s.heap e C dd (.ref T)) (t : TbAt s.heap T fl)
    (h : Q () { s with heap := s.heap.update T (Obj.mapFields (·.setIfInBounds 3 .none)) }) : wpAny M A (setFlight (.ref e) none) Q E s := setFlight_to (fr := none) x t h
/-- what noteFrame and the landing behind it leave: all but e, the old entry and the frames' slots is kept; a new entry stands, nothing in flight -/
structure Noted (l : List Env) (e C : Addr) (dd : Option Addr) (tb0 fl : Value) (h h' : Heap) (T : Addr) : Prop where
  ex : ExAt h' e C dd (.ref T)
  tb : TbAt h' T fl
  new : tb0 = .ref T ∨ h.objs.size ≤ T
  keep : ∀ b o, b ≠ e → (∀ T0, tb0 = .ref T0 → b ≠ T0) → b ∉ frs l → h.get? b = some o → h'.get? b = some o
  slot : ∀ b o, b ≠ e → (∀ T0, tb0 = .ref T0 → b ≠ T0) → h.get? b = some o → ∃ sl, h'.get? b = some { o with slots := sl }
theorem new_entry {base : Heap} {env : Env} {outer : List Env} {L e C : Addr} {dd : Option Addr} {head tb : Value} {hadNext : Bool} {Q : Unit → Shared → Prop} (hfr : A.frames = some (env :: outer)) (hl : s.heap.FunFrames base (env :: outer))
    (hf : env.frame = some L) (x : ExAt s.heap e C dd tb)
    (h : ∀ h' T, ExAt h' e C dd (.ref T) → TbAt h' T (rawInt L) → s.heap.objs.size ≤ T → (∀ b o, b ≠ e → b ∉ frs (env :: outer) → s.heap.get? b = some o → h'.get? b = some o) →
      (∀ b o, b ≠ e → s.heap.get? b = some o → ∃ sl, h'.get? b = some { o with slots := sl }) → Q () { s with heap := h' }) :
    wpAny M A (do let a ← frameOf env; let pl ← entryPlaceOf L hadNext; let b ← EntryCells.newEntry head a .none (rawInt L) .none pl; setField (.ref e) 1 b) Q E s := by
  have hene : e ∉ (env :: outer).filterMap (·.frame) := fun hm => by
    obtain ⟨vs, sl, q, _⟩ := x
    obtain ⟨_, o, ho, hnf⟩ := hl.mem hm
    rw [q] at ho
    cases ho
    exact hnf vs rfl
  refine wpAny_bind (wpAny_frameOf_fun hfr hl hf fun h1 s1 => ?_)
  refine wpAny_bind (wpAny_entryPlaceOf fun pl hpl => ?_)
  unfold EntryCells.newEntry newFields
  refine wpAny_bind (wpAny_newObj_type ?_ (hpl.sizeOk5 _ _ _ _ _))
  have x1 : ExAt h1 e C dd tb := x.keep fun o q => (s1.2.1 e hene).trans q
  have hsz : h1.objs.size = s.heap.objs.size := s1.1
  obtain ⟨vs, sl, q, z, r, _⟩ := id x1
  have q2 := Heap.get?_push_of_some (h := h1) { cls := .type "traceback", dict := none, data := .fields ([head, .ref L, .none, rawInt L, .none] ++ (if pl.isEmpty then List.replicate 6 Value.none else pl)).toArray } q
  refine wpAny_setField q2 rfl (by rw [z]; decide) ?_
  have hTe : h1.objs.size ≠ e := Nat.ne_of_gt x1.lt
  have x2 : ExAt (h1.push { cls := .type "traceback", dict := none, data := .fields ([head, .ref L, .none, rawInt L, .none] ++ (if pl.isEmpty then List.replicate 6 Value.none else pl)).toArray }) e C dd tb := x1.keep fun o e => Heap.get?_push_of_some _ e
  have kp : ∀ b o, b ≠ e → h1.get? b = some o → ((h1.push { cls := .type "traceback", dict := none, data := .fields ([head, .ref L, .none, rawInt L, .none] ++ (if pl.isEmpty then List.replicate 6 Value.none else pl)).toArray }).update e (Obj.mapFields (·.setIfInBounds 1 (Value.ref h1.objs.size)))).get? b = some o := fun b o hb hq => by
    rw [Heap.get?_update_other _ _ (Ne.symm hb)]
    exact Heap.get?_push_of_some _ hq
  refine h _ h1.objs.size (x2.put _) ⟨_, _, (Heap.get?_update_other _ _ (Ne.symm hTe)).trans (Heap.get?_push_size h1 rfl), rfl, ?_⟩ (by rw [hsz]; exact Nat.le_refl _) (fun b o hb hn hq => kp b o hb ((s1.2.1 b hn).trans hq)) (fun b o hb hq => ?_)
  · simp
  · obtain ⟨sl', hs⟩ := s1.2.2 b o hq
    exact ⟨sl', kp b _ hb hs⟩
/-- noteFrame: behind a first raise, behind a callee's, or again in this frame -/
theorem note_ok {base : Heap} {env : Env} {outer : List Env} {L e C : Addr} {dd : Option Addr} {tb : Value} {Q : Unit → Shared → Prop} (hfr : A.frames = some (env :: outer)) (hl : s.heap.FunFrames base (env :: outer))
    (hf : env.frame = some L) (x : ExAt s.heap e C dd tb) (ht : tb = .none ∨ ∃ T0, tb = .ref T0 ∧ T0 ≠ e ∧ (TbAt s.heap T0 .none ∨ TbAt s.heap T0 (rawInt L)))
    (h : ∀ h' T, T ≠ e → Noted (env :: outer) e C dd tb (rawInt L) s.heap h' T → Q () { s with heap := h' }) :
    wpAny M A (noteFrame (.ref e) env) Q E s := by
  have fin : ∀ {h1 h2 : Heap} {T : Addr}, h1.objs.size = s.heap.objs.size → (∀ b o, b ≠ e → (∀ T0, tb = .ref T0 → b ≠ T0) → s.heap.get? b = some o → h1.get? b = some o) →
      ExAt h2 e C dd (.ref T) → TbAt h2 T (rawInt L) → h1.objs.size ≤ T → (∀ b o, b ≠ e → b ∉ frs (env :: outer) → h1.get? b = some o → h2.get? b = some o) →
      (∀ b o, b ≠ e → h1.get? b = some o → ∃ sl, h2.get? b = some { o with slots := sl }) → Q () { s with heap := h2 } := by
    intro h1 h2 T hsz k1 x2 t2 hT k2 s2
    exact h _ T (Nat.ne_of_gt (Nat.lt_of_lt_of_le x.lt (by rw [← hsz]; exact hT))) ⟨x2, t2, .inr (by rw [← hsz]; exact hT), fun b o hb hb0 hn q => k2 b o hb hn (k1 b o hb hb0 q), fun b o hb hb0 q => s2 b o hb (k1 b o hb hb0 q)⟩
  unfold noteFrame
  simp only [hf]
  obtain ⟨vs, sl, q, z, r, _⟩ := id x
  refine wpAny_bind (wpAny_field q rfl r ?_)
  rcases ht with rfl | ⟨T0, rfl, hne, t0 | t0⟩
  · rw [if_neg (by decide)]
    exact new_entry hfr hl hf x fun h' T x' t' hT k' s' => fin rfl (fun b o _ _ q => q) x' t' hT k' s'
  · rw [if_pos (show (Value.ref T0 != Value.none) = true from by simp)]
    obtain ⟨oT, ts, qT, dT, rT⟩ := id t0
    refine wpAny_bind (wpAny_field qT dT rT ?_)
    rw [if_neg (show ¬ ((Value.none == rawInt L) = true) from by simp [rawInt])]
    refine wpAny_bind (wpAny_setField qT dT (Array.getElem?_eq_some_iff.mp rT).1 ?_)
    have oth : ∀ b, b ≠ T0 → (s.heap.update T0 (Obj.mapFields (·.setIfInBounds 3 Value.none))).get? b = s.heap.get? b := fun b hb => Heap.get?_update_other _ _ (Ne.symm hb)
    have x1 : ExAt (s.heap.update T0 (Obj.mapFields (·.setIfInBounds 3 Value.none))) e C dd (.ref T0) := x.keep fun o q => (oth e (Ne.symm hne)).trans q
    have hl1 : (s.heap.update T0 (Obj.mapFields (·.setIfInBounds 3 Value.none))).FunFrames base (env :: outer) := hl.of_keeps fun b o hb hnf => ⟨o, (oth b (fun z => by
      rw [z, qT] at hb
      cases hb
      exact hnf ts dT)).trans hb, rfl⟩
    have hsz : (s.heap.update T0 (Obj.mapFields (·.setIfInBounds 3 Value.none))).objs.size = s.heap.objs.size := by simp [Heap.update]
    exact new_entry (s := { s with heap := s.heap.update T0 (Obj.mapFields (·.setIfInBounds 3 Value.none)) }) hfr hl1 hf x1 fun h' T x' t' hT k' s' => fin hsz (fun b o _ hb0 q => (oth b (hb0 T0 rfl)).trans q) x' t' hT k' s'
  · rw [if_pos (show (Value.ref T0 != Value.none) = true from by simp)]
    obtain ⟨oT, ts, qT, dT, rT⟩ := id t0
    refine wpAny_bind (wpAny_field qT dT rT ?_)
    rw [if_pos (show (rawInt L == rawInt L) = true from by simp)]
    exact wpAny_pure (h s.heap T0 hne ⟨x, t0, .inl rfl, fun b o _ _ _ q => q, fun b o _ _ q => ⟨o.slots, q⟩⟩)
/-- the flight of the head entry is put -/
theorem Noted.fly {l : List Env} {e C : Addr} {dd : Option Addr} {tb0 fl v : Value} {h h' : Heap} {T : Addr} (N : Noted l e C dd tb0 fl h h' T) (hne : T ≠ e) : Noted l e C dd tb0 v h (h'.update T (Obj.mapFields (·.setIfInBounds 3 v))) T := by
  have low : ∀ b o, (∀ T0, tb0 = .ref T0 → b ≠ T0) → h.get? b = some o → T ≠ b := fun b o hb q => by
    rcases N.new with z | z
    · exact (hb T z).symm
    · exact Nat.ne_of_gt (Nat.lt_of_lt_of_le (Heap.lt_size q) z)
  refine ⟨N.ex.keep fun o q => (Heap.get?_update_other _ _ hne).trans q, N.tb.put v, N.new, fun b o hb hb0 hn q => ?_, fun b o hb hb0 q => ?_⟩
  · exact (Heap.get?_update_other _ _ (low b o hb0 q)).trans (N.keep b o hb hb0 hn q)
  · obtain ⟨sl, q2⟩ := N.slot b o hb hb0 q
    exact ⟨sl, (Heap.get?_update_other _ _ (low b o hb0 q)).trans q2⟩
/-- noteFrame, then nothing in flight -/
theorem noted_ok {base : Heap} {env : Env} {outer : List Env} {L e C : Addr} {dd : Option Addr} {tb : Value} {Q : Unit → Shared → Prop} (hfr : A.frames = some (env :: outer)) (hl : s.heap.FunFrames base (env :: outer))
    (hf : env.frame = some L) (x : ExAt s.heap e C dd tb) (ht : tb = .none ∨ ∃ T0, tb = .ref T0 ∧ T0 ≠ e ∧ (TbAt s.heap T0 .none ∨ TbAt s.heap T0 (rawInt L)))
    (h : ∀ h' T, Noted (env :: outer) e C dd tb .none s.heap h' T → Q () { s with heap := h' }) :
    wpAny M A (noteFrame (.ref e) env) (fun _ s2 => wpAny M A (setFlight (.ref e) none) Q E s2) E s :=
  note_ok hfr hl hf x ht fun h' T hne N => setFlight_ok (s := { s with heap := h' }) N.ex N.tb (h _ T (N.fly hne))
/-- noteFrame, then in flight here: an exception comes through a loop of this frame -/
theorem noted_here {base : Heap} {env : Env} {outer : List Env} {L e C : Addr} {dd : Option Addr} {tb : Value} {Ex : Value → Shared → Prop} (hfr : A.frames = some (env :: outer)) (hl : s.heap.FunFrames base (env :: outer))
    (hf : env.frame = some L) (x : ExAt s.heap e C dd tb) (ht : tb = .none ∨ ∃ T0, tb = .ref T0 ∧ T0 ≠ e ∧ (TbAt s.heap T0 .none ∨ TbAt s.heap T0 (rawInt L)))
    (h : ∀ h' T, Noted (env :: outer) e C dd tb (rawInt L) s.heap h' T → Ex (.ref e) { s with heap := h' }) :
    notedBy M A env (cameBackBy M A env Ex) (.ref e) s := by
  refine note_ok hfr hl hf x ht fun h' T hne N => ?_
  obtain ⟨vs, sl, q, z, r, _⟩ := id N.ex
  refine wpAny_bind (wpAny_field (s := { s with heap := h' }) q rfl r ?_)
  rw [if_neg (show ¬ ((Value.ref T == Value.none) = true) from by simp)]
  rw [hf]
  exact setFlight_to (s := { s with heap := h' }) (fr := some L) N.ex N.tb (h _ T (N.fly hne))
end
end L2
namespace L2
open PySem PySem.Spec PyProof.Rows PySem.W PySem.Builtin PySem.Builtin.ObjectAttr

/-! ### a field of an exception of an own class is stored, read -/
def tailVE : List Value := [.type "ValueError", .type "Exception", .type "BaseException", .type "object"]
/-- own classes, then ValueError's line -/
inductive ExcMro : List Value → Prop where
  | ve : ExcMro tailVE
  | own {l : List Value} (c : Addr) (h : ExcMro l) : ExcMro (.ref c :: l)
theorem refuse_tail (self : Value) : refuseLoop self "__setattr__" tailVE = pure () := by kernel_rfl
theorem ExcMro.passes {l : List Value} (h : ExcMro l) (self : Value) : refuseLoop self "__setattr__" l = pure () := by
  induction h with
  | ve => exact refuse_tail self
  | own c _ ih => rw [refuseLoop_ref]; exact ih
theorem ExcMro.has {l : List Value} (h : ExcMro l) : l.contains (.type "object") = true ∧ l.contains (.type "BaseException") = true ∧ l.contains (.type "ValueError") = true ∧ l.isEmpty = false := by
  induction h with
  | ve => decide +kernel
  | own c _ ih =>
    obtain ⟨i1, i2, i3, _⟩ := ih
    exact ⟨by rw [List.contains_cons, i1, Bool.or_true], by rw [List.contains_cons, i2, Bool.or_true], by rw [List.contains_cons, i3, Bool.or_true], rfl⟩
/-- what of the text an exception class must have -/
structure XCls (K : Frag) (C : Addr) : Prop where
  cd : ∃ cd, clsIn K C = some cd ∧ ExcMro cd.mro ∧ cd.hasDict = true
  sa : findIn K (.ref C) "__setattr__" = some (some (.builtin "object.__setattr__"))
  ga : findIn K (.ref C) "__getattribute__" = some (some (.builtin "BaseException.__getattribute__"))
  gt : findIn K (.ref C) "__getattr__" = some none
  ca : findIn K (.ref C) "__class__" = some (some (.builtin "object.__class__"))
  hn : specialIn K (.builtin "object.__class__") "__get__" = some (some (.builtin "getset_descriptor.__get__"))
  tk : takesIn K (.builtin "object.__class__") = some true

section
variable {prog : Program} {w : World} {A : Around} {E : Value → Shared → Prop} {s : Shared} {K : Frag} {x C : Addr} {ox : Obj} {od : Option Obj} {R : Result → Shared → Prop}
theorem XCls.obj (c : XCls K C) (X : K.In s.heap) (I : InstAt s.heap x ox C od) (T : String) (hT : T = "object" ∨ T = "BaseException") : Looks (model prog w) s.heap (isInstance (.ref x) (.type T)) true := by
  obtain ⟨cd, hc, hm, _⟩ := c.cd
  obtain ⟨h1, h2, _, h4⟩ := hm.has
  refine I.type.andThen (looks_mroIn X ?_)
  unfold mroIn
  rw [hc, Option.bind_some, if_neg (by rw [h4]; decide)]
  rcases hT with rfl | rfl
  · rw [h1]
  · rw [h2]
theorem osa_exc {name : Str} {tk : Tok} {v : Value} (X : K.In s.heap) (I : InstAt s.heap x ox C od) (c : XCls K C) (ht : takerIn K C name = some none)
    (h : ∀ b, wpAny (model prog w) A.in1 (storeInOwnDict (.ref x) (.ref C) (.str name tk) name v b)
      (fun fin s' => match fin with | .done f => R (.ok f) s' | .again c' => c'.quiet = true ∧ codeAny (model prog w) A c' R s') (fun e s' => R (.error e) s') s) :
    codeAny (model prog w) A (.call (.builtin "object.__setattr__") ⟨[.ref x, .str name tk, v], []⟩) R s := by
  have SF := PySem.F.store_object
  obtain ⟨cd, hc, ho, _⟩ := id c.cd
  refine codeAny_call_builtin SF.slot.plain SF.entry (@check_slot (model prog w) _ _ s "object.__setattr__" "object" "__setattr__" (.ref x) [.str name tk, v] [] _ SF.kind SF.split (c.obj X I "object" (.inl rfl)) (SF.args (.ref x) (.str name tk) v) ?_)
  obtain ⟨attr, ha, hr⟩ := Option.bind_eq_some_iff.mp ht
  have hm : Looks (model prog w) s.heap (mroOf (.ref C)) cd.mro := (looks_clsIn X hc).andThen .now
  have L3 : Looks (model prog w) s.heap (storeTaker? attr) none := by
    cases attr with
    | none => exact .now
    | some a =>
      obtain ⟨b, hb, hz⟩ := Option.map_eq_some_iff.mp hr
      refine (looks_takesIn X hb).andThen ?_
      cases b with
      | false => exact .now
      | true => cases hz
  rw [osa_eq, refuse_eq]
  refine wpAny_bind (wpAny_bind (I.type.here (wpAny_bind (hm.here ?_))))
  rw [ho.passes]
  refine wpAny_pure (wpAny_bind (I.type.here (wpAny_bind ((looks_findIn X ha).here (wpAny_bind (L3.here ?_))))))
  exact h _
/-- x.f = v: the first field of the exception x: its dict is made -/
theorem exc_set_first {vs : Array Value} {sl : Array (Option Value)} {name : Str} {v : Value} {Q : Unit → Shared → Prop} (X : K.In s.heap) (c : XCls K C) (ht : takerIn K C name = some none) (hx : s.heap.get? x = some ⟨.ref C, none, .fields vs, sl⟩)
    (h : ∀ h' dx, s.heap.objs.size ≤ dx → h'.get? x = some ⟨.ref C, some dx, .fields vs, sl⟩ → h'.Ns1 dx (fun y => if y = name then some v else none) → (∀ b o, b ≠ x → s.heap.get? b = some o → h'.get? b = some o) → Q () { s with heap := h', toks := s.toks + 2 }) :
    wpAny (model prog w) A (setAttr (.ref x) name v) Q E s := by
  have I : InstAt s.heap x ⟨.ref C, none, .fields vs, sl⟩ C none := ⟨hx, rfl, rfl, True.intro⟩
  refine set_plain X I c.sa (osa_exc (s := { s with toks := s.toks + 1 }) X I c ht fun b => ?_)
  obtain ⟨cd, hc, _, hd'⟩ := c.cd
  refine wpAny_bind (wpAny_pure (wpAny_bind (wpAny_bind (wpAny_loadPart hx (wpAny_bind (Looks.here (s := { s with toks := s.toks + 1 }) (looks_clsIn X hc) ?_))))))
  rw [hd']
  have hne : s.heap.objs.size ≠ x := Nat.ne_of_gt (Heap.lt_size hx)
  have hx1 := Heap.get?_push_of_some (h := s.heap) ({ cls := .type "dict", data := .dict #[] } : Obj) hx
  have hx2 : ((s.heap.push { cls := .type "dict", data := .dict #[] }).update x fun o => { o with dict := some s.heap.objs.size }).get? x = some ⟨.ref C, some s.heap.objs.size, .fields vs, sl⟩ := by rw [Heap.get?_update_self _ hx1 rfl]
  have hd2 : ((s.heap.push { cls := .type "dict", data := .dict #[] }).update x fun o => { o with dict := some s.heap.objs.size }).get? s.heap.objs.size = some { cls := .type "dict", data := .dict #[] } := by
    rw [Heap.get?_update_other _ _ (Ne.symm hne)]
    exact Heap.get?_push_size _ rfl
  have n2 : ((s.heap.push { cls := .type "dict", data := .dict #[] }).update x fun o => { o with dict := some s.heap.objs.size }).Ns1 s.heap.objs.size (fun _ => none) :=
    Heap.Ns1.of_empty ⟨_, #[], _, hd2, rfl, (fun e he => absurd he (by simp)), fun _ => rfl⟩
  refine wpAny_bind (wpAny_alloc (wpAny_bind (wpAny_update hx1 (wpAny_pure (a := some s.heap.objs.size) (wpAny_bind (wpAny_pure (wpAny_bind ?_)))))))
  refine wpAny_nsSet1 (s := { s with toks := s.toks + 1, heap := (s.heap.push { cls := .type "dict", data := .dict #[] }).update x fun o => { o with dict := some s.heap.objs.size } }) n2 fun h' hn2 hs2 => ?_
  obtain ⟨oD, esD, epD, hoD, hdD, hcD⟩ := hn2.count (PySem.Within.cons (ns := []) name v (fun y hy => absurd rfl hy))
  refine wpAny_bind (wpAny_lookBehind hoD (by rw [hdD]; exact pastItsLine_dict (Nat.le_trans hcD (by show 1 ≤ sizeLine + 1; rw [sizeLine_eq]; omega))) ?_)
  refine wpAny_pure (h _ s.heap.objs.size (Nat.le_refl _) ((hs2.2 _ (Ne.symm hne)).trans hx2) hn2 fun b o hb q => ?_)
  have hbd : b ≠ s.heap.objs.size := Nat.ne_of_lt (Heap.lt_size q)
  rw [hs2.2 b hbd, Heap.get?_update_other _ _ (Ne.symm hb)]
  exact Heap.get?_push_of_some _ q
/-- .. a further field -/
theorem exc_set_more {vs : Array Value} {sl : Array (Option Value)} {dx : Addr} {mA : Str → Option Value} {ns : List Str} {name : Str} {v : Value} {Q : Unit → Shared → Prop} (X : K.In s.heap) (c : XCls K C) (ht : takerIn K C name = some none)
    (hx : s.heap.get? x = some ⟨.ref C, some dx, .fields vs, sl⟩) (hn : s.heap.Ns1 dx mA) (hw : PySem.Within mA ns) (hsz : ns.length ≤ 1000)
    (h : ∀ h', h'.Ns1 dx (fun y => if y = name then some v else mA y) → Heap.SameBut dx s.heap h' → Q () { s with heap := h', toks := s.toks + 2 }) :
    wpAny (model prog w) A (setAttr (.ref x) name v) Q E s := by
  obtain ⟨od, ho, _⟩ := lookIn_ns hn
  have I : InstAt s.heap x ⟨.ref C, some dx, .fields vs, sl⟩ C (some od) := ⟨hx, rfl, rfl, ho⟩
  refine set_plain X I c.sa (osa_exc (s := { s with toks := s.toks + 1 }) X I c ht fun b => ?_)
  obtain ⟨cd, hc, _, hd'⟩ := c.cd
  refine wpAny_bind (wpAny_pure (wpAny_bind (wpAny_bind (wpAny_loadPart hx (wpAny_bind (Looks.here (s := { s with toks := s.toks + 1 }) (looks_clsIn X hc) ?_))))))
  rw [hd']
  refine wpAny_pure (a := some dx) (wpAny_bind (wpAny_pure (wpAny_bind ?_)))
  refine wpAny_nsSet1 (s := { s with toks := s.toks + 1 }) hn fun h' hn2 hs2 => ?_
  obtain ⟨oD, esD, epD, hoD, hdD, hcD⟩ := hn2.count (PySem.Within.cons name v hw)
  refine wpAny_bind (wpAny_lookBehind hoD (by rw [hdD]; exact pastItsLine_dict (Nat.le_trans hcD (by rw [List.length_cons, sizeLine_eq]; omega))) ?_)
  exact wpAny_pure (h _ hn2 hs2)
/-- x.f -/
theorem exc_get {vs : Array Value} {sl : Array (Option Value)} {dx : Addr} {mA : Str → Option Value} {name : Str} {v : Value} {expr : Bool} {Q : Value → Shared → Prop} (X : K.In s.heap) (c : XCls K C) (hx : s.heap.get? x = some ⟨.ref C, some dx, .fields vs, sl⟩)
    (hn : s.heap.Ns1 dx mA) (ha : findIn K (.ref C) name = some none) (hv : mA name = some v) (hv' : handedIn v = true) (h : Q v { s with toks := s.toks + 1 }) :
    wpAny (model prog w) A (getAttr (.ref x) name expr) Q E s := by
  obtain ⟨od, ho, hl⟩ := lookIn_ns hn
  have I : InstAt s.heap x ⟨.ref C, some dx, .fields vs, sl⟩ C (some od) := ⟨hx, rfl, rfl, ho⟩
  obtain ⟨cd, hc, hm, hd'⟩ := id c.cd
  have hh : hasDictIn K C = true := by unfold hasDictIn; rw [hc]; exact hd'
  have hf : findObj K C (some od) name = some (.value v) := findObj_own hh ha rfl (by rw [hl, hv])
  have hi := c.obj (prog := prog) (w := w) X I "BaseException" (.inr rfl)
  obtain ⟨hp, g, d, t, os⟩ := s
  have L0 := I.type (M := model prog w)
  have L1 := looks_findIn (M := model prog w) X c.ga
  have L2 := looks_findIn (M := model prog w) X c.gt
  have L3 := looks_find (M := model prog w) X I hf
  have sl := PySem.F.excAttr_ValueError.ga
  unfold getAttr getAttrBy
  refine wpAny_bind (wpAny_mkText (wpAny_holding (wpAny_bind (L0.at (wpAny_bind (L1.at ?_))))))
  show wpAny _ _ (getAttrByItsOwn _ _ _ _ _ _) _ _ _
  unfold getAttrByItsOwn hookBefore
  refine wpAny_bind (L2.at ?_)
  have hcg : callGetattribute (.ref x) (.str name t) (.builtin "BaseException.__getattribute__") expr = boundAndCalled (.builtin "BaseException.__getattribute__") (.ref x) (.str name t) := by cases expr <;> rfl
  rw [hcg]
  refine wpAny_bind (wpAny_attempt (wpAny_holding ?_))
  unfold boundAndCalled
  rw [sl.bind]
  refine wpAny_bind (wpAny_pure (wpAny_call (codeAny_call_builtin sl.plain PySem.F.entry_bexc_ga ?_)))
  refine @check_slot (model prog w) _ _ ⟨hp, g, d, t + 1, os⟩ "BaseException.__getattribute__" "BaseException" "__getattribute__" (.ref x) [.str name t] [] _ (by decide +kernel) (by decide +kernel) hi (PySem.F.args_bexc_ga _ _) ?_
  unfold Builtin.«object.__getattribute__»
  refine wpAny_bind (wpAny_pure (wpAny_bind (wpAny_pure (wpAny_bind (L0.at (wpAny_bind (L3.at ?_)))))))
  refine wpAny_pure ?_
  show wpAny _ _ (handedOut v) _ _ _
  rw [handedOut_of hv']
  exact wpAny_pure h
/-- x.__class__, for isinstance -/
theorem exc_class {Q : Option Value → Shared → Prop} (X : K.In s.heap) (c : XCls K C) (I : InstAt s.heap x ox C od) (h : Q (some (.ref C)) { s with toks := s.toks + 1 }) : wpAny (model prog w) A (getAttr? (.ref x) "__class__") Q E s := by
  obtain ⟨cd, hc, hm, hd'⟩ := id c.cd
  have hf : findObj K C od "__class__" = some (.bind (.builtin "getset_descriptor.__get__") (.builtin "object.__class__")) := by
    unfold findObj
    rw [hc, Option.bind_some, c.ca, Option.bind_some]
    simp [c.hn, c.tk]
  have hmo : mroIn K C (.type "object") = some true := by
    unfold mroIn
    rw [hc, Option.bind_some, if_neg (by rw [hm.has.2.2.2]; decide), hm.has.1]
  have hi := c.obj (prog := prog) (w := w) X I "BaseException" (.inr rfl)
  obtain ⟨hp, g, d, t, os⟩ := s
  have L0 := I.type (M := model prog w)
  have L1 := looks_findIn (M := model prog w) X c.ga
  have L2 := looks_findIn (M := model prog w) X c.gt
  have L3 := looks_find (M := model prog w) X I hf
  have sl := PySem.F.excAttr_ValueError.ga
  unfold getAttr? getAttrBy? getAttrBy
  refine wpAny_bind (wpAny_mkText (wpAny_bind (wpAny_attempt (wpAny_holding (wpAny_bind (L0.at (wpAny_bind (L1.at (?_ : wpAny _ _ (getAttrByItsOwn _ _ _ _ _ _) _ _ _)))))))))
  unfold getAttrByItsOwn hookBefore
  refine wpAny_bind (L2.at ?_)
  have hcg : callGetattribute (.ref x) (.str "__class__" t) (.builtin "BaseException.__getattribute__") false = boundAndCalled (.builtin "BaseException.__getattribute__") (.ref x) (.str "__class__" t) := rfl
  rw [hcg]
  refine wpAny_bind (wpAny_attempt (wpAny_holding ?_))
  unfold boundAndCalled
  rw [sl.bind]
  refine wpAny_bind (wpAny_pure (wpAny_call (codeAny_call_builtin sl.plain PySem.F.entry_bexc_ga ?_)))
  refine @check_slot (model prog w) _ _ ⟨hp, g, d, t + 1, os⟩ "BaseException.__getattribute__" "BaseException" "__getattribute__" (.ref x) [.str "__class__" t] [] _ (by decide +kernel) (by decide +kernel) hi (PySem.F.args_bexc_ga _ _) ?_
  unfold Builtin.«object.__getattribute__»
  refine wpAny_bind (wpAny_pure (wpAny_bind (wpAny_pure (wpAny_bind (L0.at (wpAny_bind (L3.at ?_)))))))
  show wpAny _ _ (bindTo _ _ _ _) _ _ _
  unfold bindTo
  dsimp only
  refine wpAny_bind (wpAny_holding (wpAny_call (class_get (s := ⟨hp, g, d, t + 1, os⟩) (ox := ox) (od := od) X I hmo ?_)))
  exact wpAny_pure (handed_on rfl (wpAny_pure h))
/-- isinstance's view of an exception of an own class -/
theorem XCls.kit (c : XCls K C) : KitX K (.ref x) (.ref C) (fun h => InstAt h x ox C od) where
  ty := fun _ _ _ I => I.type
  it := fun _ _ X _ => by
    obtain ⟨cd, hc, _⟩ := c.cd
    unfold clsIn at hc
    split at hc
    · rename_i ho
      intro A' Q' E' s' k q
      unfold isType loadHead
      exact wpAny_bind (wpAny_loadPart (k _ _ (X _ _ ho)) (wpAny_pure q))
    · cases hc
  ne := fun h tp dd its n sl X htp => by
    obtain ⟨cd, hc, _⟩ := c.cd
    refine Bool.eq_false_iff.mpr fun q => ?_
    obtain rfl : C = tp := Value.ref.inj (beq_iff_eq.mp q)
    unfold clsIn at hc
    split at hc
    · rename_i ho
      cases (X _ _ ho).symm.trans htp
    · cases hc
  ca := fun X I k => exc_class X c I k
end
end L2
namespace L2
open PySem PySem.Spec PyProof.Rows PySem.W

/-! ### an exception of an own class with an own __init__ is made -/
section
variable {prog : Program} {w : World} {A : Around} {E : Value → Shared → Prop} {h : Heap} {g : Array GenState} {d : Drawn} {t : Nat} {os : OsState} {nm q : Str} {C N fI : Addr} {bs bm bmB rest : List Value} {hdct : Bool} {sn : List Str} {sub : List Value}
  {ab : Bool} {col : Option Bool} {dd : Option Addr} {k0 k1 k2 k3 k5 : Option Value} {B newId initId : String}
abbrev exObj (C : Addr) (t : Addr) : Obj := { cls := .ref C, data := .fields #[.ref t, .none, .none, .none, .bool false, .none] }
abbrev argObj (rest : List Value) : Obj := { cls := .type "tuple", data := .seq rest.toArray }
/-- the heap with the new exception -/
abbrev exHeap (h : Heap) (C : Addr) (rest : List Value) : Heap := (h.push (argObj rest)).push (exObj C h.objs.size)
theorem exc_tc (F : ExcBaseFacts B newId initId bmB) (T : OwnTail h bmB bm) (hC : h.get? C = some (excClassObj nm q C N bs bm hdct sn sub ab col dd k0 k1 k2 k3 k5 newId)) (hi : Looks (model prog w) h (typeLookup (.ref C) "__init__") (some (.ref fI)))
    (hb : ∀ self, Looks (model prog w) h (bindSpecial (.ref fI) self) (.ref fI, [self])) (hz : rest.length ≤ sizeLine) {Q : Fin → Shared → Prop}
    (hq : wpAny (model prog w) A (call (.ref fI) (.ref (h.objs.size + 1) :: rest)) (fun r s' => r = .none ∧ Q (.done (.ret (.ref (h.objs.size + 1)))) s') E ⟨exHeap h C rest, g, d, t, os⟩) :
    wpAny (model prog w) A (Builtin.«type.__call__» ⟨.ref C :: rest, []⟩) Q E ⟨h, g, d, t, os⟩ := by
  repeat (first | (with_reducible refine wpAny_loadPart_at hC ?_) | (with_reducible refine wpAny_madeBy_exc hC ?_) | wp_step)
  refine codeAny_call_builtin_code (Code.quiet_builtin _ F.quiet) (wpAny_check_new_subT F T hC (codeAny_exc_new_subT F T hC ?_ hz))
  show wpAny _ _ _ _ _ _
  have kp : ∀ b o, h.get? b = some o → (exHeap h C rest).get? b = some o := fun b o e => Heap.get?_push_of_some _ (Heap.get?_push_of_some _ e)
  have c1 := kp C _ hC
  have x1 : (exHeap h C rest).get? (h.objs.size + 1) = some (exObj C h.objs.size) := by heap_get
  have hcC : (Value.ref C :: bm).contains (.ref C) = true := by simp
  have i1 := hi.keeps kp
  have b1 := (hb (.ref (h.objs.size + 1))).keeps kp
  unfold isInstance
  repeat (first | (with_reducible refine wpAny_loadPart_at x1 ?_) | ((with_reducible refine wpAny_isSubtype_exc c1 ?_); rw [hcC]) | wp_step)
  show wpAny _ _ (typeLookup (.ref C) _) _ _ _
  refine i1.at ?_
  refine wpAny_holding (wpAny_bind (b1.at ?_))
  refine wpAny_bind (wpAny_mono hq (fun r s' hr => ?_) fun _ _ x => x)
  obtain ⟨rfl, hQ⟩ := hr
  wp_walk
  exact hQ
theorem exc_call (F : ExcBaseFacts B newId initId bmB) (T : OwnTail h bmB bm) (hC : h.get? C = some (excClassObj nm q C N bs bm hdct sn sub ab col dd k0 k1 k2 k3 k5 newId)) (hi : Looks (model prog w) h (typeLookup (.ref C) "__init__") (some (.ref fI)))
    (hb : ∀ self, Looks (model prog w) h (bindSpecial (.ref fI) self) (.ref fI, [self])) (hz : rest.length ≤ sizeLine) {Q : Value → Shared → Prop}
    (hq : wpAny (model prog w) (A.under (.builtin "type.__call__" ⟨.ref C :: rest, []⟩)) (call (.ref fI) (.ref (h.objs.size + 1) :: rest)) (fun r s' => r = .none ∧ Q (.ref (h.objs.size + 1)) s') E ⟨exHeap h C rest, g, d, t, os⟩) :
    wpAny (model prog w) A (call (.ref C) rest) Q E ⟨h, g, d, t, os⟩ := by
  have tl := tc_lookup
  have tb := tc_bind (.ref C)
  have hT : (⟨h, g, d, t, os⟩ : Shared).TypeIs (.ref C) "type" := ⟨_, hC, rfl⟩
  refine wpAny_call <| codeAny_of_tree (?_ : wpAny _ _ (callAny (.ref C) _) _ _ _)
  repeat (any_goals (first | assumption | (with_reducible refine wpAny_loadPart_at hC ?_) | wp_step))
  refine ⟨rfl, codeAny_call_builtin_at (Code.quiet_builtin _ (by decide +kernel)) entry_typeCall (wpAny_check_type_call_sub hC ?_)⟩
  exact exc_tc F T hC hi hb hz hq
end
end L2
namespace L2
open PySem PySem.Spec PyProof.Rows PySem.W
section
variable {M : Model} {A : Around} {E : Value → Shared → Prop} {h : Heap} {g : Array GenState} {d : Drawn} {t : Nat} {os : OsState} {nm q : Str} {C N : Addr} {bs bm : List Value} {hdct : Bool} {sn : List Str} {sub : List Value}
  {ab : Bool} {col : Option Bool} {dd : Option Addr} {k0 k1 k2 k3 k5 : Option Value} {newId : String} {env : Env}
theorem raise_inst {s : Shared} {x : Sem Value} {Q : Flow → Shared → Prop} (hbase : bm.contains (.type "BaseException") = true) (hh : A.handled = none)
    (hx : wpAny M A x (fun v s1 => ∃ e dx vs sl, v = .ref e ∧ s1.heap.get? C = some (excClassObj nm q C N bs bm hdct sn sub ab col dd k0 k1 k2 k3 k5 newId) ∧
      s1.heap.get? e = some ⟨.ref C, dx, .fields vs, sl⟩ ∧ vs[1]? = some .none ∧ E (.ref e) s1) E s) : wpAny M A (raiseStmt env (some x) none) Q E s := by
  have hcB : (Value.ref C :: bm).contains (.type "BaseException") = true := by rw [List.contains_cons, hbase, Bool.or_true]
  unfold raiseStmt
  refine wpAny_bind (wpAny_mono hx (fun v s1 ⟨e, dx, vs, sl, ev, hC, he, h1, hE⟩ => ?_) fun _ _ z => z)
  subst ev
  obtain ⟨hp, g, d, tk, os⟩ := s1
  repeat (first | (with_reducible refine wpAny_loadPart_at he ?_) | (with_reducible refine wpAny_loadPart_at hC ?_) | ((with_reducible refine wpAny_isSubtype_exc hC ?_); rw [hcB]) | wp_step)
  rw [h1]
  refine wpAny_pure ?_
  rw [if_neg (by decide)]
  exact wpAny_pure (wpAny_raiseNew_none hh hE)
variable {nm2 q2 : Str} {D N2 : Addr} {bs2 bm2 : List Value} {hdct2 : Bool} {sn2 : List Str} {sub2 : List Value} {ab2 : Bool} {col2 : Option Bool} {dd2 : Option Addr} {j0 j1 j2 j3 j5 : Option Value} {newId2 : String}
/-- except D: the exception is of the class C -/
theorem exc_match {e : Addr} {oe : Obj} {r : Bool} {Q : Bool → Shared → Prop} (hC : h.get? C = some (excClassObj nm q C N bs bm hdct sn sub ab col dd k0 k1 k2 k3 k5 newId))
    (hD : h.get? D = some (excClassObj nm2 q2 D N2 bs2 bm2 hdct2 sn2 sub2 ab2 col2 dd2 j0 j1 j2 j3 j5 newId2)) (he : h.get? e = some oe) (hcls : oe.cls = .ref C) (hbase : bm2.contains (.type "BaseException") = true)
    (hr : (Value.ref C :: bm).contains (.ref D) = r) (hq : Q r ⟨h, g, d, t, os⟩) : wpAny M A (excMatches (.ref e) (.ref D)) Q E ⟨h, g, d, t, os⟩ := by
  have hcB : (Value.ref D :: bm2).contains (.type "BaseException") = true := by rw [List.contains_cons, hbase, Bool.or_true]
  have f := tc_notTuple
  unfold excMatches
  repeat (first | ((with_reducible refine wpAny_loadPart_at he ?_); rw [hcls]) | (with_reducible refine wpAny_loadPart_at hD ?_) | ((with_reducible refine wpAny_isSubtype_exc hD ?_); rw [hcB]) | ((with_reducible refine wpAny_isSubtype_exc hC ?_); rw [hr]) | wp_step)
  cases r <;> (wp_walk; exact hq)
end
end L2
namespace L2
open PySem PySem.Spec PyProof.Rows PySem.W

/-! ### exceptions in the abstract heap -/
/-- an exception that was made and not yet raised; one that has been raised; its dict -/
def FxO (e C : Addr) (dd : Option Addr) : HO := .ext fun h => ExAt h e C dd .none
def ExcO (e C : Addr) (dd : Option Addr) : HO := .ext fun h => ∃ tb, ExAt h e C dd tb
def XdO (dx : Addr) (fs : List (Str × V)) : HO := .ext fun h => ∃ mA, h.Ns1 dx mA ∧ (∀ f, RelO (fs.lookup f) (mA f)) ∧ PySem.Within mA (fs.map (·.1))
section
variable {P : Program} {w : World} {H : Hp} {h : Heap} {e C dx : Addr} {dd : Option Addr} {tb : Value} {fs : List (Str × V)}
theorem ExAt.some (x : ExAt h e C dd tb) : ∃ o, h.get? e = some o := let ⟨_, _, q, _⟩ := x; ⟨_, q⟩
theorem fx_ok (x : ExAt h e C dd .none) : ObjOk P w H h e (FxO e C dd) := ⟨x, x.some, fun _ _ y k => ExAt.keep y k⟩
theorem exc_ok (x : ExAt h e C dd tb) : ObjOk P w H h e (ExcO e C dd) := ⟨⟨tb, x⟩, x.some, fun _ _ ⟨t, y⟩ k => ⟨t, ExAt.keep y k⟩⟩
theorem xd_ok {mA : Str → Option Value} (n : h.Ns1 dx mA) (r : ∀ f, RelO (fs.lookup f) (mA f)) (q : PySem.Within mA (fs.map (·.1))) : ObjOk P w H h dx (XdO dx fs) :=
  ⟨⟨mA, n, r, q⟩, let ⟨o, _, _, z, _⟩ := n; ⟨o, z⟩, fun _ _ ⟨m, n, r, q⟩ k => ⟨m, n.at k, r, q⟩⟩
theorem fx_get (hok : HOk P w H h) (q : H e = some (FxO e C dd)) : ExAt h e C dd .none := (show ObjOk P w H h e (FxO e C dd) from hok e _ q).1
theorem exc_at (hok : HOk P w H h) (q : H e = some (ExcO e C dd)) : ∃ tb, ExAt h e C dd tb := (show ObjOk P w H h e (ExcO e C dd) from hok e _ q).1
theorem xd_get (hok : HOk P w H h) (q : H dx = some (XdO dx fs)) : ∃ mA, h.Ns1 dx mA ∧ (∀ f, RelO (fs.lookup f) (mA f)) ∧ PySem.Within mA (fs.map (·.1)) := (show ObjOk P w H h dx (XdO dx fs) from hok dx _ q).1
theorem upd_self {a : Addr} {o : HO} (q : H a = some o) : upd H a o = H := by
  funext b
  by_cases hb : b = a
  · subst hb; rw [upd_same, q]
  · rw [upd_ne hb]
end
/-- the traceback's head, behind a raise: none, or a record of ours that nothing else knows -/
def TbOk (X : Cx) (pins : List (Addr × Obj)) (H : Hp) (s : Shared) (tb : Value) : Prop :=
  tb = .none ∨ ∃ T, tb = .ref T ∧ H T = none ∧ X.s₀.heap.objs.size ≤ T ∧ (∀ p ∈ X.pn ++ pins, p.1 ≠ T) ∧ (TbAt s.heap T .none ∨ TbAt s.heap T (rawInt X.env.locals))
section
variable {X : Cx} {pins : List (Addr × Obj)} {σ : St} {H : Hp} {s : Shared} {h' : Heap} {ea C T : Addr} {dd : Option Addr} {tb : Value}
theorem Inv.locNe (I : Inv X pins σ H s) {a : Addr} {o : Obj} {vs : Array Value} (q : s.heap.get? a = some o) (d : o.data = .fields vs) : a ≠ X.env.locals ∧ ∀ x c, X.env.cells.lookup x = some c → c ≠ a := by
  refine ⟨fun z => ?_, fun x c e z => ?_⟩
  · obtain ⟨m, ⟨o', es, ep, ho', hd', _⟩, _⟩ := I.loc
    rw [z, ho'] at q; cases q; rw [hd'] at d; cases d
  · obtain ⟨v, o', ho', hd'⟩ := I.cell x c e
    rw [z, q] at ho'; cases ho'; rw [d] at hd'; cases hd'
theorem tb_new (I : Inv X pins σ H s) (ht : TbOk X pins H s tb) (N : tb = .ref T ∨ s.heap.objs.size ≤ T) : H T = none ∧ X.s₀.heap.objs.size ≤ T ∧ ∀ p ∈ X.pn ++ pins, p.1 ≠ T := by
  rcases N with rfl | N
  · rcases ht with z | ⟨T0, z, a, b, c, _⟩
    · cases z
    · cases z
      exact ⟨a, b, c⟩
  · refine ⟨I.hok.fresh N, Nat.le_trans I.sz N, fun p hp z => ?_⟩
    have := Heap.lt_size (I.pin p hp).1
    rw [z] at this
    exact absurd (Nat.lt_of_lt_of_le this N) (Nat.lt_irrefl _)
theorem Inv.noted {fl : Value} (I : Inv X pins σ H s) (hs : X.stack = X.env :: X.outer) (hf : X.env.frame = some X.env.locals) (mu : Mut (H ea)) (x : ExAt s.heap ea C dd tb) (ht : TbOk X pins H s tb)
    (N : Noted (X.env :: X.outer) ea C dd tb fl s.heap h' T) : Inv X pins σ (upd H ea (ExcO ea C dd)) { s with heap := h' } := by
  have nea : ∀ b, H b = none → b ≠ ea := fun b n z => by subst z; rw [n] at mu; exact mu
  have nmu : ∀ b u, H b = some u → ¬ Mut (some u) → b ≠ ea := fun b u q nm z => by subst z; rw [q] at mu; exact nm mu
  have mem : ∀ b, b ∈ frs (X.env :: X.outer) → b = X.env.locals ∨ b ∈ X.fs := fun b hb => by
    unfold frs at hb
    rw [List.filterMap_cons, hf] at hb
    exact List.mem_cons.mp hb
  have frn : ∀ b, b ∈ frs (X.env :: X.outer) → H b = none := fun b hb => I.stkFree b (by rw [hs]; exact hb)
  have step : ∀ ch : List Addr, (∀ b ∈ ch, (b ∈ X.ex ∨ X.s₀.heap.objs.size ≤ b) ∧ b ≠ X.env.locals ∧ (∀ x c, X.env.cells.lookup x = some c → c ≠ b) ∧ ∀ p ∈ X.pn ++ pins, p.1 ≠ b) → (∀ T0, tb = .ref T0 → T0 ∈ ch ∧ H T0 = none) →
      Inv X pins σ (upd H ea (ExcO ea C dd)) { s with heap := h' } := by
    intro ch hch hT
    have nT : ∀ b, b ∉ ch → ∀ T0, tb = .ref T0 → b ≠ T0 := fun b hb T0 e z => hb (z ▸ (hT T0 e).1)
    have nT' : ∀ b u, H b = some u → ∀ T0, tb = .ref T0 → b ≠ T0 := fun b u q T0 e z => by
      rw [z, (hT T0 e).2] at q; cases q
    refine I.step (g' := s.gens) (d' := s.drawn) (t' := s.toks) (ch := ch) hch (fun b o hL hb hc q n => ?_) (fun b o hL hb hc q n => N.slot b o (nea b n) (nT b hc) q) (fun b o _ _ n => by rw [upd_ne (nea b n)]; exact n)
      (fun b o hc q => ?_) (fun b xs q => by rw [upd_ne (nmu b _ q fun z => z)]; exact q) (fun b o u q => by rw [upd_ne (nmu b _ q fun z => z)]; exact q) (fun b ps q => ⟨#[], by rw [upd_ne (nmu b _ q fun z => z), q]; simp⟩) (fun m hm => ?_) (fun b u q => ?_) I.bare
    · exact N.keep b o (nea b n) (nT b hc) (fun z => (mem b z).elim hL hb) q
    · by_cases hb : b = ea
      · subst hb; exact N.ex.some
      · obtain ⟨sl, e⟩ := N.slot b o hb (nT b hc) q
        exact ⟨_, e⟩
    · obtain ⟨o, es, ep, ho, r⟩ := hm
      have hL : X.env.locals ∉ ch := fun z => (hch _ z).2.1 rfl
      obtain ⟨sl, e⟩ := N.slot _ o (nea _ I.free) (nT _ hL) ho
      exact ⟨_, es, ep, e, r⟩
    · by_cases hb : b = ea
      · subst hb
        rw [upd_same] at q
        cases q
        exact exc_ok N.ex
      · rw [upd_ne hb] at q
        have own : ∀ c, H c = some (.own b) → c ≠ ea := fun c r => nmu c _ r fun z => z
        have all : ∀ c v u, H c = some v → c ≠ ea → s.heap.get? c = some u → h'.get? c = some u := fun c v u e hc q' =>
          N.keep c u hc (nT' c v e) (fun z => by rw [frn c z] at e; cases e) q'
        refine (I.hok b u q).stay (fun c v hc r => ?_) (fun c r => by rw [upd_ne (own c r)]; exact r) fun c xs r => by rw [upd_ne (nmu c _ r fun z => z)]; exact r
        rcases hc with z | z
        · exact all c u v (by rw [z]; exact q) (by rw [z]; exact hb) r
        · exact all c _ v z (own c z) r
  rcases ht with rfl | ⟨T0, rfl, n0, b0, p0, t0⟩
  · exact step [] (fun _ z => nomatch z) fun _ z => by cases z
  · have t1 : ∃ oT ts, s.heap.get? T0 = some oT ∧ oT.data = .fields ts := by
      rcases t0 with ⟨oT, ts, qT, dT, _⟩ | ⟨oT, ts, qT, dT, _⟩ <;> exact ⟨oT, ts, qT, dT⟩
    obtain ⟨oT, ts, qT, dT⟩ := t1
    obtain ⟨l1, l2⟩ := I.locNe qT dT
    refine step [T0] (fun b hb => ?_) fun T1 z => by cases z; exact ⟨by simp, n0⟩
    obtain rfl : b = T0 := by simpa using hb
    exact ⟨.inr b0, l1, l2, p0⟩
end

/-! ### how an exception lies behind a call; within a body -/
def CXw (P : Program) (w : World) : CXT := fun outer H s E e s' => ∃ ea C dd T H', e = .ref ea ∧ s'.os = s.os ∧ AllBare s'.gens ∧ Un (frs outer) [] H H' s.heap s'.heap ∧ HOk P w H' s'.heap ∧ H' ea = some (ExcO ea C dd) ∧
  ExAt s'.heap ea C dd (.ref T) ∧ TbAt s'.heap T .none ∧ H' T = none ∧ s.heap.objs.size ≤ T ∧ E (.ref ea) dd H'
def XP (X : Cx) (pins : List (Addr × Obj)) (σ : St) (E : XK) (e : Value) (s' : Shared) : Prop := ∃ ea C dd tb H', e = .ref ea ∧ Inv X pins σ H' s' ∧ Mut (H' ea) ∧ ExAt s'.heap ea C dd tb ∧ TbOk X pins H' s' tb ∧ E (.ref ea) dd (upd H' ea (ExcO ea C dd))
/-- what leaves is as this body wants it -/
def Leaves (X : Cx) (E : XK) : Prop := ∀ (pins : List (Addr × Obj)) (σ : St) (e : Value) (s' : Shared), XP X pins σ E e s' → X.xe e s'
section
variable {X : Cx} {pins : List (Addr × Obj)} {σ : St} {H : Hp} {s s' : Shared} {E : XK} {e : Value}
theorem xp_call (I : Inv X pins σ H s) (h : CXw X.prog X.w X.stack H s E e s') : XP X pins σ E e s' := by
  obtain ⟨ea, C, dd, T, H', rfl, os, bare, un, hok, he, x, t, nT, hT, q⟩ := h
  refine ⟨ea, C, dd, .ref T, H', rfl, I.call' os un hok bare (fun _ z => nomatch z), by rw [he]; trivial, x, .inr ⟨T, rfl, nT, Nat.le_trans I.sz hT, fun p hp z => ?_, .inl t⟩, by rw [upd_self he]; exact q⟩
  have := Heap.lt_size (I.pin p hp).1
  rw [z] at this
  exact absurd (Nat.lt_of_lt_of_le this hT) (Nat.lt_irrefl _)
theorem passes_of (l : Leaves X E) : Passes (CXw X.prog X.w) X E := fun pins σ H s e s' I h => l pins σ e s' (xp_call I h)
/-- a def's own frame is left -/
theorem leaves_fn {P : Program} {w : World} {K : PySem.W.Frag} {mg : Str → Option Value} {base : Heap} {N : List Str} {qual : Str} {scope : Scope} {f : Addr} {cd : Value} {A : Around} {outer : List Env} {s : Shared} {H : Hp} {E : XK} :
    Leaves (cxOf (CXw P w) P w K mg base N qual scope f cd A outer s H E) E := by
  rintro pins σ e s' ⟨ea, C, dd, tb, H', rfl, I, mu, x, ht, q⟩
  show wpAny _ _ (leaving _ _) _ _ _
  unfold leaving
  have hfr := I.ok.frames
  have ne : ∀ T0, H' T0 = none → T0 ≠ ea := fun T0 n z => by subst z; rw [n] at mu; exact mu
  refine wpAny_bind (noted_ok (A := A.deeper (envOfC qual scope s.heap.objs.size f cd)) (base := base) (env := envOfC qual scope s.heap.objs.size f cd) (outer := outer) hfr I.stack rfl x ?_ fun h' T Nt => ?_)
  · rcases ht with z | ⟨T0, z, n0, _, _, t0⟩
    · exact .inl z
    · exact .inr ⟨T0, z, ne T0 n0, t0⟩
  · have J := I.noted rfl rfl mu x ht Nt
    obtain ⟨nT, hT, _⟩ := tb_new I ht Nt.new
    exact ⟨ea, C, dd, T, upd H' ea (ExcO ea C dd), rfl, J.os, J.bare, J.base, J.hok, upd_same, Nt.ex, Nt.tb, by rw [upd_ne (ne T nT)]; exact nT, hT, q⟩
end
end L2
namespace L2
open PySem PySem.Spec PyProof.Rows PySem.W

/-! ### an own class of exceptions, by the text -/
/-- the class object; its mro behind it -/
def XOb (K : Frag) (C : Addr) (bm : List Value) : Prop := ∃ nm q N bs hdct sn sub ab col dd k0 k1 k2 k3 k5, K.lookup C = some (excClassObj nm q C N bs bm hdct sn sub ab col dd k0 k1 k2 k3 k5 "ValueError.__new__")
structure XMk (K : Frag) (C : Addr) (bm : List Value) (f : Addr) : Prop where
  ob : XOb K C bm
  tl : tailIn K tailVE bm = true
  init : findIn K (.ref C) "__init__" = some (some (.ref f))
  fn : isFn K (.ref f) = true
  kp : keepIn K (.ref C) = true
/-- C(..), an own exception with an own __init__ -/
def tExc (C : Addr) (sp : Sp) (dvs : List V) (E : XK) (t : TA) : TE := fun σ H Q => t σ H fun vs H1 => ∀ x, H1 x = none →
  sp (.ref x :: (vs ++ dvs)) (upd H1 x (FxO x C none)) (fun v H2 => v = .non ∧ Q (.ref x) H2) E
section
variable {X : Cx} {CX : CXT} {k : Nat} {f C : Addr} {bm : List Value} {fd : FuncData} {ps : List Str} {sp : Sp} {dvs : List V} {ds : List Value} {E : XK} {x m : Str} {p pos apos : Pos} {e o : Expr} {es : List Expr} {ta : TE} {t : TA}
theorem run_exc {pins : List (Addr × Obj)} {σ : St} {H : Hp} {s : Shared} {Q : VK} {us : List Value} {vs : List V} (M : XMk X.K C bm f) {cc : Bool} (F : FnOk X.prog X.w X.K X.mg X.base CX k f fd ps sp cc) (hr : Room (k + 1) X.A cc) (hb : Binds X.K fd ps ds) (hd : Vals dvs ds)
    (hx : Passes CX X E) (hz : ps.length ≤ 1000) (I : Inv X pins σ H s) (r : Vals vs us)
    (h : ∀ x, H x = none → sp (.ref x :: (vs ++ dvs)) (upd H x (FxO x C none)) (fun v H2 => v = .non ∧ Q (.ref x) H2) E) :
    wpAny (model X.prog X.w) X.A (call (.ref C) us) (EP X pins σ Q) X.xe s := by
  have hq := h (s.heap.objs.size + 1) (I.hok.fresh (Nat.le_succ _))
  have I1 := I.kept (h' := s.heap.push (argObj us)) (t' := s.toks) (fun b u e => Heap.get?_push_of_some _ e)
  have hx1 : (exHeap s.heap C us).get? (s.heap.objs.size + 1) = some (exObj C s.heap.objs.size) := by heap_get
  have I2 : Inv X pins σ (upd H (s.heap.objs.size + 1) (FxO (s.heap.objs.size + 1) C none)) { s with heap := exHeap s.heap C us } :=
    I1.laid (a := s.heap.objs.size + 1) (o := FxO (s.heap.objs.size + 1) C none) (h' := exHeap s.heap C us) (t' := s.toks) (fun b u e => Heap.get?_push_of_some _ e) (by show (s.heap.push (argObj us)).objs.size ≤ _; rw [Heap.size_push]; exact Nat.le_refl _)
      (fx_ok ⟨_, _, hx1, rfl, rfl, rfl⟩)
  have r2 : Vals (V.ref (s.heap.objs.size + 1) :: (vs ++ dvs)) (Value.ref (s.heap.objs.size + 1) :: (us ++ ds)) := .cons rfl (r.append hd)
  have hl : (Value.ref (s.heap.objs.size + 1) :: us ++ ds).length = ps.length := by
    have e := r2.length
    rw [F.len _ _ _ _ hq] at e
    exact e.symm
  have hus : us.length ≤ sizeLine := by
    rw [sizeLine_eq]
    simp only [List.cons_append, List.length_cons, List.length_append] at hl
    omega
  obtain ⟨nm, q, N, bs, hdct, sn, sub, ab, col, dd, k0, k1, k2, k3, k5, ho⟩ := M.ob
  obtain ⟨hp, g, d, tk, os⟩ := s
  refine exc_call PySem.F.excBase_ValueError (tail_of_in I.kIn M.tl) (I.kIn _ _ ho) (looks_findIn I.kIn M.init) (fun self => bind_fn I.kIn self (beq_iff_eq.mp M.fn)) hus ?_
  refine wpAny_call (codeAny_mono (F.run _ X.stack _ _ ⟨Value.ref (hp.objs.size + 1) :: us, []⟩ (Value.ref (hp.objs.size + 1) :: (us ++ ds)) _ _ E (hr.make C us []) (I2.env0.make C us []) (hb _ (Value.ref (hp.objs.size + 1) :: us) I2.kIn hl) r2 hq) fun r s' hq' => ?_)
  cases r with
  | error e => exact hx pins σ _ _ e s' I2 hq'
  | ok fl =>
    cases fl with
    | ret u =>
      obtain ⟨v, H', I3, rv, ev, q3⟩ := I2.after hq'
      subst ev
      exact ⟨rv, ⟨V.ref (hp.objs.size + 1), H', I3, rfl, q3⟩⟩
    | next => exact False.elim hq'
    | brk => exact False.elim hq'
    | cont => exact False.elim hq'
theorem pe_exc (M : XMk X.K C bm f) {cc : Bool} (F : FnOk X.prog X.w X.K X.mg X.base CX k f fd ps sp cc) (hr : Room (k + 1) X.A cc) (hg : Gl X x) (hm : X.mg x = some (.ref C)) (hb : Binds X.K fd ps ds) (hd : Vals dvs ds) (hx : Passes CX X E)
    (ha : PA X (e :: es) t) (hz : ps.length ≤ 1000 := by decide) (hdb : (x == ("__debug__" : Str)) = false := by decide) (he : starEach (e :: es) X.env = (false, eval e X.env) :: starEach es X.env := by rfl) (hpl : (backTo pos (starEach es X.env)).any (·.1) = false := by rfl) :
    PE X (.Call (.Name x p) (e :: es) [] pos) (tExc C sp dvs E t) := by
  intro pins s σ H Q I h
  refine wpAny_Call_Name_kw (ld_glob I hg hm ?_ hdb)
  refine PySem.W.callWith_K (h₀ := X.base) I.ok.mod.kin M.kp (thn (ha pos pins s σ H _ I h) fun us s1 ⟨vs, H1, I1, r, q⟩ => ⟨I1.kIn, ?_⟩) he hpl
  exact run_exc M F hr hb hd hx hz I1 r q
/-- raise e -/
def tRaise (C : Addr) (te : TE) (E : XK) : TS := fun _ σ H => te σ H fun v H1 => ∃ ea dd, v = .ref ea ∧ H1 ea = some (FxO ea C dd) ∧ E (.ref ea) dd (upd H1 ea (ExcO ea C dd))
theorem ps_raise (ob : XOb X.K C bm) (hbm : bm.contains (.type "BaseException") = true) (hh : X.A.handled = none) (hl : Leaves X E) (he : PE X e ta) : PS X (.Raise (some e) none pos) (tRaise C ta E) := by
  intro pins s σ H D I h
  obtain ⟨nm, q, N, bs, hdct, sn, sub, ab, col, dd0, k0, k1, k2, k3, k5, ho⟩ := ob
  rw [arm_exec_Raise]
  refine wpAny_bind (wpAny_standAt (raise_inst (C := C) (nm := nm) (q := q) (N := N) (bs := bs) (bm := bm) (hdct := hdct) (sn := sn) (sub := sub) (ab := ab) (col := col) (dd := dd0) (k0 := k0) (k1 := k1) (k2 := k2) (k3 := k3) (k5 := k5) (newId := "ValueError.__new__") hbm hh ?_))
  refine wpAny_bind (thn (he pins s σ H _ I h) fun u s1 ⟨v, H1, I1, r, ea, dd, ev, hH, q⟩ => ?_)
  subst ev
  cases (show u = Value.ref ea from r)
  refine wpAny_bind (wpAny_standAt (wpAny_pure ?_))
  have x1 := fx_get I1.hok hH
  obtain ⟨vs, sl, q1, z, q2, _⟩ := id x1
  exact ⟨ea, dd, vs, sl, rfl, I1.kIn _ _ ho, q1, q2, hl pins σ _ _ ⟨ea, C, dd, .none, H1, rfl, I1, by rw [hH]; trivial, x1, .inl rfl, q⟩⟩
end

/-! ### its fields -/
section
variable {X : Cx} {pins : List (Addr × Obj)} {σ : St} {H : Hp} {s : Shared} {a C dx : Addr} {fs : List (Str × V)} {f : Str} {A : Around} {E : Value → Shared → Prop}
theorem xset1_ok {y : V} {u : Value} {Q : Unit → Shared → Prop} (I : Inv X pins σ H s) (e : H a = some (FxO a C none)) (c : XCls X.K C) (n : takerIn X.K C f = some none) (ry : RelV y u)
    (h : ∀ s' dx, H dx = none → Inv X pins σ (upd (upd H dx (XdO dx [(f, y)])) a (FxO a C (some dx))) s' → Q () s') : wpAny (model X.prog X.w) A (setAttr (.ref a) f u) Q E s := by
  obtain ⟨vs, sl, q, z, q1⟩ := fx_get I.hok e
  refine exc_set_first I.kIn c n q fun h' dx hdx hx hn k => ?_
  have nd := I.hok.fresh hdx
  have mu : Mut (H a) := by rw [e]; trivial
  have hda : dx ≠ a := Nat.ne_of_gt (Nat.lt_of_lt_of_le (Heap.lt_size q) hdx)
  have na : ∀ b, H b = none → b ≠ a := fun b n z => by subst z; rw [n] at mu; exact mu
  have nmu : ∀ b u, H b = some u → ¬ Mut (some u) → b ≠ a := fun b u qb nm z => by subst z; rw [qb] at mu; exact nm mu
  have nd' : ∀ b u, H b = some u → b ≠ dx := fun b u q z => by rw [z, nd] at q; cases q
  refine h _ dx nd (I.un (t' := s.toks + 2) (h' := h') ⟨fun b o q n _ _ => k b o (na b n) q, fun b o q n _ _ => ⟨o.slots, k b o (na b n) q⟩, fun b o q n _ => ?_, fun b o q _ => ?_, fun b xs q => ?_, fun b o u q => ?_, fun b ps q => ⟨#[], ?_⟩⟩ fun b u q => ?_)
  · rw [upd_ne (na b n), upd_ne (Nat.ne_of_lt (Nat.lt_of_lt_of_le (Heap.lt_size q) hdx))]; exact n
  · by_cases hb : b = a
    · subst hb; exact ⟨_, hx⟩
    · exact ⟨o, k b o hb q⟩
  · rw [upd_ne (nmu b _ q fun z => z), upd_ne (nd' b _ q)]; exact q
  · rw [upd_ne (nmu b _ q fun z => z), upd_ne (nd' b _ q)]; exact q
  · rw [upd_ne (nmu b _ q fun z => z), upd_ne (nd' b _ q), q]; simp
  · by_cases hb : b = a
    · subst hb
      rw [upd_same] at q
      cases q
      exact fx_ok ⟨vs, sl, hx, z, q1⟩
    · rw [upd_ne hb] at q
      by_cases hbd : b = dx
      · subst hbd
        rw [upd_same] at q
        cases q
        refine xd_ok hn (fun g => ?_) fun g hg => ?_
        · show RelO (List.lookup g [(f, y)]) (if g = f then some u else none)
          by_cases hgf : g = f
          · have hb : (g == f) = true := beq_iff_eq.mpr hgf
            simp only [List.lookup, hb, if_pos hgf]
            exact ry
          · have hb : (g == f) = false := beq_eq_false_iff_ne.mpr hgf
            simp only [List.lookup, hb, if_neg hgf]
            trivial
        · by_cases hgf : g = f
          · subst hgf; simp
          · exact absurd (if_neg hgf) hg
      · rw [upd_ne hbd] at q
        have own : ∀ c, H c = some (.own b) → c ≠ a := fun c r => nmu c _ r fun z => z
        refine (I.hok b u q).stay (fun c v hc r => k c v ?_ r) (fun c r => by rw [upd_ne (own c r), upd_ne (nd' c _ r)]; exact r) fun c xs r => by rw [upd_ne (nmu c _ r fun z => z), upd_ne (nd' c _ r)]; exact r
        rcases hc with z | z
        · rw [z]; exact hb
        · exact own c z
theorem xset2_ok {y : V} {u : Value} {Q : Unit → Shared → Prop} (I : Inv X pins σ H s) (e : H a = some (FxO a C (some dx))) (ed : H dx = some (XdO dx fs)) (c : XCls X.K C) (n : takerIn X.K C f = some none) (hl : fs.length ≤ 1000) (ry : RelV y u)
    (h : ∀ s', Inv X pins σ (upd H dx (XdO dx (putF f y fs))) s' → Q () s') : wpAny (model X.prog X.w) A (setAttr (.ref a) f u) Q E s := by
  obtain ⟨vs, sl, q, z, q1⟩ := fx_get I.hok e
  obtain ⟨mA, hn, r, wi⟩ := xd_get I.hok ed
  refine exc_set_more I.kIn c n q hn wi (by rw [List.length_map]; exact hl) fun h' hn' sb => h _ ?_
  have hd : ∃ o, h'.get? dx = some o := let ⟨o, _, _, e', _⟩ := hn'; ⟨o, e'⟩
  refine I.write (x := dx) (e := dx) (by rw [ed]; exact True.intro) (.inl rfl) (fun b q hb z => (sb.2 b hb).trans z) hd (xd_ok hn' (fun g => ?_) fun g hg => ?_)
  · show RelO ((putF f y fs).lookup g) (if g = f then some u else mA g)
    rw [lookup_putF]
    by_cases q : g = f
    · rw [if_pos q, if_pos q]; exact ry
    · rw [if_neg q, if_neg q]; exact r g
  · have kp := keys_putF f y fs
    by_cases q : g = f
    · subst q; exact kp.1
    · refine kp.2 g (wi g ?_)
      intro z
      exact hg (by show (if g = f then some u else mA g) = none; rw [if_neg q]; exact z)
theorem xget_ok {b : Bool} {v : V} {Q : Value → Shared → Prop} (I : Inv X pins σ H s) (e : H a = some (ExcO a C (some dx))) (ed : H dx = some (XdO dx fs)) (c : XCls X.K C) (n : NoAttr X.K C f) (l : fs.lookup f = some v)
    (h : ∀ u s', Inv X pins σ H s' → RelV v u → Q u s') : wpAny (model X.prog X.w) A (getAttr (.ref a) f b) Q E s := by
  obtain ⟨tb, vs, sl, q, z, q1⟩ := exc_at I.hok e
  obtain ⟨mA, hn, r, wi⟩ := xd_get I.hok ed
  obtain ⟨u, hu, ru⟩ := RelO.some_of (v := v) (o := mA f) (by rw [← l]; exact r f)
  exact exc_get I.kIn c q hn n hu (handed_of ru) (h u _ (I.tok _) ru)
end
/-- self.f = value, the exception's first field; a further one -/
def sXf1 (K : Frag) (ta tv : TE) (f : Str) : TS := fun D σ H => tv σ H fun y H1 => ta σ H1 fun x H2 => ∃ a C, x = .ref a ∧ H2 a = some (FxO a C none) ∧ XCls K C ∧ takerIn K C f = some none ∧
  ∀ dx, H2 dx = none → D.nx σ (upd (upd H2 dx (XdO dx [(f, y)])) a (FxO a C (some dx)))
def sXf2 (K : Frag) (ta tv : TE) (f : Str) : TS := fun D σ H => tv σ H fun y H1 => ta σ H1 fun x H2 => ∃ a C dx fs, x = .ref a ∧ H2 a = some (FxO a C (some dx)) ∧ H2 dx = some (XdO dx fs) ∧ XCls K C ∧ takerIn K C f = some none ∧ fs.length ≤ 1000 ∧
  D.nx σ (upd H2 dx (XdO dx (putF f y fs)))
/-- e.f of a raised exception -/
def tXf (K : Frag) (ta : TE) (f : Str) : TE := fun σ H Q => ta σ H fun x H1 => ∃ a C dx fs v, x = .ref a ∧ H1 a = some (ExcO a C (some dx)) ∧ H1 dx = some (XdO dx fs) ∧ XCls K C ∧ NoAttr K C f ∧ fs.lookup f = some v ∧ Q v H1
section
variable {X : Cx} {o e value : Expr} {f : Str} {pos pos' tpos : Pos} {ta tv : TE}
theorem ps_xf1 (ha : PE X o ta) (hv : PE X value tv) (hs : swapsWith value (some (.Attribute o f pos')) pos.line X.env = pure false) : PS X (.Assign [.Attribute o f pos'] value pos) (sXf1 X.K ta tv f) := by
  intro pins s σ H D I h
  refine plainObj_wpAny_Assign_Attribute (thn (hv pins s σ H _ I h) fun u s1 ⟨y, H1, I1, ry, q⟩ => thn (ha pins s1 σ H1 _ I1 q) fun ov s2 ⟨x, H2, I2, rx, a, C, ex, ea, c, n, q2⟩ => ?_) hs
  subst ex
  cases (show ov = Value.ref a from rx)
  exact xset1_ok I2 ea c n ry fun s3 dx hd I3 => ⟨σ, _, I3, q2 dx hd⟩
theorem ps_xf2 (ha : PE X o ta) (hv : PE X value tv) (hs : swapsWith value (some (.Attribute o f pos')) pos.line X.env = pure false) : PS X (.Assign [.Attribute o f pos'] value pos) (sXf2 X.K ta tv f) := by
  intro pins s σ H D I h
  refine plainObj_wpAny_Assign_Attribute (thn (hv pins s σ H _ I h) fun u s1 ⟨y, H1, I1, ry, q⟩ => thn (ha pins s1 σ H1 _ I1 q) fun ov s2 ⟨x, H2, I2, rx, a, C, dx, fs, ex, ea, ed, c, n, l, q2⟩ => ?_) hs
  subst ex
  cases (show ov = Value.ref a from rx)
  exact xset2_ok I2 ea ed c n l ry fun s3 I3 => ⟨σ, _, I3, q2⟩
theorem pe_xf (he : PE X e ta) (hb : attributeBase e f X.env (eval e X.env) = eval e X.env) : PE X (.Attribute e f pos) (tXf X.K ta f) := by
  intro pins s σ H Q I h
  refine attr_of hb (thn (he pins s σ H _ I h) fun u s1 ⟨x, H1, I1, rx, a, C, dx, fs, v, ex, ea, ed, c, n, l, q⟩ => ?_)
  subst ex
  cases (show u = Value.ref a from rx)
  exact xget_ok I1 ea ed c n l fun u' s2 I2 ru => ⟨v, H1, I2, ru, q⟩
/-- the exception's dict is there, where it has one -/
def Dk (H : Hp) : Option Addr → Prop
  | none => True
  | some dx => ∃ fs, H dx = some (XdO dx fs)
/-- isinstance(e, c) of a raised exception -/
theorem call_isinstX : CallR X (.builtin "isinstance") (fun vs H Q => ∃ a C dd c cv b, vs = [.ref a, c] ∧ H a = some (ExcO a C dd) ∧ Dk H dd ∧ XCls X.K C ∧ RelV c cv ∧ (∀ u, RelV c u → u = cv) ∧ kitOne X.K (.ref C) cv = some b ∧ Q (.bl b) H) := by
  intro pins s σ H xs us Q I r h
  obtain ⟨a, C, dd, c, cv, b, rfl, ea, dk, cl, _, hu, e, q⟩ := h
  obtain ⟨u, v, rfl, rx, rv⟩ := r.two
  cases (show u = Value.ref a from rx)
  cases hu v rv
  obtain ⟨tb, vs, sl, q0, z, q1⟩ := exc_at I.hok ea
  have J : ∃ od, InstAt s.heap a ⟨.ref C, dd, .fields vs, sl⟩ C od := by
    cases dd with
    | none => exact ⟨none, q0, rfl, rfl, trivial⟩
    | some dx =>
      obtain ⟨fs, ed⟩ := dk
      obtain ⟨mA, ⟨o, es, ep, ho, _⟩, _⟩ := xd_get I.hok ed
      exact ⟨some o, q0, rfl, rfl, ho⟩
  obtain ⟨od, J⟩ := J
  exact kia_one cl.kit I.kIn J e (fun z => nomatch z) fun tk => ⟨.bl b, H, I.tok tk, rfl, q⟩
/-- values of classes -/
def clsV : V → Option Value
  | .ref a => some (.ref a)
  | .ty T => some (.type T)
  | _ => none
theorem cls_vals : ∀ {xs : List V} {us : List Value} {cs : List Value}, Vals xs us → xs.map clsV = cs.map some → us = cs
  | [], us, [], r, _ => by cases r; rfl
  | [], _, _ :: _, _, e => by simp at e
  | _ :: _, _, [], _, e => by simp at e
  | x :: xs, us, c :: cs, r, e => by
    rw [List.map_cons, List.map_cons] at e
    injection e with e1 e2
    cases r with
    | cons r1 r2 =>
      rw [cls_vals r2 e2]
      congr 1
      cases x with
      | ref a => cases e1; exact r1
      | ty T => cases e1; exact r1
      | _ => cases e1
/-- isinstance(e, (c, ..)) -/
theorem call_isinstXT : CallR X (.builtin "isinstance") (fun vs H Q => ∃ a C dd tp xs cs b, vs = [.ref a, .ref tp] ∧ H a = some (ExcO a C dd) ∧ Dk H dd ∧ XCls X.K C ∧ H tp = some (.tup xs) ∧ xs.map clsV = cs.map some ∧ kitAny X.K (.ref C) cs = some b ∧ Q (.bl b) H) := by
  intro pins s σ H xs us Q I r h
  obtain ⟨a, C, dd, tp, ys, cs, b, rfl, ea, dk, cl, et, ec, e, q⟩ := h
  obtain ⟨u, v, rfl, rx, rv⟩ := r.two
  cases (show u = Value.ref a from rx)
  cases (show v = Value.ref tp from rv)
  obtain ⟨tb, vs, sl, q0, z, q1⟩ := exc_at I.hok ea
  have J : ∃ od, InstAt s.heap a ⟨.ref C, dd, .fields vs, sl⟩ C od := by
    cases dd with
    | none => exact ⟨none, q0, rfl, rfl, trivial⟩
    | some dx =>
      obtain ⟨fs, ed⟩ := dk
      obtain ⟨mA, ⟨o, es, ep, ho, _⟩, _⟩ := xd_get I.hok ed
      exact ⟨some o, q0, rfl, rfl, ho⟩
  obtain ⟨od, J⟩ := J
  obtain ⟨its, rt, ht, _⟩ := I.tuple (SqT.of (K := X.K) et)
  obtain rfl := cls_vals rt ec
  obtain ⟨⟨cls, dt, data, slt⟩, ho, hc, n, hd⟩ := id ht
  simp only at hc hd
  subst hc hd
  exact kia_tup cl.kit I.kIn J ho e (fun z => nomatch z) fun tk => ⟨.bl b, H, I.tok tk, rfl, q⟩
end
/-! ### an own exception class without an __init__ of its own -/
theorem ObjOk.there {P : Program} {w : World} {H : Hp} {h : Heap} {a : Addr} {o : HO} (x : ObjOk P w H h a o) : ∃ u, h.get? a = some u := by
  cases o with
  | lst xs => obtain ⟨_, _, _, _, e⟩ := x; exact ⟨_, e⟩
  | tup xs => obtain ⟨_, _, _, ob, e, _⟩ := x; exact ⟨_, e⟩
  | dK kvs => obtain ⟨_, _, _, _, o, _, _, e, _⟩ := x; exact ⟨_, e⟩
  | dT kvs => obtain ⟨_, _, _, _, o, _, _, e, _⟩ := x; exact ⟨_, e⟩
  | set S n => obtain ⟨o, _, _, _, e, _⟩ := x; exact ⟨_, e⟩
  | ins C dx fs => obtain ⟨_, _, _, e, _⟩ := x; exact ⟨_, e⟩
  | own y => exact x
  | xd fs => obtain ⟨_, ⟨_, _, _, e, _⟩, _⟩ := x; exact ⟨_, e⟩
  | rng lo hi => obtain ⟨_, _, _, e⟩ := x; exact ⟨_, e⟩
  | frz ob u => exact ⟨_, x.1⟩
  | tbl ps => exact ⟨_, x⟩
  | met f y => exact ⟨_, x⟩
  | ext φ => exact x.2.1
section
variable {X : Cx} {C : Addr} {bm : List Value} {x : Str} {p pos : Pos}
structure XMk0 (K : Frag) (C : Addr) (bm : List Value) : Prop where
  ob : XOb K C bm
  tl : tailIn K tailVE (.ref C :: bm) = true
  kp : keepIn K (.ref C) = true
def tExc0 (C : Addr) : TE := fun _ H Q => ∀ x, H x = none → Q (.ref x) (upd H x (FxO x C none))
theorem run_exc0 {pins : List (Addr × Obj)} {σ : St} {H : Hp} {s : Shared} {Q : VK} (M : XMk0 X.K C bm) (I : Inv X pins σ H s) (h : ∀ x, H x = none → Q (.ref x) (upd H x (FxO x C none))) :
    wpAny (model X.prog X.w) X.A (call (.ref C) []) (EP X pins σ Q) X.xe s := by
  obtain ⟨nm, q, N, bs, hdct, sn, sub, ab, col, dd, k0, k1, k2, k3, k5, ho⟩ := M.ob
  have T := tail_of_in (h := s.heap) I.kIn M.tl
  have hC := I.kIn _ _ ho
  generalize hl : Value.ref C :: bm = l at T
  cases T with
  | base => unfold tailVE at hl; cases hl
  | own hA hn hi T' =>
    injection hl with e1 e2
    cases e1
    subst e2
    have e3 := hC.symm.trans hA
    injection e3 with e3
    injection e3 with _ _ e4 _
    injection e4 with e4
    subst e4
    obtain ⟨hp, g, d, tk, os⟩ := s
    refine wpAny_call_exc_subT PySem.F.excBase_ValueError T' hC hn hi fun h' e hm => ?_
    obtain ⟨tt, hx, _⟩ := hm.there
    have nH : H e = none := by
      cases q : H e with
      | none => rfl
      | some u =>
        obtain ⟨o, z⟩ := (I.hok e u q).there
        rw [hm.new] at z
        cases z
    have nd : ∀ b u, H b = some u → b ≠ e := fun b u q z => by rw [z, nH] at q; cases q
    refine ⟨.ref e, upd H e (FxO e C none), I.un (t' := tk) (h' := h') ⟨fun b o q n _ _ => hm.keeps b o q, fun b o q n _ _ => ⟨o.slots, hm.keeps b o q⟩, fun b o q n _ => ?_, fun b o q _ => ⟨o, hm.keeps b o q⟩, fun b xs q => ?_, fun b o u q => ?_, fun b ps q => ⟨#[], ?_⟩⟩ fun b u q => ?_, rfl, h e nH⟩
    · rw [upd_ne (fun z => by rw [z, hm.new] at q; cases q)]; exact n
    · rw [upd_ne (nd b _ q)]; exact q
    · rw [upd_ne (nd b _ q)]; exact q
    · rw [upd_ne (nd b _ q), q]; simp
    · by_cases hb : b = e
      · subst hb
        rw [upd_same] at q
        cases q
        exact fx_ok ⟨_, _, hx, rfl, rfl, rfl⟩
      · rw [upd_ne hb] at q
        exact (I.hok b u q).stay (fun c v _ r => hm.keeps c v r) (fun c r => by rw [upd_ne (nd c _ r)]; exact r) fun c xs r => by rw [upd_ne (nd c _ r)]; exact r
theorem pe_exc0 (M : XMk0 X.K C bm) (hg : Gl X x) (hm : X.mg x = some (.ref C)) (hdb : (x == ("__debug__" : Str)) = false := by decide) : PE X (.Call (.Name x p) [] [] pos) (tExc0 C) := by
  intro pins s σ H Q I h
  refine wpAny_Call_Name_kw (ld_glob I hg hm ?_ hdb)
  exact PySem.W.callWith_K0 I.kIn M.kp (run_exc0 M I h)
end
end L2
namespace L2
open PySem PySem.Spec PyProof.Rows PySem.W

/-! ### code whose exceptions are caught in the same body -/
/-- an expression's reading with the exception's end -/
abbrev TX := St → Hp → VK → XK → Prop
/-- a try's body: the ends, the wish of an exception at the names' values then -/
abbrev TB := Ends → (St → XK) → St → Hp → Prop
def PX (X : Cx) (e : Expr) (t : TX) : Prop :=
  ∀ (pins : List (Addr × Obj)) (s : Shared) (σ : St) (H : Hp) (Q : VK) (E : XK), Inv X pins σ H s → t σ H Q E → wpAny (model X.prog X.w) X.A (eval e X.env) (EP X pins σ Q) (XP X pins σ E) s
def BP (X : Cx) (pins : List (Addr × Obj)) (Ex : St → XK) (e : Value) (s' : Shared) : Prop := ∃ σ', XP X pins σ' (Ex σ') e s'
def PB (X : Cx) (sts : List Stmt) (t : TB) : Prop :=
  ∀ (pins : List (Addr × Obj)) (s : Shared) (σ : St) (H : Hp) (D : Ends) (Ex : St → XK), Inv X pins σ H s → t D Ex σ H → wpAny (model X.prog X.w) X.A (execs sts X.env) (SP X pins D) (BP X pins Ex) s
section
variable {X : Cx} {k : Nat} {f C : Addr} {fd : FuncData} {ps : List Str} {sp : Sp} {dvs : List V} {ds : List Value} {E : XK} {x m : Str} {p pos apos : Pos} {e o : Expr} {es : List Expr} {ta : TE} {t : TA}
theorem ep_unwish {E : Value → Shared → Prop} {pins : List (Addr × Obj)} {σ : St} {Q : VK} {u : Value} {s : Shared} (h : EP (X.wish E) pins σ Q u s) : EP X pins σ Q u s := let ⟨v, H', I, r, q⟩ := h; ⟨v, H', I.unwish, r, q⟩
theorem px_pe {te : TE} (h : PE X.nox e te) : PX X e (fun σ H Q _ => te σ H Q) := fun pins s σ H Q E I hw => wpAny_mono (h pins s σ H Q (I.wish _) hw) (fun _ _ z => ep_unwish z) fun _ _ z => False.elim z
def tCallX (sp : Sp) (dvs : List V) (t : TA) : TX := fun σ H Q E => t σ H fun vs H1 => sp (vs ++ dvs) H1 Q E
theorem run_fnX {pins : List (Addr × Obj)} {σ : St} {H : Hp} {s : Shared} {Q : VK} {us : List Value} {vs : List V} {cc : Bool} (F : FnOk X.prog X.w X.K X.mg X.base (CXw X.prog X.w) k f fd ps sp cc) (hr : Room k X.A cc) (hb : Binds X.K fd ps ds) (hd : Vals dvs ds)
    (I : Inv X pins σ H s) (r : Vals vs us) (h : sp (vs ++ dvs) H Q E) : wpAny (model X.prog X.w) X.A (call (.ref f) us) (EP X pins σ Q) (XP X pins σ E) s := by
  have r2 : Vals (vs ++ dvs) (us ++ ds) := r.append hd
  have hl : (us ++ ds).length = ps.length := by rw [← r2.length]; exact F.len _ _ _ _ h
  refine wpAny_call (codeAny_mono (F.run X.A X.stack s H ⟨us, []⟩ (us ++ ds) (vs ++ dvs) Q E hr I.env0 (hb s us I.kIn hl) r2 h) fun r s' hq => ?_)
  cases r with
  | error e => exact xp_call I hq
  | ok fl =>
    cases fl with
    | ret u => exact I.after hq
    | next => exact False.elim hq
    | brk => exact False.elim hq
    | cont => exact False.elim hq
theorem px_call {cc : Bool} (F : FnOk X.prog X.w X.K X.mg X.base (CXw X.prog X.w) k f fd ps sp cc) (hr : Room k X.A cc) (hg : Gl X x) (hm : X.mg x = some (.ref f)) (hk : PySem.W.keepIn X.K (.ref f) = true) (hb : Binds X.K fd ps ds) (hd : Vals dvs ds)
    (ha : PA X.nox (e :: es) t) (hdb : (x == ("__debug__" : Str)) = false := by decide) (he : starEach (e :: es) X.env = (false, eval e X.env) :: starEach es X.env := by rfl) (hpl : (backTo pos (starEach es X.env)).any (·.1) = false := by rfl) :
    PX X (.Call (.Name x p) (e :: es) [] pos) (tCallX sp dvs t) := by
  intro pins s σ H Q E I h
  refine wpAny_Call_Name_kw (ld_glob I hg hm ?_ hdb)
  refine PySem.W.callWith_K (h₀ := X.base) I.ok.mod.kin hk (wpAny_mono (ha pos pins s σ H _ (I.wish _) h) (fun us s1 ⟨vs, H1, I1, r, q⟩ => ⟨I1.unwish.kIn, ?_⟩) fun _ _ z => False.elim z) he hpl
  exact run_fnX F hr hb hd I1.unwish r q
/-- blocks -/
def bExpr (t : TX) : TB := fun D Ex σ H => t σ H (fun _ H1 => D.nx σ H1) (Ex σ)
def bRet (t : TX) : TB := fun D Ex σ H => t σ H D.rt (Ex σ)
def bSet (i : Nat) (t : TX) : TB := fun D Ex σ H => t σ H (fun v H1 => D.nx (σ.set i (some v)) H1) (Ex σ)
def bSeq (t u : TB) : TB := fun D Ex σ H => t { D with nx := u D Ex } Ex σ H
def bOf (t : TS) : TB := fun D _ σ H => t D σ H
/-- one statement of such a body -/
def PB1 (X : Cx) (st : Stmt) (t : TB) : Prop :=
  ∀ (pins : List (Addr × Obj)) (s : Shared) (σ : St) (H : Hp) (D : Ends) (Ex : St → XK), Inv X pins σ H s → t D Ex σ H → wpAny (model X.prog X.w) X.A (exec st X.env) (SP X pins D) (BP X pins Ex) s
theorem pb_of {st : Stmt} {t : TS} (h : PS X.nox st t) : PB1 X st (bOf t) := fun pins s σ H D Ex I hw => wpAny_mono (h pins s σ H D (I.wish _) hw) (fun _ _ z => z.unwish) fun _ _ z => False.elim z
theorem pb_expr {t : TX} (he : PX X e t) (hs : swapsWith e none pos.line X.env = pure false := by rfl) : PB1 X (.Expr e pos) (bExpr t) := by
  intro pins s σ H D Ex I h
  exact wpAny_Expr_any (wpAny_mono (he pins s σ H _ _ I h) (fun v s1 ⟨x, H1, I1, r1, q1⟩ => ⟨σ, H1, I1, q1⟩) fun _ _ z => ⟨σ, z⟩) I.quiet hs
theorem pb_ret {t : TX} (he : PX X e t) : PB1 X (.Return (some e) pos) (bRet t) := by
  intro pins s σ H D Ex I h
  exact wpAny_Return_some (wpAny_mono (he pins s σ H _ _ I h) (fun v s1 ⟨x, H1, I1, r1, q1⟩ => ⟨x, σ, H1, I1, r1, q1⟩) fun _ _ z => ⟨σ, z⟩)
theorem pb_set {t : TX} {i : Nat} {pos' : Pos} (hN : X.N.Nodup) (hi : X.N[i]? = some x) (hx : Loc X.env.scope x) (he : PX X e t) (hs : swapsWith e (some (.Name x pos')) pos.line X.env = pure false := by rfl)
    (hf : X.fn x = true ∨ X.env.scope.names.lookup x = some .local := by first | exact .inl rfl | exact .inr rfl | assumption) : PB1 X (.Assign [.Name x pos'] e pos) (bSet i t) := by
  intro pins s σ H D Ex I h
  refine wpAny_Assign_Name (wpAny_mono (he pins s σ H _ _ I h) (fun v s1 ⟨y, H1, I1, r1, q1⟩ => ?_) fun _ _ z => ⟨σ, z⟩) hs
  exact store_ok I1 hN hi hx r1 (fun s2 I2 => ⟨_, H1, I2, q1⟩) hf
theorem pb_cons {b : List Stmt} {st : Stmt} {t u : TB} (h1 : PB1 X st t) (h2 : PB X b u) : PB X (st :: b) (bSeq t u) := by
  intro pins s σ H D Ex I h
  refine wpAny_execs_cons (thn (h1 pins s σ H { D with nx := u D Ex } Ex I h) fun f s1 q => ?_)
  cases f with
  | next =>
    obtain ⟨σ', H', I', q⟩ := q
    exact h2 pins s1 σ' H' D Ex I' q
  | ret v => exact q
  | brk => exact q
  | cont => exact q
theorem pb_one {st : Stmt} {t : TB} (h1 : PB1 X st t) : PB X [st] t := by
  intro pins s σ H D Ex I h
  refine wpAny_execs_cons (thn (h1 pins s σ H D Ex I h) fun f s1 q => ?_)
  cases f with
  | next => exact wpAny_execs_nil q
  | ret v => exact q
  | brk => exact q
  | cont => exact q
end

/-! ### try: .. except D as n: .. -/
/-- the context of an except suite -/
abbrev Cx.hand (X : Cx) (ea : Addr) : Cx := { X with A := X.A.mark (some (.ref ea)), calm := false, xe := fun _ _ => False }
section
variable {X : Cx} {pins : List (Addr × Obj)} {σ : St} {H : Hp} {s : Shared} {ea : Addr}
theorem Cx.Ok.hand (ok : X.Ok) : (X.hand ea).Ok :=
  ⟨ok.mod, ok.kind, ok.glob, ok.blt, ok.above, ok.inj, ok.has, ok.cab, (fun z => nomatch z), ok.frames, ok.stk, ok.exf, ok.bs, ok.bsz, ok.noex, ok.exfs, ok.funs, ok.frf⟩
theorem Inv.hand (I : Inv X pins σ H s) : Inv (X.hand ea) pins σ H s := ⟨I.ok.hand, I.os, I.bare, I.base, I.loc, I.cell, I.free, I.freeC, I.pin, I.hok, I.len⟩
theorem Inv.unhand (ok : X.Ok) (I : Inv (X.hand ea) pins σ H s) : Inv X pins σ H s := ⟨ok, I.os, I.bare, I.base, I.loc, I.cell, I.free, I.freeC, I.pin, I.hok, I.len⟩
/-- a local name is unbound -/
theorem Inv.gone {i : Nat} {x : Str} {M : Model} {A : Around} {E : Value → Shared → Prop} {pos : Pos} {Q : Unit → Shared → Prop} (I : Inv X pins σ H s) (hN : X.N.Nodup) (hi : X.N[i]? = some x) (hk : X.env.kindOf x = some .local)
    (h : ∀ s', Inv X pins (σ.set i none) H s' → Q () s') : wpAny M A (do bindName X.env x .none; unbindBehindTheSuite X.env x pos) Q E s := by
  obtain ⟨m, hn, hl⟩ := id I.loc
  have hcls : (X.env.scope.kind == .class || (X.env.scope.kind == .module && X.env.locals != X.env.globals)) = false := by rw [I.ok.kind]; rfl
  have hiσ : i < σ.length := by rw [I.len]; exact (List.getElem?_eq_some_iff.mp hi).1
  have cne := I.cne
  refine wpAny_nameGoes_keeps hk hn hcls fun h' v hn' hs => h _ ?_
  have neL : ∀ b o, X.s₀.heap.get? b = some o → b ≠ X.env.locals := fun b o e => Nat.ne_of_lt (Nat.lt_of_lt_of_le (Heap.lt_size e) I.ok.above)
  refine ⟨I.ok, I.os, I.bare, ⟨fun b o e n hb hx => (hs.2 b (neL b o e)).trans (I.base.keep b o e n hb hx), fun b o e n hb hx => ?_, I.base.free, fun b o e hx => ?_, I.base.tups, I.base.frzs, I.base.tbls⟩, ⟨_, hn', fun j y v' e1 e2 e3 => ?_⟩, fun y c e => ?_, I.free, I.freeC, fun p hp => ?_, fun b u q => ?_, by simpa using I.len⟩
  · obtain ⟨sl, e1⟩ := I.base.slot b o e n hb hx
    exact ⟨sl, (hs.2 b (neL b o e)).trans e1⟩
  · obtain ⟨o', e1⟩ := I.base.there b o e hx
    exact ⟨o', (hs.2 b (neL b o e)).trans e1⟩
  · have hj : j ≠ i := fun z => by
      subst z
      rw [List.getElem?_set_self hiσ] at e2
      cases e2
    rw [List.getElem?_set_ne (Ne.symm hj)] at e2
    obtain ⟨u', r', q⟩ := hl j y v' e1 e2 e3
    refine ⟨u', r', ?_⟩
    rcases q with ⟨k, e⟩ | ⟨k, c, e, z⟩
    · have ny : y ≠ x := fun e => hj (nodup_ix hN e1 (e ▸ hi))
      exact .inl ⟨k, by simp [ny, e]⟩
    · exact .inr ⟨k, c, e, z.sameBut hs (cne y c e)⟩
  · obtain ⟨w', z⟩ := I.cell y c e
    exact ⟨w', z.sameBut hs (cne y c e)⟩
  · obtain ⟨e, n, ne, nf, d⟩ := I.pin p hp
    exact ⟨(hs.2 p.1 ne).trans e, n, ne, nf, d⟩
  · refine (I.hok b u q).stay (fun c v hc r => (hs.2 c fun z => ?_).trans r) (fun _ q => q) fun _ _ q => q
    subst z
    rcases hc with z | z
    · rw [← z, I.free] at q; cases q
    · rw [I.free] at z; cases z
end
/-- the suite's ends: behind it the name is unbound -/
def Ends.gone (D : Ends) (i : Nat) : Ends := { nx := fun σ H => D.nx (σ.set i none) H, rt := D.rt, bk := fun σ H => D.bk (σ.set i none) H, ct := fun σ H => D.ct (σ.set i none) H }
/-- try: tb; except D as the i-th name: ts; no else -/
def tTry (K : Frag) (D : Addr) (i : Nat) (tb : TB) (ts : Addr → TS) : TS := fun Dn σ H => tb Dn (fun σ' ev dd H' => ∃ ea C bm, ev = .ref ea ∧ H' ea = some (ExcO ea C dd) ∧ XOb K C bm ∧ (Value.ref C :: bm).contains (.ref D) = true ∧
  ts ea (Dn.gone i) (σ'.set i (some (.ref ea))) H') σ H
section
variable {X : Cx} {body suite : List Stmt} {b₀ : Stmt} {tb : TB} {ts : Addr → TS} {wn n : Str} {D : Addr} {bmD : List Value} {i : Nat} {np hpos pos : Pos}
theorem ps_try (hb : PB X body tb) (hs : ∀ ea, PSs (X.hand ea) (b₀ :: suite) (ts ea)) (hg : Gl X wn) (hm : X.mg wn = some (.ref D)) (ob : XOb X.K D bmD) (hbm : bmD.contains (.type "BaseException") = true) (hN : X.N.Nodup) (hi : X.N[i]? = some n)
    (hk : X.env.scope.names.lookup n = some .local) (hst : X.stack = X.env :: X.outer := by rfl) (hfr : X.env.frame = some X.env.locals := by rfl) (hdb : (wn == ("__debug__" : Str)) = false := by decide) :
    PS X (.Try body [.ExceptHandler (some (.Name wn np)) (some n) (b₀ :: suite) hpos] [] [] pos) (tTry X.K D i tb ts) := by
  intro pins s σ H Dn I h
  refine wpAny_Try_except (wpAny_mono (hb pins s σ H Dn _ I h) (fun f s1 q => ?_) ?_)
  · cases f with
    | next => exact wpAny_execs_nil q
    | ret v => exact q
    | brk => exact q
    | cont => exact q
  rintro e s1 ⟨σ1, ea, C, dd, tb1, H1, rfl, I1, mu, x, ht, ea', C', bm, e1, hH, obC, hc, q⟩
  cases e1
  have ne : ∀ T0, H1 T0 = none → T0 ≠ ea := fun T0 n z => by subst z; rw [n] at mu; exact mu
  refine noted_ok (base := X.base) (env := X.env) (outer := X.outer) (by rw [I1.ok.frames, hst]) (by rw [← hst]; exact I1.stack) hfr x ?_ fun h' T Nt => ?_
  · rcases ht with z | ⟨T0, z, n0, _, _, t0⟩
    · exact .inl z
    · exact .inr ⟨T0, z, ne T0 n0, t0⟩
  have J := I1.noted hst hfr mu x ht Nt
  obtain ⟨nT0, hT, pT⟩ := tb_new I1 ht Nt.new
  have nT : upd H1 ea (ExcO ea C dd) T = none := by
    rw [upd_ne (ne T nT0)]; exact nT0
  have eC : C' = C := by
    obtain ⟨tb2, vs2, sl2, q2, _⟩ := exc_at J.hok hH
    obtain ⟨vs3, sl3, q3, _⟩ := Nt.ex
    have q3' := q3.symm.trans q2
    cases q3'
    rfl
  subst eC
  obtain ⟨nmC, qC, NC, bsC, hdC, snC, subC, abC, colC, ddC, a0, a1, a2, a3, a5, hoC⟩ := obC
  obtain ⟨nmD, qD, ND, bsD, hdD, snD, subD, abD, colD, ddD, d0, d1, d2, d3, d5, hoD⟩ := ob
  obtain ⟨vs3, sl3, q3, z3, t3⟩ := id Nt.ex
  have J' := J.hand (ea := ea)
  refine wpAny_handleBy_cons (codeAny_handlers_test (ld_glob (X := X.hand ea) J' hg hm ?_ hdb)) (by intro q; cases q)
  obtain ⟨hp1, g1, dr1, tk1, os1⟩ := s1
  refine exc_match (J.kIn _ _ hoC) (J.kIn _ _ hoD) q3 rfl hbm hc (codeAny_handlers_suite_as ?_)
  obtain ⟨oT, tsT, qT, dT, rT⟩ := id Nt.tb
  obtain ⟨l1, l2⟩ := J.locNe qT dT
  refine setFlight_ok Nt.ex Nt.tb ?_
  have J2 := J'.turned (it := T) (t' := tk1) (h' := h'.update T (Obj.mapFields (·.setIfInBounds 3 .none))) (fun b o hb e => (Heap.get?_update_other _ _ (Ne.symm hb)).trans e) nT l1 (.inr hT) l2 pT
  refine store_ok (X := X.hand ea) J2 hN hi (.inl hk) (show RelV (.ref ea) (.ref ea) from rfl) (fun s2 J3 => ?_) (.inr hk)
  refine wpAny_mono (hs ea pins s2 _ _ (Dn.gone i) J3 q) (fun f s3 hq => ?_) fun _ _ z => False.elim z
  have fin : ∀ {σ' : St} {H' : Hp} {Q : Unit → Shared → Prop} {E : Value → Shared → Prop}, Inv (X.hand ea) pins σ' H' s3 → (∀ s4, Inv X pins (σ'.set i none) H' s4 → Q () s4) → wpAny (model X.prog X.w) X.A (do bindName X.env n .none; unbindBehindTheSuite X.env n hpos) Q E s3 :=
    fun Z k => (Z.unhand I.ok).gone hN hi hk k
  cases f with
  | next =>
    obtain ⟨σ', H', Z, q⟩ := hq
    exact fin Z fun s4 Z4 => ⟨_, H', Z4, q⟩
  | ret v =>
    obtain ⟨v', σ', H', Z, r, q⟩ := hq
    exact fin Z fun s4 Z4 => ⟨v', _, H', Z4, r, q⟩
  | brk =>
    obtain ⟨σ', H', Z, q⟩ := hq
    exact fin Z fun s4 Z4 => ⟨_, H', Z4, q⟩
  | cont =>
    obtain ⟨σ', H', Z, q⟩ := hq
    exact fin Z fun s4 Z4 => ⟨_, H', Z4, q⟩
end
/-- room for calls within an except suite -/
theorem Room.hand {k : Nat} {A : Around} (r : Room k A) (ea : Addr) : Room k (A.mark (some (.ref ea))) false := ⟨fun z => (nomatch z), r.dp, r.un⟩
theorem hand_q {X : Cx} {ea C : Addr} {dd : Option Addr} {s : Shared} {H : Hp} (hok : HOk X.prog X.w H s.heap) (h : H ea = some (ExcO ea C dd)) : HandQ (X.hand ea) s := by
  obtain ⟨tb, vs, sl, q, _, _, r⟩ := exc_at hok h
  exact ⟨ea, _, vs, rfl, q, rfl, r⟩
end L2
namespace L2
open PySem PySem.Spec PyProof.Rows
section
variable {X : Cx}
theorem op_alt {f : Value → Value → Sem Value} {r r' : R2} (h : OpR X f r) (h' : OpR X f r') : OpR X f (fun x y H Q => r x y H Q ∨ r' x y H Q) := by
  intro pins s σ H x y v u Q I rx ry q
  rcases q with q | q
  · exact h pins s σ H x y v u Q I rx ry q
  · exact h' pins s σ H x y v u Q I rx ry q
theorem op_le_str : OpR X (compareOp .LtE) (fun x y H Q => ∃ i j, x = .str i ∧ y = .str j ∧ Q (.bl (!decide (j.cps.toList < i.cps.toList))) H) := by
  intro pins s σ H x y v u Q I rx ry h
  obtain ⟨i, j, rfl, rfl, q⟩ := h
  obtain ⟨t, rfl⟩ := rx
  obtain ⟨t', rfl⟩ := ry
  exact PySem.P.le_str ⟨.bl _, H, I, rfl, q⟩
/-- tuples compared, flat items -/
def rEqT (K : PySem.W.Frag) : R2 := fun x y H Q => ∃ a b xs ys, x = .ref a ∧ y = .ref b ∧ SqT K H a xs ∧ SqT K H b ys ∧ xs.all flatV = true ∧ ys.all flatV = true ∧ xs.length = ys.length ∧ Q (.bl (eqVs xs ys)) H
theorem op_eqT (hu : X.A.units < cLine) : OpR X (compareOp .Eq) (rEqT X.K) := by
  intro pins s σ H x y v u Q I rx ry h
  obtain ⟨a, b, xs, ys, rfl, rfl, ha, hb, fx, fy, hl, q⟩ := h
  cases rx
  cases ry
  obtain ⟨its, r1, p1, _⟩ := I.tuple ha
  obtain ⟨its2, r2, p2, _⟩ := I.tuple hb
  have l1 := r1.length
  have l2 := r2.length
  refine SeqAt.eq_tupleAt (e := eqAtN xs ys) (show s.heap.IsTuple a its.toArray from p1) (show s.heap.IsTuple b its2.toArray from p2) hu (fun j h1 h2 => items_eqAt r1 r2 fx fy j h1 h2) ⟨.bl _, H, I, rfl, ?_⟩
  have e1 : min its.toArray.size its2.toArray.size = xs.length := by simp; omega
  have e2 : (its.toArray.size == its2.toArray.size) = true := by simp; omega
  rw [e1, e2, Bool.and_true, all_eqAtN hl]
  exact q
/-- a text taken once or not at all -/
theorem op_mul_str01 : OpR X (binaryOp .Mult) (fun x y H Q => ∃ z n, x = .str z ∧ y = .int n ∧ ((n = 0 ∧ Q (.str Str.empty) H) ∨ (n = 1 ∧ Q (.str z) H))) := by
  intro pins s σ H x y v u Q I rx ry h
  obtain ⟨z, n, rfl, rfl, h⟩ := h
  obtain ⟨t, rfl⟩ := rx
  obtain ⟨t', rfl⟩ := ry
  rcases h with ⟨rfl, q⟩ | ⟨rfl, q⟩
  · exact PySem.P.mul_str_none (by decide) (by decide) ⟨.str Str.empty, H, I.tok _, ⟨_, rfl⟩, q⟩
  · refine PySem.P.mul_str (by decide) (fun _ h => absurd h (by simp)) (fun _ h => absurd h (by simp)) ?_
    rw [if_neg (by decide), if_pos (by simp)]
    exact ⟨.str z, H, I, ⟨_, rfl⟩, q⟩
/-- x.split(y) -/
def rSplit : V → List V → Hp → VK → Prop := fun x xs H Q => ∃ z y, x = .str z ∧ xs = [.str y] ∧ (y.length == 0) = false ∧ z.length + 2 ≤ sizeLine ∧ ∀ p, H p = none → Q (.ref p) (upd H p (.lst ((Txt.split z y).map V.str)))
theorem vals_strs : ∀ (l : List (Str × Tok)), Vals ((l.map (·.1)).map V.str) (strValues l)
  | [] => .nil
  | p :: l => .cons ⟨p.2, rfl⟩ (vals_strs l)
theorem split_len (z y : Str) : (Txt.split z y).length ≤ z.length + 2 := by
  unfold Txt.split
  split
  · simp
  · split
    · simp
    · rw [length_partsBetween]
      have := StrLaws.occ_length_le z y 0 z.length (z.length + 1)
      omega
theorem mt_split : MtR X "str.split" rSplit := by
  intro pins s σ H x xs v us Q I rx rs h
  obtain ⟨z, y, rfl, rfl, hy, hz, q⟩ := h
  obtain ⟨t, rfl⟩ := rx
  obtain ⟨u, rfl, ru⟩ := rs.one
  obtain ⟨t', rfl⟩ := ru
  have hn := split_len z y
  have hn2 : (Builtin.Str.partsBetween z (Builtin.Str.occurrences z y 0 z.length (z.length + 1)) y.length).length ≤ sizeLine := by
    rw [length_partsBetween]
    have := StrLaws.occ_length_le z y 0 z.length (z.length + 1)
    omega
  have fin : ∀ (l : List (Str × Tok)) (k : Nat), l.map (·.1) = Txt.split z y → EP X pins σ Q (.ref s.heap.objs.size) { s with heap := s.heap.push { cls := .type "list", data := .seq (strValues l).toArray }, toks := k } := fun l k e =>
    ⟨.ref s.heap.objs.size, _, I.lnew (its := strValues l) (ys := (Txt.split z y).map V.str) (t' := k) (by rw [← e]; exact vals_strs l) (by rw [List.length_map]; omega), rfl, q _ I.fresh⟩
  have tz := typeIs_str s z t
  have ag := F.args_str_split_2 (.str z t) (.str y t')
  cases c1 : (decide (z.length < y.length) || decide (Builtin.Str.strKind z < Builtin.Str.strKind y)) with
  | true => exact call_meets F.slot_str_split tz F.entry_str_split ag (meets_str_split_cannot_occur z y t t' c1) (fin [(z, t)] s.toks (by unfold Txt.split; rw [if_pos c1]; rfl))
  | false =>
    cases c2 : (Builtin.Str.occurrences z y 0 z.length (z.length + 1)).isEmpty with
    | true => exact call_meets F.slot_str_split tz F.entry_str_split ag (meets_str_split_not_found z y t t' c1 hy c2) (fin [(z, t)] s.toks (by unfold Txt.split; rw [if_neg (by rw [c1]; decide), if_pos c2]; rfl))
    | false =>
      refine call_meets F.slot_str_split tz F.entry_str_split ag (meets_str_split_sep z y t t' c1 hy c2 (by omega) hn2) ?_
      have e := fin (numbered s.toks (Builtin.Str.partsBetween z (Builtin.Str.occurrences z y 0 z.length (z.length + 1)) y.length)) (s.toks + (Builtin.Str.partsBetween z (Builtin.Str.occurrences z y 0 z.length (z.length + 1)) y.length).length)
        (by rw [numbered_texts]; unfold Txt.split; rw [if_neg (by rw [c1]; decide), if_neg (by rw [c2]; decide)])
      rw [← strsFrom_eq] at e
      exact e
/-- put together again -/
theorem split_join (z y : Str) : Txt.join y (Txt.split z y) = z := by
  unfold Txt.split
  split
  · rfl
  · split
    · rfl
    · exact StrLaws.glued_between_self z y (z.length + 1)
/-- all(xs) of a list of truths -/
theorem bools_items : ∀ {bs : List Bool} {us : List Value}, Vals (bs.map V.bl) us → us = bs.map Value.bool
  | [], us, r => by
    rw [List.map_nil] at r
    cases r
    rfl
  | b :: bs, us, r => by
    rw [List.map_cons] at r
    cases r with
    | cons r1 r2 =>
      cases (show _ = Value.bool b from r1)
      rw [bools_items r2, List.map_cons]
theorem call_all (hh : X.A.handled = none) : CallR X (.builtin "all") (fun vs H Q => ∃ (p : Addr) (bs : List Bool), vs = [.ref p] ∧ SqL X.K H p (bs.map V.bl) ∧ Q (.bl (bs.all id)) H) := by
  intro pins s σ H xs us Q I r h
  obtain ⟨p, bs, rfl, hq, q⟩ := h
  obtain ⟨u, rfl, ru⟩ := r.one
  cases ru
  obtain ⟨its, r1, p1, _⟩ := I.list hq
  cases bools_items r1
  have hl : s.heap.IsList p (bs.map Value.bool).toArray := p1.isList
  have hlt : p < s.heap.objs.size := by obtain ⟨_, e, _⟩ := hl; exact Heap.lt_size e
  refine call_all_walk (wpAny_pyIter_list hl ?_)
  refine ⟨_, _, _, _, _, _, fun i => bs.getD i true, rfl, Walks.list (A := X.A.in1) hh _ p (Nat.ne_of_lt hlt) (bs.map Value.bool).toArray, ⟨⟨_, Heap.get?_push_size _ rfl, rfl, rfl⟩, hl.push _⟩, ?_, fun h' tk hk => ?_⟩
  · intro i v s' Q' E' hi hq'
    have hi' : (bs.map Value.bool)[i]? = some v := by simpa using hi
    rw [List.getElem?_map] at hi'
    cases e : bs[i]? with
    | none => rw [e] at hi'; cases hi'
    | some b =>
      rw [e] at hi'
      cases hi'
      have eb : bs.getD i true = b := by simp [List.getD, e]
      have hq2 : Q' b s' := by rw [← eb]; exact hq'
      exact wpAny_truthy_bool hq2
  · have ea : (List.range (bs.map Value.bool).toArray.size).all (fun i => bs.getD i true) = bs.all id := by
      have : (List.range bs.length).map (fun i => bs.getD i true) = bs := by
        apply List.ext_getElem
        · simp
        · intro n h1 h2
          simp [List.getD, List.getElem?_eq_getElem h2]
      calc _ = ((List.range bs.length).map (fun i => bs.getD i true)).all id := by rw [List.all_map]; simp
        _ = bs.all id := by rw [this]
    rw [ea]
    exact ⟨.bl _, H, I.kept (h' := h') (t' := tk) (fun b o e => hk b o (by simp; exact Nat.ne_of_lt (Heap.lt_size e)) (Heap.get?_push_of_some _ e)), rfl, q⟩
end
end L2
/-! ### general words over the layer -/
namespace L2
open PySem PySem.Spec PyProof.Rows
section
variable {P : Program} {w : World} {K : PySem.W.Frag} {mg : Str → Option Value} {base : Heap}
/-- a def that may raise an own exception -/
theorem Fun.okX {x qual : Str} {st : Stmt} {f : Addr} {fd : FuncData} {N ps : List Str} {k : Nat} {sp : Sp} (F : Fun K x qual st f fd) (S : FnScope N ps (defScope st)) (len : ∀ vs H Q E, sp vs H Q E → vs.length = ps.length)
    (hbody : ∀ (cdv : Value) (A : Around) (outer : List Env) (s : Shared) (H : Hp) (vs : List V) (Q : VK) (E : XK), Room k (A.deeper (envOfC qual (defScope st) s.heap.objs.size f cdv)) → sp vs H Q E →
      ∃ t, PSs (cxOf (CXw P w) P w K mg base N qual (defScope st) f cdv A outer s H E) (defBody st) t ∧ t { nx := fun _ H' => Q .non H', rt := Q } (start N vs) H) : FnOk P w K mg base (CXw P w) (k + 1) f fd ps sp := by
  obtain ⟨oc, od, kV, doc, pm, an, cdv, ct, osl, rfl, lk, hcd⟩ := F.ex
  exact fn_of lk hcd S len fun A outer s H vs Q E hr hsp => hbody cdv A outer s H vs Q E hr hsp
/-- where nothing is raised, a def that may raise is called like any other -/
theorem passN {X : Cx} : Passes (CXw X.prog X.w) X E0 := passes_of fun pins σ e s' ⟨_, _, _, _, _, _, _, _, _, _, z⟩ => z.elim
theorem same_new {H : Hp} {p : Addr} (h : H p = none) (o : HO) : Same H (upd H p o) := fun b u q => by rw [upd_ne (ne_of_none q h)]; exact q
theorem same_over {H H' : Hp} {p : Addr} (s : Same H H') (h : H p = none) (o : HO) : Same H (upd H' p o) := fun b u q => by rw [upd_ne (ne_of_none q h)]; exact s b u q
theorem small {n : Nat} (h : n ≤ 100000) : n < sizeLine := Nat.lt_of_le_of_lt h (by decide)
theorem take_snoc {α β : Type} (f : α → β) {l : List α} {i : Nat} {c : α} (h : l[i]? = some c) : (l.take (i + 1)).map f = (l.take i).map f ++ [f c] := by
  rw [List.take_add_one, h, List.map_append]
  rfl
theorem codes_at {x : Str} {i c : Nat} (h : x.cps[i]? = some c) : x.cps.toList[i]? = some c := by simpa using h
theorem codes_len (x : Str) : x.cps.toList.length = x.length := by simp [Str.length]
/-- a comprehension over a list, by a word -/
theorem comp_list {a p : Addr} {xs : List V} {tt : TT} {te : TE} {cs : St} {Q : VK} {H1 : Hp} (Pv : Nat → List V → Hp → Prop) (h0 : Pv 0 [] (upd H1 p (.lst []))) (hl : ∀ i ys H, i ≤ xs.length → Pv i ys H → SqL K H a xs)
    (hs : ∀ i x ys H, xs[i]? = some x → Pv i ys H → tt (some x :: cs) H fun b H4 => if b = true then te (some x :: cs) H4 fun y H5 => H5 p = some (.lst ys) ∧ ys.length < sizeLine ∧ Pv (i + 1) (ys ++ [y]) (upd H5 p (.lst (ys ++ [y]))) else Pv (i + 1) ys H4)
    (hd : ∀ ys H, Pv xs.length ys H → Q (.ref p) H) : CompW (Itl K a) p tt te cs Q H1 :=
  comp_by xs.length Pv h0 (fun i ys H hi pv => ⟨⟨xs, xs[i], hl i ys H (Nat.le_of_lt hi) pv, by simp [hi]⟩, fun v H3 ⟨e, y⟩ => by
    subst e
    exact hs i v ys _ (y xs (hl i ys _ (Nat.le_of_lt hi) pv)) pv⟩) fun ys H pv => ⟨⟨xs, hl _ ys H (Nat.le_refl _) pv, Nat.le_refl _⟩, hd ys H pv⟩
/-- behind a raise -/
theorem raised_same {H : Hp} {e dx : Addr} {a b c d : HO} (he : H e = none) (hd : H dx = none) : Same H (upd (upd (upd (upd H e a) dx b) e c) e d) := fun x u q => by
  rw [upd_ne (ne_of_none q he), upd_ne (ne_of_none q he), upd_ne (ne_of_none q hd), upd_ne (ne_of_none q he)]
  exact q
theorem new_free {H : Hp} {p q : Addr} {o : HO} (h : upd H p o q = none) : q ≠ p ∧ H q = none := by
  have n : q ≠ p := fun z => by rw [z, upd_same] at h; cases h
  rw [upd_ne n] at h
  exact ⟨n, h⟩
/-- an own exception class with an own __init__, as a raiser wants it -/
structure XHas (K : PySem.W.Frag) (mg : Str → Option Value) (x : Str) (st : Stmt) (C : Addr) (bm : List Value) (f : Addr) (fd : FuncData) (ps : List Str) : Prop where
  xm : XMk K C bm f
  cl : XCls K C
  be : bm.contains (.type "BaseException") = true
  nm : mg x = some (.ref C)
  fn : Fun K "__init__" (x ++ Str.ofString ".__init__") st f fd
  bd : Binds K fd ps []
structure Has (K : PySem.W.Frag) (mg : Str → Option Value) (x : Str) (st : Stmt) (ps : List Str) (f : Addr) (fd : FuncData) : Prop where
  fn : Fun K x x st f fd
  bd : Binds K fd ps []
  nm : mg x = some (.ref f)
end
end L2
namespace L2
open PySem PyProof.Rows
/-- an if whose ends go on as one: R holds behind either -/
theorem if_rest {c : TT} {t : TS} {rt : VK} {bk ct : St → Hp → Prop} {σ : St} {H : Hp} {U : St → Hp → Prop} (R : St → Hp → Prop) (h1 : ∀ σ' H', R σ' H' → U σ' H') (h2 : (∀ σ' H', R σ' H' → U σ' H') → tIfS c t tNext { nx := U, rt := rt, bk := bk, ct := ct } σ H) :
    tIfS c t tNext { nx := U, rt := rt, bk := bk, ct := ct } σ H := h2 h1
theorem at_next {i : Nat} {v : V} {σ : St} {H : Hp} {k : St → Hp → Prop} (h : k (σ.set i (some v)) H) : gName i v σ H k := h
theorem seq_in {t u : TS} {D : Ends} {σ : St} {H : Hp} (h : t { nx := u D, rt := D.rt, bk := D.bk, ct := D.ct } σ H) : tSeq t u D σ H := h
theorem cut_mem {ns : List Int} {lo hi : Option Int} {i : Nat} {x : V} (h : (cutV (ns.map V.int) lo hi)[i]? = some x) : ∃ c, x = .int c := by
  have m := List.mem_of_getElem? h
  unfold cutV at m
  obtain ⟨c, _, e⟩ := List.mem_map.mp (List.mem_of_mem_drop (List.mem_of_mem_take m))
  exact ⟨c, e.symm⟩
theorem cut_strs {l : List Str} (lo hi : Option Int) : ∃ l' : List Str, cutV (l.map V.str) lo hi = l'.map V.str ∧ l'.length ≤ l.length ∧ ∀ y ∈ l', y ∈ l := by
  unfold cutV
  refine ⟨(l.drop (HT.sIx (l.map V.str).length 0 lo)).take (HT.sIx (l.map V.str).length (l.map V.str).length hi - HT.sIx (l.map V.str).length 0 lo), ?_, ?_, fun y hy => List.mem_of_mem_drop (List.mem_of_mem_take hy)⟩
  · rw [← List.map_drop, ← List.map_take]
  · rw [List.length_take, List.length_drop]
    omega
/-! ### classes of exceptions by the text -/
abbrev wl (W : Addr) : List Value := .ref W :: tailVE
theorem xob_cls {K : PySem.W.Frag} {C : Addr} {bm : List Value} (h : XOb K C bm) : ∃ cd, PySem.W.clsIn K C = some cd ∧ cd.mro = .ref C :: bm ∧ PySem.W.typeIn K (.ref C) = some (.type "type") := by
  obtain ⟨nm, q, N, bs, hdct, sn, sub, ab, col, dd, k0, k1, k2, k3, k5, ho⟩ := h
  refine ⟨(match K.lookup C with | some ⟨_, _, .cls cd, _⟩ => cd | _ => { name := nm, bases := [], mro := [], ns := 0, qualname := nm, hasDict := false, slotNames := [], subclasses := [], abstract := false, collection := none, hasDel := false }), ?_, ?_, ?_⟩
  · unfold PySem.W.clsIn
    rw [ho]
  · rw [ho]
  · show (K.lookup C).map (·.cls) = _
    rw [ho]
    rfl
theorem kit_ref {K : PySem.W.Frag} {C D : Addr} {bm bd : List Value} (h : XOb K C bm) (g : XOb K D bd) : PySem.W.kitOne K (.ref C) (.ref D) = some ((Value.ref C :: bm).contains (.ref D)) := by
  obtain ⟨cd, e1, e2, _⟩ := xob_cls h
  obtain ⟨cd', f1, _, f3⟩ := xob_cls g
  unfold PySem.W.kitOne
  by_cases z : C = D
  · subst z
    rw [if_pos (by simp)]
    simp
  · rw [if_neg (by simpa using z)]
    show (if ((PySem.W.clsIn K D).isSome && PySem.W.typeIn K (.ref D) == some (.type "type")) = true then PySem.W.subIn K (.ref C) (.ref D) else none) = _
    rw [f1, f3]
    simp only [Option.isSome_some, beq_self_eq_true, Bool.and_self, if_true]
    show PySem.W.mroIn K C (.ref D) = _
    unfold PySem.W.mroIn
    rw [e1, Option.bind_some, e2]
    rfl
theorem kit_ve {K : PySem.W.Frag} {C W : Addr} (h : XOb K C (wl W)) : PySem.W.kitOne K (.ref C) (.type "ValueError") = some true := by
  obtain ⟨cd, e1, e2, _⟩ := xob_cls h
  unfold PySem.W.kitOne
  rw [if_neg (by simp)]
  show (if PySem.W.kitMeta "ValueError" = true then PySem.W.subIn K (.ref C) (.type "ValueError") else none) = _
  rw [if_pos (by decide +kernel)]
  show PySem.W.mroIn K C (.type "ValueError") = _
  unfold PySem.W.mroIn
  rw [e1, Option.bind_some, e2]
  simp [tailVE]
theorem tail_ve (K : PySem.W.Frag) : PySem.W.tailIn K tailVE tailVE = true := by
  unfold tailVE PySem.W.tailIn
  simp
theorem ns_ok {K : PySem.W.Frag} {N : Addr} {oc : Value} {od : Option Addr} {es : Array DictEntry} {ep : Nat} {sl : Array (Option Value)} (l : K.lookup N = some ⟨oc, od, .dict es ep, sl⟩) (h : (es.all fun e => match e.key with | .str _ _ => true | _ => false) = true) : PySem.W.nsOkIn K N = true := by
  unfold PySem.W.nsOkIn
  rw [l]
  exact h
theorem tail_own {K : PySem.W.Frag} {C N : Addr} {bm tl : List Value} {nm q : Str} {bs : List Value} {hdct : Bool} {sn : List Str} {sub : List Value} {ab : Bool} {col : Option Bool} {dd : Option Addr} {k0 k1 k2 k3 k5 : Option Value}
    (l : K.lookup C = some (excClassObj nm q C N bs bm hdct sn sub ab col dd k0 k1 k2 k3 k5 "ValueError.__new__")) (n1 : PySem.W.nsOkIn K N = true) (n2 : PySem.W.nsIn K N "__init__" = some none) (t : PySem.W.tailIn K tailVE tl = true) : PySem.W.tailIn K tailVE (.ref C :: tl) = true := by
  unfold PySem.W.tailIn
  dsimp only
  rw [l]
  simp [n1, n2, t]
end L2
set_option maxHeartbeats 4000000
namespace K5
open PySem L2 PyProof.Rows
/-! ### the text by places -/
def top (i : Nat) : Stmt := PySem.Challenge.pw_clonewood_k05_refusals.main.body.getD i (.Pass ⟨0, 0, 0, 0⟩)
abbrev sI0 : Stmt := inClass (top 7) 0
abbrev sI1 : Stmt := inClass (top 8) 0
abbrev sI3 : Stmt := inClass (top 16) 0
abbrev sI4 : Stmt := inClass (top 9) 0
abbrev sI5 : Stmt := inClass (top 10) 0
abbrev sI6 : Stmt := inClass (top 11) 0
abbrev sI7 : Stmt := inClass (top 12) 0
abbrev sI8 : Stmt := inClass (top 13) 0
abbrev sI9 : Stmt := inClass (top 14) 0
abbrev sI10 : Stmt := inClass (top 15) 0
abbrev sI11 : Stmt := inClass (top 17) 0
abbrev sI12 : Stmt := inClass (top 19) 0
abbrev sI13 : Stmt := inClass (top 20) 0
abbrev sI14 : Stmt := inClass (top 21) 0
abbrev sI15 : Stmt := inClass (top 22) 0
abbrev sI16 : Stmt := inClass (top 23) 0
abbrev sI17 : Stmt := inClass (top 24) 0
abbrev sI18 : Stmt := inClass (top 26) 0
abbrev sI19 : Stmt := inClass (top 25) 0
abbrev sI20 : Stmt := inClass (top 18) 0
abbrev sI21 : Stmt := inClass (top 27) 0
abbrev sI22 : Stmt := inClass (top 28) 0
abbrev sI23 : Stmt := inClass (top 29) 0
abbrev sI27 : Stmt := inClass (top 30) 0
abbrev sI28 : Stmt := inClass (top 31) 0
abbrev sI29 : Stmt := inClass (top 32) 0
abbrev sRa : Stmt := top 34
abbrev sRb : Stmt := top 35
abbrev sRc : Stmt := top 36
abbrev sRd : Stmt := top 37
abbrev sRai : Stmt := top 38
abbrev sKa : Stmt := top 39
abbrev sKb : Stmt := top 40
abbrev sFf : Stmt := top 41
abbrev sTf : Stmt := top 42
abbrev sMf : Stmt := top 43
abbrev sRig : Stmt := top 44
abbrev sLaw : Stmt := top 45
/-! ### the thirty, in the law's order: their names, their fields -/
def nmk (k : Nat) : Str := ([Str.ofString "NoWord", Str.ofString "NoPath", Str.ofString "NoCells", Str.ofString "NoSpan", Str.ofString "NotThere", Str.ofString "There", Str.ofString "NotFolder", Str.ofString "NotFile", Str.ofString "Within", Str.ofString "TooDeep", Str.ofString "Crowded", Str.ofString "TooMany", Str.ofString "Over", Str.ofString "NoRoom", Str.ofString "NoHead", Str.ofString "OldHead", Str.ofString "NotGrowth", Str.ofString "NotMake", Str.ofString "Needed", Str.ofString "Rootless", Str.ofString "NoFloor", Str.ofString "NoPlace", Str.ofString "NoPiece", Str.ofString "Spoilt", Str.ofString "PowerGone", Str.ofString "Down", Str.ofString "NoWood", Str.ofString "BadRow", Str.ofString "NoBase", Str.ofString "NoLine"] : List Str).getD k (Str.ofString "")
def fl (k : Nat) : List Str := ([[Str.ofString "found"], [Str.ofString "path"], [], [Str.ofString "at", Str.ofString "long"], [Str.ofString "path"], [Str.ofString "path"], [Str.ofString "path"], [Str.ofString "path"], [Str.ofString "path"], [Str.ofString "path"], [Str.ofString "path"], [Str.ofString "many"], [Str.ofString "path", Str.ofString "needed"], [Str.ofString "needed", Str.ofString "free"], [Str.ofString "name"], [Str.ofString "name"], [Str.ofString "name"], [Str.ofString "name"], [Str.ofString "name", Str.ofString "by"], [Str.ofString "name"], [Str.ofString "many"], [Str.ofString "place"], [Str.ofString "place"], [Str.ofString "place"], [], [], [], [Str.ofString "at"], [Str.ofString "word", Str.ofString "stamp"], [Str.ofString "line"]] : List (List Str)).getD k []
def many (k : Nat) : Nat := (fl k).length
theorem all30 {P : Nat → Prop} (h0 : P 0) (h1 : P 1) (h2 : P 2) (h3 : P 3) (h4 : P 4) (h5 : P 5) (h6 : P 6) (h7 : P 7) (h8 : P 8) (h9 : P 9) (h10 : P 10) (h11 : P 11) (h12 : P 12) (h13 : P 13) (h14 : P 14) (h15 : P 15) (h16 : P 16) (h17 : P 17) (h18 : P 18) (h19 : P 19) (h20 : P 20) (h21 : P 21) (h22 : P 22) (h23 : P 23) (h24 : P 24) (h25 : P 25) (h26 : P 26) (h27 : P 27) (h28 : P 28) (h29 : P 29) : ∀ k, k < 30 → P k
  | 0, _ => h0
  | 1, _ => h1
  | 2, _ => h2
  | 3, _ => h3
  | 4, _ => h4
  | 5, _ => h5
  | 6, _ => h6
  | 7, _ => h7
  | 8, _ => h8
  | 9, _ => h9
  | 10, _ => h10
  | 11, _ => h11
  | 12, _ => h12
  | 13, _ => h13
  | 14, _ => h14
  | 15, _ => h15
  | 16, _ => h16
  | 17, _ => h17
  | 18, _ => h18
  | 19, _ => h19
  | 20, _ => h20
  | 21, _ => h21
  | 22, _ => h22
  | 23, _ => h23
  | 24, _ => h24
  | 25, _ => h25
  | 26, _ => h26
  | 27, _ => h27
  | 28, _ => h28
  | 29, _ => h29
  | n + 30, h => absurd h (by omega)
abbrev wl (W : Addr) : List Value := .ref W :: tailVE
/-- the classes as they stand behind the top -/
structure Cs (K : PySem.W.Frag) (mg : Str → Option Value) (c : Nat → Addr) (W : Addr) : Prop where
  ob : ∀ k, k < 30 → XOb K (c k) (wl W)
  cl : ∀ k, k < 30 → XCls K (c k)
  nm : ∀ k, k < 30 → mg (nmk k) = some (.ref (c k))
  inj : ∀ k, k < 30 → ∀ j, j < 30 → c k = c j → k = j
  nw : ∀ k, k < 30 → c k ≠ W
  noat : ∀ k, k < 30 → ∀ f ∈ fl k, NoAttr K (c k) f
  wo : XOb K W tailVE
  wn : mg "WoodError" = some (.ref W)
def fsOf (k : Nat) (one other : V) : List (Str × V) := (fl k).zip [one, other]
def FldOk (H : Hp) (dd : Option Addr) (k : Nat) (one other : V) : Prop := match dd with
  | none => fl k = []
  | some dx => fl k ≠ [] ∧ H dx = some (XdO dx (fsOf k one other))
theorem FldOk.mono {H H' : Hp} {dd : Option Addr} {k : Nat} {one other : V} (s : Same H H') (h : FldOk H dd k one other) : FldOk H' dd k one other := by
  cases dd with
  | none => exact h
  | some dx => exact ⟨h.1, s _ _ h.2⟩
theorem FldOk.dk {H : Hp} {dd : Option Addr} {k : Nat} {one other : V} (h : FldOk H dd k one other) : Dk H dd := by
  cases dd with
  | none => trivial
  | some dx => exact ⟨_, h.2⟩
theorem FldOk.dx {H : Hp} {dd : Option Addr} {k : Nat} {one other : V} (h : FldOk H dd k one other) (n : fl k ≠ []) : ∃ dx, dd = some dx ∧ H dx = some (XdO dx (fsOf k one other)) := by
  cases dd with
  | none => exact absurd h n
  | some dx => exact ⟨dx, rfl, h.2⟩
section
variable {K : PySem.W.Frag} {mg : Str → Option Value} {c : Nat → Addr} {W : Addr}
theorem Cs.kit (S : Cs K mg c W) {k j : Nat} (hk : k < 30) (hj : j < 30) : PySem.W.kitOne K (.ref (c k)) (.ref (c j)) = some (decide (j = k)) := by
  rw [kit_ref (S.ob k hk) (S.ob j hj)]
  congr 1
  by_cases e : j = k
  · subst e
    simp
  · rw [decide_eq_false e]
    have n1 : ¬ c j = c k := fun z => e (S.inj j hj k hk z)
    have n2 : ¬ c j = W := S.nw j hj
    simp [tailVE, n1, n2]
theorem Cs.kitW (S : Cs K mg c W) {k : Nat} (hk : k < 30) : (Value.ref (c k) :: wl W).contains (.ref W) = true := by simp
theorem Cs.any (S : Cs K mg c W) {k : Nat} (hk : k < 30) : ∀ (js : List Nat), (∀ j ∈ js, j < 30) → PySem.W.kitAny K (.ref (c k)) (js.map fun j => Value.ref (c j)) = some (js.any fun j => decide (j = k))
  | [], _ => rfl
  | j :: js, h => by
    rw [List.map_cons, List.any_cons]
    unfold PySem.W.kitAny
    rw [S.kit hk (h j List.mem_cons_self)]
    cases e : decide (j = k) with
    | true => rfl
    | false => exact Cs.any S hk js fun i hi => h i (List.mem_cons_of_mem _ hi)
theorem wl_be (W : Addr) : (wl W).contains (.type "BaseException") = true := by simp [tailVE]
end
/-! ### the __init__s -/
theorem putF2 {f g : Str} {x y : V} (h : g ≠ f) : putF g y [(f, x)] = [(f, x), (g, y)] := by
  have e : (g == f) = false := beq_eq_false_iff_ne.mpr h
  have e' : (f == g) = false := beq_eq_false_iff_ne.mpr h.symm
  simp [putF, e, e', h, h.symm]
def spI1 (C : Addr) (f : Str) : Sp := fun vs H Q _ => ∃ e x, vs = [.ref e, x] ∧ H e = some (FxO e C none) ∧ ∀ dx, H dx = none → Q .non (upd (upd H dx (XdO dx [(f, x)])) e (FxO e C (some dx)))
def spI2 (C : Addr) (f g : Str) : Sp := fun vs H Q _ => ∃ e x y, vs = [.ref e, x, y] ∧ H e = some (FxO e C none) ∧ ∀ dx, H dx = none → Q .non (upd (upd (upd H dx (XdO dx [(f, x)])) e (FxO e C (some dx))) dx (XdO dx [(f, x), (g, y)]))
/-- what a raiser shows of an exception of the class k, with its values -/
def Up (c : Nat → Addr) (k : Nat) (one other : V) (H : Hp) (E : XK) : Prop := ∀ ea dd H', Same H H' → H' ea = some (ExcO ea (c k) dd) → FldOk H' dd k one other → E (.ref ea) dd H'
theorem up1 {c : Nat → Addr} {k : Nat} {one other : V} {H : Hp} {E : XK} {f : Str} (h : Up c k one other H E) (hf : fl k = [f]) {e : Addr} (he : H e = none) :
    spI1 (c k) f (.ref e :: ([one] ++ [])) (upd H e (FxO e (c k) none)) (fun v H2 => v = .non ∧ ∃ ea dd, V.ref e = .ref ea ∧ H2 ea = some (FxO ea (c k) dd) ∧ E (.ref ea) dd (upd H2 ea (ExcO ea (c k) dd))) E0 := by
  refine ⟨e, one, rfl, upd_same, fun dx hdx => ⟨rfl, e, some dx, rfl, upd_same, ?_⟩⟩
  obtain ⟨n1, n2⟩ := new_free hdx
  refine h e (some dx) _ (raised_same he n2) upd_same ⟨by rw [hf]; simp, ?_⟩
  rw [upd_ne n1, upd_ne n1, upd_same]
  unfold fsOf
  rw [hf]
  rfl
theorem up2 {c : Nat → Addr} {k : Nat} {one other : V} {H : Hp} {E : XK} {f g : Str} (h : Up c k one other H E) (hf : fl k = [f, g]) {e : Addr} (he : H e = none) :
    spI2 (c k) f g (.ref e :: ([one, other] ++ [])) (upd H e (FxO e (c k) none)) (fun v H2 => v = .non ∧ ∃ ea dd, V.ref e = .ref ea ∧ H2 ea = some (FxO ea (c k) dd) ∧ E (.ref ea) dd (upd H2 ea (ExcO ea (c k) dd))) E0 := by
  refine ⟨e, one, other, rfl, upd_same, fun dx hdx => ?_⟩
  obtain ⟨n1, n2⟩ := new_free hdx
  refine ⟨rfl, e, some dx, rfl, by rw [upd_ne n1.symm]; exact upd_same, ?_⟩
  refine h e (some dx) _ (fun x u q => ?_) upd_same ⟨by rw [hf]; simp, ?_⟩
  · rw [upd_ne (ne_of_none q he), upd_ne (ne_of_none q n2), upd_ne (ne_of_none q he), upd_ne (ne_of_none q n2), upd_ne (ne_of_none q he)]
    exact q
  · rw [upd_ne n1, upd_same]
    unfold fsOf
    rw [hf]
    rfl
theorem up0 {c : Nat → Addr} {k : Nat} {one other : V} {H : Hp} {E : XK} (h : Up c k one other H E) (hf : fl k = []) {e : Addr} (he : H e = none) :
    ∃ ea dd, V.ref e = .ref ea ∧ upd H e (FxO e (c k) none) ea = some (FxO ea (c k) dd) ∧ E (.ref ea) dd (upd (upd H e (FxO e (c k) none)) ea (ExcO ea (c k) dd)) := by
  refine ⟨e, none, rfl, upd_same, h e none _ (fun x u q => ?_) upd_same hf⟩
  rw [upd_ne (ne_of_none q he), upd_ne (ne_of_none q he)]
  exact q
section
variable {P : Program} {w : World} {K : PySem.W.Frag} {mg : Str → Option Value} {base : Heap} {f C : Addr} {fd : FuncData}
theorem sc0 : FnScope ["self", "found"] ["self", "found"] (defScope sI0) := ⟨rfl, rfl, rfl, by decide +kernel, rfl, by decide +kernel, by decide +kernel⟩
theorem ini0 (F : Fun K "__init__" "NoWord.__init__" sI0 f fd) (cl : XCls K C) (n1 : NoAttr K C "found") : FnOk P w K mg base CX0 1 f fd ["self", "found"] (spI1 C "found") := by
  refine F.ok sc0 (fun vs H Q E h => ?_) (fun cdv A outer s H vs Q E hr h => ?_)
  · obtain ⟨e, x, rfl, _⟩ := h
    rfl
  obtain ⟨e, x, rfl, he, q⟩ := h
  refine ⟨_, pss_one (ps_xf1 (pv 0) (pv 1) rfl), ?_⟩
  exact ⟨_, rfl, _, rfl, e, C, rfl, he, cl, n1.taker, fun dx hd => q dx hd⟩
theorem sc1 : FnScope ["self", "path"] ["self", "path"] (defScope sI1) := ⟨rfl, rfl, rfl, by decide +kernel, rfl, by decide +kernel, by decide +kernel⟩
theorem ini1 (F : Fun K "__init__" "NoPath.__init__" sI1 f fd) (cl : XCls K C) (n1 : NoAttr K C "path") : FnOk P w K mg base CX0 1 f fd ["self", "path"] (spI1 C "path") := by
  refine F.ok sc1 (fun vs H Q E h => ?_) (fun cdv A outer s H vs Q E hr h => ?_)
  · obtain ⟨e, x, rfl, _⟩ := h
    rfl
  obtain ⟨e, x, rfl, he, q⟩ := h
  refine ⟨_, pss_one (ps_xf1 (pv 0) (pv 1) rfl), ?_⟩
  exact ⟨_, rfl, _, rfl, e, C, rfl, he, cl, n1.taker, fun dx hd => q dx hd⟩
theorem sc3 : FnScope ["self", "at", "long"] ["self", "at", "long"] (defScope sI3) := ⟨rfl, rfl, rfl, by decide +kernel, rfl, by decide +kernel, by decide +kernel⟩
theorem ini3 (F : Fun K "__init__" "NoSpan.__init__" sI3 f fd) (cl : XCls K C) (n1 : NoAttr K C "at") (n2 : NoAttr K C "long") : FnOk P w K mg base CX0 1 f fd ["self", "at", "long"] (spI2 C "at" "long") := by
  refine F.ok sc3 (fun vs H Q E h => ?_) (fun cdv A outer s H vs Q E hr h => ?_)
  · obtain ⟨e, x, y, rfl, _⟩ := h
    rfl
  obtain ⟨e, x, y, rfl, he, q⟩ := h
  refine ⟨_, pss_cons (ps_xf1 (pv 0) (pv 1) rfl) (pss_one (ps_xf2 (pv 0) (pv 2) rfl)), ?_⟩
  refine ⟨_, rfl, _, rfl, e, C, rfl, he, cl, n1.taker, fun dx hd => ?_⟩
  have n : dx ≠ e := fun z => by rw [z, he] at hd; cases hd
  exact ⟨_, rfl, _, rfl, e, C, dx, [(Str.ofString "at", x)], rfl, upd_same, by rw [upd_ne n]; exact upd_same, cl, n2.taker, (by show 1 ≤ 1000; decide), by have z := q dx hd; rw [← putF2 (show Str.ofString "long" ≠ Str.ofString "at" by decide +kernel)] at z; exact z⟩
theorem sc4 : FnScope ["self", "path"] ["self", "path"] (defScope sI4) := ⟨rfl, rfl, rfl, by decide +kernel, rfl, by decide +kernel, by decide +kernel⟩
theorem ini4 (F : Fun K "__init__" "NotThere.__init__" sI4 f fd) (cl : XCls K C) (n1 : NoAttr K C "path") : FnOk P w K mg base CX0 1 f fd ["self", "path"] (spI1 C "path") := by
  refine F.ok sc4 (fun vs H Q E h => ?_) (fun cdv A outer s H vs Q E hr h => ?_)
  · obtain ⟨e, x, rfl, _⟩ := h
    rfl
  obtain ⟨e, x, rfl, he, q⟩ := h
  refine ⟨_, pss_one (ps_xf1 (pv 0) (pv 1) rfl), ?_⟩
  exact ⟨_, rfl, _, rfl, e, C, rfl, he, cl, n1.taker, fun dx hd => q dx hd⟩
theorem sc5 : FnScope ["self", "path"] ["self", "path"] (defScope sI5) := ⟨rfl, rfl, rfl, by decide +kernel, rfl, by decide +kernel, by decide +kernel⟩
theorem ini5 (F : Fun K "__init__" "There.__init__" sI5 f fd) (cl : XCls K C) (n1 : NoAttr K C "path") : FnOk P w K mg base CX0 1 f fd ["self", "path"] (spI1 C "path") := by
  refine F.ok sc5 (fun vs H Q E h => ?_) (fun cdv A outer s H vs Q E hr h => ?_)
  · obtain ⟨e, x, rfl, _⟩ := h
    rfl
  obtain ⟨e, x, rfl, he, q⟩ := h
  refine ⟨_, pss_one (ps_xf1 (pv 0) (pv 1) rfl), ?_⟩
  exact ⟨_, rfl, _, rfl, e, C, rfl, he, cl, n1.taker, fun dx hd => q dx hd⟩
theorem sc6 : FnScope ["self", "path"] ["self", "path"] (defScope sI6) := ⟨rfl, rfl, rfl, by decide +kernel, rfl, by decide +kernel, by decide +kernel⟩
theorem ini6 (F : Fun K "__init__" "NotFolder.__init__" sI6 f fd) (cl : XCls K C) (n1 : NoAttr K C "path") : FnOk P w K mg base CX0 1 f fd ["self", "path"] (spI1 C "path") := by
  refine F.ok sc6 (fun vs H Q E h => ?_) (fun cdv A outer s H vs Q E hr h => ?_)
  · obtain ⟨e, x, rfl, _⟩ := h
    rfl
  obtain ⟨e, x, rfl, he, q⟩ := h
  refine ⟨_, pss_one (ps_xf1 (pv 0) (pv 1) rfl), ?_⟩
  exact ⟨_, rfl, _, rfl, e, C, rfl, he, cl, n1.taker, fun dx hd => q dx hd⟩
theorem sc7 : FnScope ["self", "path"] ["self", "path"] (defScope sI7) := ⟨rfl, rfl, rfl, by decide +kernel, rfl, by decide +kernel, by decide +kernel⟩
theorem ini7 (F : Fun K "__init__" "NotFile.__init__" sI7 f fd) (cl : XCls K C) (n1 : NoAttr K C "path") : FnOk P w K mg base CX0 1 f fd ["self", "path"] (spI1 C "path") := by
  refine F.ok sc7 (fun vs H Q E h => ?_) (fun cdv A outer s H vs Q E hr h => ?_)
  · obtain ⟨e, x, rfl, _⟩ := h
    rfl
  obtain ⟨e, x, rfl, he, q⟩ := h
  refine ⟨_, pss_one (ps_xf1 (pv 0) (pv 1) rfl), ?_⟩
  exact ⟨_, rfl, _, rfl, e, C, rfl, he, cl, n1.taker, fun dx hd => q dx hd⟩
theorem sc8 : FnScope ["self", "path"] ["self", "path"] (defScope sI8) := ⟨rfl, rfl, rfl, by decide +kernel, rfl, by decide +kernel, by decide +kernel⟩
theorem ini8 (F : Fun K "__init__" "Within.__init__" sI8 f fd) (cl : XCls K C) (n1 : NoAttr K C "path") : FnOk P w K mg base CX0 1 f fd ["self", "path"] (spI1 C "path") := by
  refine F.ok sc8 (fun vs H Q E h => ?_) (fun cdv A outer s H vs Q E hr h => ?_)
  · obtain ⟨e, x, rfl, _⟩ := h
    rfl
  obtain ⟨e, x, rfl, he, q⟩ := h
  refine ⟨_, pss_one (ps_xf1 (pv 0) (pv 1) rfl), ?_⟩
  exact ⟨_, rfl, _, rfl, e, C, rfl, he, cl, n1.taker, fun dx hd => q dx hd⟩
theorem sc9 : FnScope ["self", "path"] ["self", "path"] (defScope sI9) := ⟨rfl, rfl, rfl, by decide +kernel, rfl, by decide +kernel, by decide +kernel⟩
theorem ini9 (F : Fun K "__init__" "TooDeep.__init__" sI9 f fd) (cl : XCls K C) (n1 : NoAttr K C "path") : FnOk P w K mg base CX0 1 f fd ["self", "path"] (spI1 C "path") := by
  refine F.ok sc9 (fun vs H Q E h => ?_) (fun cdv A outer s H vs Q E hr h => ?_)
  · obtain ⟨e, x, rfl, _⟩ := h
    rfl
  obtain ⟨e, x, rfl, he, q⟩ := h
  refine ⟨_, pss_one (ps_xf1 (pv 0) (pv 1) rfl), ?_⟩
  exact ⟨_, rfl, _, rfl, e, C, rfl, he, cl, n1.taker, fun dx hd => q dx hd⟩
theorem sc10 : FnScope ["self", "path"] ["self", "path"] (defScope sI10) := ⟨rfl, rfl, rfl, by decide +kernel, rfl, by decide +kernel, by decide +kernel⟩
theorem ini10 (F : Fun K "__init__" "Crowded.__init__" sI10 f fd) (cl : XCls K C) (n1 : NoAttr K C "path") : FnOk P w K mg base CX0 1 f fd ["self", "path"] (spI1 C "path") := by
  refine F.ok sc10 (fun vs H Q E h => ?_) (fun cdv A outer s H vs Q E hr h => ?_)
  · obtain ⟨e, x, rfl, _⟩ := h
    rfl
  obtain ⟨e, x, rfl, he, q⟩ := h
  refine ⟨_, pss_one (ps_xf1 (pv 0) (pv 1) rfl), ?_⟩
  exact ⟨_, rfl, _, rfl, e, C, rfl, he, cl, n1.taker, fun dx hd => q dx hd⟩
theorem sc11 : FnScope ["self", "many"] ["self", "many"] (defScope sI11) := ⟨rfl, rfl, rfl, by decide +kernel, rfl, by decide +kernel, by decide +kernel⟩
theorem ini11 (F : Fun K "__init__" "TooMany.__init__" sI11 f fd) (cl : XCls K C) (n1 : NoAttr K C "many") : FnOk P w K mg base CX0 1 f fd ["self", "many"] (spI1 C "many") := by
  refine F.ok sc11 (fun vs H Q E h => ?_) (fun cdv A outer s H vs Q E hr h => ?_)
  · obtain ⟨e, x, rfl, _⟩ := h
    rfl
  obtain ⟨e, x, rfl, he, q⟩ := h
  refine ⟨_, pss_one (ps_xf1 (pv 0) (pv 1) rfl), ?_⟩
  exact ⟨_, rfl, _, rfl, e, C, rfl, he, cl, n1.taker, fun dx hd => q dx hd⟩
theorem sc12 : FnScope ["self", "path", "needed"] ["self", "path", "needed"] (defScope sI12) := ⟨rfl, rfl, rfl, by decide +kernel, rfl, by decide +kernel, by decide +kernel⟩
theorem ini12 (F : Fun K "__init__" "Over.__init__" sI12 f fd) (cl : XCls K C) (n1 : NoAttr K C "path") (n2 : NoAttr K C "needed") : FnOk P w K mg base CX0 1 f fd ["self", "path", "needed"] (spI2 C "path" "needed") := by
  refine F.ok sc12 (fun vs H Q E h => ?_) (fun cdv A outer s H vs Q E hr h => ?_)
  · obtain ⟨e, x, y, rfl, _⟩ := h
    rfl
  obtain ⟨e, x, y, rfl, he, q⟩ := h
  refine ⟨_, pss_cons (ps_xf1 (pv 0) (pv 1) rfl) (pss_one (ps_xf2 (pv 0) (pv 2) rfl)), ?_⟩
  refine ⟨_, rfl, _, rfl, e, C, rfl, he, cl, n1.taker, fun dx hd => ?_⟩
  have n : dx ≠ e := fun z => by rw [z, he] at hd; cases hd
  exact ⟨_, rfl, _, rfl, e, C, dx, [(Str.ofString "path", x)], rfl, upd_same, by rw [upd_ne n]; exact upd_same, cl, n2.taker, (by show 1 ≤ 1000; decide), by have z := q dx hd; rw [← putF2 (show Str.ofString "needed" ≠ Str.ofString "path" by decide +kernel)] at z; exact z⟩
theorem sc13 : FnScope ["self", "needed", "free"] ["self", "needed", "free"] (defScope sI13) := ⟨rfl, rfl, rfl, by decide +kernel, rfl, by decide +kernel, by decide +kernel⟩
theorem ini13 (F : Fun K "__init__" "NoRoom.__init__" sI13 f fd) (cl : XCls K C) (n1 : NoAttr K C "needed") (n2 : NoAttr K C "free") : FnOk P w K mg base CX0 1 f fd ["self", "needed", "free"] (spI2 C "needed" "free") := by
  refine F.ok sc13 (fun vs H Q E h => ?_) (fun cdv A outer s H vs Q E hr h => ?_)
  · obtain ⟨e, x, y, rfl, _⟩ := h
    rfl
  obtain ⟨e, x, y, rfl, he, q⟩ := h
  refine ⟨_, pss_cons (ps_xf1 (pv 0) (pv 1) rfl) (pss_one (ps_xf2 (pv 0) (pv 2) rfl)), ?_⟩
  refine ⟨_, rfl, _, rfl, e, C, rfl, he, cl, n1.taker, fun dx hd => ?_⟩
  have n : dx ≠ e := fun z => by rw [z, he] at hd; cases hd
  exact ⟨_, rfl, _, rfl, e, C, dx, [(Str.ofString "needed", x)], rfl, upd_same, by rw [upd_ne n]; exact upd_same, cl, n2.taker, (by show 1 ≤ 1000; decide), by have z := q dx hd; rw [← putF2 (show Str.ofString "free" ≠ Str.ofString "needed" by decide +kernel)] at z; exact z⟩
theorem sc14 : FnScope ["self", "name"] ["self", "name"] (defScope sI14) := ⟨rfl, rfl, rfl, by decide +kernel, rfl, by decide +kernel, by decide +kernel⟩
theorem ini14 (F : Fun K "__init__" "NoHead.__init__" sI14 f fd) (cl : XCls K C) (n1 : NoAttr K C "name") : FnOk P w K mg base CX0 1 f fd ["self", "name"] (spI1 C "name") := by
  refine F.ok sc14 (fun vs H Q E h => ?_) (fun cdv A outer s H vs Q E hr h => ?_)
  · obtain ⟨e, x, rfl, _⟩ := h
    rfl
  obtain ⟨e, x, rfl, he, q⟩ := h
  refine ⟨_, pss_one (ps_xf1 (pv 0) (pv 1) rfl), ?_⟩
  exact ⟨_, rfl, _, rfl, e, C, rfl, he, cl, n1.taker, fun dx hd => q dx hd⟩
theorem sc15 : FnScope ["self", "name"] ["self", "name"] (defScope sI15) := ⟨rfl, rfl, rfl, by decide +kernel, rfl, by decide +kernel, by decide +kernel⟩
theorem ini15 (F : Fun K "__init__" "OldHead.__init__" sI15 f fd) (cl : XCls K C) (n1 : NoAttr K C "name") : FnOk P w K mg base CX0 1 f fd ["self", "name"] (spI1 C "name") := by
  refine F.ok sc15 (fun vs H Q E h => ?_) (fun cdv A outer s H vs Q E hr h => ?_)
  · obtain ⟨e, x, rfl, _⟩ := h
    rfl
  obtain ⟨e, x, rfl, he, q⟩ := h
  refine ⟨_, pss_one (ps_xf1 (pv 0) (pv 1) rfl), ?_⟩
  exact ⟨_, rfl, _, rfl, e, C, rfl, he, cl, n1.taker, fun dx hd => q dx hd⟩
theorem sc16 : FnScope ["self", "name"] ["self", "name"] (defScope sI16) := ⟨rfl, rfl, rfl, by decide +kernel, rfl, by decide +kernel, by decide +kernel⟩
theorem ini16 (F : Fun K "__init__" "NotGrowth.__init__" sI16 f fd) (cl : XCls K C) (n1 : NoAttr K C "name") : FnOk P w K mg base CX0 1 f fd ["self", "name"] (spI1 C "name") := by
  refine F.ok sc16 (fun vs H Q E h => ?_) (fun cdv A outer s H vs Q E hr h => ?_)
  · obtain ⟨e, x, rfl, _⟩ := h
    rfl
  obtain ⟨e, x, rfl, he, q⟩ := h
  refine ⟨_, pss_one (ps_xf1 (pv 0) (pv 1) rfl), ?_⟩
  exact ⟨_, rfl, _, rfl, e, C, rfl, he, cl, n1.taker, fun dx hd => q dx hd⟩
theorem sc17 : FnScope ["self", "name"] ["self", "name"] (defScope sI17) := ⟨rfl, rfl, rfl, by decide +kernel, rfl, by decide +kernel, by decide +kernel⟩
theorem ini17 (F : Fun K "__init__" "NotMake.__init__" sI17 f fd) (cl : XCls K C) (n1 : NoAttr K C "name") : FnOk P w K mg base CX0 1 f fd ["self", "name"] (spI1 C "name") := by
  refine F.ok sc17 (fun vs H Q E h => ?_) (fun cdv A outer s H vs Q E hr h => ?_)
  · obtain ⟨e, x, rfl, _⟩ := h
    rfl
  obtain ⟨e, x, rfl, he, q⟩ := h
  refine ⟨_, pss_one (ps_xf1 (pv 0) (pv 1) rfl), ?_⟩
  exact ⟨_, rfl, _, rfl, e, C, rfl, he, cl, n1.taker, fun dx hd => q dx hd⟩
theorem sc18 : FnScope ["self", "name", "by"] ["self", "name", "by"] (defScope sI18) := ⟨rfl, rfl, rfl, by decide +kernel, rfl, by decide +kernel, by decide +kernel⟩
theorem ini18 (F : Fun K "__init__" "Needed.__init__" sI18 f fd) (cl : XCls K C) (n1 : NoAttr K C "name") (n2 : NoAttr K C "by") : FnOk P w K mg base CX0 1 f fd ["self", "name", "by"] (spI2 C "name" "by") := by
  refine F.ok sc18 (fun vs H Q E h => ?_) (fun cdv A outer s H vs Q E hr h => ?_)
  · obtain ⟨e, x, y, rfl, _⟩ := h
    rfl
  obtain ⟨e, x, y, rfl, he, q⟩ := h
  refine ⟨_, pss_cons (ps_xf1 (pv 0) (pv 1) rfl) (pss_one (ps_xf2 (pv 0) (pv 2) rfl)), ?_⟩
  refine ⟨_, rfl, _, rfl, e, C, rfl, he, cl, n1.taker, fun dx hd => ?_⟩
  have n : dx ≠ e := fun z => by rw [z, he] at hd; cases hd
  exact ⟨_, rfl, _, rfl, e, C, dx, [(Str.ofString "name", x)], rfl, upd_same, by rw [upd_ne n]; exact upd_same, cl, n2.taker, (by show 1 ≤ 1000; decide), by have z := q dx hd; rw [← putF2 (show Str.ofString "by" ≠ Str.ofString "name" by decide +kernel)] at z; exact z⟩
theorem sc19 : FnScope ["self", "name"] ["self", "name"] (defScope sI19) := ⟨rfl, rfl, rfl, by decide +kernel, rfl, by decide +kernel, by decide +kernel⟩
theorem ini19 (F : Fun K "__init__" "Rootless.__init__" sI19 f fd) (cl : XCls K C) (n1 : NoAttr K C "name") : FnOk P w K mg base CX0 1 f fd ["self", "name"] (spI1 C "name") := by
  refine F.ok sc19 (fun vs H Q E h => ?_) (fun cdv A outer s H vs Q E hr h => ?_)
  · obtain ⟨e, x, rfl, _⟩ := h
    rfl
  obtain ⟨e, x, rfl, he, q⟩ := h
  refine ⟨_, pss_one (ps_xf1 (pv 0) (pv 1) rfl), ?_⟩
  exact ⟨_, rfl, _, rfl, e, C, rfl, he, cl, n1.taker, fun dx hd => q dx hd⟩
theorem sc20 : FnScope ["self", "many"] ["self", "many"] (defScope sI20) := ⟨rfl, rfl, rfl, by decide +kernel, rfl, by decide +kernel, by decide +kernel⟩
theorem ini20 (F : Fun K "__init__" "NoFloor.__init__" sI20 f fd) (cl : XCls K C) (n1 : NoAttr K C "many") : FnOk P w K mg base CX0 1 f fd ["self", "many"] (spI1 C "many") := by
  refine F.ok sc20 (fun vs H Q E h => ?_) (fun cdv A outer s H vs Q E hr h => ?_)
  · obtain ⟨e, x, rfl, _⟩ := h
    rfl
  obtain ⟨e, x, rfl, he, q⟩ := h
  refine ⟨_, pss_one (ps_xf1 (pv 0) (pv 1) rfl), ?_⟩
  exact ⟨_, rfl, _, rfl, e, C, rfl, he, cl, n1.taker, fun dx hd => q dx hd⟩
theorem sc21 : FnScope ["self", "place"] ["self", "place"] (defScope sI21) := ⟨rfl, rfl, rfl, by decide +kernel, rfl, by decide +kernel, by decide +kernel⟩
theorem ini21 (F : Fun K "__init__" "NoPlace.__init__" sI21 f fd) (cl : XCls K C) (n1 : NoAttr K C "place") : FnOk P w K mg base CX0 1 f fd ["self", "place"] (spI1 C "place") := by
  refine F.ok sc21 (fun vs H Q E h => ?_) (fun cdv A outer s H vs Q E hr h => ?_)
  · obtain ⟨e, x, rfl, _⟩ := h
    rfl
  obtain ⟨e, x, rfl, he, q⟩ := h
  refine ⟨_, pss_one (ps_xf1 (pv 0) (pv 1) rfl), ?_⟩
  exact ⟨_, rfl, _, rfl, e, C, rfl, he, cl, n1.taker, fun dx hd => q dx hd⟩
theorem sc22 : FnScope ["self", "place"] ["self", "place"] (defScope sI22) := ⟨rfl, rfl, rfl, by decide +kernel, rfl, by decide +kernel, by decide +kernel⟩
theorem ini22 (F : Fun K "__init__" "NoPiece.__init__" sI22 f fd) (cl : XCls K C) (n1 : NoAttr K C "place") : FnOk P w K mg base CX0 1 f fd ["self", "place"] (spI1 C "place") := by
  refine F.ok sc22 (fun vs H Q E h => ?_) (fun cdv A outer s H vs Q E hr h => ?_)
  · obtain ⟨e, x, rfl, _⟩ := h
    rfl
  obtain ⟨e, x, rfl, he, q⟩ := h
  refine ⟨_, pss_one (ps_xf1 (pv 0) (pv 1) rfl), ?_⟩
  exact ⟨_, rfl, _, rfl, e, C, rfl, he, cl, n1.taker, fun dx hd => q dx hd⟩
theorem sc23 : FnScope ["self", "place"] ["self", "place"] (defScope sI23) := ⟨rfl, rfl, rfl, by decide +kernel, rfl, by decide +kernel, by decide +kernel⟩
theorem ini23 (F : Fun K "__init__" "Spoilt.__init__" sI23 f fd) (cl : XCls K C) (n1 : NoAttr K C "place") : FnOk P w K mg base CX0 1 f fd ["self", "place"] (spI1 C "place") := by
  refine F.ok sc23 (fun vs H Q E h => ?_) (fun cdv A outer s H vs Q E hr h => ?_)
  · obtain ⟨e, x, rfl, _⟩ := h
    rfl
  obtain ⟨e, x, rfl, he, q⟩ := h
  refine ⟨_, pss_one (ps_xf1 (pv 0) (pv 1) rfl), ?_⟩
  exact ⟨_, rfl, _, rfl, e, C, rfl, he, cl, n1.taker, fun dx hd => q dx hd⟩
theorem sc27 : FnScope ["self", "at"] ["self", "at"] (defScope sI27) := ⟨rfl, rfl, rfl, by decide +kernel, rfl, by decide +kernel, by decide +kernel⟩
theorem ini27 (F : Fun K "__init__" "BadRow.__init__" sI27 f fd) (cl : XCls K C) (n1 : NoAttr K C "at") : FnOk P w K mg base CX0 1 f fd ["self", "at"] (spI1 C "at") := by
  refine F.ok sc27 (fun vs H Q E h => ?_) (fun cdv A outer s H vs Q E hr h => ?_)
  · obtain ⟨e, x, rfl, _⟩ := h
    rfl
  obtain ⟨e, x, rfl, he, q⟩ := h
  refine ⟨_, pss_one (ps_xf1 (pv 0) (pv 1) rfl), ?_⟩
  exact ⟨_, rfl, _, rfl, e, C, rfl, he, cl, n1.taker, fun dx hd => q dx hd⟩
theorem sc28 : FnScope ["self", "word", "stamp"] ["self", "word", "stamp"] (defScope sI28) := ⟨rfl, rfl, rfl, by decide +kernel, rfl, by decide +kernel, by decide +kernel⟩
theorem ini28 (F : Fun K "__init__" "NoBase.__init__" sI28 f fd) (cl : XCls K C) (n1 : NoAttr K C "word") (n2 : NoAttr K C "stamp") : FnOk P w K mg base CX0 1 f fd ["self", "word", "stamp"] (spI2 C "word" "stamp") := by
  refine F.ok sc28 (fun vs H Q E h => ?_) (fun cdv A outer s H vs Q E hr h => ?_)
  · obtain ⟨e, x, y, rfl, _⟩ := h
    rfl
  obtain ⟨e, x, y, rfl, he, q⟩ := h
  refine ⟨_, pss_cons (ps_xf1 (pv 0) (pv 1) rfl) (pss_one (ps_xf2 (pv 0) (pv 2) rfl)), ?_⟩
  refine ⟨_, rfl, _, rfl, e, C, rfl, he, cl, n1.taker, fun dx hd => ?_⟩
  have n : dx ≠ e := fun z => by rw [z, he] at hd; cases hd
  exact ⟨_, rfl, _, rfl, e, C, dx, [(Str.ofString "word", x)], rfl, upd_same, by rw [upd_ne n]; exact upd_same, cl, n2.taker, (by show 1 ≤ 1000; decide), by have z := q dx hd; rw [← putF2 (show Str.ofString "stamp" ≠ Str.ofString "word" by decide +kernel)] at z; exact z⟩
theorem sc29 : FnScope ["self", "line"] ["self", "line"] (defScope sI29) := ⟨rfl, rfl, rfl, by decide +kernel, rfl, by decide +kernel, by decide +kernel⟩
theorem ini29 (F : Fun K "__init__" "NoLine.__init__" sI29 f fd) (cl : XCls K C) (n1 : NoAttr K C "line") : FnOk P w K mg base CX0 1 f fd ["self", "line"] (spI1 C "line") := by
  refine F.ok sc29 (fun vs H Q E h => ?_) (fun cdv A outer s H vs Q E hr h => ?_)
  · obtain ⟨e, x, rfl, _⟩ := h
    rfl
  obtain ⟨e, x, rfl, he, q⟩ := h
  refine ⟨_, pss_one (ps_xf1 (pv 0) (pv 1) rfl), ?_⟩
  exact ⟨_, rfl, _, rfl, e, C, rfl, he, cl, n1.taker, fun dx hd => q dx hd⟩
end
end K5
set_option maxHeartbeats 8000000
namespace K5
open PySem L2
theorem iteY {b : Bool} {A B : Prop} (h : b = true) (x : A) : if b = true then A else B := by rw [if_pos h]; exact x
theorem iteN {b : Bool} {A B : Prop} (h : b = false) (x : B) : if b = true then A else B := by rw [if_neg (by rw [h]; decide)]; exact x
theorem Dk.mono {H H' : Hp} {dd : Option Addr} (s : Same H H') (h : Dk H dd) : Dk H' dd := by
  cases dd with
  | none => trivial
  | some dx => obtain ⟨fs, e⟩ := h; exact ⟨fs, s _ _ e⟩
structure Txt (mg : Str → Option Value) : Prop where
  isi : mg "isinstance" = none
  rng : mg "range" = none
  str : mg "str" = none
  vae : mg "ValueError" = none
structure Inis (K : PySem.W.Frag) (mg : Str → Option Value) (c : Nat → Addr) (W : Addr) (f : Nat → Addr) (d : Nat → FuncData) : Prop where
  i0 : XHas K mg "NoWord" sI0 (c 0) (wl W) (f 0) (d 0) ["self", "found"]
  i1 : XHas K mg "NoPath" sI1 (c 1) (wl W) (f 1) (d 1) ["self", "path"]
  z2 : XMk0 K (c 2) (wl W)
  i3 : XHas K mg "NoSpan" sI3 (c 3) (wl W) (f 3) (d 3) ["self", "at", "long"]
  i4 : XHas K mg "NotThere" sI4 (c 4) (wl W) (f 4) (d 4) ["self", "path"]
  i5 : XHas K mg "There" sI5 (c 5) (wl W) (f 5) (d 5) ["self", "path"]
  i6 : XHas K mg "NotFolder" sI6 (c 6) (wl W) (f 6) (d 6) ["self", "path"]
  i7 : XHas K mg "NotFile" sI7 (c 7) (wl W) (f 7) (d 7) ["self", "path"]
  i8 : XHas K mg "Within" sI8 (c 8) (wl W) (f 8) (d 8) ["self", "path"]
  i9 : XHas K mg "TooDeep" sI9 (c 9) (wl W) (f 9) (d 9) ["self", "path"]
  i10 : XHas K mg "Crowded" sI10 (c 10) (wl W) (f 10) (d 10) ["self", "path"]
  i11 : XHas K mg "TooMany" sI11 (c 11) (wl W) (f 11) (d 11) ["self", "many"]
  i12 : XHas K mg "Over" sI12 (c 12) (wl W) (f 12) (d 12) ["self", "path", "needed"]
  i13 : XHas K mg "NoRoom" sI13 (c 13) (wl W) (f 13) (d 13) ["self", "needed", "free"]
  i14 : XHas K mg "NoHead" sI14 (c 14) (wl W) (f 14) (d 14) ["self", "name"]
  i15 : XHas K mg "OldHead" sI15 (c 15) (wl W) (f 15) (d 15) ["self", "name"]
  i16 : XHas K mg "NotGrowth" sI16 (c 16) (wl W) (f 16) (d 16) ["self", "name"]
  i17 : XHas K mg "NotMake" sI17 (c 17) (wl W) (f 17) (d 17) ["self", "name"]
  i18 : XHas K mg "Needed" sI18 (c 18) (wl W) (f 18) (d 18) ["self", "name", "by"]
  i19 : XHas K mg "Rootless" sI19 (c 19) (wl W) (f 19) (d 19) ["self", "name"]
  i20 : XHas K mg "NoFloor" sI20 (c 20) (wl W) (f 20) (d 20) ["self", "many"]
  i21 : XHas K mg "NoPlace" sI21 (c 21) (wl W) (f 21) (d 21) ["self", "place"]
  i22 : XHas K mg "NoPiece" sI22 (c 22) (wl W) (f 22) (d 22) ["self", "place"]
  i23 : XHas K mg "Spoilt" sI23 (c 23) (wl W) (f 23) (d 23) ["self", "place"]
  z24 : XMk0 K (c 24) (wl W)
  z25 : XMk0 K (c 25) (wl W)
  z26 : XMk0 K (c 26) (wl W)
  i27 : XHas K mg "BadRow" sI27 (c 27) (wl W) (f 27) (d 27) ["self", "at"]
  i28 : XHas K mg "NoBase" sI28 (c 28) (wl W) (f 28) (d 28) ["self", "word", "stamp"]
  i29 : XHas K mg "NoLine" sI29 (c 29) (wl W) (f 29) (d 29) ["self", "line"]
structure InG (P : Program) (w : World) (K : PySem.W.Frag) (mg : Str → Option Value) (base : Heap) (c : Nat → Addr) (f : Nat → Addr) (d : Nat → FuncData) : Prop where
  g0 : FnOk P w K mg base CX0 1 (f 0) (d 0) ["self", "found"] (spI1 (c 0) "found")
  g1 : FnOk P w K mg base CX0 1 (f 1) (d 1) ["self", "path"] (spI1 (c 1) "path")
  g3 : FnOk P w K mg base CX0 1 (f 3) (d 3) ["self", "at", "long"] (spI2 (c 3) "at" "long")
  g4 : FnOk P w K mg base CX0 1 (f 4) (d 4) ["self", "path"] (spI1 (c 4) "path")
  g5 : FnOk P w K mg base CX0 1 (f 5) (d 5) ["self", "path"] (spI1 (c 5) "path")
  g6 : FnOk P w K mg base CX0 1 (f 6) (d 6) ["self", "path"] (spI1 (c 6) "path")
  g7 : FnOk P w K mg base CX0 1 (f 7) (d 7) ["self", "path"] (spI1 (c 7) "path")
  g8 : FnOk P w K mg base CX0 1 (f 8) (d 8) ["self", "path"] (spI1 (c 8) "path")
  g9 : FnOk P w K mg base CX0 1 (f 9) (d 9) ["self", "path"] (spI1 (c 9) "path")
  g10 : FnOk P w K mg base CX0 1 (f 10) (d 10) ["self", "path"] (spI1 (c 10) "path")
  g11 : FnOk P w K mg base CX0 1 (f 11) (d 11) ["self", "many"] (spI1 (c 11) "many")
  g12 : FnOk P w K mg base CX0 1 (f 12) (d 12) ["self", "path", "needed"] (spI2 (c 12) "path" "needed")
  g13 : FnOk P w K mg base CX0 1 (f 13) (d 13) ["self", "needed", "free"] (spI2 (c 13) "needed" "free")
  g14 : FnOk P w K mg base CX0 1 (f 14) (d 14) ["self", "name"] (spI1 (c 14) "name")
  g15 : FnOk P w K mg base CX0 1 (f 15) (d 15) ["self", "name"] (spI1 (c 15) "name")
  g16 : FnOk P w K mg base CX0 1 (f 16) (d 16) ["self", "name"] (spI1 (c 16) "name")
  g17 : FnOk P w K mg base CX0 1 (f 17) (d 17) ["self", "name"] (spI1 (c 17) "name")
  g18 : FnOk P w K mg base CX0 1 (f 18) (d 18) ["self", "name", "by"] (spI2 (c 18) "name" "by")
  g19 : FnOk P w K mg base CX0 1 (f 19) (d 19) ["self", "name"] (spI1 (c 19) "name")
  g20 : FnOk P w K mg base CX0 1 (f 20) (d 20) ["self", "many"] (spI1 (c 20) "many")
  g21 : FnOk P w K mg base CX0 1 (f 21) (d 21) ["self", "place"] (spI1 (c 21) "place")
  g22 : FnOk P w K mg base CX0 1 (f 22) (d 22) ["self", "place"] (spI1 (c 22) "place")
  g23 : FnOk P w K mg base CX0 1 (f 23) (d 23) ["self", "place"] (spI1 (c 23) "place")
  g27 : FnOk P w K mg base CX0 1 (f 27) (d 27) ["self", "at"] (spI1 (c 27) "at")
  g28 : FnOk P w K mg base CX0 1 (f 28) (d 28) ["self", "word", "stamp"] (spI2 (c 28) "word" "stamp")
  g29 : FnOk P w K mg base CX0 1 (f 29) (d 29) ["self", "line"] (spI1 (c 29) "line")
end K5
set_option maxHeartbeats 8000000
namespace K5
open PySem L2
section
variable {P : Program} {w : World} {K : PySem.W.Frag} {mg : Str → Option Value} {base : Heap} {c fi : Nat → Addr} {W : Addr} {di : Nat → FuncData} {f : Addr} {fd : FuncData}
def spRs (c : Nat → Addr) (lo hi : Nat) : Sp := fun vs H _ E => ∃ (k : Nat) (one other : V), vs = [.int (k : Nat), one, other] ∧ lo ≤ k ∧ k < hi ∧ Up c k one other H E
theorem scRa : FnScope ["_law_k", "_law_one", "_law_other"] ["_law_k", "_law_one", "_law_other"] (defScope sRa) := ⟨rfl, rfl, rfl, by decide +kernel, rfl, by decide +kernel, by decide +kernel⟩
theorem ok_Ra (F : Fun K "_law_raise_a" "_law_raise_a" sRa f fd) (S : Cs K mg c W) (I : Inis K mg c W fi di) (J : InG P w K mg base c fi di) : FnOk P w K mg base (CXw P w) 3 f fd ["_law_k", "_law_one", "_law_other"] (spRs c 0 8) := by
  refine F.okX scRa (fun vs H Q E h => ?_) (fun cdv A outer s H vs Q E hr h => ?_)
  · obtain ⟨k, one, other, rfl, _⟩ := h
    rfl
  obtain ⟨k, one, other, rfl, h1, h2, u⟩ := h
  have hlv : Leaves (cxOf (CXw P w) P w K mg base ["_law_k", "_law_one", "_law_other"] "_law_raise_a" (defScope sRa) f cdv A outer s H E) E := leaves_fn
  refine ⟨_, (pss_cons (ps_if (pt_cmpR op_eq (pv 0) pe_int (nomark _))
    (pss_one (ps_raise (S.ob 0 (by decide)) (wl_be W) hr.hd hlv (pe_exc I.i0.xm J.g0 (hr.mono (by decide)) rfl (S.nm 0 (by decide)) I.i0.bd .nil pass0 (pa_cons (pv 1) pa_nil))))
    pss_nil)
    (pss_cons (ps_if (pt_cmpR op_eq (pv 0) pe_int (nomark _))
    (pss_one (ps_raise (S.ob 1 (by decide)) (wl_be W) hr.hd hlv (pe_exc I.i1.xm J.g1 (hr.mono (by decide)) rfl (S.nm 1 (by decide)) I.i1.bd .nil pass0 (pa_cons (pv 1) pa_nil))))
    pss_nil)
    (pss_cons (ps_if (pt_cmpR op_eq (pv 0) pe_int (nomark _))
    (pss_one (ps_raise (S.ob 2 (by decide)) (wl_be W) hr.hd hlv (pe_exc0 I.z2 rfl (S.nm 2 (by decide)))))
    pss_nil)
    (pss_cons (ps_if (pt_cmpR op_eq (pv 0) pe_int (nomark _))
    (pss_one (ps_raise (S.ob 3 (by decide)) (wl_be W) hr.hd hlv (pe_exc I.i3.xm J.g3 (hr.mono (by decide)) rfl (S.nm 3 (by decide)) I.i3.bd .nil pass0 (pa_cons (pv 1) (pa_cons (pv 2) pa_nil)))))
    pss_nil)
    (pss_cons (ps_if (pt_cmpR op_eq (pv 0) pe_int (nomark _))
    (pss_one (ps_raise (S.ob 4 (by decide)) (wl_be W) hr.hd hlv (pe_exc I.i4.xm J.g4 (hr.mono (by decide)) rfl (S.nm 4 (by decide)) I.i4.bd .nil pass0 (pa_cons (pv 1) pa_nil))))
    pss_nil)
    (pss_cons (ps_if (pt_cmpR op_eq (pv 0) pe_int (nomark _))
    (pss_one (ps_raise (S.ob 5 (by decide)) (wl_be W) hr.hd hlv (pe_exc I.i5.xm J.g5 (hr.mono (by decide)) rfl (S.nm 5 (by decide)) I.i5.bd .nil pass0 (pa_cons (pv 1) pa_nil))))
    pss_nil)
    (pss_cons (ps_if (pt_cmpR op_eq (pv 0) pe_int (nomark _))
    (pss_one (ps_raise (S.ob 6 (by decide)) (wl_be W) hr.hd hlv (pe_exc I.i6.xm J.g6 (hr.mono (by decide)) rfl (S.nm 6 (by decide)) I.i6.bd .nil pass0 (pa_cons (pv 1) pa_nil))))
    pss_nil)
    (pss_one (ps_raise (S.ob 7 (by decide)) (wl_be W) hr.hd hlv (pe_exc I.i7.xm J.g7 (hr.mono (by decide)) rfl (S.nm 7 (by decide)) I.i7.bd .nil pass0 (pa_cons (pv 1) pa_nil))))))))))), ?_⟩
  obtain rfl | rfl | rfl | rfl | rfl | rfl | rfl | rfl : k = 0 ∨ k = 1 ∨ k = 2 ∨ k = 3 ∨ k = 4 ∨ k = 5 ∨ k = 6 ∨ k = 7 := by omega
  · exact ⟨_, rfl, rfl, _, rfl, iteY (by decide) (⟨_, rfl, fun e he => up1 u rfl he⟩)⟩
  · refine ⟨_, rfl, rfl, _, rfl, iteN (by decide) ?_⟩
    exact ⟨_, rfl, rfl, _, rfl, iteY (by decide) (⟨_, rfl, fun e he => up1 u rfl he⟩)⟩
  · refine ⟨_, rfl, rfl, _, rfl, iteN (by decide) ?_⟩
    refine ⟨_, rfl, rfl, _, rfl, iteN (by decide) ?_⟩
    exact ⟨_, rfl, rfl, _, rfl, iteY (by decide) (fun e he => up0 u rfl he)⟩
  · refine ⟨_, rfl, rfl, _, rfl, iteN (by decide) ?_⟩
    refine ⟨_, rfl, rfl, _, rfl, iteN (by decide) ?_⟩
    refine ⟨_, rfl, rfl, _, rfl, iteN (by decide) ?_⟩
    exact ⟨_, rfl, rfl, _, rfl, iteY (by decide) (⟨_, rfl, _, rfl, fun e he => up2 u rfl he⟩)⟩
  · refine ⟨_, rfl, rfl, _, rfl, iteN (by decide) ?_⟩
    refine ⟨_, rfl, rfl, _, rfl, iteN (by decide) ?_⟩
    refine ⟨_, rfl, rfl, _, rfl, iteN (by decide) ?_⟩
    refine ⟨_, rfl, rfl, _, rfl, iteN (by decide) ?_⟩
    exact ⟨_, rfl, rfl, _, rfl, iteY (by decide) (⟨_, rfl, fun e he => up1 u rfl he⟩)⟩
  · refine ⟨_, rfl, rfl, _, rfl, iteN (by decide) ?_⟩
    refine ⟨_, rfl, rfl, _, rfl, iteN (by decide) ?_⟩
    refine ⟨_, rfl, rfl, _, rfl, iteN (by decide) ?_⟩
    refine ⟨_, rfl, rfl, _, rfl, iteN (by decide) ?_⟩
    refine ⟨_, rfl, rfl, _, rfl, iteN (by decide) ?_⟩
    exact ⟨_, rfl, rfl, _, rfl, iteY (by decide) (⟨_, rfl, fun e he => up1 u rfl he⟩)⟩
  · refine ⟨_, rfl, rfl, _, rfl, iteN (by decide) ?_⟩
    refine ⟨_, rfl, rfl, _, rfl, iteN (by decide) ?_⟩
    refine ⟨_, rfl, rfl, _, rfl, iteN (by decide) ?_⟩
    refine ⟨_, rfl, rfl, _, rfl, iteN (by decide) ?_⟩
    refine ⟨_, rfl, rfl, _, rfl, iteN (by decide) ?_⟩
    refine ⟨_, rfl, rfl, _, rfl, iteN (by decide) ?_⟩
    exact ⟨_, rfl, rfl, _, rfl, iteY (by decide) (⟨_, rfl, fun e he => up1 u rfl he⟩)⟩
  · refine ⟨_, rfl, rfl, _, rfl, iteN (by decide) ?_⟩
    refine ⟨_, rfl, rfl, _, rfl, iteN (by decide) ?_⟩
    refine ⟨_, rfl, rfl, _, rfl, iteN (by decide) ?_⟩
    refine ⟨_, rfl, rfl, _, rfl, iteN (by decide) ?_⟩
    refine ⟨_, rfl, rfl, _, rfl, iteN (by decide) ?_⟩
    refine ⟨_, rfl, rfl, _, rfl, iteN (by decide) ?_⟩
    refine ⟨_, rfl, rfl, _, rfl, iteN (by decide) ?_⟩
    exact ⟨_, rfl, fun e he => up1 u rfl he⟩
end
end K5
set_option maxHeartbeats 8000000
namespace K5
open PySem L2
section
variable {P : Program} {w : World} {K : PySem.W.Frag} {mg : Str → Option Value} {base : Heap} {c fi : Nat → Addr} {W : Addr} {di : Nat → FuncData} {f : Addr} {fd : FuncData}
theorem scRai : FnScope ["_law_k", "_law_one", "_law_other"] ["_law_k", "_law_one", "_law_other"] (defScope sRai) := ⟨rfl, rfl, rfl, by decide +kernel, rfl, by decide +kernel, by decide +kernel⟩
theorem ok_Rai (F : Fun K "_law_raised" "_law_raised" sRai f fd) {fA fB fC fD : Addr} {dA dB dC dD : FuncData}
    (hRa : Has K mg "_law_raise_a" sRa ["_law_k", "_law_one", "_law_other"] fA dA) (GRa : FnOk P w K mg base (CXw P w) 3 fA dA ["_law_k", "_law_one", "_law_other"] (spRs c 0 8)) (hRb : Has K mg "_law_raise_b" sRb ["_law_k", "_law_one", "_law_other"] fB dB) (GRb : FnOk P w K mg base (CXw P w) 3 fB dB ["_law_k", "_law_one", "_law_other"] (spRs c 8 16))
    (hRc : Has K mg "_law_raise_c" sRc ["_law_k", "_law_one", "_law_other"] fC dC) (GRc : FnOk P w K mg base (CXw P w) 3 fC dC ["_law_k", "_law_one", "_law_other"] (spRs c 16 24)) (hRd : Has K mg "_law_raise_d" sRd ["_law_k", "_law_one", "_law_other"] fD dD) (GRd : FnOk P w K mg base (CXw P w) 3 fD dD ["_law_k", "_law_one", "_law_other"] (spRs c 24 30)) :
    FnOk P w K mg base (CXw P w) 4 f fd ["_law_k", "_law_one", "_law_other"] (spRs c 0 30) := by
  refine F.okX scRai (fun vs H Q E h => ?_) (fun cdv A outer s H vs Q E hr h => ?_)
  · obtain ⟨k, one, other, rfl, _⟩ := h
    rfl
  obtain ⟨k, one, other, rfl, h1, h2, u⟩ := h
  have hlv : Leaves (cxOf (CXw P w) P w K mg base ["_law_k", "_law_one", "_law_other"] "_law_raised" (defScope sRai) f cdv A outer s H E) E := leaves_fn
  refine ⟨_, (pss_cons (ps_if (pt_cmpR op_lt (pv 0) pe_int (nomark _))
    (pss_one (ps_expr (pe_call GRa (hr.mono (by decide)) rfl hRa.nm hRa.fn.kp hRa.bd .nil (passes_of hlv) (pa_cons (pv 0) (pa_cons (pv 1) (pa_cons (pv 2) pa_nil))))))
    pss_nil)
    (pss_cons (ps_if (pt_cmpR op_lt (pv 0) pe_int (nomark _))
    (pss_one (ps_expr (pe_call GRb (hr.mono (by decide)) rfl hRb.nm hRb.fn.kp hRb.bd .nil (passes_of hlv) (pa_cons (pv 0) (pa_cons (pv 1) (pa_cons (pv 2) pa_nil))))))
    pss_nil)
    (pss_cons (ps_if (pt_cmpR op_lt (pv 0) pe_int (nomark _))
    (pss_one (ps_expr (pe_call GRc (hr.mono (by decide)) rfl hRc.nm hRc.fn.kp hRc.bd .nil (passes_of hlv) (pa_cons (pv 0) (pa_cons (pv 1) (pa_cons (pv 2) pa_nil))))))
    pss_nil)
    (pss_one (ps_expr (pe_call GRd (hr.mono (by decide)) rfl hRd.nm hRd.fn.kp hRd.bd .nil (passes_of hlv) (pa_cons (pv 0) (pa_cons (pv 1) (pa_cons (pv 2) pa_nil))))))))), ?_⟩
  refine ⟨_, rfl, _, _, rfl, rfl, _, rfl, ite2 (fun b => ?_) (fun b => ?_)⟩
  · have b1 : (k : Int) < 8 := of_decide_eq_true b
    exact ⟨_, rfl, _, rfl, _, rfl, k, one, other, rfl, by omega, by omega, u⟩
  have b1 : ¬ (k : Int) < 8 := fun e => b (decide_eq_true e)
  refine ⟨_, rfl, _, _, rfl, rfl, _, rfl, ite2 (fun b => ?_) (fun b => ?_)⟩
  · have b2 : (k : Int) < 16 := of_decide_eq_true b
    exact ⟨_, rfl, _, rfl, _, rfl, k, one, other, rfl, by omega, by omega, u⟩
  have b2 : ¬ (k : Int) < 16 := fun e => b (decide_eq_true e)
  refine ⟨_, rfl, _, _, rfl, rfl, _, rfl, ite2 (fun b => ?_) (fun b => ?_)⟩
  · have b3 : (k : Int) < 24 := of_decide_eq_true b
    exact ⟨_, rfl, _, rfl, _, rfl, k, one, other, rfl, by omega, by omega, u⟩
  have b3 : ¬ (k : Int) < 24 := fun e => b (decide_eq_true e)
  exact ⟨_, rfl, _, rfl, _, rfl, k, one, other, rfl, by omega, by omega, u⟩
end
end K5
set_option maxHeartbeats 8000000
namespace K5
open PySem L2
section
variable {P : Program} {w : World} {K : PySem.W.Frag} {mg : Str → Option Value} {base : Heap} {c fi : Nat → Addr} {W : Addr} {di : Nat → FuncData} {f : Addr} {fd : FuncData}
/-! ### an exception's kinds -/
def spKs (c : Nat → Addr) (lo : Nat) : Sp := fun vs H Q _ => ∃ (e : Addr) (k : Nat) (dd : Option Addr), vs = [.ref e] ∧ k < 30 ∧ H e = some (ExcO e (c k) dd) ∧ Dk H dd ∧
  ∀ p H', Same H H' → H' p = some (.lst ((List.range' lo 15).map fun j => V.bl (decide (j = k)))) → Q (.ref p) H'
theorem scKa : FnScope ["_law_e", "_law_found"] ["_law_e"] (defScope sKa) := ⟨rfl, rfl, rfl, by decide +kernel, rfl, by decide +kernel, by decide +kernel⟩
theorem ok_Ka (F : Fun K "_law_kinds_a" "_law_kinds_a" sKa f fd) (S : Cs K mg c W) (T : Txt mg) : FnOk P w K mg base CX0 1 f fd ["_law_e"] (spKs c 0) false := by
  refine F.ok scKa (fun vs H Q E h => ?_) (fun cdv A outer s H vs Q E hr h => ?_)
  · obtain ⟨e, k, dd, rfl, _⟩ := h
    rfl
  obtain ⟨e, k, dd, rfl, hk, ee, dk, q⟩ := h
  refine ⟨_, (pss_cons (ps_set (i := 1) scKa.nd rfl (Or.inl rfl) (pe_lst (pa_cons (pe_callB call_isinstX rfl T.isi PyProof.Rows.boot_isinstance (pa_cons (pv 0) (pa_cons (pe_glob (v := .ref (c 0)) rfl (S.nm 0 (by decide)) rfl) pa_nil))) (pa_cons (pe_callB call_isinstX rfl T.isi PyProof.Rows.boot_isinstance (pa_cons (pv 0) (pa_cons (pe_glob (v := .ref (c 1)) rfl (S.nm 1 (by decide)) rfl) pa_nil))) (pa_cons (pe_callB call_isinstX rfl T.isi PyProof.Rows.boot_isinstance (pa_cons (pv 0) (pa_cons (pe_glob (v := .ref (c 2)) rfl (S.nm 2 (by decide)) rfl) pa_nil))) (pa_cons (pe_callB call_isinstX rfl T.isi PyProof.Rows.boot_isinstance (pa_cons (pv 0) (pa_cons (pe_glob (v := .ref (c 3)) rfl (S.nm 3 (by decide)) rfl) pa_nil))) pa_nil))))))
    (pss_cons (ps_set (i := 1) scKa.nd rfl (Or.inl rfl) (pe_op op_cat (pv 1) (pe_lst (pa_cons (pe_callB call_isinstX rfl T.isi PyProof.Rows.boot_isinstance (pa_cons (pv 0) (pa_cons (pe_glob (v := .ref (c 4)) rfl (S.nm 4 (by decide)) rfl) pa_nil))) (pa_cons (pe_callB call_isinstX rfl T.isi PyProof.Rows.boot_isinstance (pa_cons (pv 0) (pa_cons (pe_glob (v := .ref (c 5)) rfl (S.nm 5 (by decide)) rfl) pa_nil))) (pa_cons (pe_callB call_isinstX rfl T.isi PyProof.Rows.boot_isinstance (pa_cons (pv 0) (pa_cons (pe_glob (v := .ref (c 6)) rfl (S.nm 6 (by decide)) rfl) pa_nil))) (pa_cons (pe_callB call_isinstX rfl T.isi PyProof.Rows.boot_isinstance (pa_cons (pv 0) (pa_cons (pe_glob (v := .ref (c 7)) rfl (S.nm 7 (by decide)) rfl) pa_nil))) pa_nil)))))))
    (pss_cons (ps_set (i := 1) scKa.nd rfl (Or.inl rfl) (pe_op op_cat (pv 1) (pe_lst (pa_cons (pe_callB call_isinstX rfl T.isi PyProof.Rows.boot_isinstance (pa_cons (pv 0) (pa_cons (pe_glob (v := .ref (c 8)) rfl (S.nm 8 (by decide)) rfl) pa_nil))) (pa_cons (pe_callB call_isinstX rfl T.isi PyProof.Rows.boot_isinstance (pa_cons (pv 0) (pa_cons (pe_glob (v := .ref (c 9)) rfl (S.nm 9 (by decide)) rfl) pa_nil))) (pa_cons (pe_callB call_isinstX rfl T.isi PyProof.Rows.boot_isinstance (pa_cons (pv 0) (pa_cons (pe_glob (v := .ref (c 10)) rfl (S.nm 10 (by decide)) rfl) pa_nil))) (pa_cons (pe_callB call_isinstX rfl T.isi PyProof.Rows.boot_isinstance (pa_cons (pv 0) (pa_cons (pe_glob (v := .ref (c 11)) rfl (S.nm 11 (by decide)) rfl) pa_nil))) pa_nil)))))))
    (pss_cons (ps_set (i := 1) scKa.nd rfl (Or.inl rfl) (pe_op op_cat (pv 1) (pe_lst (pa_cons (pe_callB call_isinstX rfl T.isi PyProof.Rows.boot_isinstance (pa_cons (pv 0) (pa_cons (pe_glob (v := .ref (c 12)) rfl (S.nm 12 (by decide)) rfl) pa_nil))) (pa_cons (pe_callB call_isinstX rfl T.isi PyProof.Rows.boot_isinstance (pa_cons (pv 0) (pa_cons (pe_glob (v := .ref (c 13)) rfl (S.nm 13 (by decide)) rfl) pa_nil))) (pa_cons (pe_callB call_isinstX rfl T.isi PyProof.Rows.boot_isinstance (pa_cons (pv 0) (pa_cons (pe_glob (v := .ref (c 14)) rfl (S.nm 14 (by decide)) rfl) pa_nil))) pa_nil))))))
    (pss_one (ps_ret (pv 1))))))), ?_⟩
  have E0 : H e = some (ExcO e (c k) dd) := ee
  refine ⟨_, rfl, e, c k, dd, .ref (c 0), .ref (c 0), decide (0 = k), rfl, ee, dk, S.cl k hk, rfl, (fun u r => r), S.kit hk (by decide), _, rfl, e, c k, dd, .ref (c 1), .ref (c 1), decide (1 = k), rfl, ee, dk, S.cl k hk, rfl, (fun u r => r), S.kit hk (by decide), _, rfl, e, c k, dd, .ref (c 2), .ref (c 2), decide (2 = k), rfl, ee, dk, S.cl k hk, rfl, (fun u r => r), S.kit hk (by decide), _, rfl, e, c k, dd, .ref (c 3), .ref (c 3), decide (3 = k), rfl, ee, dk, S.cl k hk, rfl, (fun u r => r), S.kit hk (by decide), (by show 4 ≤ sizeLine; decide), fun p1 hp1 => ?_⟩
  have E1 := fun o => same_new hp1 o _ _ ee
  have D1 := fun o => Dk.mono (same_new hp1 o) dk
  have S1 := fun o => same_new hp1 o
  refine ⟨_, rfl, _, rfl, e, c k, dd, .ref (c 4), .ref (c 4), decide (4 = k), rfl, E1 _, D1 _, S.cl k hk, rfl, (fun u r => r), S.kit hk (by decide), _, rfl, e, c k, dd, .ref (c 5), .ref (c 5), decide (5 = k), rfl, E1 _, D1 _, S.cl k hk, rfl, (fun u r => r), S.kit hk (by decide), _, rfl, e, c k, dd, .ref (c 6), .ref (c 6), decide (6 = k), rfl, E1 _, D1 _, S.cl k hk, rfl, (fun u r => r), S.kit hk (by decide), _, rfl, e, c k, dd, .ref (c 7), .ref (c 7), decide (7 = k), rfl, E1 _, D1 _, S.cl k hk, rfl, (fun u r => r), S.kit hk (by decide), (by show 4 ≤ sizeLine; decide), fun p2 hp2 => ?_⟩
  have E2 := fun o => same_new hp2 o _ _ (E1 _)
  have D2 := fun o => Dk.mono (same_new hp2 o) (D1 _)
  have S2 := fun o => (S1 _).trans (same_new hp2 o)
  refine ⟨p1, p2, _, _, rfl, rfl, same_new hp2 _ _ _ upd_same, upd_same, (by show 8 ≤ sizeLine; decide), fun p3 hp3 => ?_⟩
  have E3 := fun o => same_new hp3 o _ _ (E2 _)
  have D3 := fun o => Dk.mono (same_new hp3 o) (D2 _)
  have S3 := fun o => (S2 _).trans (same_new hp3 o)
  refine ⟨_, rfl, _, rfl, e, c k, dd, .ref (c 8), .ref (c 8), decide (8 = k), rfl, E3 _, D3 _, S.cl k hk, rfl, (fun u r => r), S.kit hk (by decide), _, rfl, e, c k, dd, .ref (c 9), .ref (c 9), decide (9 = k), rfl, E3 _, D3 _, S.cl k hk, rfl, (fun u r => r), S.kit hk (by decide), _, rfl, e, c k, dd, .ref (c 10), .ref (c 10), decide (10 = k), rfl, E3 _, D3 _, S.cl k hk, rfl, (fun u r => r), S.kit hk (by decide), _, rfl, e, c k, dd, .ref (c 11), .ref (c 11), decide (11 = k), rfl, E3 _, D3 _, S.cl k hk, rfl, (fun u r => r), S.kit hk (by decide), (by show 4 ≤ sizeLine; decide), fun p4 hp4 => ?_⟩
  have E4 := fun o => same_new hp4 o _ _ (E3 _)
  have D4 := fun o => Dk.mono (same_new hp4 o) (D3 _)
  have S4 := fun o => (S3 _).trans (same_new hp4 o)
  refine ⟨p3, p4, _, _, rfl, rfl, same_new hp4 _ _ _ upd_same, upd_same, (by show 12 ≤ sizeLine; decide), fun p5 hp5 => ?_⟩
  have E5 := fun o => same_new hp5 o _ _ (E4 _)
  have D5 := fun o => Dk.mono (same_new hp5 o) (D4 _)
  have S5 := fun o => (S4 _).trans (same_new hp5 o)
  refine ⟨_, rfl, _, rfl, e, c k, dd, .ref (c 12), .ref (c 12), decide (12 = k), rfl, E5 _, D5 _, S.cl k hk, rfl, (fun u r => r), S.kit hk (by decide), _, rfl, e, c k, dd, .ref (c 13), .ref (c 13), decide (13 = k), rfl, E5 _, D5 _, S.cl k hk, rfl, (fun u r => r), S.kit hk (by decide), _, rfl, e, c k, dd, .ref (c 14), .ref (c 14), decide (14 = k), rfl, E5 _, D5 _, S.cl k hk, rfl, (fun u r => r), S.kit hk (by decide), (by show 3 ≤ sizeLine; decide), fun p6 hp6 => ?_⟩
  have E6 := fun o => same_new hp6 o _ _ (E5 _)
  have D6 := fun o => Dk.mono (same_new hp6 o) (D5 _)
  have S6 := fun o => (S5 _).trans (same_new hp6 o)
  refine ⟨p5, p6, _, _, rfl, rfl, same_new hp6 _ _ _ upd_same, upd_same, (by show 15 ≤ sizeLine; decide), fun p7 hp7 => ?_⟩
  have E7 := fun o => same_new hp7 o _ _ (E6 _)
  have D7 := fun o => Dk.mono (same_new hp7 o) (D6 _)
  have S7 := fun o => (S6 _).trans (same_new hp7 o)
  exact ⟨_, rfl, q p7 _ (S7 _) (by rw [upd_same]; rfl)⟩
end
end K5
set_option maxHeartbeats 8000000
namespace K5
open PySem L2
section
variable {P : Program} {w : World} {K : PySem.W.Frag} {mg : Str → Option Value} {base : Heap} {c fi : Nat → Addr} {W : Addr} {di : Nat → FuncData} {f : Addr} {fd : FuncData}
theorem scKb : FnScope ["_law_e", "_law_found"] ["_law_e"] (defScope sKb) := ⟨rfl, rfl, rfl, by decide +kernel, rfl, by decide +kernel, by decide +kernel⟩
theorem ok_Kb (F : Fun K "_law_kinds_b" "_law_kinds_b" sKb f fd) (S : Cs K mg c W) (T : Txt mg) : FnOk P w K mg base CX0 1 f fd ["_law_e"] (spKs c 15) false := by
  refine F.ok scKb (fun vs H Q E h => ?_) (fun cdv A outer s H vs Q E hr h => ?_)
  · obtain ⟨e, k, dd, rfl, _⟩ := h
    rfl
  obtain ⟨e, k, dd, rfl, hk, ee, dk, q⟩ := h
  refine ⟨_, (pss_cons (ps_set (i := 1) scKb.nd rfl (Or.inl rfl) (pe_lst (pa_cons (pe_callB call_isinstX rfl T.isi PyProof.Rows.boot_isinstance (pa_cons (pv 0) (pa_cons (pe_glob (v := .ref (c 15)) rfl (S.nm 15 (by decide)) rfl) pa_nil))) (pa_cons (pe_callB call_isinstX rfl T.isi PyProof.Rows.boot_isinstance (pa_cons (pv 0) (pa_cons (pe_glob (v := .ref (c 16)) rfl (S.nm 16 (by decide)) rfl) pa_nil))) (pa_cons (pe_callB call_isinstX rfl T.isi PyProof.Rows.boot_isinstance (pa_cons (pv 0) (pa_cons (pe_glob (v := .ref (c 17)) rfl (S.nm 17 (by decide)) rfl) pa_nil))) (pa_cons (pe_callB call_isinstX rfl T.isi PyProof.Rows.boot_isinstance (pa_cons (pv 0) (pa_cons (pe_glob (v := .ref (c 18)) rfl (S.nm 18 (by decide)) rfl) pa_nil))) pa_nil))))))
    (pss_cons (ps_set (i := 1) scKb.nd rfl (Or.inl rfl) (pe_op op_cat (pv 1) (pe_lst (pa_cons (pe_callB call_isinstX rfl T.isi PyProof.Rows.boot_isinstance (pa_cons (pv 0) (pa_cons (pe_glob (v := .ref (c 19)) rfl (S.nm 19 (by decide)) rfl) pa_nil))) (pa_cons (pe_callB call_isinstX rfl T.isi PyProof.Rows.boot_isinstance (pa_cons (pv 0) (pa_cons (pe_glob (v := .ref (c 20)) rfl (S.nm 20 (by decide)) rfl) pa_nil))) (pa_cons (pe_callB call_isinstX rfl T.isi PyProof.Rows.boot_isinstance (pa_cons (pv 0) (pa_cons (pe_glob (v := .ref (c 21)) rfl (S.nm 21 (by decide)) rfl) pa_nil))) (pa_cons (pe_callB call_isinstX rfl T.isi PyProof.Rows.boot_isinstance (pa_cons (pv 0) (pa_cons (pe_glob (v := .ref (c 22)) rfl (S.nm 22 (by decide)) rfl) pa_nil))) pa_nil)))))))
    (pss_cons (ps_set (i := 1) scKb.nd rfl (Or.inl rfl) (pe_op op_cat (pv 1) (pe_lst (pa_cons (pe_callB call_isinstX rfl T.isi PyProof.Rows.boot_isinstance (pa_cons (pv 0) (pa_cons (pe_glob (v := .ref (c 23)) rfl (S.nm 23 (by decide)) rfl) pa_nil))) (pa_cons (pe_callB call_isinstX rfl T.isi PyProof.Rows.boot_isinstance (pa_cons (pv 0) (pa_cons (pe_glob (v := .ref (c 24)) rfl (S.nm 24 (by decide)) rfl) pa_nil))) (pa_cons (pe_callB call_isinstX rfl T.isi PyProof.Rows.boot_isinstance (pa_cons (pv 0) (pa_cons (pe_glob (v := .ref (c 25)) rfl (S.nm 25 (by decide)) rfl) pa_nil))) (pa_cons (pe_callB call_isinstX rfl T.isi PyProof.Rows.boot_isinstance (pa_cons (pv 0) (pa_cons (pe_glob (v := .ref (c 26)) rfl (S.nm 26 (by decide)) rfl) pa_nil))) pa_nil)))))))
    (pss_cons (ps_set (i := 1) scKb.nd rfl (Or.inl rfl) (pe_op op_cat (pv 1) (pe_lst (pa_cons (pe_callB call_isinstX rfl T.isi PyProof.Rows.boot_isinstance (pa_cons (pv 0) (pa_cons (pe_glob (v := .ref (c 27)) rfl (S.nm 27 (by decide)) rfl) pa_nil))) (pa_cons (pe_callB call_isinstX rfl T.isi PyProof.Rows.boot_isinstance (pa_cons (pv 0) (pa_cons (pe_glob (v := .ref (c 28)) rfl (S.nm 28 (by decide)) rfl) pa_nil))) (pa_cons (pe_callB call_isinstX rfl T.isi PyProof.Rows.boot_isinstance (pa_cons (pv 0) (pa_cons (pe_glob (v := .ref (c 29)) rfl (S.nm 29 (by decide)) rfl) pa_nil))) pa_nil))))))
    (pss_one (ps_ret (pv 1))))))), ?_⟩
  have E0 : H e = some (ExcO e (c k) dd) := ee
  refine ⟨_, rfl, e, c k, dd, .ref (c 15), .ref (c 15), decide (15 = k), rfl, ee, dk, S.cl k hk, rfl, (fun u r => r), S.kit hk (by decide), _, rfl, e, c k, dd, .ref (c 16), .ref (c 16), decide (16 = k), rfl, ee, dk, S.cl k hk, rfl, (fun u r => r), S.kit hk (by decide), _, rfl, e, c k, dd, .ref (c 17), .ref (c 17), decide (17 = k), rfl, ee, dk, S.cl k hk, rfl, (fun u r => r), S.kit hk (by decide), _, rfl, e, c k, dd, .ref (c 18), .ref (c 18), decide (18 = k), rfl, ee, dk, S.cl k hk, rfl, (fun u r => r), S.kit hk (by decide), (by show 4 ≤ sizeLine; decide), fun p1 hp1 => ?_⟩
  have E1 := fun o => same_new hp1 o _ _ ee
  have D1 := fun o => Dk.mono (same_new hp1 o) dk
  have S1 := fun o => same_new hp1 o
  refine ⟨_, rfl, _, rfl, e, c k, dd, .ref (c 19), .ref (c 19), decide (19 = k), rfl, E1 _, D1 _, S.cl k hk, rfl, (fun u r => r), S.kit hk (by decide), _, rfl, e, c k, dd, .ref (c 20), .ref (c 20), decide (20 = k), rfl, E1 _, D1 _, S.cl k hk, rfl, (fun u r => r), S.kit hk (by decide), _, rfl, e, c k, dd, .ref (c 21), .ref (c 21), decide (21 = k), rfl, E1 _, D1 _, S.cl k hk, rfl, (fun u r => r), S.kit hk (by decide), _, rfl, e, c k, dd, .ref (c 22), .ref (c 22), decide (22 = k), rfl, E1 _, D1 _, S.cl k hk, rfl, (fun u r => r), S.kit hk (by decide), (by show 4 ≤ sizeLine; decide), fun p2 hp2 => ?_⟩
  have E2 := fun o => same_new hp2 o _ _ (E1 _)
  have D2 := fun o => Dk.mono (same_new hp2 o) (D1 _)
  have S2 := fun o => (S1 _).trans (same_new hp2 o)
  refine ⟨p1, p2, _, _, rfl, rfl, same_new hp2 _ _ _ upd_same, upd_same, (by show 8 ≤ sizeLine; decide), fun p3 hp3 => ?_⟩
  have E3 := fun o => same_new hp3 o _ _ (E2 _)
  have D3 := fun o => Dk.mono (same_new hp3 o) (D2 _)
  have S3 := fun o => (S2 _).trans (same_new hp3 o)
  refine ⟨_, rfl, _, rfl, e, c k, dd, .ref (c 23), .ref (c 23), decide (23 = k), rfl, E3 _, D3 _, S.cl k hk, rfl, (fun u r => r), S.kit hk (by decide), _, rfl, e, c k, dd, .ref (c 24), .ref (c 24), decide (24 = k), rfl, E3 _, D3 _, S.cl k hk, rfl, (fun u r => r), S.kit hk (by decide), _, rfl, e, c k, dd, .ref (c 25), .ref (c 25), decide (25 = k), rfl, E3 _, D3 _, S.cl k hk, rfl, (fun u r => r), S.kit hk (by decide), _, rfl, e, c k, dd, .ref (c 26), .ref (c 26), decide (26 = k), rfl, E3 _, D3 _, S.cl k hk, rfl, (fun u r => r), S.kit hk (by decide), (by show 4 ≤ sizeLine; decide), fun p4 hp4 => ?_⟩
  have E4 := fun o => same_new hp4 o _ _ (E3 _)
  have D4 := fun o => Dk.mono (same_new hp4 o) (D3 _)
  have S4 := fun o => (S3 _).trans (same_new hp4 o)
  refine ⟨p3, p4, _, _, rfl, rfl, same_new hp4 _ _ _ upd_same, upd_same, (by show 12 ≤ sizeLine; decide), fun p5 hp5 => ?_⟩
  have E5 := fun o => same_new hp5 o _ _ (E4 _)
  have D5 := fun o => Dk.mono (same_new hp5 o) (D4 _)
  have S5 := fun o => (S4 _).trans (same_new hp5 o)
  refine ⟨_, rfl, _, rfl, e, c k, dd, .ref (c 27), .ref (c 27), decide (27 = k), rfl, E5 _, D5 _, S.cl k hk, rfl, (fun u r => r), S.kit hk (by decide), _, rfl, e, c k, dd, .ref (c 28), .ref (c 28), decide (28 = k), rfl, E5 _, D5 _, S.cl k hk, rfl, (fun u r => r), S.kit hk (by decide), _, rfl, e, c k, dd, .ref (c 29), .ref (c 29), decide (29 = k), rfl, E5 _, D5 _, S.cl k hk, rfl, (fun u r => r), S.kit hk (by decide), (by show 3 ≤ sizeLine; decide), fun p6 hp6 => ?_⟩
  have E6 := fun o => same_new hp6 o _ _ (E5 _)
  have D6 := fun o => Dk.mono (same_new hp6 o) (D5 _)
  have S6 := fun o => (S5 _).trans (same_new hp6 o)
  refine ⟨p5, p6, _, _, rfl, rfl, same_new hp6 _ _ _ upd_same, upd_same, (by show 15 ≤ sizeLine; decide), fun p7 hp7 => ?_⟩
  have E7 := fun o => same_new hp7 o _ _ (E6 _)
  have D7 := fun o => Dk.mono (same_new hp7 o) (D6 _)
  have S7 := fun o => (S6 _).trans (same_new hp7 o)
  exact ⟨_, rfl, q p7 _ (S7 _) (by rw [upd_same]; rfl)⟩
end
end K5
set_option maxHeartbeats 8000000
namespace K5
open PySem L2
section
variable {P : Program} {w : World} {K : PySem.W.Frag} {mg : Str → Option Value} {base : Heap} {c fi : Nat → Addr} {W : Addr} {di : Nat → FuncData} {f : Addr} {fd : FuncData}
/-! ### its fields -/
def spFf (c : Nat → Addr) : Sp := fun vs H Q _ => ∃ (e : Addr) (k : Nat) (dd : Option Addr) (one other : V), vs = [.ref e] ∧ k < 30 ∧ H e = some (ExcO e (c k) dd) ∧ FldOk H dd k one other ∧
  ∀ p H', Same H H' → H' p = some (.lst ([one, other].take (many k))) → Q (.ref p) H'
/-- .. of the classes that have two or none -/
def spTf (c : Nat → Addr) : Sp := fun vs H Q _ => ∃ (e : Addr) (k : Nat) (dd : Option Addr) (one other : V), vs = [.ref e] ∧ k < 30 ∧ many k ≠ 1 ∧ H e = some (ExcO e (c k) dd) ∧ FldOk H dd k one other ∧
  ∀ p H', Same H H' → H' p = some (.lst ([one, other].take (many k))) → Q (.ref p) H'
theorem none_of : ∀ k, k < 30 → many k ≠ 1 → ¬ 3 = k → ¬ 12 = k → ¬ 13 = k → ¬ 18 = k → ¬ 28 = k → many k = 0 := all30 (by decide) (by decide) (by decide) (by decide) (by decide) (by decide) (by decide) (by decide) (by decide) (by decide) (by decide) (by decide) (by decide) (by decide) (by decide) (by decide) (by decide) (by decide) (by decide) (by decide) (by decide) (by decide) (by decide) (by decide) (by decide) (by decide) (by decide) (by decide) (by decide) (by decide)
theorem scTf : FnScope ["_law_e"] ["_law_e"] (defScope sTf) := ⟨rfl, rfl, rfl, by decide +kernel, rfl, by decide +kernel, by decide +kernel⟩
theorem ok_Tf (F : Fun K "_law_two_fields" "_law_two_fields" sTf f fd) (S : Cs K mg c W) (T : Txt mg) : FnOk P w K mg base CX0 1 f fd ["_law_e"] (spTf c) false := by
  refine F.ok scTf (fun vs H Q E h => ?_) (fun cdv A outer s H vs Q E hr h => ?_)
  · obtain ⟨e, k, dd, one, other, rfl, _⟩ := h
    rfl
  obtain ⟨e, k, dd, one, other, rfl, hk, hm, ee, fo, q⟩ := h
  refine ⟨_, (pss_cons (ps_if (pt_val (pe_callB call_isinstX rfl T.isi PyProof.Rows.boot_isinstance (pa_cons (pv 0) (pa_cons (pe_glob (v := .ref (c 3)) rfl (S.nm 3 (by decide)) rfl) pa_nil))))
    (pss_one (ps_ret (pe_lst (pa_cons (pe_xf (pv 0) rfl) (pa_cons (pe_xf (pv 0) rfl) pa_nil)))))
    pss_nil)
    (pss_cons (ps_if (pt_val (pe_callB call_isinstX rfl T.isi PyProof.Rows.boot_isinstance (pa_cons (pv 0) (pa_cons (pe_glob (v := .ref (c 12)) rfl (S.nm 12 (by decide)) rfl) pa_nil))))
    (pss_one (ps_ret (pe_lst (pa_cons (pe_xf (pv 0) rfl) (pa_cons (pe_xf (pv 0) rfl) pa_nil)))))
    pss_nil)
    (pss_cons (ps_if (pt_val (pe_callB call_isinstX rfl T.isi PyProof.Rows.boot_isinstance (pa_cons (pv 0) (pa_cons (pe_glob (v := .ref (c 13)) rfl (S.nm 13 (by decide)) rfl) pa_nil))))
    (pss_one (ps_ret (pe_lst (pa_cons (pe_xf (pv 0) rfl) (pa_cons (pe_xf (pv 0) rfl) pa_nil)))))
    pss_nil)
    (pss_cons (ps_if (pt_val (pe_callB call_isinstX rfl T.isi PyProof.Rows.boot_isinstance (pa_cons (pv 0) (pa_cons (pe_glob (v := .ref (c 18)) rfl (S.nm 18 (by decide)) rfl) pa_nil))))
    (pss_one (ps_ret (pe_lst (pa_cons (pe_xf (pv 0) rfl) (pa_cons (pe_xf (pv 0) rfl) pa_nil)))))
    pss_nil)
    (pss_cons (ps_if (pt_val (pe_callB call_isinstX rfl T.isi PyProof.Rows.boot_isinstance (pa_cons (pv 0) (pa_cons (pe_glob (v := .ref (c 28)) rfl (S.nm 28 (by decide)) rfl) pa_nil))))
    (pss_one (ps_ret (pe_lst (pa_cons (pe_xf (pv 0) rfl) (pa_cons (pe_xf (pv 0) rfl) pa_nil)))))
    pss_nil)
    (pss_one (ps_ret (pe_lst pa_nil)))))))), ?_⟩
  refine ⟨_, rfl, e, c k, dd, .ref (c 3), .ref (c 3), decide (3 = k), rfl, ee, fo.dk, S.cl k hk, rfl, (fun u r => r), S.kit hk (by decide), _, rfl, ite2 (fun b => ?_) (fun b => ?_)⟩
  · obtain rfl : 3 = k := of_decide_eq_true b
    obtain ⟨dx, rfl, ed⟩ := fo.dx (by decide)
    exact ⟨_, rfl, e, c 3, dx, _, one, rfl, ee, ed, S.cl 3 hk, S.noat 3 hk _ (by decide), rfl, _, rfl, e, c 3, dx, _, other, rfl, ee, ed, S.cl 3 hk, S.noat 3 hk _ (by decide), rfl, (by show 2 ≤ sizeLine; decide), fun p hp => q p _ (same_new hp _) upd_same⟩
  have b3 : ¬ 3 = k := fun e => b (decide_eq_true e)
  refine ⟨_, rfl, e, c k, dd, .ref (c 12), .ref (c 12), decide (12 = k), rfl, ee, fo.dk, S.cl k hk, rfl, (fun u r => r), S.kit hk (by decide), _, rfl, ite2 (fun b => ?_) (fun b => ?_)⟩
  · obtain rfl : 12 = k := of_decide_eq_true b
    obtain ⟨dx, rfl, ed⟩ := fo.dx (by decide)
    exact ⟨_, rfl, e, c 12, dx, _, one, rfl, ee, ed, S.cl 12 hk, S.noat 12 hk _ (by decide), rfl, _, rfl, e, c 12, dx, _, other, rfl, ee, ed, S.cl 12 hk, S.noat 12 hk _ (by decide), rfl, (by show 2 ≤ sizeLine; decide), fun p hp => q p _ (same_new hp _) upd_same⟩
  have b12 : ¬ 12 = k := fun e => b (decide_eq_true e)
  refine ⟨_, rfl, e, c k, dd, .ref (c 13), .ref (c 13), decide (13 = k), rfl, ee, fo.dk, S.cl k hk, rfl, (fun u r => r), S.kit hk (by decide), _, rfl, ite2 (fun b => ?_) (fun b => ?_)⟩
  · obtain rfl : 13 = k := of_decide_eq_true b
    obtain ⟨dx, rfl, ed⟩ := fo.dx (by decide)
    exact ⟨_, rfl, e, c 13, dx, _, one, rfl, ee, ed, S.cl 13 hk, S.noat 13 hk _ (by decide), rfl, _, rfl, e, c 13, dx, _, other, rfl, ee, ed, S.cl 13 hk, S.noat 13 hk _ (by decide), rfl, (by show 2 ≤ sizeLine; decide), fun p hp => q p _ (same_new hp _) upd_same⟩
  have b13 : ¬ 13 = k := fun e => b (decide_eq_true e)
  refine ⟨_, rfl, e, c k, dd, .ref (c 18), .ref (c 18), decide (18 = k), rfl, ee, fo.dk, S.cl k hk, rfl, (fun u r => r), S.kit hk (by decide), _, rfl, ite2 (fun b => ?_) (fun b => ?_)⟩
  · obtain rfl : 18 = k := of_decide_eq_true b
    obtain ⟨dx, rfl, ed⟩ := fo.dx (by decide)
    exact ⟨_, rfl, e, c 18, dx, _, one, rfl, ee, ed, S.cl 18 hk, S.noat 18 hk _ (by decide), rfl, _, rfl, e, c 18, dx, _, other, rfl, ee, ed, S.cl 18 hk, S.noat 18 hk _ (by decide), rfl, (by show 2 ≤ sizeLine; decide), fun p hp => q p _ (same_new hp _) upd_same⟩
  have b18 : ¬ 18 = k := fun e => b (decide_eq_true e)
  refine ⟨_, rfl, e, c k, dd, .ref (c 28), .ref (c 28), decide (28 = k), rfl, ee, fo.dk, S.cl k hk, rfl, (fun u r => r), S.kit hk (by decide), _, rfl, ite2 (fun b => ?_) (fun b => ?_)⟩
  · obtain rfl : 28 = k := of_decide_eq_true b
    obtain ⟨dx, rfl, ed⟩ := fo.dx (by decide)
    exact ⟨_, rfl, e, c 28, dx, _, one, rfl, ee, ed, S.cl 28 hk, S.noat 28 hk _ (by decide), rfl, _, rfl, e, c 28, dx, _, other, rfl, ee, ed, S.cl 28 hk, S.noat 28 hk _ (by decide), rfl, (by show 2 ≤ sizeLine; decide), fun p hp => q p _ (same_new hp _) upd_same⟩
  have b28 : ¬ 28 = k := fun e => b (decide_eq_true e)
  have z : many k = 0 := none_of k hk hm b3 b12 b13 b18 b28
  refine ⟨by decide, fun p hp => q p _ (same_new hp _) ?_⟩
  rw [upd_same, z]
  rfl
end
end K5
set_option maxHeartbeats 8000000
namespace K5
open PySem L2
section
variable {P : Program} {w : World} {K : PySem.W.Frag} {mg : Str → Option Value} {base : Heap} {c fi : Nat → Addr} {W : Addr} {di : Nat → FuncData} {f : Addr} {fd : FuncData}
theorem not_one : ∀ k, k < 30 → ¬ 0 = k → ¬ 1 = k → ¬ 4 = k → ¬ 5 = k → ¬ 6 = k → ¬ 7 = k → ¬ 8 = k → ¬ 9 = k → ¬ 10 = k → ¬ 11 = k → ¬ 20 = k → ¬ 14 = k → ¬ 15 = k → ¬ 16 = k → ¬ 17 = k → ¬ 19 = k → ¬ 21 = k → ¬ 22 = k → ¬ 23 = k → ¬ 27 = k → ¬ 29 = k → many k ≠ 1 := all30 (by decide) (by decide) (by decide) (by decide) (by decide) (by decide) (by decide) (by decide) (by decide) (by decide) (by decide) (by decide) (by decide) (by decide) (by decide) (by decide) (by decide) (by decide) (by decide) (by decide) (by decide) (by decide) (by decide) (by decide) (by decide) (by decide) (by decide) (by decide) (by decide) (by decide)
theorem scFf : FnScope ["_law_e"] ["_law_e"] (defScope sFf) := ⟨rfl, rfl, rfl, by decide +kernel, rfl, by decide +kernel, by decide +kernel⟩
theorem ok_Ff (F : Fun K "_law_first_field" "_law_first_field" sFf f fd) {fT : Addr} {dT : FuncData} (hTf : Has K mg "_law_two_fields" sTf ["_law_e"] fT dT) (GTf : FnOk P w K mg base CX0 1 fT dT ["_law_e"] (spTf c) false) (S : Cs K mg c W) (T : Txt mg) :
    FnOk P w K mg base CX0 2 f fd ["_law_e"] (spFf c) false := by
  refine F.ok scFf (fun vs H Q E h => ?_) (fun cdv A outer s H vs Q E hr h => ?_)
  · obtain ⟨e, k, dd, one, other, rfl, _⟩ := h
    rfl
  obtain ⟨e, k, dd, one, other, rfl, hk, ee, fo, q⟩ := h
  refine ⟨_, (pss_cons (ps_if (pt_val (pe_callB call_isinstX rfl T.isi PyProof.Rows.boot_isinstance (pa_cons (pv 0) (pa_cons (pe_glob (v := .ref (c 0)) rfl (S.nm 0 (by decide)) rfl) pa_nil))))
    (pss_one (ps_ret (pe_lst (pa_cons (pe_xf (pv 0) rfl) pa_nil))))
    pss_nil)
    (pss_cons (ps_if (pt_val (pe_callB call_isinstXT rfl T.isi PyProof.Rows.boot_isinstance (pa_cons (pv 0) (pa_cons (pe_tup (pa_cons (pe_glob (v := .ref (c 1)) rfl (S.nm 1 (by decide)) rfl) (pa_cons (pe_glob (v := .ref (c 4)) rfl (S.nm 4 (by decide)) rfl) (pa_cons (pe_glob (v := .ref (c 5)) rfl (S.nm 5 (by decide)) rfl) (pa_cons (pe_glob (v := .ref (c 6)) rfl (S.nm 6 (by decide)) rfl) (pa_cons (pe_glob (v := .ref (c 7)) rfl (S.nm 7 (by decide)) rfl) (pa_cons (pe_glob (v := .ref (c 8)) rfl (S.nm 8 (by decide)) rfl) pa_nil))))))) pa_nil))))
    (pss_one (ps_ret (pe_lst (pa_cons (pe_xf (pv 0) rfl) pa_nil))))
    pss_nil)
    (pss_cons (ps_if (pt_val (pe_callB call_isinstXT rfl T.isi PyProof.Rows.boot_isinstance (pa_cons (pv 0) (pa_cons (pe_tup (pa_cons (pe_glob (v := .ref (c 9)) rfl (S.nm 9 (by decide)) rfl) (pa_cons (pe_glob (v := .ref (c 10)) rfl (S.nm 10 (by decide)) rfl) pa_nil))) pa_nil))))
    (pss_one (ps_ret (pe_lst (pa_cons (pe_xf (pv 0) rfl) pa_nil))))
    pss_nil)
    (pss_cons (ps_if (pt_val (pe_callB call_isinstXT rfl T.isi PyProof.Rows.boot_isinstance (pa_cons (pv 0) (pa_cons (pe_tup (pa_cons (pe_glob (v := .ref (c 11)) rfl (S.nm 11 (by decide)) rfl) (pa_cons (pe_glob (v := .ref (c 20)) rfl (S.nm 20 (by decide)) rfl) pa_nil))) pa_nil))))
    (pss_one (ps_ret (pe_lst (pa_cons (pe_xf (pv 0) rfl) pa_nil))))
    pss_nil)
    (pss_cons (ps_if (pt_val (pe_callB call_isinstXT rfl T.isi PyProof.Rows.boot_isinstance (pa_cons (pv 0) (pa_cons (pe_tup (pa_cons (pe_glob (v := .ref (c 14)) rfl (S.nm 14 (by decide)) rfl) (pa_cons (pe_glob (v := .ref (c 15)) rfl (S.nm 15 (by decide)) rfl) (pa_cons (pe_glob (v := .ref (c 16)) rfl (S.nm 16 (by decide)) rfl) (pa_cons (pe_glob (v := .ref (c 17)) rfl (S.nm 17 (by decide)) rfl) (pa_cons (pe_glob (v := .ref (c 19)) rfl (S.nm 19 (by decide)) rfl) pa_nil)))))) pa_nil))))
    (pss_one (ps_ret (pe_lst (pa_cons (pe_xf (pv 0) rfl) pa_nil))))
    pss_nil)
    (pss_cons (ps_if (pt_val (pe_callB call_isinstXT rfl T.isi PyProof.Rows.boot_isinstance (pa_cons (pv 0) (pa_cons (pe_tup (pa_cons (pe_glob (v := .ref (c 21)) rfl (S.nm 21 (by decide)) rfl) (pa_cons (pe_glob (v := .ref (c 22)) rfl (S.nm 22 (by decide)) rfl) (pa_cons (pe_glob (v := .ref (c 23)) rfl (S.nm 23 (by decide)) rfl) pa_nil)))) pa_nil))))
    (pss_one (ps_ret (pe_lst (pa_cons (pe_xf (pv 0) rfl) pa_nil))))
    pss_nil)
    (pss_cons (ps_if (pt_val (pe_callB call_isinstX rfl T.isi PyProof.Rows.boot_isinstance (pa_cons (pv 0) (pa_cons (pe_glob (v := .ref (c 27)) rfl (S.nm 27 (by decide)) rfl) pa_nil))))
    (pss_one (ps_ret (pe_lst (pa_cons (pe_xf (pv 0) rfl) pa_nil))))
    pss_nil)
    (pss_cons (ps_if (pt_val (pe_callB call_isinstX rfl T.isi PyProof.Rows.boot_isinstance (pa_cons (pv 0) (pa_cons (pe_glob (v := .ref (c 29)) rfl (S.nm 29 (by decide)) rfl) pa_nil))))
    (pss_one (ps_ret (pe_lst (pa_cons (pe_xf (pv 0) rfl) pa_nil))))
    pss_nil)
    (pss_one (ps_ret (pe_call GTf (hr.mono (by decide)) rfl hTf.nm hTf.fn.kp hTf.bd .nil pass0 (pa_cons (pv 0) pa_nil)))))))))))), ?_⟩
  refine ⟨_, rfl, e, c k, dd, .ref (c 0), .ref (c 0), decide (0 = k), rfl, ee, (fo).dk, S.cl k hk, rfl, (fun u r => r), S.kit hk (by decide), _, rfl, ite2 (fun b => ?_) (fun b => ?_)⟩
  · obtain rfl : 0 = k := of_decide_eq_true b
    · obtain ⟨dx, rfl, ed⟩ := (fo).dx (by decide)
      exact ⟨_, rfl, e, c 0, dx, _, one, rfl, ee, ed, S.cl 0 hk, S.noat 0 hk _ (by decide), rfl, (by show 1 ≤ sizeLine; decide), fun p hp => q p _ ((Same.refl H).trans (same_new hp _)) upd_same⟩
  have b0 : ¬ 0 = k := fun e => b (decide_eq_true e)
  refine ⟨_, rfl, (by show 6 ≤ sizeLine; decide), fun t1 ht1 => ?_⟩
  have E1 := fun o => same_new ht1 o _ _ (ee)
  have F1 := fun o => FldOk.mono (same_new ht1 o) (fo)
  have S1 := fun o => (Same.refl H).trans (same_new ht1 o)
  refine ⟨e, c k, dd, t1, _, ([1, 4, 5, 6, 7, 8] : List Nat).map fun j => Value.ref (c j), _, rfl, E1 _, (F1 _).dk, S.cl k hk, upd_same, rfl, S.any hk [1, 4, 5, 6, 7, 8] (by decide), _, rfl, ite2 (fun b => ?_) (fun b => ?_)⟩
  · obtain rfl | rfl | rfl | rfl | rfl | rfl : 1 = k ∨ 4 = k ∨ 5 = k ∨ 6 = k ∨ 7 = k ∨ 8 = k := by simpa using b
    · obtain ⟨dx, rfl, ed⟩ := (F1 _).dx (by decide)
      exact ⟨_, rfl, e, c 1, dx, _, one, rfl, E1 _, ed, S.cl 1 hk, S.noat 1 hk _ (by decide), rfl, (by show 1 ≤ sizeLine; decide), fun p hp => q p _ ((S1 _).trans (same_new hp _)) upd_same⟩
    · obtain ⟨dx, rfl, ed⟩ := (F1 _).dx (by decide)
      exact ⟨_, rfl, e, c 4, dx, _, one, rfl, E1 _, ed, S.cl 4 hk, S.noat 4 hk _ (by decide), rfl, (by show 1 ≤ sizeLine; decide), fun p hp => q p _ ((S1 _).trans (same_new hp _)) upd_same⟩
    · obtain ⟨dx, rfl, ed⟩ := (F1 _).dx (by decide)
      exact ⟨_, rfl, e, c 5, dx, _, one, rfl, E1 _, ed, S.cl 5 hk, S.noat 5 hk _ (by decide), rfl, (by show 1 ≤ sizeLine; decide), fun p hp => q p _ ((S1 _).trans (same_new hp _)) upd_same⟩
    · obtain ⟨dx, rfl, ed⟩ := (F1 _).dx (by decide)
      exact ⟨_, rfl, e, c 6, dx, _, one, rfl, E1 _, ed, S.cl 6 hk, S.noat 6 hk _ (by decide), rfl, (by show 1 ≤ sizeLine; decide), fun p hp => q p _ ((S1 _).trans (same_new hp _)) upd_same⟩
    · obtain ⟨dx, rfl, ed⟩ := (F1 _).dx (by decide)
      exact ⟨_, rfl, e, c 7, dx, _, one, rfl, E1 _, ed, S.cl 7 hk, S.noat 7 hk _ (by decide), rfl, (by show 1 ≤ sizeLine; decide), fun p hp => q p _ ((S1 _).trans (same_new hp _)) upd_same⟩
    · obtain ⟨dx, rfl, ed⟩ := (F1 _).dx (by decide)
      exact ⟨_, rfl, e, c 8, dx, _, one, rfl, E1 _, ed, S.cl 8 hk, S.noat 8 hk _ (by decide), rfl, (by show 1 ≤ sizeLine; decide), fun p hp => q p _ ((S1 _).trans (same_new hp _)) upd_same⟩
  have b1 : ¬ 1 = k := fun e => b (by subst e; rfl)
  have b4 : ¬ 4 = k := fun e => b (by subst e; rfl)
  have b5 : ¬ 5 = k := fun e => b (by subst e; rfl)
  have b6 : ¬ 6 = k := fun e => b (by subst e; rfl)
  have b7 : ¬ 7 = k := fun e => b (by subst e; rfl)
  have b8 : ¬ 8 = k := fun e => b (by subst e; rfl)
  refine ⟨_, rfl, (by show 2 ≤ sizeLine; decide), fun t2 ht2 => ?_⟩
  have E2 := fun o => same_new ht2 o _ _ (E1 _)
  have F2 := fun o => FldOk.mono (same_new ht2 o) (F1 _)
  have S2 := fun o => (S1 _).trans (same_new ht2 o)
  refine ⟨e, c k, dd, t2, _, ([9, 10] : List Nat).map fun j => Value.ref (c j), _, rfl, E2 _, (F2 _).dk, S.cl k hk, upd_same, rfl, S.any hk [9, 10] (by decide), _, rfl, ite2 (fun b => ?_) (fun b => ?_)⟩
  · obtain rfl | rfl : 9 = k ∨ 10 = k := by simpa using b
    · obtain ⟨dx, rfl, ed⟩ := (F2 _).dx (by decide)
      exact ⟨_, rfl, e, c 9, dx, _, one, rfl, E2 _, ed, S.cl 9 hk, S.noat 9 hk _ (by decide), rfl, (by show 1 ≤ sizeLine; decide), fun p hp => q p _ ((S2 _).trans (same_new hp _)) upd_same⟩
    · obtain ⟨dx, rfl, ed⟩ := (F2 _).dx (by decide)
      exact ⟨_, rfl, e, c 10, dx, _, one, rfl, E2 _, ed, S.cl 10 hk, S.noat 10 hk _ (by decide), rfl, (by show 1 ≤ sizeLine; decide), fun p hp => q p _ ((S2 _).trans (same_new hp _)) upd_same⟩
  have b9 : ¬ 9 = k := fun e => b (by subst e; rfl)
  have b10 : ¬ 10 = k := fun e => b (by subst e; rfl)
  refine ⟨_, rfl, (by show 2 ≤ sizeLine; decide), fun t3 ht3 => ?_⟩
  have E3 := fun o => same_new ht3 o _ _ (E2 _)
  have F3 := fun o => FldOk.mono (same_new ht3 o) (F2 _)
  have S3 := fun o => (S2 _).trans (same_new ht3 o)
  refine ⟨e, c k, dd, t3, _, ([11, 20] : List Nat).map fun j => Value.ref (c j), _, rfl, E3 _, (F3 _).dk, S.cl k hk, upd_same, rfl, S.any hk [11, 20] (by decide), _, rfl, ite2 (fun b => ?_) (fun b => ?_)⟩
  · obtain rfl | rfl : 11 = k ∨ 20 = k := by simpa using b
    · obtain ⟨dx, rfl, ed⟩ := (F3 _).dx (by decide)
      exact ⟨_, rfl, e, c 11, dx, _, one, rfl, E3 _, ed, S.cl 11 hk, S.noat 11 hk _ (by decide), rfl, (by show 1 ≤ sizeLine; decide), fun p hp => q p _ ((S3 _).trans (same_new hp _)) upd_same⟩
    · obtain ⟨dx, rfl, ed⟩ := (F3 _).dx (by decide)
      exact ⟨_, rfl, e, c 20, dx, _, one, rfl, E3 _, ed, S.cl 20 hk, S.noat 20 hk _ (by decide), rfl, (by show 1 ≤ sizeLine; decide), fun p hp => q p _ ((S3 _).trans (same_new hp _)) upd_same⟩
  have b11 : ¬ 11 = k := fun e => b (by subst e; rfl)
  have b20 : ¬ 20 = k := fun e => b (by subst e; rfl)
  refine ⟨_, rfl, (by show 5 ≤ sizeLine; decide), fun t4 ht4 => ?_⟩
  have E4 := fun o => same_new ht4 o _ _ (E3 _)
  have F4 := fun o => FldOk.mono (same_new ht4 o) (F3 _)
  have S4 := fun o => (S3 _).trans (same_new ht4 o)
  refine ⟨e, c k, dd, t4, _, ([14, 15, 16, 17, 19] : List Nat).map fun j => Value.ref (c j), _, rfl, E4 _, (F4 _).dk, S.cl k hk, upd_same, rfl, S.any hk [14, 15, 16, 17, 19] (by decide), _, rfl, ite2 (fun b => ?_) (fun b => ?_)⟩
  · obtain rfl | rfl | rfl | rfl | rfl : 14 = k ∨ 15 = k ∨ 16 = k ∨ 17 = k ∨ 19 = k := by simpa using b
    · obtain ⟨dx, rfl, ed⟩ := (F4 _).dx (by decide)
      exact ⟨_, rfl, e, c 14, dx, _, one, rfl, E4 _, ed, S.cl 14 hk, S.noat 14 hk _ (by decide), rfl, (by show 1 ≤ sizeLine; decide), fun p hp => q p _ ((S4 _).trans (same_new hp _)) upd_same⟩
    · obtain ⟨dx, rfl, ed⟩ := (F4 _).dx (by decide)
      exact ⟨_, rfl, e, c 15, dx, _, one, rfl, E4 _, ed, S.cl 15 hk, S.noat 15 hk _ (by decide), rfl, (by show 1 ≤ sizeLine; decide), fun p hp => q p _ ((S4 _).trans (same_new hp _)) upd_same⟩
    · obtain ⟨dx, rfl, ed⟩ := (F4 _).dx (by decide)
      exact ⟨_, rfl, e, c 16, dx, _, one, rfl, E4 _, ed, S.cl 16 hk, S.noat 16 hk _ (by decide), rfl, (by show 1 ≤ sizeLine; decide), fun p hp => q p _ ((S4 _).trans (same_new hp _)) upd_same⟩
    · obtain ⟨dx, rfl, ed⟩ := (F4 _).dx (by decide)
      exact ⟨_, rfl, e, c 17, dx, _, one, rfl, E4 _, ed, S.cl 17 hk, S.noat 17 hk _ (by decide), rfl, (by show 1 ≤ sizeLine; decide), fun p hp => q p _ ((S4 _).trans (same_new hp _)) upd_same⟩
    · obtain ⟨dx, rfl, ed⟩ := (F4 _).dx (by decide)
      exact ⟨_, rfl, e, c 19, dx, _, one, rfl, E4 _, ed, S.cl 19 hk, S.noat 19 hk _ (by decide), rfl, (by show 1 ≤ sizeLine; decide), fun p hp => q p _ ((S4 _).trans (same_new hp _)) upd_same⟩
  have b14 : ¬ 14 = k := fun e => b (by subst e; rfl)
  have b15 : ¬ 15 = k := fun e => b (by subst e; rfl)
  have b16 : ¬ 16 = k := fun e => b (by subst e; rfl)
  have b17 : ¬ 17 = k := fun e => b (by subst e; rfl)
  have b19 : ¬ 19 = k := fun e => b (by subst e; rfl)
  refine ⟨_, rfl, (by show 3 ≤ sizeLine; decide), fun t5 ht5 => ?_⟩
  have E5 := fun o => same_new ht5 o _ _ (E4 _)
  have F5 := fun o => FldOk.mono (same_new ht5 o) (F4 _)
  have S5 := fun o => (S4 _).trans (same_new ht5 o)
  refine ⟨e, c k, dd, t5, _, ([21, 22, 23] : List Nat).map fun j => Value.ref (c j), _, rfl, E5 _, (F5 _).dk, S.cl k hk, upd_same, rfl, S.any hk [21, 22, 23] (by decide), _, rfl, ite2 (fun b => ?_) (fun b => ?_)⟩
  · obtain rfl | rfl | rfl : 21 = k ∨ 22 = k ∨ 23 = k := by simpa using b
    · obtain ⟨dx, rfl, ed⟩ := (F5 _).dx (by decide)
      exact ⟨_, rfl, e, c 21, dx, _, one, rfl, E5 _, ed, S.cl 21 hk, S.noat 21 hk _ (by decide), rfl, (by show 1 ≤ sizeLine; decide), fun p hp => q p _ ((S5 _).trans (same_new hp _)) upd_same⟩
    · obtain ⟨dx, rfl, ed⟩ := (F5 _).dx (by decide)
      exact ⟨_, rfl, e, c 22, dx, _, one, rfl, E5 _, ed, S.cl 22 hk, S.noat 22 hk _ (by decide), rfl, (by show 1 ≤ sizeLine; decide), fun p hp => q p _ ((S5 _).trans (same_new hp _)) upd_same⟩
    · obtain ⟨dx, rfl, ed⟩ := (F5 _).dx (by decide)
      exact ⟨_, rfl, e, c 23, dx, _, one, rfl, E5 _, ed, S.cl 23 hk, S.noat 23 hk _ (by decide), rfl, (by show 1 ≤ sizeLine; decide), fun p hp => q p _ ((S5 _).trans (same_new hp _)) upd_same⟩
  have b21 : ¬ 21 = k := fun e => b (by subst e; rfl)
  have b22 : ¬ 22 = k := fun e => b (by subst e; rfl)
  have b23 : ¬ 23 = k := fun e => b (by subst e; rfl)
  refine ⟨_, rfl, e, c k, dd, .ref (c 27), .ref (c 27), decide (27 = k), rfl, E5 _, (F5 _).dk, S.cl k hk, rfl, (fun u r => r), S.kit hk (by decide), _, rfl, ite2 (fun b => ?_) (fun b => ?_)⟩
  · obtain rfl : 27 = k := of_decide_eq_true b
    · obtain ⟨dx, rfl, ed⟩ := (F5 _).dx (by decide)
      exact ⟨_, rfl, e, c 27, dx, _, one, rfl, E5 _, ed, S.cl 27 hk, S.noat 27 hk _ (by decide), rfl, (by show 1 ≤ sizeLine; decide), fun p hp => q p _ ((S5 _).trans (same_new hp _)) upd_same⟩
  have b27 : ¬ 27 = k := fun e => b (decide_eq_true e)
  refine ⟨_, rfl, e, c k, dd, .ref (c 29), .ref (c 29), decide (29 = k), rfl, E5 _, (F5 _).dk, S.cl k hk, rfl, (fun u r => r), S.kit hk (by decide), _, rfl, ite2 (fun b => ?_) (fun b => ?_)⟩
  · obtain rfl : 29 = k := of_decide_eq_true b
    · obtain ⟨dx, rfl, ed⟩ := (F5 _).dx (by decide)
      exact ⟨_, rfl, e, c 29, dx, _, one, rfl, E5 _, ed, S.cl 29 hk, S.noat 29 hk _ (by decide), rfl, (by show 1 ≤ sizeLine; decide), fun p hp => q p _ ((S5 _).trans (same_new hp _)) upd_same⟩
  have b29 : ¬ 29 = k := fun e => b (decide_eq_true e)
  have z : many k ≠ 1 := not_one k hk b0 b1 b4 b5 b6 b7 b8 b9 b10 b11 b20 b14 b15 b16 b17 b19 b21 b22 b23 b27 b29
  exact ⟨_, rfl, e, k, dd, one, other, rfl, hk, z, E5 _, F5 _, fun p H' s' e' => q p H' ((S5 _).trans s') e'⟩
end
end K5
namespace L2
open PySem PySem.Spec PyProof.Rows
/-! ### a display of written ints -/
def constsOf : List Expr → Option (List Int)
  | [] => some []
  | .Constant (.int n) _ _ :: r => (constsOf r).map (n :: ·)
  | _ => none
def tInts (ns : List Int) : TA := fun _ H Q => Q (ns.map V.int) H
theorem pa_ints {X : Cx} : ∀ {es : List Expr} {ns : List Int}, constsOf es = some ns → PA X es (tInts ns)
  | [], ns, h => by
    cases h
    exact pa_nil
  | e :: es, ns, h => by
    unfold constsOf at h
    split at h
    · rename_i z; cases z
    · rename_i n j pos r z
      injection z with z1 z2
      subst z1 z2
      obtain ⟨ms, h1, h2⟩ := Option.map_eq_some_iff.mp h
      subst h2
      exact pa_cons (te := tC (.int n)) pe_int (pa_ints h1) rfl
    · cases h
end L2
set_option maxHeartbeats 4000000
namespace K5
open PySem L2
def mn : List Int := [1, 1, 0, 2, 1, 1, 1, 1, 1, 1, 1, 1, 2, 2, 1, 1, 1, 1, 2, 1, 1, 1, 1, 1, 0, 0, 0, 1, 2, 1]
theorem at_many : ∀ k, k < 30 → (mn.map V.int)[k]? = some (.int (many k : Nat)) := all30 rfl rfl rfl rfl rfl rfl rfl rfl rfl rfl rfl rfl rfl rfl rfl rfl rfl rfl rfl rfl rfl rfl rfl rfl rfl rfl rfl rfl rfl rfl
section
variable {P : Program} {w : World} {K : PySem.W.Frag} {mg : Str → Option Value} {base : Heap} {c fi : Nat → Addr} {W : Addr} {di : Nat → FuncData} {f : Addr} {fd : FuncData}
def spMf : Sp := fun vs H Q _ => ∃ k : Nat, vs = [.int (k : Nat)] ∧ k < 30 ∧ ∀ H', Same H H' → Q (.int (many k : Nat)) H'
theorem scMf : FnScope ["_law_k"] ["_law_k"] (defScope sMf) := ⟨rfl, rfl, rfl, by decide +kernel, rfl, by decide +kernel, by decide +kernel⟩
theorem body_Mf : ∃ es p1 p2 p3 p4, defBody sMf = [.Return (some (.Subscript (.List es p1) (.Name "_law_k" p2) p3)) p4] ∧ constsOf es = some mn := ⟨_, _, _, _, _, rfl, rfl⟩
theorem ok_Mf (F : Fun K "_law_many_fields" "_law_many_fields" sMf f fd) : FnOk P w K mg base CX0 1 f fd ["_law_k"] spMf false := by
  refine F.ok scMf (fun vs H Q E h => ?_) (fun cdv A outer s H vs Q E hr h => ?_)
  · obtain ⟨k, rfl, _⟩ := h
    rfl
  obtain ⟨k, rfl, hk, q⟩ := h
  obtain ⟨es, p1, p2, p3, p4, hb, hc⟩ := body_Mf
  rw [hb]
  refine ⟨_, pss_one (ps_ret (pe_ix ix_list (pe_lst (pa_ints hc)) (pv 0) (fun _ _ => rfl))), ?_⟩
  exact ⟨(by show 30 ≤ sizeLine; decide), fun p hp => ⟨_, rfl, p, _, _, .int (many k : Nat), rfl, rfl, SqL.of upd_same, atI_nat (at_many k hk), q _ (same_new hp _)⟩⟩
end
end K5
set_option maxHeartbeats 8000000
namespace L2
open PySem
/-- a block over n items where what must hold of the heap is part of the word -/
theorem comp_byG {Gs : Hp → Prop} {J : It} {p : Addr} {tt : TT} {te : TE} {cs : St} {Q : VK} {H1 : Hp} (n : Nat) (Pv : Nat → List V → Hp → Prop) (h0 : Pv 0 [] (upd H1 p (.lst []))) (hG : ∀ i ys H, Pv i ys H → Gs H)
    (hs : ∀ i ys H, i < n → Pv i ys H → J.go i H ∧ ∀ v H3, J.yld i H v H3 → tt (some v :: cs) H3 fun b H4 => if b = true then te (some v :: cs) H4 fun y H5 => H5 p = some (.lst ys) ∧ ys.length < sizeLine ∧ Pv (i + 1) (ys ++ [y]) (upd H5 p (.lst (ys ++ [y]))) else Pv (i + 1) ys H4)
    (hd : ∀ ys H, Pv n ys H → J.stop n H ∧ Q (.ref p) H) : CompWG Gs J p tt te cs Q H1 := by
  refine ⟨fun i m ys H => m = n - i ∧ i ≤ n ∧ Pv i ys H, ⟨n, by simp, Nat.zero_le _, h0⟩, ?_⟩
  rintro i m ys H ⟨rfl, hi, pv⟩
  by_cases hlt : i < n
  · obtain ⟨g, st⟩ := hs i ys H hlt pv
    exact .inr ⟨g, hG i ys H pv, Pv (i + 1), fun ys' H' p' => ⟨n - (i + 1), by omega, rfl, hlt, p'⟩, st⟩
  · have e : i = n := by omega
    subst e
    obtain ⟨a, b⟩ := hd ys H pv
    exact .inl ⟨a, hG _ ys H pv, b⟩
theorem eqV_refl : ∀ {x : V}, flatV x = true → eqV x x = true
  | .non, _ => rfl
  | .bl b, _ => by show (b == b) = true; simp
  | .int n, _ => by show (n == n) = true; simp
  | .str z, _ => by show (z == z) = true; simp
  | .byt _, h => by cases h
  | .flt _, h => by cases h
  | .ref _, h => by cases h
  | .ty _, h => by cases h
theorem eqVs_refl : ∀ {xs : List V}, xs.all flatV = true → eqVs xs xs = true
  | [], _ => rfl
  | x :: xs, h => by
    rw [List.all_cons, Bool.and_eq_true] at h
    show (eqV x x && eqVs xs xs) = true
    rw [eqV_refl h.1, eqVs_refl h.2]
    rfl
end L2
namespace K5
open PySem L2
theorem boot_ve : bootBuiltins "ValueError" = some (.type "ValueError") := by decide +kernel
theorem dec_ik (i k : Nat) : decide (V.int (0 + (i : Int)) = V.int (k : Int)) = decide (i = k) := by
  refine decide_eq_decide.mpr ⟨fun h => ?_, fun h => by rw [h, Int.zero_add]⟩
  injection h with h
  omega
theorem flat_bls (f : Nat → Bool) (l : List Nat) : (l.map fun j => V.bl (f j)).all flatV = true := by
  rw [List.all_map]
  exact List.all_eq_true.mpr fun _ _ => rfl
theorem two30 (f : Nat → V) : (List.range' 0 15).map f ++ (List.range' 15 15).map f = (List.range 30).map f := rfl
theorem many_le : ∀ k, k < 30 → many k ≤ 2 := all30 (by decide) (by decide) (by decide) (by decide) (by decide) (by decide) (by decide) (by decide) (by decide) (by decide) (by decide) (by decide) (by decide) (by decide) (by decide) (by decide) (by decide) (by decide) (by decide) (by decide) (by decide) (by decide) (by decide) (by decide) (by decide) (by decide) (by decide) (by decide) (by decide) (by decide)
theorem cut_two (one other : V) : ∀ n, n ≤ 2 → cutV [one, other] none (some ((n : Nat) : Int)) = [one, other].take n
  | 0, _ => rfl
  | 1, _ => rfl
  | 2, _ => rfl
  | n + 3, h => by omega
section
variable {P : Program} {w : World} {K : PySem.W.Frag} {mg : Str → Option Value} {base : Heap} {c fi : Nat → Addr} {W : Addr} {di : Nat → FuncData} {f : Addr} {fd : FuncData}
def spRig : Sp := fun vs H Q _ => ∃ (k : Nat) (one other : V), vs = [.int (k : Nat), one, other] ∧ k < 30 ∧ flatV one = true ∧ flatV other = true ∧ ∀ H', Same H H' → Q (.bl true) H'
theorem scRig : FnScope ["_law_k", "_law_one", "_law_other", "_law_e", "_law_due"] ["_law_k", "_law_one", "_law_other"] (defScope sRig) := ⟨rfl, rfl, rfl, by decide +kernel, rfl, by decide +kernel, by decide +kernel⟩
theorem ok_Rig (F : Fun K "_law_right" "_law_right" sRig f fd) {fR fA fB fF fM : Addr} {dR dA dB dF dM : FuncData}
    (hRai : Has K mg "_law_raised" sRai ["_law_k", "_law_one", "_law_other"] fR dR) (GRai : FnOk P w K mg base (CXw P w) 4 fR dR ["_law_k", "_law_one", "_law_other"] (spRs c 0 30))
    (hKa : Has K mg "_law_kinds_a" sKa ["_law_e"] fA dA) (GKa : FnOk P w K mg base CX0 1 fA dA ["_law_e"] (spKs c 0) false) (hKb : Has K mg "_law_kinds_b" sKb ["_law_e"] fB dB) (GKb : FnOk P w K mg base CX0 1 fB dB ["_law_e"] (spKs c 15) false)
    (hFf : Has K mg "_law_first_field" sFf ["_law_e"] fF dF) (GFf : FnOk P w K mg base CX0 2 fF dF ["_law_e"] (spFf c) false) (hMf : Has K mg "_law_many_fields" sMf ["_law_k"] fM dM) (GMf : FnOk P w K mg base CX0 1 fM dM ["_law_k"] spMf false)
    (S : Cs K mg c W) (T : Txt mg) : FnOk P w K mg base CX0 5 f fd ["_law_k", "_law_one", "_law_other"] spRig := by
  refine F.ok scRig (fun vs H Q E h => ?_) (fun cdv A outer s H vs Q E hr h => ?_)
  · obtain ⟨k, one, other, rfl, _⟩ := h
    rfl
  obtain ⟨k, one, other, rfl, hk, f1, f2, q⟩ := h
  have hu : (A.deeper (PyProof.Rows.envOfC "_law_right" (defScope sRig) s.heap.objs.size f cdv)).units < cLine := Nat.lt_of_succ_lt (hu_of hr)
  refine ⟨_, pss_cons (ps_try (D := W) (i := 3) (pb_one (pb_expr (px_call GRai hr rfl hRai.nm hRai.fn.kp hRai.bd .nil (pa_cons (pv 0) (pa_cons (pv 1) (pa_cons (pv 2) pa_nil))))))
    (fun ea => pss_cons (
        (ps_setC (i := 4) (Gs := fun H => ∃ C dd, H ea = some (ExcO ea C dd)) (hb := true) (tt := tTrue) (te := tOp rEq (tVar 0) (tVar 1)) (CW := fun J p cs Q H1 => CompWG (fun H => ∃ C dd, H ea = some (ExcO ea C dd)) J p tTrue (tOp rEq (tVar 0) (tVar 1)) cs Q H1) scRig.nd rfl rfl [0] ["_law_k"] (pi_range1 rfl T.rng (pa_cons pe_int pa_nil)) (fun _ _ _ _ _ _ => pts_nil)
          (fun _ _ _ _ _ _ => pe_cmpR op_eq (pv 0) (pv 1) (nomark _)) rfl (by decide +kernel) (by decide +kernel) rfl (by decide +kernel) (fun j y hj => by
            match j, hj with
            | 0, hj => cases hj; exact ⟨0, rfl, rfl, rfl, .inl rfl⟩) rfl (by decide +kernel) (.inr ⟨rfl, fun s H ok ⟨C, dd, e⟩ => hand_q ok e⟩) (fun _ _ _ _ _ h => h)))
      (pss_cons (ps_if (PW.pt (pw_or (pt_cmpR (op_neL hu) (pe_op op_cat (pe_call GKa ((hr.hand ea).mono (by decide)) rfl hKa.nm hKa.fn.kp hKa.bd .nil pass0 (pa_cons (pv 3) pa_nil)) (pe_call GKb ((hr.hand ea).mono (by decide)) rfl hKb.nm hKb.fn.kp hKb.bd .nil pass0 (pa_cons (pv 3) pa_nil))) (pv 4) (nomark _))
          (pw_or1 (pt_not (pt_val (pe_callB call_isinstX rfl T.isi PyProof.Rows.boot_isinstance (pa_cons (pv 3) (pa_cons (pe_bltn (v := .ty "ValueError") rfl T.vae boot_ve rfl) pa_nil))))))))
        (pss_one (ps_ret pe_bl)) pss_nil)
      (pss_one (ps_ret (pe_cmpR (op_eqL hu) (pe_call GFf ((hr.hand ea).mono (by decide)) rfl hFf.nm hFf.fn.kp hFf.bd .nil pass0 (pa_cons (pv 3) pa_nil))
        (pe_slice sl_list (pe_lst (pa_cons (pv 1) (pa_cons (pv 2) pa_nil))) po_none (po_some (pe_call GMf ((hr.hand ea).mono (by decide)) rfl hMf.nm hMf.fn.kp hMf.bd .nil pass0 (pa_cons (pv 0) pa_nil)))) (nomark _))))))
    rfl S.wn S.wo (by simp [tailVE]) scRig.nd rfl rfl) (pss_one (ps_ret pe_bl)), ?_⟩
  refine ⟨_, rfl, _, rfl, _, rfl, k, one, other, rfl, Nat.zero_le _, hk, fun ea dd H1 s1 e1 fo => ⟨ea, c k, wl W, rfl, e1, S.ob k hk, S.kitW hk, ?_⟩⟩
  have dk := fo.dk
  refine ⟨_, rfl, by decide, by decide, fun p hp => ?_⟩
  have np : ea ≠ p := ne_of_none e1 hp
  refine comp_byG 30 (fun i ys H2 => ys = (List.range i).map (fun j => V.bl (decide (j = k))) ∧ H2 = upd H1 p (.lst ys)) ⟨rfl, rfl⟩ (fun i ys H2 h => ⟨c k, dd, by rw [h.2, upd_ne np]; exact e1⟩) ?_ ?_
  · rintro i ys H2 hi ⟨rfl, rfl⟩
    refine ⟨hi, ?_⟩
    rintro v H3 ⟨rfl, rfl⟩
    refine ttT ?_
    refine ⟨_, rfl, _, rfl, rfl, upd_same, ?_, ?_, upd_upd⟩
    · rw [List.length_map, List.length_range]
      exact small (by omega)
    · rw [List.range_succ, List.map_append, dec_ik]
      rfl
  rintro ys H2 ⟨rfl, rfl⟩
  refine ⟨Nat.le_refl _, ?_⟩
  have s2 := same_new hp (HO.lst ((List.range 30).map fun j => V.bl (decide (j = k))))
  have ed : upd H1 p (HO.lst ((List.range 30).map fun j => V.bl (decide (j = k)))) p = some (.lst ((List.range 30).map fun j => V.bl (decide (j = k)))) := upd_same
  generalize upd H1 p (HO.lst ((List.range 30).map fun j => V.bl (decide (j = k)))) = H2 at s2 ed
  have e2 := s2 _ _ e1
  have d2 := Dk.mono s2 dk
  refine ⟨_, rfl, ea, k, dd, rfl, hk, e2, d2, fun pa H3 s3 e3 => ?_⟩
  refine ⟨_, rfl, ea, k, dd, rfl, hk, s3 _ _ e2, Dk.mono s3 d2, fun pb H4 s4 e4 => ?_⟩
  refine ⟨pa, pb, _, _, rfl, rfl, s4 _ _ e3, e4, (by show 30 ≤ sizeLine; decide), fun pc hpc => ?_⟩
  have s5 := same_new hpc (HO.lst ((List.range' 0 15).map (fun j => V.bl (decide (j = k))) ++ (List.range' 15 15).map (fun j => V.bl (decide (j = k)))))
  have e5 := (s3.trans (s4.trans s5)) _ _ ed
  refine ⟨_, rfl, pc, p, _, _, rfl, rfl, SqL.of upd_same, SqL.of e5, by rw [two30]; exact flat_bls _ _, flat_bls _ _, _, rfl, ?_⟩
  rw [two30, eqVs_refl (flat_bls _ _)]
  refine iteF ?_
  have s25 := s3.trans (s4.trans s5)
  refine ⟨_, rfl, ea, c k, dd, .ty "ValueError", .type "ValueError", true, rfl, s25 _ _ e2, Dk.mono s25 d2, S.cl k hk, rfl, (fun u r => r), kit_ve (S.ob k hk), _, rfl, iteF ?_⟩
  have fo5 := (fo.mono s2).mono s25
  refine ⟨_, rfl, ea, k, dd, one, other, rfl, hk, s25 _ _ e2, fo5, fun pf H6 s6 e6 => ?_⟩
  refine ⟨_, rfl, _, rfl, (by show 2 ≤ sizeLine; decide), fun pl hpl => ?_⟩
  refine ⟨_, rfl, k, rfl, hk, fun H7 s7 => ⟨_, rfl, pl, _, rfl, SqL.of (s7 _ _ upd_same), fun ps hps => ?_⟩⟩
  have s67 := (same_new hpl (HO.lst [one, other])).trans s7
  have fl2 : ([one, other].take (many k)).all flatV = true := List.all_eq_true.mpr fun x hx => by
    have := List.mem_of_mem_take hx
    rcases List.mem_cons.mp this with rfl | this
    · exact f1
    · rw [List.mem_singleton.mp this]; exact f2
  have ec := cut_two one other (many k) (many_le k hk)
  refine ⟨pf, ps, _, _, rfl, rfl, SqL.of (s67.trans (same_new hps _) _ _ e6), SqL.of upd_same, fl2, by rw [ec]; exact fl2, ?_⟩
  show Q (.bl (eqVs _ _)) _
  rw [ec, eqVs_refl fl2]
  exact q _ (s1.trans (s2.trans (s25.trans (s6.trans (s67.trans (same_new hps _))))))
end
end K5
set_option maxHeartbeats 8000000
namespace K5
open PySem L2
theorem big40 : (0 : Int) < 10 ^ (40 : Int).toNat := by decide +kernel
theorem la2 : (Str.ofString "a/").length = 2 := by decide +kernel
section
variable {P : Program} {w : World} {K : PySem.W.Frag} {mg : Str → Option Value} {base : Heap}
def spLaw (K : PySem.W.Frag) : Sp := fun vs H Q _ => ∃ (a : Addr) (ns : List Int), vs = [.ref a] ∧ SqL K H a (ns.map V.int) ∧ ns.length ≤ 63 ∧ ∀ H', Q (.bl true) H'
theorem scLaw : FnScope ["_law_script", "_law_k", "_law_cell", "_law_one", "_law_other"] ["_law_script"] (defScope sLaw) := ⟨rfl, rfl, rfl, by decide +kernel, rfl, by decide +kernel, by decide +kernel⟩
theorem ok_law {f fR : Addr} {fd dR : FuncData} (F : Fun K "law" "law" sLaw f fd) (hRig : Has K mg "_law_right" sRig ["_law_k", "_law_one", "_law_other"] fR dR) (GRig : FnOk P w K mg base CX0 5 fR dR ["_law_k", "_law_one", "_law_other"] spRig) (T : Txt mg) :
    FnOk P w K mg base CX0 6 f fd ["_law_script"] (spLaw K) := by
  refine F.ok scLaw (fun vs H Q E h => ?_) (fun cdv A outer s H vs Q E hr h => ?_)
  · obtain ⟨a, ns, rfl, _⟩ := h
    rfl
  obtain ⟨a, ns, rfl, hS, h63, q⟩ := h
  refine ⟨_, (pss_cons (ps_for PassesOwn.never rfl (pi_range1 rfl T.rng (pa_cons pe_int pa_nil)) (pg_name (i := 1) scLaw.nd rfl (Or.inl rfl))
    (pss_one (ps_if (pt_not (pt_val (pe_call GRig (hr.mono (by decide)) rfl hRig.nm hRig.fn.kp hRig.bd .nil pass0 (pa_cons (pv 1) (pa_cons (pv 1) (pa_cons pe_str pa_nil))))))
    (pss_one (ps_ret pe_bl))
    pss_nil)))
    (pss_cons (ps_for PassesOwn.never rfl (pi_list (pe_slice sl_list (pv 0) po_none (po_some pe_int))) (pg_name (i := 2) scLaw.nd rfl (Or.inl rfl))
    (pss_cons (ps_set (i := 3) scLaw.nd rfl (Or.inl rfl) (pe_op op_mod (pv 2) (pe_op op_pow pe_int pe_int)))
    (pss_cons (ps_set (i := 4) scLaw.nd rfl (Or.inl rfl) (pe_ix ix_list (pe_lst (pa_cons (pe_op op_add_str pe_str (pe_callTy call_str_int rfl T.str PyProof.Rows.boot_str (pa_cons (pe_op op_mod (pv 2) pe_int) pa_nil))) (pa_cons (pe_op op_mod (pe_op op_fdiv (pv 2) pe_int) pe_int) pa_nil))) (pe_op op_mod (pv 2) pe_int) (fun _ _ => rfl)))
    (pss_one (ps_if (PW.pt (pw_or (pt_not (pt_val (pe_call GRig (hr.mono (by decide)) rfl hRig.nm hRig.fn.kp hRig.bd .nil pass0 (pa_cons (pe_op op_mod (pv 2) pe_int) (pa_cons (pv 3) (pa_cons (pv 4) pa_nil)))))) (pw_or1 (pt_not (pt_val (pe_call GRig (hr.mono (by decide)) rfl hRig.nm hRig.fn.kp hRig.bd .nil pass0 (pa_cons (pe_op op_mod (pv 2) pe_int) (pa_cons (pv 4) (pa_cons (pv 3) pa_nil)))))))))
    (pss_one (ps_ret pe_bl))
    pss_nil)))))
    (pss_one (ps_ret pe_bl)))), ?_⟩
  refine ⟨_, rfl, by decide, by decide, ?_⟩
  refine for_range (lo := 0) (fun i σ H2 => ∃ o, σ = [some (.ref a), o, none, none, none] ∧ Same H H2) ⟨none, rfl, Same.refl H⟩ ?_ ?_
  · rintro i σ H2 hi ⟨o, rfl, s2⟩
    have hi' : i < 30 := hi
    exact ⟨_, rfl, _, rfl, i, .int (i : Nat), .str (Str.ofString "x"), by rw [Int.zero_add]; rfl, hi', rfl, rfl, fun H3 s3 => ⟨_, rfl, iteF ⟨_, rfl, s2.trans s3⟩⟩⟩
  rintro σ H2 ⟨o, rfl, s2⟩
  refine ⟨_, rfl, _, rfl, a, _, rfl, s2.seq hS, fun p hp => ?_⟩
  refine ⟨p, rfl, ⟨_, SqL.of upd_same⟩, for_list (K := K) (a := p) (xs := cutV (ns.map V.int) none (some 15)) (fun i σ H3 => ∃ o2 o3 o4, σ = [some (.ref a), o, o2, o3, o4] ∧ Same (upd H2 p (HO.lst (cutV (ns.map V.int) none (some 15)))) H3)
    ⟨none, none, none, rfl, Same.refl _⟩ (fun i σ H3 _ ⟨_, _, _, _, s3⟩ => SqL.of (s3 _ _ upd_same)) ?_ ?_⟩
  · rintro i x σ H3 hi ⟨o2, o3, o4, rfl, s3⟩
    obtain ⟨c, rfl⟩ := cut_mem hi
    refine ⟨_, rfl, _, _, rfl, rfl, ⟨by decide, by decide, by decide⟩, _, _, rfl, rfl, big40, ?_⟩
    have z0 : (0 : Int) ≤ c % 1000 := by omega
    have z1 : c % 1000 < 1000 := by omega
    have zl : (c % 1000).natAbs.log2 < 1920 := by
      have h2 : (c % 1000).natAbs < 1024 := by omega
      generalize (c % 1000).natAbs = m at h2
      rcases Nat.eq_zero_or_pos m with h | h
      · rw [h]; decide
      · exact Nat.lt_trans ((Nat.log2_lt (by omega)).mpr (Nat.lt_trans h2 (by decide : 1024 < 2 ^ 11))) (by decide)
    have ln := PyProof.Rows.int_text_len_1921 zl
    refine ⟨_, rfl, _, _, rfl, rfl, (by show (0 : Int) < 1000; decide), _, rfl, zl, _, _, rfl, rfl, Nat.le_of_lt (small (by rw [la2]; omega)), ?_⟩
    refine ⟨_, rfl, _, _, rfl, rfl, ⟨by decide, by decide⟩, _, _, rfl, rfl, (by show (0 : Int) < 60; decide), (by show 2 ≤ sizeLine; decide), fun pl hpl => ?_⟩
    refine ⟨_, rfl, _, _, rfl, rfl, (by show (0 : Int) < 2; decide), ?_⟩
    have s4 := same_new hpl (HO.lst [V.str (Str.ofString "a/" ++ Str.ofString (toString (c % 1000))), V.int (c / 2 % 60)])
    have k0 : (0 : Int) ≤ c % 30 := by omega
    have k1 : c % 30 < 30 := by omega
    have ek : c % 30 = (((c % 30).toNat : Nat) : Int) := by omega
    obtain e | e : c % 2 = 0 ∨ c % 2 = 1 := by omega
    · refine ⟨pl, _, _, V.str (Str.ofString "a/" ++ Str.ofString (toString (c % 1000))), rfl, rfl, SqL.of upd_same, (by rw [e]; rfl), ?_⟩
      refine ⟨_, rfl, _, _, rfl, rfl, (by show (0 : Int) < 30; decide), _, rfl, _, rfl, (c % 30).toNat, _, _, by rw [← ek]; rfl, by omega, rfl, rfl, fun H5 s5 => ⟨_, rfl, iteF ?_⟩⟩
      exact ⟨_, rfl, _, _, rfl, rfl, (by show (0 : Int) < 30; decide), _, rfl, _, rfl, (c % 30).toNat, _, _, by rw [← ek]; rfl, by omega, rfl, rfl, fun H6 s6 => ⟨_, rfl, iteF ⟨_, _, _, rfl, s3.trans (s4.trans (s5.trans s6))⟩⟩⟩
    · refine ⟨pl, _, _, V.int (c / 2 % 60), rfl, rfl, SqL.of upd_same, (by rw [e]; rfl), ?_⟩
      refine ⟨_, rfl, _, _, rfl, rfl, (by show (0 : Int) < 30; decide), _, rfl, _, rfl, (c % 30).toNat, _, _, by rw [← ek]; rfl, by omega, rfl, rfl, fun H5 s5 => ⟨_, rfl, iteF ?_⟩⟩
      exact ⟨_, rfl, _, _, rfl, rfl, (by show (0 : Int) < 30; decide), _, rfl, _, rfl, (c % 30).toNat, _, _, by rw [← ek]; rfl, by omega, rfl, rfl, fun H6 s6 => ⟨_, rfl, iteF ⟨_, _, _, rfl, s3.trans (s4.trans (s5.trans s6))⟩⟩⟩
  rintro σ H3 ⟨o2, o3, o4, rfl, s3⟩
  exact q H3
end
end K5
set_option maxHeartbeats 8000000
namespace K5
open PySem L2
section
variable {P : Program} {w : World} {K : PySem.W.Frag} {mg : Str → Option Value} {base : Heap} {c fi : Nat → Addr} {W : Addr} {di : Nat → FuncData} {f : Addr} {fd : FuncData}
theorem scRb : FnScope ["_law_k", "_law_one", "_law_other"] ["_law_k", "_law_one", "_law_other"] (defScope sRb) := ⟨rfl, rfl, rfl, by decide +kernel, rfl, by decide +kernel, by decide +kernel⟩
theorem ok_Rb (F : Fun K "_law_raise_b" "_law_raise_b" sRb f fd) (S : Cs K mg c W) (I : Inis K mg c W fi di) (J : InG P w K mg base c fi di) : FnOk P w K mg base (CXw P w) 3 f fd ["_law_k", "_law_one", "_law_other"] (spRs c 8 16) := by
  refine F.okX scRb (fun vs H Q E h => ?_) (fun cdv A outer s H vs Q E hr h => ?_)
  · obtain ⟨k, one, other, rfl, _⟩ := h
    rfl
  obtain ⟨k, one, other, rfl, h1, h2, u⟩ := h
  have hlv : Leaves (cxOf (CXw P w) P w K mg base ["_law_k", "_law_one", "_law_other"] "_law_raise_b" (defScope sRb) f cdv A outer s H E) E := leaves_fn
  refine ⟨_, (pss_cons (ps_if (pt_cmpR op_eq (pv 0) pe_int (nomark _))
    (pss_one (ps_raise (S.ob 8 (by decide)) (wl_be W) hr.hd hlv (pe_exc I.i8.xm J.g8 (hr.mono (by decide)) rfl (S.nm 8 (by decide)) I.i8.bd .nil pass0 (pa_cons (pv 1) pa_nil))))
    pss_nil)
    (pss_cons (ps_if (pt_cmpR op_eq (pv 0) pe_int (nomark _))
    (pss_one (ps_raise (S.ob 9 (by decide)) (wl_be W) hr.hd hlv (pe_exc I.i9.xm J.g9 (hr.mono (by decide)) rfl (S.nm 9 (by decide)) I.i9.bd .nil pass0 (pa_cons (pv 1) pa_nil))))
    pss_nil)
    (pss_cons (ps_if (pt_cmpR op_eq (pv 0) pe_int (nomark _))
    (pss_one (ps_raise (S.ob 10 (by decide)) (wl_be W) hr.hd hlv (pe_exc I.i10.xm J.g10 (hr.mono (by decide)) rfl (S.nm 10 (by decide)) I.i10.bd .nil pass0 (pa_cons (pv 1) pa_nil))))
    pss_nil)
    (pss_cons (ps_if (pt_cmpR op_eq (pv 0) pe_int (nomark _))
    (pss_one (ps_raise (S.ob 11 (by decide)) (wl_be W) hr.hd hlv (pe_exc I.i11.xm J.g11 (hr.mono (by decide)) rfl (S.nm 11 (by decide)) I.i11.bd .nil pass0 (pa_cons (pv 1) pa_nil))))
    pss_nil)
    (pss_cons (ps_if (pt_cmpR op_eq (pv 0) pe_int (nomark _))
    (pss_one (ps_raise (S.ob 12 (by decide)) (wl_be W) hr.hd hlv (pe_exc I.i12.xm J.g12 (hr.mono (by decide)) rfl (S.nm 12 (by decide)) I.i12.bd .nil pass0 (pa_cons (pv 1) (pa_cons (pv 2) pa_nil)))))
    pss_nil)
    (pss_cons (ps_if (pt_cmpR op_eq (pv 0) pe_int (nomark _))
    (pss_one (ps_raise (S.ob 13 (by decide)) (wl_be W) hr.hd hlv (pe_exc I.i13.xm J.g13 (hr.mono (by decide)) rfl (S.nm 13 (by decide)) I.i13.bd .nil pass0 (pa_cons (pv 1) (pa_cons (pv 2) pa_nil)))))
    pss_nil)
    (pss_cons (ps_if (pt_cmpR op_eq (pv 0) pe_int (nomark _))
    (pss_one (ps_raise (S.ob 14 (by decide)) (wl_be W) hr.hd hlv (pe_exc I.i14.xm J.g14 (hr.mono (by decide)) rfl (S.nm 14 (by decide)) I.i14.bd .nil pass0 (pa_cons (pv 1) pa_nil))))
    pss_nil)
    (pss_one (ps_raise (S.ob 15 (by decide)) (wl_be W) hr.hd hlv (pe_exc I.i15.xm J.g15 (hr.mono (by decide)) rfl (S.nm 15 (by decide)) I.i15.bd .nil pass0 (pa_cons (pv 1) pa_nil))))))))))), ?_⟩
  obtain rfl | rfl | rfl | rfl | rfl | rfl | rfl | rfl : k = 8 ∨ k = 9 ∨ k = 10 ∨ k = 11 ∨ k = 12 ∨ k = 13 ∨ k = 14 ∨ k = 15 := by omega
  · exact ⟨_, rfl, rfl, _, rfl, iteY (by decide) (⟨_, rfl, fun e he => up1 u rfl he⟩)⟩
  · refine ⟨_, rfl, rfl, _, rfl, iteN (by decide) ?_⟩
    exact ⟨_, rfl, rfl, _, rfl, iteY (by decide) (⟨_, rfl, fun e he => up1 u rfl he⟩)⟩
  · refine ⟨_, rfl, rfl, _, rfl, iteN (by decide) ?_⟩
    refine ⟨_, rfl, rfl, _, rfl, iteN (by decide) ?_⟩
    exact ⟨_, rfl, rfl, _, rfl, iteY (by decide) (⟨_, rfl, fun e he => up1 u rfl he⟩)⟩
  · refine ⟨_, rfl, rfl, _, rfl, iteN (by decide) ?_⟩
    refine ⟨_, rfl, rfl, _, rfl, iteN (by decide) ?_⟩
    refine ⟨_, rfl, rfl, _, rfl, iteN (by decide) ?_⟩
    exact ⟨_, rfl, rfl, _, rfl, iteY (by decide) (⟨_, rfl, fun e he => up1 u rfl he⟩)⟩
  · refine ⟨_, rfl, rfl, _, rfl, iteN (by decide) ?_⟩
    refine ⟨_, rfl, rfl, _, rfl, iteN (by decide) ?_⟩
    refine ⟨_, rfl, rfl, _, rfl, iteN (by decide) ?_⟩
    refine ⟨_, rfl, rfl, _, rfl, iteN (by decide) ?_⟩
    exact ⟨_, rfl, rfl, _, rfl, iteY (by decide) (⟨_, rfl, _, rfl, fun e he => up2 u rfl he⟩)⟩
  · refine ⟨_, rfl, rfl, _, rfl, iteN (by decide) ?_⟩
    refine ⟨_, rfl, rfl, _, rfl, iteN (by decide) ?_⟩
    refine ⟨_, rfl, rfl, _, rfl, iteN (by decide) ?_⟩
    refine ⟨_, rfl, rfl, _, rfl, iteN (by decide) ?_⟩
    refine ⟨_, rfl, rfl, _, rfl, iteN (by decide) ?_⟩
    exact ⟨_, rfl, rfl, _, rfl, iteY (by decide) (⟨_, rfl, _, rfl, fun e he => up2 u rfl he⟩)⟩
  · refine ⟨_, rfl, rfl, _, rfl, iteN (by decide) ?_⟩
    refine ⟨_, rfl, rfl, _, rfl, iteN (by decide) ?_⟩
    refine ⟨_, rfl, rfl, _, rfl, iteN (by decide) ?_⟩
    refine ⟨_, rfl, rfl, _, rfl, iteN (by decide) ?_⟩
    refine ⟨_, rfl, rfl, _, rfl, iteN (by decide) ?_⟩
    refine ⟨_, rfl, rfl, _, rfl, iteN (by decide) ?_⟩
    exact ⟨_, rfl, rfl, _, rfl, iteY (by decide) (⟨_, rfl, fun e he => up1 u rfl he⟩)⟩
  · refine ⟨_, rfl, rfl, _, rfl, iteN (by decide) ?_⟩
    refine ⟨_, rfl, rfl, _, rfl, iteN (by decide) ?_⟩
    refine ⟨_, rfl, rfl, _, rfl, iteN (by decide) ?_⟩
    refine ⟨_, rfl, rfl, _, rfl, iteN (by decide) ?_⟩
    refine ⟨_, rfl, rfl, _, rfl, iteN (by decide) ?_⟩
    refine ⟨_, rfl, rfl, _, rfl, iteN (by decide) ?_⟩
    refine ⟨_, rfl, rfl, _, rfl, iteN (by decide) ?_⟩
    exact ⟨_, rfl, fun e he => up1 u rfl he⟩
end
end K5
set_option maxHeartbeats 8000000
namespace K5
open PySem L2
section
variable {P : Program} {w : World} {K : PySem.W.Frag} {mg : Str → Option Value} {base : Heap} {c fi : Nat → Addr} {W : Addr} {di : Nat → FuncData} {f : Addr} {fd : FuncData}
theorem scRc : FnScope ["_law_k", "_law_one", "_law_other"] ["_law_k", "_law_one", "_law_other"] (defScope sRc) := ⟨rfl, rfl, rfl, by decide +kernel, rfl, by decide +kernel, by decide +kernel⟩
theorem ok_Rc (F : Fun K "_law_raise_c" "_law_raise_c" sRc f fd) (S : Cs K mg c W) (I : Inis K mg c W fi di) (J : InG P w K mg base c fi di) : FnOk P w K mg base (CXw P w) 3 f fd ["_law_k", "_law_one", "_law_other"] (spRs c 16 24) := by
  refine F.okX scRc (fun vs H Q E h => ?_) (fun cdv A outer s H vs Q E hr h => ?_)
  · obtain ⟨k, one, other, rfl, _⟩ := h
    rfl
  obtain ⟨k, one, other, rfl, h1, h2, u⟩ := h
  have hlv : Leaves (cxOf (CXw P w) P w K mg base ["_law_k", "_law_one", "_law_other"] "_law_raise_c" (defScope sRc) f cdv A outer s H E) E := leaves_fn
  refine ⟨_, (pss_cons (ps_if (pt_cmpR op_eq (pv 0) pe_int (nomark _))
    (pss_one (ps_raise (S.ob 16 (by decide)) (wl_be W) hr.hd hlv (pe_exc I.i16.xm J.g16 (hr.mono (by decide)) rfl (S.nm 16 (by decide)) I.i16.bd .nil pass0 (pa_cons (pv 1) pa_nil))))
    pss_nil)
    (pss_cons (ps_if (pt_cmpR op_eq (pv 0) pe_int (nomark _))
    (pss_one (ps_raise (S.ob 17 (by decide)) (wl_be W) hr.hd hlv (pe_exc I.i17.xm J.g17 (hr.mono (by decide)) rfl (S.nm 17 (by decide)) I.i17.bd .nil pass0 (pa_cons (pv 1) pa_nil))))
    pss_nil)
    (pss_cons (ps_if (pt_cmpR op_eq (pv 0) pe_int (nomark _))
    (pss_one (ps_raise (S.ob 18 (by decide)) (wl_be W) hr.hd hlv (pe_exc I.i18.xm J.g18 (hr.mono (by decide)) rfl (S.nm 18 (by decide)) I.i18.bd .nil pass0 (pa_cons (pv 1) (pa_cons (pv 2) pa_nil)))))
    pss_nil)
    (pss_cons (ps_if (pt_cmpR op_eq (pv 0) pe_int (nomark _))
    (pss_one (ps_raise (S.ob 19 (by decide)) (wl_be W) hr.hd hlv (pe_exc I.i19.xm J.g19 (hr.mono (by decide)) rfl (S.nm 19 (by decide)) I.i19.bd .nil pass0 (pa_cons (pv 1) pa_nil))))
    pss_nil)
    (pss_cons (ps_if (pt_cmpR op_eq (pv 0) pe_int (nomark _))
    (pss_one (ps_raise (S.ob 20 (by decide)) (wl_be W) hr.hd hlv (pe_exc I.i20.xm J.g20 (hr.mono (by decide)) rfl (S.nm 20 (by decide)) I.i20.bd .nil pass0 (pa_cons (pv 1) pa_nil))))
    pss_nil)
    (pss_cons (ps_if (pt_cmpR op_eq (pv 0) pe_int (nomark _))
    (pss_one (ps_raise (S.ob 21 (by decide)) (wl_be W) hr.hd hlv (pe_exc I.i21.xm J.g21 (hr.mono (by decide)) rfl (S.nm 21 (by decide)) I.i21.bd .nil pass0 (pa_cons (pv 1) pa_nil))))
    pss_nil)
    (pss_cons (ps_if (pt_cmpR op_eq (pv 0) pe_int (nomark _))
    (pss_one (ps_raise (S.ob 22 (by decide)) (wl_be W) hr.hd hlv (pe_exc I.i22.xm J.g22 (hr.mono (by decide)) rfl (S.nm 22 (by decide)) I.i22.bd .nil pass0 (pa_cons (pv 1) pa_nil))))
    pss_nil)
    (pss_one (ps_raise (S.ob 23 (by decide)) (wl_be W) hr.hd hlv (pe_exc I.i23.xm J.g23 (hr.mono (by decide)) rfl (S.nm 23 (by decide)) I.i23.bd .nil pass0 (pa_cons (pv 1) pa_nil))))))))))), ?_⟩
  obtain rfl | rfl | rfl | rfl | rfl | rfl | rfl | rfl : k = 16 ∨ k = 17 ∨ k = 18 ∨ k = 19 ∨ k = 20 ∨ k = 21 ∨ k = 22 ∨ k = 23 := by omega
  · exact ⟨_, rfl, rfl, _, rfl, iteY (by decide) (⟨_, rfl, fun e he => up1 u rfl he⟩)⟩
  · refine ⟨_, rfl, rfl, _, rfl, iteN (by decide) ?_⟩
    exact ⟨_, rfl, rfl, _, rfl, iteY (by decide) (⟨_, rfl, fun e he => up1 u rfl he⟩)⟩
  · refine ⟨_, rfl, rfl, _, rfl, iteN (by decide) ?_⟩
    refine ⟨_, rfl, rfl, _, rfl, iteN (by decide) ?_⟩
    exact ⟨_, rfl, rfl, _, rfl, iteY (by decide) (⟨_, rfl, _, rfl, fun e he => up2 u rfl he⟩)⟩
  · refine ⟨_, rfl, rfl, _, rfl, iteN (by decide) ?_⟩
    refine ⟨_, rfl, rfl, _, rfl, iteN (by decide) ?_⟩
    refine ⟨_, rfl, rfl, _, rfl, iteN (by decide) ?_⟩
    exact ⟨_, rfl, rfl, _, rfl, iteY (by decide) (⟨_, rfl, fun e he => up1 u rfl he⟩)⟩
  · refine ⟨_, rfl, rfl, _, rfl, iteN (by decide) ?_⟩
    refine ⟨_, rfl, rfl, _, rfl, iteN (by decide) ?_⟩
    refine ⟨_, rfl, rfl, _, rfl, iteN (by decide) ?_⟩
    refine ⟨_, rfl, rfl, _, rfl, iteN (by decide) ?_⟩
    exact ⟨_, rfl, rfl, _, rfl, iteY (by decide) (⟨_, rfl, fun e he => up1 u rfl he⟩)⟩
  · refine ⟨_, rfl, rfl, _, rfl, iteN (by decide) ?_⟩
    refine ⟨_, rfl, rfl, _, rfl, iteN (by decide) ?_⟩
    refine ⟨_, rfl, rfl, _, rfl, iteN (by decide) ?_⟩
    refine ⟨_, rfl, rfl, _, rfl, iteN (by decide) ?_⟩
    refine ⟨_, rfl, rfl, _, rfl, iteN (by decide) ?_⟩
    exact ⟨_, rfl, rfl, _, rfl, iteY (by decide) (⟨_, rfl, fun e he => up1 u rfl he⟩)⟩
  · refine ⟨_, rfl, rfl, _, rfl, iteN (by decide) ?_⟩
    refine ⟨_, rfl, rfl, _, rfl, iteN (by decide) ?_⟩
    refine ⟨_, rfl, rfl, _, rfl, iteN (by decide) ?_⟩
    refine ⟨_, rfl, rfl, _, rfl, iteN (by decide) ?_⟩
    refine ⟨_, rfl, rfl, _, rfl, iteN (by decide) ?_⟩
    refine ⟨_, rfl, rfl, _, rfl, iteN (by decide) ?_⟩
    exact ⟨_, rfl, rfl, _, rfl, iteY (by decide) (⟨_, rfl, fun e he => up1 u rfl he⟩)⟩
  · refine ⟨_, rfl, rfl, _, rfl, iteN (by decide) ?_⟩
    refine ⟨_, rfl, rfl, _, rfl, iteN (by decide) ?_⟩
    refine ⟨_, rfl, rfl, _, rfl, iteN (by decide) ?_⟩
    refine ⟨_, rfl, rfl, _, rfl, iteN (by decide) ?_⟩
    refine ⟨_, rfl, rfl, _, rfl, iteN (by decide) ?_⟩
    refine ⟨_, rfl, rfl, _, rfl, iteN (by decide) ?_⟩
    refine ⟨_, rfl, rfl, _, rfl, iteN (by decide) ?_⟩
    exact ⟨_, rfl, fun e he => up1 u rfl he⟩
end
end K5
set_option maxHeartbeats 8000000
namespace K5
open PySem L2
section
variable {P : Program} {w : World} {K : PySem.W.Frag} {mg : Str → Option Value} {base : Heap} {c fi : Nat → Addr} {W : Addr} {di : Nat → FuncData} {f : Addr} {fd : FuncData}
theorem scRd : FnScope ["_law_k", "_law_one", "_law_other"] ["_law_k", "_law_one", "_law_other"] (defScope sRd) := ⟨rfl, rfl, rfl, by decide +kernel, rfl, by decide +kernel, by decide +kernel⟩
theorem ok_Rd (F : Fun K "_law_raise_d" "_law_raise_d" sRd f fd) (S : Cs K mg c W) (I : Inis K mg c W fi di) (J : InG P w K mg base c fi di) : FnOk P w K mg base (CXw P w) 3 f fd ["_law_k", "_law_one", "_law_other"] (spRs c 24 30) := by
  refine F.okX scRd (fun vs H Q E h => ?_) (fun cdv A outer s H vs Q E hr h => ?_)
  · obtain ⟨k, one, other, rfl, _⟩ := h
    rfl
  obtain ⟨k, one, other, rfl, h1, h2, u⟩ := h
  have hlv : Leaves (cxOf (CXw P w) P w K mg base ["_law_k", "_law_one", "_law_other"] "_law_raise_d" (defScope sRd) f cdv A outer s H E) E := leaves_fn
  refine ⟨_, (pss_cons (ps_if (pt_cmpR op_eq (pv 0) pe_int (nomark _))
    (pss_one (ps_raise (S.ob 24 (by decide)) (wl_be W) hr.hd hlv (pe_exc0 I.z24 rfl (S.nm 24 (by decide)))))
    pss_nil)
    (pss_cons (ps_if (pt_cmpR op_eq (pv 0) pe_int (nomark _))
    (pss_one (ps_raise (S.ob 25 (by decide)) (wl_be W) hr.hd hlv (pe_exc0 I.z25 rfl (S.nm 25 (by decide)))))
    pss_nil)
    (pss_cons (ps_if (pt_cmpR op_eq (pv 0) pe_int (nomark _))
    (pss_one (ps_raise (S.ob 26 (by decide)) (wl_be W) hr.hd hlv (pe_exc0 I.z26 rfl (S.nm 26 (by decide)))))
    pss_nil)
    (pss_cons (ps_if (pt_cmpR op_eq (pv 0) pe_int (nomark _))
    (pss_one (ps_raise (S.ob 27 (by decide)) (wl_be W) hr.hd hlv (pe_exc I.i27.xm J.g27 (hr.mono (by decide)) rfl (S.nm 27 (by decide)) I.i27.bd .nil pass0 (pa_cons (pv 1) pa_nil))))
    pss_nil)
    (pss_cons (ps_if (pt_cmpR op_eq (pv 0) pe_int (nomark _))
    (pss_one (ps_raise (S.ob 28 (by decide)) (wl_be W) hr.hd hlv (pe_exc I.i28.xm J.g28 (hr.mono (by decide)) rfl (S.nm 28 (by decide)) I.i28.bd .nil pass0 (pa_cons (pv 1) (pa_cons (pv 2) pa_nil)))))
    pss_nil)
    (pss_one (ps_raise (S.ob 29 (by decide)) (wl_be W) hr.hd hlv (pe_exc I.i29.xm J.g29 (hr.mono (by decide)) rfl (S.nm 29 (by decide)) I.i29.bd .nil pass0 (pa_cons (pv 1) pa_nil))))))))), ?_⟩
  obtain rfl | rfl | rfl | rfl | rfl | rfl : k = 24 ∨ k = 25 ∨ k = 26 ∨ k = 27 ∨ k = 28 ∨ k = 29 := by omega
  · exact ⟨_, rfl, rfl, _, rfl, iteY (by decide) (fun e he => up0 u rfl he)⟩
  · refine ⟨_, rfl, rfl, _, rfl, iteN (by decide) ?_⟩
    exact ⟨_, rfl, rfl, _, rfl, iteY (by decide) (fun e he => up0 u rfl he)⟩
  · refine ⟨_, rfl, rfl, _, rfl, iteN (by decide) ?_⟩
    refine ⟨_, rfl, rfl, _, rfl, iteN (by decide) ?_⟩
    exact ⟨_, rfl, rfl, _, rfl, iteY (by decide) (fun e he => up0 u rfl he)⟩
  · refine ⟨_, rfl, rfl, _, rfl, iteN (by decide) ?_⟩
    refine ⟨_, rfl, rfl, _, rfl, iteN (by decide) ?_⟩
    refine ⟨_, rfl, rfl, _, rfl, iteN (by decide) ?_⟩
    exact ⟨_, rfl, rfl, _, rfl, iteY (by decide) (⟨_, rfl, fun e he => up1 u rfl he⟩)⟩
  · refine ⟨_, rfl, rfl, _, rfl, iteN (by decide) ?_⟩
    refine ⟨_, rfl, rfl, _, rfl, iteN (by decide) ?_⟩
    refine ⟨_, rfl, rfl, _, rfl, iteN (by decide) ?_⟩
    refine ⟨_, rfl, rfl, _, rfl, iteN (by decide) ?_⟩
    exact ⟨_, rfl, rfl, _, rfl, iteY (by decide) (⟨_, rfl, _, rfl, fun e he => up2 u rfl he⟩)⟩
  · refine ⟨_, rfl, rfl, _, rfl, iteN (by decide) ?_⟩
    refine ⟨_, rfl, rfl, _, rfl, iteN (by decide) ?_⟩
    refine ⟨_, rfl, rfl, _, rfl, iteN (by decide) ?_⟩
    refine ⟨_, rfl, rfl, _, rfl, iteN (by decide) ?_⟩
    refine ⟨_, rfl, rfl, _, rfl, iteN (by decide) ?_⟩
    exact ⟨_, rfl, fun e he => up1 u rfl he⟩
end
end K5
set_option maxHeartbeats 8000000
namespace K5
open PySem L2
theorem getD_at {l : List Addr} {k : Nat} (hk : k < l.length) : l.getD k 0 = l[k] := by simp [List.getD, List.getElem?_eq_getElem hk]
theorem getD_mem {l : List Addr} {k : Nat} (hk : k < l.length) : l.getD k 0 ∈ l := by rw [getD_at hk]; exact List.getElem_mem hk
theorem getD_inj {l : List Addr} (nd : l.Nodup) {k j : Nat} (hk : k < l.length) (hj : j < l.length) (e : l.getD k 0 = l.getD j 0) : k = j := by
  rw [getD_at hk, getD_at hj] at e
  have p := List.pairwise_iff_getElem.mp nd
  rcases Nat.lt_trichotomy k j with h | h | h
  · exact absurd e (p k j hk hj h)
  · exact h
  · exact absurd e.symm (p j k hj hk h)
theorem all_mk {l : PySem.W.OpenLaw} {w : World} {K : PySem.W.Frag} {h : Heap} {mg : Str → Option Value} {fa W fRa fRb fRc fRd fRai fKa fKb fFf fTf fMf fRig fLaw NW C0 NC0 fI0 C1 NC1 fI1 C2 NC2 C3 NC3 fI3 C4 NC4 fI4 C5 NC5 fI5 C6 NC6 fI6 C7 NC7 fI7 C8 NC8 fI8 C9 NC9 fI9 C10 NC10 fI10 C11 NC11 fI11 C12 NC12 fI12 C13 NC13 fI13 C14 NC14 fI14 C15 NC15 fI15 C16 NC16 fI16 C17 NC17 fI17 C18 NC18 fI18 C19 NC19 fI19 C20 NC20 fI20 C21 NC21 fI21 C22 NC22 fI22 C23 NC23 fI23 C24 NC24 C25 NC25 C26 NC26 C27 NC27 fI27 C28 NC28 fI28 C29 NC29 fI29 : Addr} (X : K.In h) (G : h.Ns mainGlobals mg) (hfa : mg "law" = some (.ref fa))
    {odRa anRa odRb anRb odRc anRc odRd anRd odRai anRai odKa anKa odKb anKb odFf anFf odTf anTf odMf anMf odRig anRig odLaw anLaw odI0 anI0 odI1 anI1 odI3 anI3 odI4 anI4 odI5 anI5 odI6 anI6 odI7 anI7 odI8 anI8 odI9 anI9 odI10 anI10 odI11 anI11 odI12 anI12 odI13 anI13 odI14 anI14 odI15 anI15 odI16 anI16 odI17 anI17 odI18 anI18 odI19 anI19 odI20 anI20 odI21 anI21 odI22 anI22 odI23 anI23 odI27 anI27 odI28 anI28 odI29 anI29 odNW odNC2 odNC24 odNC25 odNC26 : Option Addr} {slRa slRb slRc slRd slRai slKa slKb slFf slTf slMf slRig slLaw slI0 slI1 slI3 slI4 slI5 slI6 slI7 slI8 slI9 slI10 slI11 slI12 slI13 slI14 slI15 slI16 slI17 slI18 slI19 slI20 slI21 slI22 slI23 slI27 slI28 slI29 slNW slNC2 slNC24 slNC25 slNC26 : Array (Option Value)} {ocRa kVRa dcRa pmRa cdRa ctRa ocRb kVRb dcRb pmRb cdRb ctRb ocRc kVRc dcRc pmRc cdRc ctRc ocRd kVRd dcRd pmRd cdRd ctRd ocRai kVRai dcRai pmRai cdRai ctRai ocKa kVKa dcKa pmKa cdKa ctKa ocKb kVKb dcKb pmKb cdKb ctKb ocFf kVFf dcFf pmFf cdFf ctFf ocTf kVTf dcTf pmTf cdTf ctTf ocMf kVMf dcMf pmMf cdMf ctMf ocRig kVRig dcRig pmRig cdRig ctRig ocLaw kVLaw dcLaw pmLaw cdLaw ctLaw ocI0 kVI0 dcI0 pmI0 cdI0 ctI0 ocI1 kVI1 dcI1 pmI1 cdI1 ctI1 ocI3 kVI3 dcI3 pmI3 cdI3 ctI3 ocI4 kVI4 dcI4 pmI4 cdI4 ctI4 ocI5 kVI5 dcI5 pmI5 cdI5 ctI5 ocI6 kVI6 dcI6 pmI6 cdI6 ctI6 ocI7 kVI7 dcI7 pmI7 cdI7 ctI7 ocI8 kVI8 dcI8 pmI8 cdI8 ctI8 ocI9 kVI9 dcI9 pmI9 cdI9 ctI9 ocI10 kVI10 dcI10 pmI10 cdI10 ctI10 ocI11 kVI11 dcI11 pmI11 cdI11 ctI11 ocI12 kVI12 dcI12 pmI12 cdI12 ctI12 ocI13 kVI13 dcI13 pmI13 cdI13 ctI13 ocI14 kVI14 dcI14 pmI14 cdI14 ctI14 ocI15 kVI15 dcI15 pmI15 cdI15 ctI15 ocI16 kVI16 dcI16 pmI16 cdI16 ctI16 ocI17 kVI17 dcI17 pmI17 cdI17 ctI17 ocI18 kVI18 dcI18 pmI18 cdI18 ctI18 ocI19 kVI19 dcI19 pmI19 cdI19 ctI19 ocI20 kVI20 dcI20 pmI20 cdI20 ctI20 ocI21 kVI21 dcI21 pmI21 cdI21 ctI21 ocI22 kVI22 dcI22 pmI22 cdI22 ctI22 ocI23 kVI23 dcI23 pmI23 cdI23 ctI23 ocI27 kVI27 dcI27 pmI27 cdI27 ctI27 ocI28 kVI28 dcI28 pmI28 cdI28 ctI28 ocI29 kVI29 dcI29 pmI29 cdI29 ctI29 ocNW ocNC2 ocNC24 ocNC25 ocNC26 : Value}
    {esNW esNC2 esNC24 esNC25 esNC26 : Array DictEntry} {epNW epNC2 epNC24 epNC25 epNC26 : Nat}
    {nmW qW nmC0 qC0 nmC1 qC1 nmC2 qC2 nmC3 qC3 nmC4 qC4 nmC5 qC5 nmC6 qC6 nmC7 qC7 nmC8 qC8 nmC9 qC9 nmC10 qC10 nmC11 qC11 nmC12 qC12 nmC13 qC13 nmC14 qC14 nmC15 qC15 nmC16 qC16 nmC17 qC17 nmC18 qC18 nmC19 qC19 nmC20 qC20 nmC21 qC21 nmC22 qC22 nmC23 qC23 nmC24 qC24 nmC25 qC25 nmC26 qC26 nmC27 qC27 nmC28 qC28 nmC29 qC29 : Str} {bsW subW bsC0 subC0 bsC1 subC1 bsC2 subC2 bsC3 subC3 bsC4 subC4 bsC5 subC5 bsC6 subC6 bsC7 subC7 bsC8 subC8 bsC9 subC9 bsC10 subC10 bsC11 subC11 bsC12 subC12 bsC13 subC13 bsC14 subC14 bsC15 subC15 bsC16 subC16 bsC17 subC17 bsC18 subC18 bsC19 subC19 bsC20 subC20 bsC21 subC21 bsC22 subC22 bsC23 subC23 bsC24 subC24 bsC25 subC25 bsC26 subC26 bsC27 subC27 bsC28 subC28 bsC29 subC29 : List Value} {hdW abW abC0 abC1 abC2 abC3 abC4 abC5 abC6 abC7 abC8 abC9 abC10 abC11 abC12 abC13 abC14 abC15 abC16 abC17 abC18 abC19 abC20 abC21 abC22 abC23 abC24 abC25 abC26 abC27 abC28 abC29 : Bool} {snW snC0 snC1 snC2 snC3 snC4 snC5 snC6 snC7 snC8 snC9 snC10 snC11 snC12 snC13 snC14 snC15 snC16 snC17 snC18 snC19 snC20 snC21 snC22 snC23 snC24 snC25 snC26 snC27 snC28 snC29 : List Str} {colW colC0 colC1 colC2 colC3 colC4 colC5 colC6 colC7 colC8 colC9 colC10 colC11 colC12 colC13 colC14 colC15 colC16 colC17 colC18 colC19 colC20 colC21 colC22 colC23 colC24 colC25 colC26 colC27 colC28 colC29 : Option Bool} {ddW ddC0 ddC1 ddC2 ddC3 ddC4 ddC5 ddC6 ddC7 ddC8 ddC9 ddC10 ddC11 ddC12 ddC13 ddC14 ddC15 ddC16 ddC17 ddC18 ddC19 ddC20 ddC21 ddC22 ddC23 ddC24 ddC25 ddC26 ddC27 ddC28 ddC29 : Option Addr} {x0W x1W x2W x3W x5W x0C0 x1C0 x2C0 x3C0 x5C0 x0C1 x1C1 x2C1 x3C1 x5C1 x0C2 x1C2 x2C2 x3C2 x5C2 x0C3 x1C3 x2C3 x3C3 x5C3 x0C4 x1C4 x2C4 x3C4 x5C4 x0C5 x1C5 x2C5 x3C5 x5C5 x0C6 x1C6 x2C6 x3C6 x5C6 x0C7 x1C7 x2C7 x3C7 x5C7 x0C8 x1C8 x2C8 x3C8 x5C8 x0C9 x1C9 x2C9 x3C9 x5C9 x0C10 x1C10 x2C10 x3C10 x5C10 x0C11 x1C11 x2C11 x3C11 x5C11 x0C12 x1C12 x2C12 x3C12 x5C12 x0C13 x1C13 x2C13 x3C13 x5C13 x0C14 x1C14 x2C14 x3C14 x5C14 x0C15 x1C15 x2C15 x3C15 x5C15 x0C16 x1C16 x2C16 x3C16 x5C16 x0C17 x1C17 x2C17 x3C17 x5C17 x0C18 x1C18 x2C18 x3C18 x5C18 x0C19 x1C19 x2C19 x3C19 x5C19 x0C20 x1C20 x2C20 x3C20 x5C20 x0C21 x1C21 x2C21 x3C21 x5C21 x0C22 x1C22 x2C22 x3C22 x5C22 x0C23 x1C23 x2C23 x3C23 x5C23 x0C24 x1C24 x2C24 x3C24 x5C24 x0C25 x1C25 x2C25 x3C25 x5C25 x0C26 x1C26 x2C26 x3C26 x5C26 x0C27 x1C27 x2C27 x3C27 x5C27 x0C28 x1C28 x2C28 x3C28 x5C28 x0C29 x1C29 x2C29 x3C29 x5C29 : Option Value}
    (aRa : PySem.W.nsIn K mainGlobals "_law_raise_a" = some (some (.ref fRa)))
    (lRa : K.lookup fRa = some ⟨ocRa, odRa, .func (PySem.W.fnOf "_law_raise_a" "_law_raise_a" (defArgs sRa) (defBody sRa) (defScope sRa) .none kVRa dcRa pmRa anRa cdRa ctRa), slRa⟩)
    (cRa : PySem.W.codeIn K cdRa "_law_raise_a" = true)
    (kRa : PySem.W.keepIn K (.ref fRa) = true)
    (aRb : PySem.W.nsIn K mainGlobals "_law_raise_b" = some (some (.ref fRb)))
    (lRb : K.lookup fRb = some ⟨ocRb, odRb, .func (PySem.W.fnOf "_law_raise_b" "_law_raise_b" (defArgs sRb) (defBody sRb) (defScope sRb) .none kVRb dcRb pmRb anRb cdRb ctRb), slRb⟩)
    (cRb : PySem.W.codeIn K cdRb "_law_raise_b" = true)
    (kRb : PySem.W.keepIn K (.ref fRb) = true)
    (aRc : PySem.W.nsIn K mainGlobals "_law_raise_c" = some (some (.ref fRc)))
    (lRc : K.lookup fRc = some ⟨ocRc, odRc, .func (PySem.W.fnOf "_law_raise_c" "_law_raise_c" (defArgs sRc) (defBody sRc) (defScope sRc) .none kVRc dcRc pmRc anRc cdRc ctRc), slRc⟩)
    (cRc : PySem.W.codeIn K cdRc "_law_raise_c" = true)
    (kRc : PySem.W.keepIn K (.ref fRc) = true)
    (aRd : PySem.W.nsIn K mainGlobals "_law_raise_d" = some (some (.ref fRd)))
    (lRd : K.lookup fRd = some ⟨ocRd, odRd, .func (PySem.W.fnOf "_law_raise_d" "_law_raise_d" (defArgs sRd) (defBody sRd) (defScope sRd) .none kVRd dcRd pmRd anRd cdRd ctRd), slRd⟩)
    (cRd : PySem.W.codeIn K cdRd "_law_raise_d" = true)
    (kRd : PySem.W.keepIn K (.ref fRd) = true)
    (aRai : PySem.W.nsIn K mainGlobals "_law_raised" = some (some (.ref fRai)))
    (lRai : K.lookup fRai = some ⟨ocRai, odRai, .func (PySem.W.fnOf "_law_raised" "_law_raised" (defArgs sRai) (defBody sRai) (defScope sRai) .none kVRai dcRai pmRai anRai cdRai ctRai), slRai⟩)
    (cRai : PySem.W.codeIn K cdRai "_law_raised" = true)
    (kRai : PySem.W.keepIn K (.ref fRai) = true)
    (aKa : PySem.W.nsIn K mainGlobals "_law_kinds_a" = some (some (.ref fKa)))
    (lKa : K.lookup fKa = some ⟨ocKa, odKa, .func (PySem.W.fnOf "_law_kinds_a" "_law_kinds_a" (defArgs sKa) (defBody sKa) (defScope sKa) .none kVKa dcKa pmKa anKa cdKa ctKa), slKa⟩)
    (cKa : PySem.W.codeIn K cdKa "_law_kinds_a" = true)
    (kKa : PySem.W.keepIn K (.ref fKa) = true)
    (aKb : PySem.W.nsIn K mainGlobals "_law_kinds_b" = some (some (.ref fKb)))
    (lKb : K.lookup fKb = some ⟨ocKb, odKb, .func (PySem.W.fnOf "_law_kinds_b" "_law_kinds_b" (defArgs sKb) (defBody sKb) (defScope sKb) .none kVKb dcKb pmKb anKb cdKb ctKb), slKb⟩)
    (cKb : PySem.W.codeIn K cdKb "_law_kinds_b" = true)
    (kKb : PySem.W.keepIn K (.ref fKb) = true)
    (aFf : PySem.W.nsIn K mainGlobals "_law_first_field" = some (some (.ref fFf)))
    (lFf : K.lookup fFf = some ⟨ocFf, odFf, .func (PySem.W.fnOf "_law_first_field" "_law_first_field" (defArgs sFf) (defBody sFf) (defScope sFf) .none kVFf dcFf pmFf anFf cdFf ctFf), slFf⟩)
    (cFf : PySem.W.codeIn K cdFf "_law_first_field" = true)
    (kFf : PySem.W.keepIn K (.ref fFf) = true)
    (aTf : PySem.W.nsIn K mainGlobals "_law_two_fields" = some (some (.ref fTf)))
    (lTf : K.lookup fTf = some ⟨ocTf, odTf, .func (PySem.W.fnOf "_law_two_fields" "_law_two_fields" (defArgs sTf) (defBody sTf) (defScope sTf) .none kVTf dcTf pmTf anTf cdTf ctTf), slTf⟩)
    (cTf : PySem.W.codeIn K cdTf "_law_two_fields" = true)
    (kTf : PySem.W.keepIn K (.ref fTf) = true)
    (aMf : PySem.W.nsIn K mainGlobals "_law_many_fields" = some (some (.ref fMf)))
    (lMf : K.lookup fMf = some ⟨ocMf, odMf, .func (PySem.W.fnOf "_law_many_fields" "_law_many_fields" (defArgs sMf) (defBody sMf) (defScope sMf) .none kVMf dcMf pmMf anMf cdMf ctMf), slMf⟩)
    (cMf : PySem.W.codeIn K cdMf "_law_many_fields" = true)
    (kMf : PySem.W.keepIn K (.ref fMf) = true)
    (aRig : PySem.W.nsIn K mainGlobals "_law_right" = some (some (.ref fRig)))
    (lRig : K.lookup fRig = some ⟨ocRig, odRig, .func (PySem.W.fnOf "_law_right" "_law_right" (defArgs sRig) (defBody sRig) (defScope sRig) .none kVRig dcRig pmRig anRig cdRig ctRig), slRig⟩)
    (cRig : PySem.W.codeIn K cdRig "_law_right" = true)
    (kRig : PySem.W.keepIn K (.ref fRig) = true)
    (aLaw : PySem.W.nsIn K mainGlobals "law" = some (some (.ref fLaw)))
    (lLaw : K.lookup fLaw = some ⟨ocLaw, odLaw, .func (PySem.W.fnOf "law" "law" (defArgs sLaw) (defBody sLaw) (defScope sLaw) .none kVLaw dcLaw pmLaw anLaw cdLaw ctLaw), slLaw⟩)
    (cLaw : PySem.W.codeIn K cdLaw "law" = true)
    (kLaw : PySem.W.keepIn K (.ref fLaw) = true)
    (aW : PySem.W.nsIn K mainGlobals "WoodError" = some (some (.ref W)))
    (lW : K.lookup W = some (excClassObj nmW qW W NW bsW [.type "ValueError", .type "Exception", .type "BaseException", .type "object"] hdW snW subW abW colW ddW x0W x1W x2W x3W x5W "ValueError.__new__"))
    (tNW : K.lookup NW = some ⟨ocNW, odNW, .dict esNW epNW, slNW⟩)
    (tCW : (esNW.all fun e => match e.key with | .str _ _ => true | _ => false) = true)
    (tDW : PySem.W.nsIn K NW "__init__" = some none)
    (hn : PySem.W.specialIn K (.builtin "object.__class__") "__get__" = some (some (.builtin "getset_descriptor.__get__")))
    (tk : PySem.W.takesIn K (.builtin "object.__class__") = some true)
    (aC0 : PySem.W.nsIn K mainGlobals "NoWord" = some (some (.ref C0)))
    (lC0 : K.lookup C0 = some (excClassObj nmC0 qC0 C0 NC0 bsC0 [.ref W, .type "ValueError", .type "Exception", .type "BaseException", .type "object"] true snC0 subC0 abC0 colC0 ddC0 x0C0 x1C0 x2C0 x3C0 x5C0 "ValueError.__new__"))
    (kC0 : PySem.W.keepIn K (.ref C0) = true)
    (saC0 : PySem.W.findIn K (.ref C0) "__setattr__" = some (some (.builtin "object.__setattr__")))
    (gaC0 : PySem.W.findIn K (.ref C0) "__getattribute__" = some (some (.builtin "BaseException.__getattribute__")))
    (gtC0 : PySem.W.findIn K (.ref C0) "__getattr__" = some none)
    (caC0 : PySem.W.findIn K (.ref C0) "__class__" = some (some (.builtin "object.__class__")))
    (na0_0 : PySem.W.findIn K (.ref C0) "found" = some none)
    (iC0 : PySem.W.findIn K (.ref C0) "__init__" = some (some (.ref fI0)))
    (nI0 : PySem.W.isFn K (.ref fI0) = true)
    (lI0 : K.lookup fI0 = some ⟨ocI0, odI0, .func (PySem.W.fnOf "__init__" "NoWord.__init__" (defArgs sI0) (defBody sI0) (defScope sI0) .none kVI0 dcI0 pmI0 anI0 cdI0 ctI0), slI0⟩)
    (cI0 : PySem.W.codeIn K cdI0 "NoWord.__init__" = true)
    (kI0 : PySem.W.keepIn K (.ref fI0) = true)
    (aC1 : PySem.W.nsIn K mainGlobals "NoPath" = some (some (.ref C1)))
    (lC1 : K.lookup C1 = some (excClassObj nmC1 qC1 C1 NC1 bsC1 [.ref W, .type "ValueError", .type "Exception", .type "BaseException", .type "object"] true snC1 subC1 abC1 colC1 ddC1 x0C1 x1C1 x2C1 x3C1 x5C1 "ValueError.__new__"))
    (kC1 : PySem.W.keepIn K (.ref C1) = true)
    (saC1 : PySem.W.findIn K (.ref C1) "__setattr__" = some (some (.builtin "object.__setattr__")))
    (gaC1 : PySem.W.findIn K (.ref C1) "__getattribute__" = some (some (.builtin "BaseException.__getattribute__")))
    (gtC1 : PySem.W.findIn K (.ref C1) "__getattr__" = some none)
    (caC1 : PySem.W.findIn K (.ref C1) "__class__" = some (some (.builtin "object.__class__")))
    (na1_0 : PySem.W.findIn K (.ref C1) "path" = some none)
    (iC1 : PySem.W.findIn K (.ref C1) "__init__" = some (some (.ref fI1)))
    (nI1 : PySem.W.isFn K (.ref fI1) = true)
    (lI1 : K.lookup fI1 = some ⟨ocI1, odI1, .func (PySem.W.fnOf "__init__" "NoPath.__init__" (defArgs sI1) (defBody sI1) (defScope sI1) .none kVI1 dcI1 pmI1 anI1 cdI1 ctI1), slI1⟩)
    (cI1 : PySem.W.codeIn K cdI1 "NoPath.__init__" = true)
    (kI1 : PySem.W.keepIn K (.ref fI1) = true)
    (aC2 : PySem.W.nsIn K mainGlobals "NoCells" = some (some (.ref C2)))
    (lC2 : K.lookup C2 = some (excClassObj nmC2 qC2 C2 NC2 bsC2 [.ref W, .type "ValueError", .type "Exception", .type "BaseException", .type "object"] true snC2 subC2 abC2 colC2 ddC2 x0C2 x1C2 x2C2 x3C2 x5C2 "ValueError.__new__"))
    (kC2 : PySem.W.keepIn K (.ref C2) = true)
    (saC2 : PySem.W.findIn K (.ref C2) "__setattr__" = some (some (.builtin "object.__setattr__")))
    (gaC2 : PySem.W.findIn K (.ref C2) "__getattribute__" = some (some (.builtin "BaseException.__getattribute__")))
    (gtC2 : PySem.W.findIn K (.ref C2) "__getattr__" = some none)
    (caC2 : PySem.W.findIn K (.ref C2) "__class__" = some (some (.builtin "object.__class__")))
    (tNC2 : K.lookup NC2 = some ⟨ocNC2, odNC2, .dict esNC2 epNC2, slNC2⟩)
    (tCC2 : (esNC2.all fun e => match e.key with | .str _ _ => true | _ => false) = true)
    (tDC2 : PySem.W.nsIn K NC2 "__init__" = some none)
    (aC3 : PySem.W.nsIn K mainGlobals "NoSpan" = some (some (.ref C3)))
    (lC3 : K.lookup C3 = some (excClassObj nmC3 qC3 C3 NC3 bsC3 [.ref W, .type "ValueError", .type "Exception", .type "BaseException", .type "object"] true snC3 subC3 abC3 colC3 ddC3 x0C3 x1C3 x2C3 x3C3 x5C3 "ValueError.__new__"))
    (kC3 : PySem.W.keepIn K (.ref C3) = true)
    (saC3 : PySem.W.findIn K (.ref C3) "__setattr__" = some (some (.builtin "object.__setattr__")))
    (gaC3 : PySem.W.findIn K (.ref C3) "__getattribute__" = some (some (.builtin "BaseException.__getattribute__")))
    (gtC3 : PySem.W.findIn K (.ref C3) "__getattr__" = some none)
    (caC3 : PySem.W.findIn K (.ref C3) "__class__" = some (some (.builtin "object.__class__")))
    (na3_0 : PySem.W.findIn K (.ref C3) "at" = some none)
    (na3_1 : PySem.W.findIn K (.ref C3) "long" = some none)
    (iC3 : PySem.W.findIn K (.ref C3) "__init__" = some (some (.ref fI3)))
    (nI3 : PySem.W.isFn K (.ref fI3) = true)
    (lI3 : K.lookup fI3 = some ⟨ocI3, odI3, .func (PySem.W.fnOf "__init__" "NoSpan.__init__" (defArgs sI3) (defBody sI3) (defScope sI3) .none kVI3 dcI3 pmI3 anI3 cdI3 ctI3), slI3⟩)
    (cI3 : PySem.W.codeIn K cdI3 "NoSpan.__init__" = true)
    (kI3 : PySem.W.keepIn K (.ref fI3) = true)
    (aC4 : PySem.W.nsIn K mainGlobals "NotThere" = some (some (.ref C4)))
    (lC4 : K.lookup C4 = some (excClassObj nmC4 qC4 C4 NC4 bsC4 [.ref W, .type "ValueError", .type "Exception", .type "BaseException", .type "object"] true snC4 subC4 abC4 colC4 ddC4 x0C4 x1C4 x2C4 x3C4 x5C4 "ValueError.__new__"))
    (kC4 : PySem.W.keepIn K (.ref C4) = true)
    (saC4 : PySem.W.findIn K (.ref C4) "__setattr__" = some (some (.builtin "object.__setattr__")))
    (gaC4 : PySem.W.findIn K (.ref C4) "__getattribute__" = some (some (.builtin "BaseException.__getattribute__")))
    (gtC4 : PySem.W.findIn K (.ref C4) "__getattr__" = some none)
    (caC4 : PySem.W.findIn K (.ref C4) "__class__" = some (some (.builtin "object.__class__")))
    (na4_0 : PySem.W.findIn K (.ref C4) "path" = some none)
    (iC4 : PySem.W.findIn K (.ref C4) "__init__" = some (some (.ref fI4)))
    (nI4 : PySem.W.isFn K (.ref fI4) = true)
    (lI4 : K.lookup fI4 = some ⟨ocI4, odI4, .func (PySem.W.fnOf "__init__" "NotThere.__init__" (defArgs sI4) (defBody sI4) (defScope sI4) .none kVI4 dcI4 pmI4 anI4 cdI4 ctI4), slI4⟩)
    (cI4 : PySem.W.codeIn K cdI4 "NotThere.__init__" = true)
    (kI4 : PySem.W.keepIn K (.ref fI4) = true)
    (aC5 : PySem.W.nsIn K mainGlobals "There" = some (some (.ref C5)))
    (lC5 : K.lookup C5 = some (excClassObj nmC5 qC5 C5 NC5 bsC5 [.ref W, .type "ValueError", .type "Exception", .type "BaseException", .type "object"] true snC5 subC5 abC5 colC5 ddC5 x0C5 x1C5 x2C5 x3C5 x5C5 "ValueError.__new__"))
    (kC5 : PySem.W.keepIn K (.ref C5) = true)
    (saC5 : PySem.W.findIn K (.ref C5) "__setattr__" = some (some (.builtin "object.__setattr__")))
    (gaC5 : PySem.W.findIn K (.ref C5) "__getattribute__" = some (some (.builtin "BaseException.__getattribute__")))
    (gtC5 : PySem.W.findIn K (.ref C5) "__getattr__" = some none)
    (caC5 : PySem.W.findIn K (.ref C5) "__class__" = some (some (.builtin "object.__class__")))
    (na5_0 : PySem.W.findIn K (.ref C5) "path" = some none)
    (iC5 : PySem.W.findIn K (.ref C5) "__init__" = some (some (.ref fI5)))
    (nI5 : PySem.W.isFn K (.ref fI5) = true)
    (lI5 : K.lookup fI5 = some ⟨ocI5, odI5, .func (PySem.W.fnOf "__init__" "There.__init__" (defArgs sI5) (defBody sI5) (defScope sI5) .none kVI5 dcI5 pmI5 anI5 cdI5 ctI5), slI5⟩)
    (cI5 : PySem.W.codeIn K cdI5 "There.__init__" = true)
    (kI5 : PySem.W.keepIn K (.ref fI5) = true)
    (aC6 : PySem.W.nsIn K mainGlobals "NotFolder" = some (some (.ref C6)))
    (lC6 : K.lookup C6 = some (excClassObj nmC6 qC6 C6 NC6 bsC6 [.ref W, .type "ValueError", .type "Exception", .type "BaseException", .type "object"] true snC6 subC6 abC6 colC6 ddC6 x0C6 x1C6 x2C6 x3C6 x5C6 "ValueError.__new__"))
    (kC6 : PySem.W.keepIn K (.ref C6) = true)
    (saC6 : PySem.W.findIn K (.ref C6) "__setattr__" = some (some (.builtin "object.__setattr__")))
    (gaC6 : PySem.W.findIn K (.ref C6) "__getattribute__" = some (some (.builtin "BaseException.__getattribute__")))
    (gtC6 : PySem.W.findIn K (.ref C6) "__getattr__" = some none)
    (caC6 : PySem.W.findIn K (.ref C6) "__class__" = some (some (.builtin "object.__class__")))
    (na6_0 : PySem.W.findIn K (.ref C6) "path" = some none)
    (iC6 : PySem.W.findIn K (.ref C6) "__init__" = some (some (.ref fI6)))
    (nI6 : PySem.W.isFn K (.ref fI6) = true)
    (lI6 : K.lookup fI6 = some ⟨ocI6, odI6, .func (PySem.W.fnOf "__init__" "NotFolder.__init__" (defArgs sI6) (defBody sI6) (defScope sI6) .none kVI6 dcI6 pmI6 anI6 cdI6 ctI6), slI6⟩)
    (cI6 : PySem.W.codeIn K cdI6 "NotFolder.__init__" = true)
    (kI6 : PySem.W.keepIn K (.ref fI6) = true)
    (aC7 : PySem.W.nsIn K mainGlobals "NotFile" = some (some (.ref C7)))
    (lC7 : K.lookup C7 = some (excClassObj nmC7 qC7 C7 NC7 bsC7 [.ref W, .type "ValueError", .type "Exception", .type "BaseException", .type "object"] true snC7 subC7 abC7 colC7 ddC7 x0C7 x1C7 x2C7 x3C7 x5C7 "ValueError.__new__"))
    (kC7 : PySem.W.keepIn K (.ref C7) = true)
    (saC7 : PySem.W.findIn K (.ref C7) "__setattr__" = some (some (.builtin "object.__setattr__")))
    (gaC7 : PySem.W.findIn K (.ref C7) "__getattribute__" = some (some (.builtin "BaseException.__getattribute__")))
    (gtC7 : PySem.W.findIn K (.ref C7) "__getattr__" = some none)
    (caC7 : PySem.W.findIn K (.ref C7) "__class__" = some (some (.builtin "object.__class__")))
    (na7_0 : PySem.W.findIn K (.ref C7) "path" = some none)
    (iC7 : PySem.W.findIn K (.ref C7) "__init__" = some (some (.ref fI7)))
    (nI7 : PySem.W.isFn K (.ref fI7) = true)
    (lI7 : K.lookup fI7 = some ⟨ocI7, odI7, .func (PySem.W.fnOf "__init__" "NotFile.__init__" (defArgs sI7) (defBody sI7) (defScope sI7) .none kVI7 dcI7 pmI7 anI7 cdI7 ctI7), slI7⟩)
    (cI7 : PySem.W.codeIn K cdI7 "NotFile.__init__" = true)
    (kI7 : PySem.W.keepIn K (.ref fI7) = true)
    (aC8 : PySem.W.nsIn K mainGlobals "Within" = some (some (.ref C8)))
    (lC8 : K.lookup C8 = some (excClassObj nmC8 qC8 C8 NC8 bsC8 [.ref W, .type "ValueError", .type "Exception", .type "BaseException", .type "object"] true snC8 subC8 abC8 colC8 ddC8 x0C8 x1C8 x2C8 x3C8 x5C8 "ValueError.__new__"))
    (kC8 : PySem.W.keepIn K (.ref C8) = true)
    (saC8 : PySem.W.findIn K (.ref C8) "__setattr__" = some (some (.builtin "object.__setattr__")))
    (gaC8 : PySem.W.findIn K (.ref C8) "__getattribute__" = some (some (.builtin "BaseException.__getattribute__")))
    (gtC8 : PySem.W.findIn K (.ref C8) "__getattr__" = some none)
    (caC8 : PySem.W.findIn K (.ref C8) "__class__" = some (some (.builtin "object.__class__")))
    (na8_0 : PySem.W.findIn K (.ref C8) "path" = some none)
    (iC8 : PySem.W.findIn K (.ref C8) "__init__" = some (some (.ref fI8)))
    (nI8 : PySem.W.isFn K (.ref fI8) = true)
    (lI8 : K.lookup fI8 = some ⟨ocI8, odI8, .func (PySem.W.fnOf "__init__" "Within.__init__" (defArgs sI8) (defBody sI8) (defScope sI8) .none kVI8 dcI8 pmI8 anI8 cdI8 ctI8), slI8⟩)
    (cI8 : PySem.W.codeIn K cdI8 "Within.__init__" = true)
    (kI8 : PySem.W.keepIn K (.ref fI8) = true)
    (aC9 : PySem.W.nsIn K mainGlobals "TooDeep" = some (some (.ref C9)))
    (lC9 : K.lookup C9 = some (excClassObj nmC9 qC9 C9 NC9 bsC9 [.ref W, .type "ValueError", .type "Exception", .type "BaseException", .type "object"] true snC9 subC9 abC9 colC9 ddC9 x0C9 x1C9 x2C9 x3C9 x5C9 "ValueError.__new__"))
    (kC9 : PySem.W.keepIn K (.ref C9) = true)
    (saC9 : PySem.W.findIn K (.ref C9) "__setattr__" = some (some (.builtin "object.__setattr__")))
    (gaC9 : PySem.W.findIn K (.ref C9) "__getattribute__" = some (some (.builtin "BaseException.__getattribute__")))
    (gtC9 : PySem.W.findIn K (.ref C9) "__getattr__" = some none)
    (caC9 : PySem.W.findIn K (.ref C9) "__class__" = some (some (.builtin "object.__class__")))
    (na9_0 : PySem.W.findIn K (.ref C9) "path" = some none)
    (iC9 : PySem.W.findIn K (.ref C9) "__init__" = some (some (.ref fI9)))
    (nI9 : PySem.W.isFn K (.ref fI9) = true)
    (lI9 : K.lookup fI9 = some ⟨ocI9, odI9, .func (PySem.W.fnOf "__init__" "TooDeep.__init__" (defArgs sI9) (defBody sI9) (defScope sI9) .none kVI9 dcI9 pmI9 anI9 cdI9 ctI9), slI9⟩)
    (cI9 : PySem.W.codeIn K cdI9 "TooDeep.__init__" = true)
    (kI9 : PySem.W.keepIn K (.ref fI9) = true)
    (aC10 : PySem.W.nsIn K mainGlobals "Crowded" = some (some (.ref C10)))
    (lC10 : K.lookup C10 = some (excClassObj nmC10 qC10 C10 NC10 bsC10 [.ref W, .type "ValueError", .type "Exception", .type "BaseException", .type "object"] true snC10 subC10 abC10 colC10 ddC10 x0C10 x1C10 x2C10 x3C10 x5C10 "ValueError.__new__"))
    (kC10 : PySem.W.keepIn K (.ref C10) = true)
    (saC10 : PySem.W.findIn K (.ref C10) "__setattr__" = some (some (.builtin "object.__setattr__")))
    (gaC10 : PySem.W.findIn K (.ref C10) "__getattribute__" = some (some (.builtin "BaseException.__getattribute__")))
    (gtC10 : PySem.W.findIn K (.ref C10) "__getattr__" = some none)
    (caC10 : PySem.W.findIn K (.ref C10) "__class__" = some (some (.builtin "object.__class__")))
    (na10_0 : PySem.W.findIn K (.ref C10) "path" = some none)
    (iC10 : PySem.W.findIn K (.ref C10) "__init__" = some (some (.ref fI10)))
    (nI10 : PySem.W.isFn K (.ref fI10) = true)
    (lI10 : K.lookup fI10 = some ⟨ocI10, odI10, .func (PySem.W.fnOf "__init__" "Crowded.__init__" (defArgs sI10) (defBody sI10) (defScope sI10) .none kVI10 dcI10 pmI10 anI10 cdI10 ctI10), slI10⟩)
    (cI10 : PySem.W.codeIn K cdI10 "Crowded.__init__" = true)
    (kI10 : PySem.W.keepIn K (.ref fI10) = true)
    (aC11 : PySem.W.nsIn K mainGlobals "TooMany" = some (some (.ref C11)))
    (lC11 : K.lookup C11 = some (excClassObj nmC11 qC11 C11 NC11 bsC11 [.ref W, .type "ValueError", .type "Exception", .type "BaseException", .type "object"] true snC11 subC11 abC11 colC11 ddC11 x0C11 x1C11 x2C11 x3C11 x5C11 "ValueError.__new__"))
    (kC11 : PySem.W.keepIn K (.ref C11) = true)
    (saC11 : PySem.W.findIn K (.ref C11) "__setattr__" = some (some (.builtin "object.__setattr__")))
    (gaC11 : PySem.W.findIn K (.ref C11) "__getattribute__" = some (some (.builtin "BaseException.__getattribute__")))
    (gtC11 : PySem.W.findIn K (.ref C11) "__getattr__" = some none)
    (caC11 : PySem.W.findIn K (.ref C11) "__class__" = some (some (.builtin "object.__class__")))
    (na11_0 : PySem.W.findIn K (.ref C11) "many" = some none)
    (iC11 : PySem.W.findIn K (.ref C11) "__init__" = some (some (.ref fI11)))
    (nI11 : PySem.W.isFn K (.ref fI11) = true)
    (lI11 : K.lookup fI11 = some ⟨ocI11, odI11, .func (PySem.W.fnOf "__init__" "TooMany.__init__" (defArgs sI11) (defBody sI11) (defScope sI11) .none kVI11 dcI11 pmI11 anI11 cdI11 ctI11), slI11⟩)
    (cI11 : PySem.W.codeIn K cdI11 "TooMany.__init__" = true)
    (kI11 : PySem.W.keepIn K (.ref fI11) = true)
    (aC12 : PySem.W.nsIn K mainGlobals "Over" = some (some (.ref C12)))
    (lC12 : K.lookup C12 = some (excClassObj nmC12 qC12 C12 NC12 bsC12 [.ref W, .type "ValueError", .type "Exception", .type "BaseException", .type "object"] true snC12 subC12 abC12 colC12 ddC12 x0C12 x1C12 x2C12 x3C12 x5C12 "ValueError.__new__"))
    (kC12 : PySem.W.keepIn K (.ref C12) = true)
    (saC12 : PySem.W.findIn K (.ref C12) "__setattr__" = some (some (.builtin "object.__setattr__")))
    (gaC12 : PySem.W.findIn K (.ref C12) "__getattribute__" = some (some (.builtin "BaseException.__getattribute__")))
    (gtC12 : PySem.W.findIn K (.ref C12) "__getattr__" = some none)
    (caC12 : PySem.W.findIn K (.ref C12) "__class__" = some (some (.builtin "object.__class__")))
    (na12_0 : PySem.W.findIn K (.ref C12) "path" = some none)
    (na12_1 : PySem.W.findIn K (.ref C12) "needed" = some none)
    (iC12 : PySem.W.findIn K (.ref C12) "__init__" = some (some (.ref fI12)))
    (nI12 : PySem.W.isFn K (.ref fI12) = true)
    (lI12 : K.lookup fI12 = some ⟨ocI12, odI12, .func (PySem.W.fnOf "__init__" "Over.__init__" (defArgs sI12) (defBody sI12) (defScope sI12) .none kVI12 dcI12 pmI12 anI12 cdI12 ctI12), slI12⟩)
    (cI12 : PySem.W.codeIn K cdI12 "Over.__init__" = true)
    (kI12 : PySem.W.keepIn K (.ref fI12) = true)
    (aC13 : PySem.W.nsIn K mainGlobals "NoRoom" = some (some (.ref C13)))
    (lC13 : K.lookup C13 = some (excClassObj nmC13 qC13 C13 NC13 bsC13 [.ref W, .type "ValueError", .type "Exception", .type "BaseException", .type "object"] true snC13 subC13 abC13 colC13 ddC13 x0C13 x1C13 x2C13 x3C13 x5C13 "ValueError.__new__"))
    (kC13 : PySem.W.keepIn K (.ref C13) = true)
    (saC13 : PySem.W.findIn K (.ref C13) "__setattr__" = some (some (.builtin "object.__setattr__")))
    (gaC13 : PySem.W.findIn K (.ref C13) "__getattribute__" = some (some (.builtin "BaseException.__getattribute__")))
    (gtC13 : PySem.W.findIn K (.ref C13) "__getattr__" = some none)
    (caC13 : PySem.W.findIn K (.ref C13) "__class__" = some (some (.builtin "object.__class__")))
    (na13_0 : PySem.W.findIn K (.ref C13) "needed" = some none)
    (na13_1 : PySem.W.findIn K (.ref C13) "free" = some none)
    (iC13 : PySem.W.findIn K (.ref C13) "__init__" = some (some (.ref fI13)))
    (nI13 : PySem.W.isFn K (.ref fI13) = true)
    (lI13 : K.lookup fI13 = some ⟨ocI13, odI13, .func (PySem.W.fnOf "__init__" "NoRoom.__init__" (defArgs sI13) (defBody sI13) (defScope sI13) .none kVI13 dcI13 pmI13 anI13 cdI13 ctI13), slI13⟩)
    (cI13 : PySem.W.codeIn K cdI13 "NoRoom.__init__" = true)
    (kI13 : PySem.W.keepIn K (.ref fI13) = true)
    (aC14 : PySem.W.nsIn K mainGlobals "NoHead" = some (some (.ref C14)))
    (lC14 : K.lookup C14 = some (excClassObj nmC14 qC14 C14 NC14 bsC14 [.ref W, .type "ValueError", .type "Exception", .type "BaseException", .type "object"] true snC14 subC14 abC14 colC14 ddC14 x0C14 x1C14 x2C14 x3C14 x5C14 "ValueError.__new__"))
    (kC14 : PySem.W.keepIn K (.ref C14) = true)
    (saC14 : PySem.W.findIn K (.ref C14) "__setattr__" = some (some (.builtin "object.__setattr__")))
    (gaC14 : PySem.W.findIn K (.ref C14) "__getattribute__" = some (some (.builtin "BaseException.__getattribute__")))
    (gtC14 : PySem.W.findIn K (.ref C14) "__getattr__" = some none)
    (caC14 : PySem.W.findIn K (.ref C14) "__class__" = some (some (.builtin "object.__class__")))
    (na14_0 : PySem.W.findIn K (.ref C14) "name" = some none)
    (iC14 : PySem.W.findIn K (.ref C14) "__init__" = some (some (.ref fI14)))
    (nI14 : PySem.W.isFn K (.ref fI14) = true)
    (lI14 : K.lookup fI14 = some ⟨ocI14, odI14, .func (PySem.W.fnOf "__init__" "NoHead.__init__" (defArgs sI14) (defBody sI14) (defScope sI14) .none kVI14 dcI14 pmI14 anI14 cdI14 ctI14), slI14⟩)
    (cI14 : PySem.W.codeIn K cdI14 "NoHead.__init__" = true)
    (kI14 : PySem.W.keepIn K (.ref fI14) = true)
    (aC15 : PySem.W.nsIn K mainGlobals "OldHead" = some (some (.ref C15)))
    (lC15 : K.lookup C15 = some (excClassObj nmC15 qC15 C15 NC15 bsC15 [.ref W, .type "ValueError", .type "Exception", .type "BaseException", .type "object"] true snC15 subC15 abC15 colC15 ddC15 x0C15 x1C15 x2C15 x3C15 x5C15 "ValueError.__new__"))
    (kC15 : PySem.W.keepIn K (.ref C15) = true)
    (saC15 : PySem.W.findIn K (.ref C15) "__setattr__" = some (some (.builtin "object.__setattr__")))
    (gaC15 : PySem.W.findIn K (.ref C15) "__getattribute__" = some (some (.builtin "BaseException.__getattribute__")))
    (gtC15 : PySem.W.findIn K (.ref C15) "__getattr__" = some none)
    (caC15 : PySem.W.findIn K (.ref C15) "__class__" = some (some (.builtin "object.__class__")))
    (na15_0 : PySem.W.findIn K (.ref C15) "name" = some none)
    (iC15 : PySem.W.findIn K (.ref C15) "__init__" = some (some (.ref fI15)))
    (nI15 : PySem.W.isFn K (.ref fI15) = true)
    (lI15 : K.lookup fI15 = some ⟨ocI15, odI15, .func (PySem.W.fnOf "__init__" "OldHead.__init__" (defArgs sI15) (defBody sI15) (defScope sI15) .none kVI15 dcI15 pmI15 anI15 cdI15 ctI15), slI15⟩)
    (cI15 : PySem.W.codeIn K cdI15 "OldHead.__init__" = true)
    (kI15 : PySem.W.keepIn K (.ref fI15) = true)
    (aC16 : PySem.W.nsIn K mainGlobals "NotGrowth" = some (some (.ref C16)))
    (lC16 : K.lookup C16 = some (excClassObj nmC16 qC16 C16 NC16 bsC16 [.ref W, .type "ValueError", .type "Exception", .type "BaseException", .type "object"] true snC16 subC16 abC16 colC16 ddC16 x0C16 x1C16 x2C16 x3C16 x5C16 "ValueError.__new__"))
    (kC16 : PySem.W.keepIn K (.ref C16) = true)
    (saC16 : PySem.W.findIn K (.ref C16) "__setattr__" = some (some (.builtin "object.__setattr__")))
    (gaC16 : PySem.W.findIn K (.ref C16) "__getattribute__" = some (some (.builtin "BaseException.__getattribute__")))
    (gtC16 : PySem.W.findIn K (.ref C16) "__getattr__" = some none)
    (caC16 : PySem.W.findIn K (.ref C16) "__class__" = some (some (.builtin "object.__class__")))
    (na16_0 : PySem.W.findIn K (.ref C16) "name" = some none)
    (iC16 : PySem.W.findIn K (.ref C16) "__init__" = some (some (.ref fI16)))
    (nI16 : PySem.W.isFn K (.ref fI16) = true)
    (lI16 : K.lookup fI16 = some ⟨ocI16, odI16, .func (PySem.W.fnOf "__init__" "NotGrowth.__init__" (defArgs sI16) (defBody sI16) (defScope sI16) .none kVI16 dcI16 pmI16 anI16 cdI16 ctI16), slI16⟩)
    (cI16 : PySem.W.codeIn K cdI16 "NotGrowth.__init__" = true)
    (kI16 : PySem.W.keepIn K (.ref fI16) = true)
    (aC17 : PySem.W.nsIn K mainGlobals "NotMake" = some (some (.ref C17)))
    (lC17 : K.lookup C17 = some (excClassObj nmC17 qC17 C17 NC17 bsC17 [.ref W, .type "ValueError", .type "Exception", .type "BaseException", .type "object"] true snC17 subC17 abC17 colC17 ddC17 x0C17 x1C17 x2C17 x3C17 x5C17 "ValueError.__new__"))
    (kC17 : PySem.W.keepIn K (.ref C17) = true)
    (saC17 : PySem.W.findIn K (.ref C17) "__setattr__" = some (some (.builtin "object.__setattr__")))
    (gaC17 : PySem.W.findIn K (.ref C17) "__getattribute__" = some (some (.builtin "BaseException.__getattribute__")))
    (gtC17 : PySem.W.findIn K (.ref C17) "__getattr__" = some none)
    (caC17 : PySem.W.findIn K (.ref C17) "__class__" = some (some (.builtin "object.__class__")))
    (na17_0 : PySem.W.findIn K (.ref C17) "name" = some none)
    (iC17 : PySem.W.findIn K (.ref C17) "__init__" = some (some (.ref fI17)))
    (nI17 : PySem.W.isFn K (.ref fI17) = true)
    (lI17 : K.lookup fI17 = some ⟨ocI17, odI17, .func (PySem.W.fnOf "__init__" "NotMake.__init__" (defArgs sI17) (defBody sI17) (defScope sI17) .none kVI17 dcI17 pmI17 anI17 cdI17 ctI17), slI17⟩)
    (cI17 : PySem.W.codeIn K cdI17 "NotMake.__init__" = true)
    (kI17 : PySem.W.keepIn K (.ref fI17) = true)
    (aC18 : PySem.W.nsIn K mainGlobals "Needed" = some (some (.ref C18)))
    (lC18 : K.lookup C18 = some (excClassObj nmC18 qC18 C18 NC18 bsC18 [.ref W, .type "ValueError", .type "Exception", .type "BaseException", .type "object"] true snC18 subC18 abC18 colC18 ddC18 x0C18 x1C18 x2C18 x3C18 x5C18 "ValueError.__new__"))
    (kC18 : PySem.W.keepIn K (.ref C18) = true)
    (saC18 : PySem.W.findIn K (.ref C18) "__setattr__" = some (some (.builtin "object.__setattr__")))
    (gaC18 : PySem.W.findIn K (.ref C18) "__getattribute__" = some (some (.builtin "BaseException.__getattribute__")))
    (gtC18 : PySem.W.findIn K (.ref C18) "__getattr__" = some none)
    (caC18 : PySem.W.findIn K (.ref C18) "__class__" = some (some (.builtin "object.__class__")))
    (na18_0 : PySem.W.findIn K (.ref C18) "name" = some none)
    (na18_1 : PySem.W.findIn K (.ref C18) "by" = some none)
    (iC18 : PySem.W.findIn K (.ref C18) "__init__" = some (some (.ref fI18)))
    (nI18 : PySem.W.isFn K (.ref fI18) = true)
    (lI18 : K.lookup fI18 = some ⟨ocI18, odI18, .func (PySem.W.fnOf "__init__" "Needed.__init__" (defArgs sI18) (defBody sI18) (defScope sI18) .none kVI18 dcI18 pmI18 anI18 cdI18 ctI18), slI18⟩)
    (cI18 : PySem.W.codeIn K cdI18 "Needed.__init__" = true)
    (kI18 : PySem.W.keepIn K (.ref fI18) = true)
    (aC19 : PySem.W.nsIn K mainGlobals "Rootless" = some (some (.ref C19)))
    (lC19 : K.lookup C19 = some (excClassObj nmC19 qC19 C19 NC19 bsC19 [.ref W, .type "ValueError", .type "Exception", .type "BaseException", .type "object"] true snC19 subC19 abC19 colC19 ddC19 x0C19 x1C19 x2C19 x3C19 x5C19 "ValueError.__new__"))
    (kC19 : PySem.W.keepIn K (.ref C19) = true)
    (saC19 : PySem.W.findIn K (.ref C19) "__setattr__" = some (some (.builtin "object.__setattr__")))
    (gaC19 : PySem.W.findIn K (.ref C19) "__getattribute__" = some (some (.builtin "BaseException.__getattribute__")))
    (gtC19 : PySem.W.findIn K (.ref C19) "__getattr__" = some none)
    (caC19 : PySem.W.findIn K (.ref C19) "__class__" = some (some (.builtin "object.__class__")))
    (na19_0 : PySem.W.findIn K (.ref C19) "name" = some none)
    (iC19 : PySem.W.findIn K (.ref C19) "__init__" = some (some (.ref fI19)))
    (nI19 : PySem.W.isFn K (.ref fI19) = true)
    (lI19 : K.lookup fI19 = some ⟨ocI19, odI19, .func (PySem.W.fnOf "__init__" "Rootless.__init__" (defArgs sI19) (defBody sI19) (defScope sI19) .none kVI19 dcI19 pmI19 anI19 cdI19 ctI19), slI19⟩)
    (cI19 : PySem.W.codeIn K cdI19 "Rootless.__init__" = true)
    (kI19 : PySem.W.keepIn K (.ref fI19) = true)
    (aC20 : PySem.W.nsIn K mainGlobals "NoFloor" = some (some (.ref C20)))
    (lC20 : K.lookup C20 = some (excClassObj nmC20 qC20 C20 NC20 bsC20 [.ref W, .type "ValueError", .type "Exception", .type "BaseException", .type "object"] true snC20 subC20 abC20 colC20 ddC20 x0C20 x1C20 x2C20 x3C20 x5C20 "ValueError.__new__"))
    (kC20 : PySem.W.keepIn K (.ref C20) = true)
    (saC20 : PySem.W.findIn K (.ref C20) "__setattr__" = some (some (.builtin "object.__setattr__")))
    (gaC20 : PySem.W.findIn K (.ref C20) "__getattribute__" = some (some (.builtin "BaseException.__getattribute__")))
    (gtC20 : PySem.W.findIn K (.ref C20) "__getattr__" = some none)
    (caC20 : PySem.W.findIn K (.ref C20) "__class__" = some (some (.builtin "object.__class__")))
    (na20_0 : PySem.W.findIn K (.ref C20) "many" = some none)
    (iC20 : PySem.W.findIn K (.ref C20) "__init__" = some (some (.ref fI20)))
    (nI20 : PySem.W.isFn K (.ref fI20) = true)
    (lI20 : K.lookup fI20 = some ⟨ocI20, odI20, .func (PySem.W.fnOf "__init__" "NoFloor.__init__" (defArgs sI20) (defBody sI20) (defScope sI20) .none kVI20 dcI20 pmI20 anI20 cdI20 ctI20), slI20⟩)
    (cI20 : PySem.W.codeIn K cdI20 "NoFloor.__init__" = true)
    (kI20 : PySem.W.keepIn K (.ref fI20) = true)
    (aC21 : PySem.W.nsIn K mainGlobals "NoPlace" = some (some (.ref C21)))
    (lC21 : K.lookup C21 = some (excClassObj nmC21 qC21 C21 NC21 bsC21 [.ref W, .type "ValueError", .type "Exception", .type "BaseException", .type "object"] true snC21 subC21 abC21 colC21 ddC21 x0C21 x1C21 x2C21 x3C21 x5C21 "ValueError.__new__"))
    (kC21 : PySem.W.keepIn K (.ref C21) = true)
    (saC21 : PySem.W.findIn K (.ref C21) "__setattr__" = some (some (.builtin "object.__setattr__")))
    (gaC21 : PySem.W.findIn K (.ref C21) "__getattribute__" = some (some (.builtin "BaseException.__getattribute__")))
    (gtC21 : PySem.W.findIn K (.ref C21) "__getattr__" = some none)
    (caC21 : PySem.W.findIn K (.ref C21) "__class__" = some (some (.builtin "object.__class__")))
    (na21_0 : PySem.W.findIn K (.ref C21) "place" = some none)
    (iC21 : PySem.W.findIn K (.ref C21) "__init__" = some (some (.ref fI21)))
    (nI21 : PySem.W.isFn K (.ref fI21) = true)
    (lI21 : K.lookup fI21 = some ⟨ocI21, odI21, .func (PySem.W.fnOf "__init__" "NoPlace.__init__" (defArgs sI21) (defBody sI21) (defScope sI21) .none kVI21 dcI21 pmI21 anI21 cdI21 ctI21), slI21⟩)
    (cI21 : PySem.W.codeIn K cdI21 "NoPlace.__init__" = true)
    (kI21 : PySem.W.keepIn K (.ref fI21) = true)
    (aC22 : PySem.W.nsIn K mainGlobals "NoPiece" = some (some (.ref C22)))
    (lC22 : K.lookup C22 = some (excClassObj nmC22 qC22 C22 NC22 bsC22 [.ref W, .type "ValueError", .type "Exception", .type "BaseException", .type "object"] true snC22 subC22 abC22 colC22 ddC22 x0C22 x1C22 x2C22 x3C22 x5C22 "ValueError.__new__"))
    (kC22 : PySem.W.keepIn K (.ref C22) = true)
    (saC22 : PySem.W.findIn K (.ref C22) "__setattr__" = some (some (.builtin "object.__setattr__")))
    (gaC22 : PySem.W.findIn K (.ref C22) "__getattribute__" = some (some (.builtin "BaseException.__getattribute__")))
    (gtC22 : PySem.W.findIn K (.ref C22) "__getattr__" = some none)
    (caC22 : PySem.W.findIn K (.ref C22) "__class__" = some (some (.builtin "object.__class__")))
    (na22_0 : PySem.W.findIn K (.ref C22) "place" = some none)
    (iC22 : PySem.W.findIn K (.ref C22) "__init__" = some (some (.ref fI22)))
    (nI22 : PySem.W.isFn K (.ref fI22) = true)
    (lI22 : K.lookup fI22 = some ⟨ocI22, odI22, .func (PySem.W.fnOf "__init__" "NoPiece.__init__" (defArgs sI22) (defBody sI22) (defScope sI22) .none kVI22 dcI22 pmI22 anI22 cdI22 ctI22), slI22⟩)
    (cI22 : PySem.W.codeIn K cdI22 "NoPiece.__init__" = true)
    (kI22 : PySem.W.keepIn K (.ref fI22) = true)
    (aC23 : PySem.W.nsIn K mainGlobals "Spoilt" = some (some (.ref C23)))
    (lC23 : K.lookup C23 = some (excClassObj nmC23 qC23 C23 NC23 bsC23 [.ref W, .type "ValueError", .type "Exception", .type "BaseException", .type "object"] true snC23 subC23 abC23 colC23 ddC23 x0C23 x1C23 x2C23 x3C23 x5C23 "ValueError.__new__"))
    (kC23 : PySem.W.keepIn K (.ref C23) = true)
    (saC23 : PySem.W.findIn K (.ref C23) "__setattr__" = some (some (.builtin "object.__setattr__")))
    (gaC23 : PySem.W.findIn K (.ref C23) "__getattribute__" = some (some (.builtin "BaseException.__getattribute__")))
    (gtC23 : PySem.W.findIn K (.ref C23) "__getattr__" = some none)
    (caC23 : PySem.W.findIn K (.ref C23) "__class__" = some (some (.builtin "object.__class__")))
    (na23_0 : PySem.W.findIn K (.ref C23) "place" = some none)
    (iC23 : PySem.W.findIn K (.ref C23) "__init__" = some (some (.ref fI23)))
    (nI23 : PySem.W.isFn K (.ref fI23) = true)
    (lI23 : K.lookup fI23 = some ⟨ocI23, odI23, .func (PySem.W.fnOf "__init__" "Spoilt.__init__" (defArgs sI23) (defBody sI23) (defScope sI23) .none kVI23 dcI23 pmI23 anI23 cdI23 ctI23), slI23⟩)
    (cI23 : PySem.W.codeIn K cdI23 "Spoilt.__init__" = true)
    (kI23 : PySem.W.keepIn K (.ref fI23) = true)
    (aC24 : PySem.W.nsIn K mainGlobals "PowerGone" = some (some (.ref C24)))
    (lC24 : K.lookup C24 = some (excClassObj nmC24 qC24 C24 NC24 bsC24 [.ref W, .type "ValueError", .type "Exception", .type "BaseException", .type "object"] true snC24 subC24 abC24 colC24 ddC24 x0C24 x1C24 x2C24 x3C24 x5C24 "ValueError.__new__"))
    (kC24 : PySem.W.keepIn K (.ref C24) = true)
    (saC24 : PySem.W.findIn K (.ref C24) "__setattr__" = some (some (.builtin "object.__setattr__")))
    (gaC24 : PySem.W.findIn K (.ref C24) "__getattribute__" = some (some (.builtin "BaseException.__getattribute__")))
    (gtC24 : PySem.W.findIn K (.ref C24) "__getattr__" = some none)
    (caC24 : PySem.W.findIn K (.ref C24) "__class__" = some (some (.builtin "object.__class__")))
    (tNC24 : K.lookup NC24 = some ⟨ocNC24, odNC24, .dict esNC24 epNC24, slNC24⟩)
    (tCC24 : (esNC24.all fun e => match e.key with | .str _ _ => true | _ => false) = true)
    (tDC24 : PySem.W.nsIn K NC24 "__init__" = some none)
    (aC25 : PySem.W.nsIn K mainGlobals "Down" = some (some (.ref C25)))
    (lC25 : K.lookup C25 = some (excClassObj nmC25 qC25 C25 NC25 bsC25 [.ref W, .type "ValueError", .type "Exception", .type "BaseException", .type "object"] true snC25 subC25 abC25 colC25 ddC25 x0C25 x1C25 x2C25 x3C25 x5C25 "ValueError.__new__"))
    (kC25 : PySem.W.keepIn K (.ref C25) = true)
    (saC25 : PySem.W.findIn K (.ref C25) "__setattr__" = some (some (.builtin "object.__setattr__")))
    (gaC25 : PySem.W.findIn K (.ref C25) "__getattribute__" = some (some (.builtin "BaseException.__getattribute__")))
    (gtC25 : PySem.W.findIn K (.ref C25) "__getattr__" = some none)
    (caC25 : PySem.W.findIn K (.ref C25) "__class__" = some (some (.builtin "object.__class__")))
    (tNC25 : K.lookup NC25 = some ⟨ocNC25, odNC25, .dict esNC25 epNC25, slNC25⟩)
    (tCC25 : (esNC25.all fun e => match e.key with | .str _ _ => true | _ => false) = true)
    (tDC25 : PySem.W.nsIn K NC25 "__init__" = some none)
    (aC26 : PySem.W.nsIn K mainGlobals "NoWood" = some (some (.ref C26)))
    (lC26 : K.lookup C26 = some (excClassObj nmC26 qC26 C26 NC26 bsC26 [.ref W, .type "ValueError", .type "Exception", .type "BaseException", .type "object"] true snC26 subC26 abC26 colC26 ddC26 x0C26 x1C26 x2C26 x3C26 x5C26 "ValueError.__new__"))
    (kC26 : PySem.W.keepIn K (.ref C26) = true)
    (saC26 : PySem.W.findIn K (.ref C26) "__setattr__" = some (some (.builtin "object.__setattr__")))
    (gaC26 : PySem.W.findIn K (.ref C26) "__getattribute__" = some (some (.builtin "BaseException.__getattribute__")))
    (gtC26 : PySem.W.findIn K (.ref C26) "__getattr__" = some none)
    (caC26 : PySem.W.findIn K (.ref C26) "__class__" = some (some (.builtin "object.__class__")))
    (tNC26 : K.lookup NC26 = some ⟨ocNC26, odNC26, .dict esNC26 epNC26, slNC26⟩)
    (tCC26 : (esNC26.all fun e => match e.key with | .str _ _ => true | _ => false) = true)
    (tDC26 : PySem.W.nsIn K NC26 "__init__" = some none)
    (aC27 : PySem.W.nsIn K mainGlobals "BadRow" = some (some (.ref C27)))
    (lC27 : K.lookup C27 = some (excClassObj nmC27 qC27 C27 NC27 bsC27 [.ref W, .type "ValueError", .type "Exception", .type "BaseException", .type "object"] true snC27 subC27 abC27 colC27 ddC27 x0C27 x1C27 x2C27 x3C27 x5C27 "ValueError.__new__"))
    (kC27 : PySem.W.keepIn K (.ref C27) = true)
    (saC27 : PySem.W.findIn K (.ref C27) "__setattr__" = some (some (.builtin "object.__setattr__")))
    (gaC27 : PySem.W.findIn K (.ref C27) "__getattribute__" = some (some (.builtin "BaseException.__getattribute__")))
    (gtC27 : PySem.W.findIn K (.ref C27) "__getattr__" = some none)
    (caC27 : PySem.W.findIn K (.ref C27) "__class__" = some (some (.builtin "object.__class__")))
    (na27_0 : PySem.W.findIn K (.ref C27) "at" = some none)
    (iC27 : PySem.W.findIn K (.ref C27) "__init__" = some (some (.ref fI27)))
    (nI27 : PySem.W.isFn K (.ref fI27) = true)
    (lI27 : K.lookup fI27 = some ⟨ocI27, odI27, .func (PySem.W.fnOf "__init__" "BadRow.__init__" (defArgs sI27) (defBody sI27) (defScope sI27) .none kVI27 dcI27 pmI27 anI27 cdI27 ctI27), slI27⟩)
    (cI27 : PySem.W.codeIn K cdI27 "BadRow.__init__" = true)
    (kI27 : PySem.W.keepIn K (.ref fI27) = true)
    (aC28 : PySem.W.nsIn K mainGlobals "NoBase" = some (some (.ref C28)))
    (lC28 : K.lookup C28 = some (excClassObj nmC28 qC28 C28 NC28 bsC28 [.ref W, .type "ValueError", .type "Exception", .type "BaseException", .type "object"] true snC28 subC28 abC28 colC28 ddC28 x0C28 x1C28 x2C28 x3C28 x5C28 "ValueError.__new__"))
    (kC28 : PySem.W.keepIn K (.ref C28) = true)
    (saC28 : PySem.W.findIn K (.ref C28) "__setattr__" = some (some (.builtin "object.__setattr__")))
    (gaC28 : PySem.W.findIn K (.ref C28) "__getattribute__" = some (some (.builtin "BaseException.__getattribute__")))
    (gtC28 : PySem.W.findIn K (.ref C28) "__getattr__" = some none)
    (caC28 : PySem.W.findIn K (.ref C28) "__class__" = some (some (.builtin "object.__class__")))
    (na28_0 : PySem.W.findIn K (.ref C28) "word" = some none)
    (na28_1 : PySem.W.findIn K (.ref C28) "stamp" = some none)
    (iC28 : PySem.W.findIn K (.ref C28) "__init__" = some (some (.ref fI28)))
    (nI28 : PySem.W.isFn K (.ref fI28) = true)
    (lI28 : K.lookup fI28 = some ⟨ocI28, odI28, .func (PySem.W.fnOf "__init__" "NoBase.__init__" (defArgs sI28) (defBody sI28) (defScope sI28) .none kVI28 dcI28 pmI28 anI28 cdI28 ctI28), slI28⟩)
    (cI28 : PySem.W.codeIn K cdI28 "NoBase.__init__" = true)
    (kI28 : PySem.W.keepIn K (.ref fI28) = true)
    (aC29 : PySem.W.nsIn K mainGlobals "NoLine" = some (some (.ref C29)))
    (lC29 : K.lookup C29 = some (excClassObj nmC29 qC29 C29 NC29 bsC29 [.ref W, .type "ValueError", .type "Exception", .type "BaseException", .type "object"] true snC29 subC29 abC29 colC29 ddC29 x0C29 x1C29 x2C29 x3C29 x5C29 "ValueError.__new__"))
    (kC29 : PySem.W.keepIn K (.ref C29) = true)
    (saC29 : PySem.W.findIn K (.ref C29) "__setattr__" = some (some (.builtin "object.__setattr__")))
    (gaC29 : PySem.W.findIn K (.ref C29) "__getattribute__" = some (some (.builtin "BaseException.__getattribute__")))
    (gtC29 : PySem.W.findIn K (.ref C29) "__getattr__" = some none)
    (caC29 : PySem.W.findIn K (.ref C29) "__class__" = some (some (.builtin "object.__class__")))
    (na29_0 : PySem.W.findIn K (.ref C29) "line" = some none)
    (iC29 : PySem.W.findIn K (.ref C29) "__init__" = some (some (.ref fI29)))
    (nI29 : PySem.W.isFn K (.ref fI29) = true)
    (lI29 : K.lookup fI29 = some ⟨ocI29, odI29, .func (PySem.W.fnOf "__init__" "NoLine.__init__" (defArgs sI29) (defBody sI29) (defScope sI29) .none kVI29 dcI29 pmI29 anI29 cdI29 ctI29), slI29⟩)
    (cI29 : PySem.W.codeIn K cdI29 "NoLine.__init__" = true)
    (kI29 : PySem.W.keepIn K (.ref fI29) = true)
    (nd : (W :: [C0, C1, C2, C3, C4, C5, C6, C7, C8, C9, C10, C11, C12, C13, C14, C15, C16, C17, C18, C19, C20, C21, C22, C23, C24, C25, C26, C27, C28, C29] : List Addr).Nodup)
    (z0 : PySem.W.nsIn K mainGlobals "isinstance" = some none)
    (z1 : PySem.W.nsIn K mainGlobals "range" = some none)
    (z2 : PySem.W.nsIn K mainGlobals "str" = some none)
    (z3 : PySem.W.nsIn K mainGlobals "ValueError" = some none) :
    ∃ fd : FuncData, (∀ (s : Shared) (v : Value), BindsTo s fd ⟨[v], []⟩ [("_law_script", v)]) ∧ ∀ base : Heap, K.In base → base.Ns mainGlobals mg → FnOk l.prog w K mg base CX0 6 fa fd ["_law_script"] (spLaw K) := by
  have e := hfa.symm.trans (PySem.W.mg_of X G aLaw)
  cases e
  have T : Txt mg := ⟨PySem.W.mg_none_of X G z0, PySem.W.mg_none_of X G z1, PySem.W.mg_none_of X G z2, PySem.W.mg_none_of X G z3⟩
  have FRa := fun_mk (st := sRa) lRa cRa kRa
  have hRa : Has K mg "_law_raise_a" sRa ["_law_k", "_law_one", "_law_other"] fRa _ := ⟨FRa, FRa.binds (ps := ["_law_k", "_law_one", "_law_other"]) fun _ _ _ _ _ _ us hl => match us, hl with | [_, _, _], _ => rfl, PySem.W.mg_of X G aRa⟩
  have FRb := fun_mk (st := sRb) lRb cRb kRb
  have hRb : Has K mg "_law_raise_b" sRb ["_law_k", "_law_one", "_law_other"] fRb _ := ⟨FRb, FRb.binds (ps := ["_law_k", "_law_one", "_law_other"]) fun _ _ _ _ _ _ us hl => match us, hl with | [_, _, _], _ => rfl, PySem.W.mg_of X G aRb⟩
  have FRc := fun_mk (st := sRc) lRc cRc kRc
  have hRc : Has K mg "_law_raise_c" sRc ["_law_k", "_law_one", "_law_other"] fRc _ := ⟨FRc, FRc.binds (ps := ["_law_k", "_law_one", "_law_other"]) fun _ _ _ _ _ _ us hl => match us, hl with | [_, _, _], _ => rfl, PySem.W.mg_of X G aRc⟩
  have FRd := fun_mk (st := sRd) lRd cRd kRd
  have hRd : Has K mg "_law_raise_d" sRd ["_law_k", "_law_one", "_law_other"] fRd _ := ⟨FRd, FRd.binds (ps := ["_law_k", "_law_one", "_law_other"]) fun _ _ _ _ _ _ us hl => match us, hl with | [_, _, _], _ => rfl, PySem.W.mg_of X G aRd⟩
  have FRai := fun_mk (st := sRai) lRai cRai kRai
  have hRai : Has K mg "_law_raised" sRai ["_law_k", "_law_one", "_law_other"] fRai _ := ⟨FRai, FRai.binds (ps := ["_law_k", "_law_one", "_law_other"]) fun _ _ _ _ _ _ us hl => match us, hl with | [_, _, _], _ => rfl, PySem.W.mg_of X G aRai⟩
  have FKa := fun_mk (st := sKa) lKa cKa kKa
  have hKa : Has K mg "_law_kinds_a" sKa ["_law_e"] fKa _ := ⟨FKa, FKa.binds (ps := ["_law_e"]) fun _ _ _ _ _ _ us hl => match us, hl with | [_], _ => rfl, PySem.W.mg_of X G aKa⟩
  have FKb := fun_mk (st := sKb) lKb cKb kKb
  have hKb : Has K mg "_law_kinds_b" sKb ["_law_e"] fKb _ := ⟨FKb, FKb.binds (ps := ["_law_e"]) fun _ _ _ _ _ _ us hl => match us, hl with | [_], _ => rfl, PySem.W.mg_of X G aKb⟩
  have FFf := fun_mk (st := sFf) lFf cFf kFf
  have hFf : Has K mg "_law_first_field" sFf ["_law_e"] fFf _ := ⟨FFf, FFf.binds (ps := ["_law_e"]) fun _ _ _ _ _ _ us hl => match us, hl with | [_], _ => rfl, PySem.W.mg_of X G aFf⟩
  have FTf := fun_mk (st := sTf) lTf cTf kTf
  have hTf : Has K mg "_law_two_fields" sTf ["_law_e"] fTf _ := ⟨FTf, FTf.binds (ps := ["_law_e"]) fun _ _ _ _ _ _ us hl => match us, hl with | [_], _ => rfl, PySem.W.mg_of X G aTf⟩
  have FMf := fun_mk (st := sMf) lMf cMf kMf
  have hMf : Has K mg "_law_many_fields" sMf ["_law_k"] fMf _ := ⟨FMf, FMf.binds (ps := ["_law_k"]) fun _ _ _ _ _ _ us hl => match us, hl with | [_], _ => rfl, PySem.W.mg_of X G aMf⟩
  have FRig := fun_mk (st := sRig) lRig cRig kRig
  have hRig : Has K mg "_law_right" sRig ["_law_k", "_law_one", "_law_other"] fRig _ := ⟨FRig, FRig.binds (ps := ["_law_k", "_law_one", "_law_other"]) fun _ _ _ _ _ _ us hl => match us, hl with | [_, _, _], _ => rfl, PySem.W.mg_of X G aRig⟩
  have FLaw := fun_mk (st := sLaw) lLaw cLaw kLaw
  have oW : XOb K W tailVE := ⟨_, _, _, _, _, _, _, _, _, _, _, _, _, _, _, lW⟩
  have tlW : PySem.W.tailIn K tailVE (.ref W :: tailVE) = true := tail_own lW (ns_ok tNW tCW) tDW (tail_ve K)
  have o0 : XOb K C0 (wl W) := ⟨_, _, _, _, _, _, _, _, _, _, _, _, _, _, _, lC0⟩
  have cl0 : XCls K C0 := ⟨⟨_, by unfold PySem.W.clsIn; rw [lC0], .own C0 (.own W .ve), rfl⟩, saC0, gaC0, gtC0, caC0, hn, tk⟩
  have FI0 := fun_mk (st := sI0) lI0 cI0 kI0
  have i0 : XHas K mg "NoWord" sI0 C0 (wl W) fI0 _ ["self", "found"] := ⟨⟨o0, tlW, iC0, nI0, kC0⟩, cl0, wl_be W, PySem.W.mg_of X G aC0, FI0, FI0.binds (ps := ["self", "found"]) fun _ _ _ _ _ _ us hl => match us, hl with | [_, _], _ => rfl⟩
  have o1 : XOb K C1 (wl W) := ⟨_, _, _, _, _, _, _, _, _, _, _, _, _, _, _, lC1⟩
  have cl1 : XCls K C1 := ⟨⟨_, by unfold PySem.W.clsIn; rw [lC1], .own C1 (.own W .ve), rfl⟩, saC1, gaC1, gtC1, caC1, hn, tk⟩
  have FI1 := fun_mk (st := sI1) lI1 cI1 kI1
  have i1 : XHas K mg "NoPath" sI1 C1 (wl W) fI1 _ ["self", "path"] := ⟨⟨o1, tlW, iC1, nI1, kC1⟩, cl1, wl_be W, PySem.W.mg_of X G aC1, FI1, FI1.binds (ps := ["self", "path"]) fun _ _ _ _ _ _ us hl => match us, hl with | [_, _], _ => rfl⟩
  have o2 : XOb K C2 (wl W) := ⟨_, _, _, _, _, _, _, _, _, _, _, _, _, _, _, lC2⟩
  have cl2 : XCls K C2 := ⟨⟨_, by unfold PySem.W.clsIn; rw [lC2], .own C2 (.own W .ve), rfl⟩, saC2, gaC2, gtC2, caC2, hn, tk⟩
  have i2 : XMk0 K C2 (wl W) := ⟨o2, tail_own lC2 (ns_ok tNC2 tCC2) tDC2 tlW, kC2⟩
  have o3 : XOb K C3 (wl W) := ⟨_, _, _, _, _, _, _, _, _, _, _, _, _, _, _, lC3⟩
  have cl3 : XCls K C3 := ⟨⟨_, by unfold PySem.W.clsIn; rw [lC3], .own C3 (.own W .ve), rfl⟩, saC3, gaC3, gtC3, caC3, hn, tk⟩
  have FI3 := fun_mk (st := sI3) lI3 cI3 kI3
  have i3 : XHas K mg "NoSpan" sI3 C3 (wl W) fI3 _ ["self", "at", "long"] := ⟨⟨o3, tlW, iC3, nI3, kC3⟩, cl3, wl_be W, PySem.W.mg_of X G aC3, FI3, FI3.binds (ps := ["self", "at", "long"]) fun _ _ _ _ _ _ us hl => match us, hl with | [_, _, _], _ => rfl⟩
  have o4 : XOb K C4 (wl W) := ⟨_, _, _, _, _, _, _, _, _, _, _, _, _, _, _, lC4⟩
  have cl4 : XCls K C4 := ⟨⟨_, by unfold PySem.W.clsIn; rw [lC4], .own C4 (.own W .ve), rfl⟩, saC4, gaC4, gtC4, caC4, hn, tk⟩
  have FI4 := fun_mk (st := sI4) lI4 cI4 kI4
  have i4 : XHas K mg "NotThere" sI4 C4 (wl W) fI4 _ ["self", "path"] := ⟨⟨o4, tlW, iC4, nI4, kC4⟩, cl4, wl_be W, PySem.W.mg_of X G aC4, FI4, FI4.binds (ps := ["self", "path"]) fun _ _ _ _ _ _ us hl => match us, hl with | [_, _], _ => rfl⟩
  have o5 : XOb K C5 (wl W) := ⟨_, _, _, _, _, _, _, _, _, _, _, _, _, _, _, lC5⟩
  have cl5 : XCls K C5 := ⟨⟨_, by unfold PySem.W.clsIn; rw [lC5], .own C5 (.own W .ve), rfl⟩, saC5, gaC5, gtC5, caC5, hn, tk⟩
  have FI5 := fun_mk (st := sI5) lI5 cI5 kI5
  have i5 : XHas K mg "There" sI5 C5 (wl W) fI5 _ ["self", "path"] := ⟨⟨o5, tlW, iC5, nI5, kC5⟩, cl5, wl_be W, PySem.W.mg_of X G aC5, FI5, FI5.binds (ps := ["self", "path"]) fun _ _ _ _ _ _ us hl => match us, hl with | [_, _], _ => rfl⟩
  have o6 : XOb K C6 (wl W) := ⟨_, _, _, _, _, _, _, _, _, _, _, _, _, _, _, lC6⟩
  have cl6 : XCls K C6 := ⟨⟨_, by unfold PySem.W.clsIn; rw [lC6], .own C6 (.own W .ve), rfl⟩, saC6, gaC6, gtC6, caC6, hn, tk⟩
  have FI6 := fun_mk (st := sI6) lI6 cI6 kI6
  have i6 : XHas K mg "NotFolder" sI6 C6 (wl W) fI6 _ ["self", "path"] := ⟨⟨o6, tlW, iC6, nI6, kC6⟩, cl6, wl_be W, PySem.W.mg_of X G aC6, FI6, FI6.binds (ps := ["self", "path"]) fun _ _ _ _ _ _ us hl => match us, hl with | [_, _], _ => rfl⟩
  have o7 : XOb K C7 (wl W) := ⟨_, _, _, _, _, _, _, _, _, _, _, _, _, _, _, lC7⟩
  have cl7 : XCls K C7 := ⟨⟨_, by unfold PySem.W.clsIn; rw [lC7], .own C7 (.own W .ve), rfl⟩, saC7, gaC7, gtC7, caC7, hn, tk⟩
  have FI7 := fun_mk (st := sI7) lI7 cI7 kI7
  have i7 : XHas K mg "NotFile" sI7 C7 (wl W) fI7 _ ["self", "path"] := ⟨⟨o7, tlW, iC7, nI7, kC7⟩, cl7, wl_be W, PySem.W.mg_of X G aC7, FI7, FI7.binds (ps := ["self", "path"]) fun _ _ _ _ _ _ us hl => match us, hl with | [_, _], _ => rfl⟩
  have o8 : XOb K C8 (wl W) := ⟨_, _, _, _, _, _, _, _, _, _, _, _, _, _, _, lC8⟩
  have cl8 : XCls K C8 := ⟨⟨_, by unfold PySem.W.clsIn; rw [lC8], .own C8 (.own W .ve), rfl⟩, saC8, gaC8, gtC8, caC8, hn, tk⟩
  have FI8 := fun_mk (st := sI8) lI8 cI8 kI8
  have i8 : XHas K mg "Within" sI8 C8 (wl W) fI8 _ ["self", "path"] := ⟨⟨o8, tlW, iC8, nI8, kC8⟩, cl8, wl_be W, PySem.W.mg_of X G aC8, FI8, FI8.binds (ps := ["self", "path"]) fun _ _ _ _ _ _ us hl => match us, hl with | [_, _], _ => rfl⟩
  have o9 : XOb K C9 (wl W) := ⟨_, _, _, _, _, _, _, _, _, _, _, _, _, _, _, lC9⟩
  have cl9 : XCls K C9 := ⟨⟨_, by unfold PySem.W.clsIn; rw [lC9], .own C9 (.own W .ve), rfl⟩, saC9, gaC9, gtC9, caC9, hn, tk⟩
  have FI9 := fun_mk (st := sI9) lI9 cI9 kI9
  have i9 : XHas K mg "TooDeep" sI9 C9 (wl W) fI9 _ ["self", "path"] := ⟨⟨o9, tlW, iC9, nI9, kC9⟩, cl9, wl_be W, PySem.W.mg_of X G aC9, FI9, FI9.binds (ps := ["self", "path"]) fun _ _ _ _ _ _ us hl => match us, hl with | [_, _], _ => rfl⟩
  have o10 : XOb K C10 (wl W) := ⟨_, _, _, _, _, _, _, _, _, _, _, _, _, _, _, lC10⟩
  have cl10 : XCls K C10 := ⟨⟨_, by unfold PySem.W.clsIn; rw [lC10], .own C10 (.own W .ve), rfl⟩, saC10, gaC10, gtC10, caC10, hn, tk⟩
  have FI10 := fun_mk (st := sI10) lI10 cI10 kI10
  have i10 : XHas K mg "Crowded" sI10 C10 (wl W) fI10 _ ["self", "path"] := ⟨⟨o10, tlW, iC10, nI10, kC10⟩, cl10, wl_be W, PySem.W.mg_of X G aC10, FI10, FI10.binds (ps := ["self", "path"]) fun _ _ _ _ _ _ us hl => match us, hl with | [_, _], _ => rfl⟩
  have o11 : XOb K C11 (wl W) := ⟨_, _, _, _, _, _, _, _, _, _, _, _, _, _, _, lC11⟩
  have cl11 : XCls K C11 := ⟨⟨_, by unfold PySem.W.clsIn; rw [lC11], .own C11 (.own W .ve), rfl⟩, saC11, gaC11, gtC11, caC11, hn, tk⟩
  have FI11 := fun_mk (st := sI11) lI11 cI11 kI11
  have i11 : XHas K mg "TooMany" sI11 C11 (wl W) fI11 _ ["self", "many"] := ⟨⟨o11, tlW, iC11, nI11, kC11⟩, cl11, wl_be W, PySem.W.mg_of X G aC11, FI11, FI11.binds (ps := ["self", "many"]) fun _ _ _ _ _ _ us hl => match us, hl with | [_, _], _ => rfl⟩
  have o12 : XOb K C12 (wl W) := ⟨_, _, _, _, _, _, _, _, _, _, _, _, _, _, _, lC12⟩
  have cl12 : XCls K C12 := ⟨⟨_, by unfold PySem.W.clsIn; rw [lC12], .own C12 (.own W .ve), rfl⟩, saC12, gaC12, gtC12, caC12, hn, tk⟩
  have FI12 := fun_mk (st := sI12) lI12 cI12 kI12
  have i12 : XHas K mg "Over" sI12 C12 (wl W) fI12 _ ["self", "path", "needed"] := ⟨⟨o12, tlW, iC12, nI12, kC12⟩, cl12, wl_be W, PySem.W.mg_of X G aC12, FI12, FI12.binds (ps := ["self", "path", "needed"]) fun _ _ _ _ _ _ us hl => match us, hl with | [_, _, _], _ => rfl⟩
  have o13 : XOb K C13 (wl W) := ⟨_, _, _, _, _, _, _, _, _, _, _, _, _, _, _, lC13⟩
  have cl13 : XCls K C13 := ⟨⟨_, by unfold PySem.W.clsIn; rw [lC13], .own C13 (.own W .ve), rfl⟩, saC13, gaC13, gtC13, caC13, hn, tk⟩
  have FI13 := fun_mk (st := sI13) lI13 cI13 kI13
  have i13 : XHas K mg "NoRoom" sI13 C13 (wl W) fI13 _ ["self", "needed", "free"] := ⟨⟨o13, tlW, iC13, nI13, kC13⟩, cl13, wl_be W, PySem.W.mg_of X G aC13, FI13, FI13.binds (ps := ["self", "needed", "free"]) fun _ _ _ _ _ _ us hl => match us, hl with | [_, _, _], _ => rfl⟩
  have o14 : XOb K C14 (wl W) := ⟨_, _, _, _, _, _, _, _, _, _, _, _, _, _, _, lC14⟩
  have cl14 : XCls K C14 := ⟨⟨_, by unfold PySem.W.clsIn; rw [lC14], .own C14 (.own W .ve), rfl⟩, saC14, gaC14, gtC14, caC14, hn, tk⟩
  have FI14 := fun_mk (st := sI14) lI14 cI14 kI14
  have i14 : XHas K mg "NoHead" sI14 C14 (wl W) fI14 _ ["self", "name"] := ⟨⟨o14, tlW, iC14, nI14, kC14⟩, cl14, wl_be W, PySem.W.mg_of X G aC14, FI14, FI14.binds (ps := ["self", "name"]) fun _ _ _ _ _ _ us hl => match us, hl with | [_, _], _ => rfl⟩
  have o15 : XOb K C15 (wl W) := ⟨_, _, _, _, _, _, _, _, _, _, _, _, _, _, _, lC15⟩
  have cl15 : XCls K C15 := ⟨⟨_, by unfold PySem.W.clsIn; rw [lC15], .own C15 (.own W .ve), rfl⟩, saC15, gaC15, gtC15, caC15, hn, tk⟩
  have FI15 := fun_mk (st := sI15) lI15 cI15 kI15
  have i15 : XHas K mg "OldHead" sI15 C15 (wl W) fI15 _ ["self", "name"] := ⟨⟨o15, tlW, iC15, nI15, kC15⟩, cl15, wl_be W, PySem.W.mg_of X G aC15, FI15, FI15.binds (ps := ["self", "name"]) fun _ _ _ _ _ _ us hl => match us, hl with | [_, _], _ => rfl⟩
  have o16 : XOb K C16 (wl W) := ⟨_, _, _, _, _, _, _, _, _, _, _, _, _, _, _, lC16⟩
  have cl16 : XCls K C16 := ⟨⟨_, by unfold PySem.W.clsIn; rw [lC16], .own C16 (.own W .ve), rfl⟩, saC16, gaC16, gtC16, caC16, hn, tk⟩
  have FI16 := fun_mk (st := sI16) lI16 cI16 kI16
  have i16 : XHas K mg "NotGrowth" sI16 C16 (wl W) fI16 _ ["self", "name"] := ⟨⟨o16, tlW, iC16, nI16, kC16⟩, cl16, wl_be W, PySem.W.mg_of X G aC16, FI16, FI16.binds (ps := ["self", "name"]) fun _ _ _ _ _ _ us hl => match us, hl with | [_, _], _ => rfl⟩
  have o17 : XOb K C17 (wl W) := ⟨_, _, _, _, _, _, _, _, _, _, _, _, _, _, _, lC17⟩
  have cl17 : XCls K C17 := ⟨⟨_, by unfold PySem.W.clsIn; rw [lC17], .own C17 (.own W .ve), rfl⟩, saC17, gaC17, gtC17, caC17, hn, tk⟩
  have FI17 := fun_mk (st := sI17) lI17 cI17 kI17
  have i17 : XHas K mg "NotMake" sI17 C17 (wl W) fI17 _ ["self", "name"] := ⟨⟨o17, tlW, iC17, nI17, kC17⟩, cl17, wl_be W, PySem.W.mg_of X G aC17, FI17, FI17.binds (ps := ["self", "name"]) fun _ _ _ _ _ _ us hl => match us, hl with | [_, _], _ => rfl⟩
  have o18 : XOb K C18 (wl W) := ⟨_, _, _, _, _, _, _, _, _, _, _, _, _, _, _, lC18⟩
  have cl18 : XCls K C18 := ⟨⟨_, by unfold PySem.W.clsIn; rw [lC18], .own C18 (.own W .ve), rfl⟩, saC18, gaC18, gtC18, caC18, hn, tk⟩
  have FI18 := fun_mk (st := sI18) lI18 cI18 kI18
  have i18 : XHas K mg "Needed" sI18 C18 (wl W) fI18 _ ["self", "name", "by"] := ⟨⟨o18, tlW, iC18, nI18, kC18⟩, cl18, wl_be W, PySem.W.mg_of X G aC18, FI18, FI18.binds (ps := ["self", "name", "by"]) fun _ _ _ _ _ _ us hl => match us, hl with | [_, _, _], _ => rfl⟩
  have o19 : XOb K C19 (wl W) := ⟨_, _, _, _, _, _, _, _, _, _, _, _, _, _, _, lC19⟩
  have cl19 : XCls K C19 := ⟨⟨_, by unfold PySem.W.clsIn; rw [lC19], .own C19 (.own W .ve), rfl⟩, saC19, gaC19, gtC19, caC19, hn, tk⟩
  have FI19 := fun_mk (st := sI19) lI19 cI19 kI19
  have i19 : XHas K mg "Rootless" sI19 C19 (wl W) fI19 _ ["self", "name"] := ⟨⟨o19, tlW, iC19, nI19, kC19⟩, cl19, wl_be W, PySem.W.mg_of X G aC19, FI19, FI19.binds (ps := ["self", "name"]) fun _ _ _ _ _ _ us hl => match us, hl with | [_, _], _ => rfl⟩
  have o20 : XOb K C20 (wl W) := ⟨_, _, _, _, _, _, _, _, _, _, _, _, _, _, _, lC20⟩
  have cl20 : XCls K C20 := ⟨⟨_, by unfold PySem.W.clsIn; rw [lC20], .own C20 (.own W .ve), rfl⟩, saC20, gaC20, gtC20, caC20, hn, tk⟩
  have FI20 := fun_mk (st := sI20) lI20 cI20 kI20
  have i20 : XHas K mg "NoFloor" sI20 C20 (wl W) fI20 _ ["self", "many"] := ⟨⟨o20, tlW, iC20, nI20, kC20⟩, cl20, wl_be W, PySem.W.mg_of X G aC20, FI20, FI20.binds (ps := ["self", "many"]) fun _ _ _ _ _ _ us hl => match us, hl with | [_, _], _ => rfl⟩
  have o21 : XOb K C21 (wl W) := ⟨_, _, _, _, _, _, _, _, _, _, _, _, _, _, _, lC21⟩
  have cl21 : XCls K C21 := ⟨⟨_, by unfold PySem.W.clsIn; rw [lC21], .own C21 (.own W .ve), rfl⟩, saC21, gaC21, gtC21, caC21, hn, tk⟩
  have FI21 := fun_mk (st := sI21) lI21 cI21 kI21
  have i21 : XHas K mg "NoPlace" sI21 C21 (wl W) fI21 _ ["self", "place"] := ⟨⟨o21, tlW, iC21, nI21, kC21⟩, cl21, wl_be W, PySem.W.mg_of X G aC21, FI21, FI21.binds (ps := ["self", "place"]) fun _ _ _ _ _ _ us hl => match us, hl with | [_, _], _ => rfl⟩
  have o22 : XOb K C22 (wl W) := ⟨_, _, _, _, _, _, _, _, _, _, _, _, _, _, _, lC22⟩
  have cl22 : XCls K C22 := ⟨⟨_, by unfold PySem.W.clsIn; rw [lC22], .own C22 (.own W .ve), rfl⟩, saC22, gaC22, gtC22, caC22, hn, tk⟩
  have FI22 := fun_mk (st := sI22) lI22 cI22 kI22
  have i22 : XHas K mg "NoPiece" sI22 C22 (wl W) fI22 _ ["self", "place"] := ⟨⟨o22, tlW, iC22, nI22, kC22⟩, cl22, wl_be W, PySem.W.mg_of X G aC22, FI22, FI22.binds (ps := ["self", "place"]) fun _ _ _ _ _ _ us hl => match us, hl with | [_, _], _ => rfl⟩
  have o23 : XOb K C23 (wl W) := ⟨_, _, _, _, _, _, _, _, _, _, _, _, _, _, _, lC23⟩
  have cl23 : XCls K C23 := ⟨⟨_, by unfold PySem.W.clsIn; rw [lC23], .own C23 (.own W .ve), rfl⟩, saC23, gaC23, gtC23, caC23, hn, tk⟩
  have FI23 := fun_mk (st := sI23) lI23 cI23 kI23
  have i23 : XHas K mg "Spoilt" sI23 C23 (wl W) fI23 _ ["self", "place"] := ⟨⟨o23, tlW, iC23, nI23, kC23⟩, cl23, wl_be W, PySem.W.mg_of X G aC23, FI23, FI23.binds (ps := ["self", "place"]) fun _ _ _ _ _ _ us hl => match us, hl with | [_, _], _ => rfl⟩
  have o24 : XOb K C24 (wl W) := ⟨_, _, _, _, _, _, _, _, _, _, _, _, _, _, _, lC24⟩
  have cl24 : XCls K C24 := ⟨⟨_, by unfold PySem.W.clsIn; rw [lC24], .own C24 (.own W .ve), rfl⟩, saC24, gaC24, gtC24, caC24, hn, tk⟩
  have i24 : XMk0 K C24 (wl W) := ⟨o24, tail_own lC24 (ns_ok tNC24 tCC24) tDC24 tlW, kC24⟩
  have o25 : XOb K C25 (wl W) := ⟨_, _, _, _, _, _, _, _, _, _, _, _, _, _, _, lC25⟩
  have cl25 : XCls K C25 := ⟨⟨_, by unfold PySem.W.clsIn; rw [lC25], .own C25 (.own W .ve), rfl⟩, saC25, gaC25, gtC25, caC25, hn, tk⟩
  have i25 : XMk0 K C25 (wl W) := ⟨o25, tail_own lC25 (ns_ok tNC25 tCC25) tDC25 tlW, kC25⟩
  have o26 : XOb K C26 (wl W) := ⟨_, _, _, _, _, _, _, _, _, _, _, _, _, _, _, lC26⟩
  have cl26 : XCls K C26 := ⟨⟨_, by unfold PySem.W.clsIn; rw [lC26], .own C26 (.own W .ve), rfl⟩, saC26, gaC26, gtC26, caC26, hn, tk⟩
  have i26 : XMk0 K C26 (wl W) := ⟨o26, tail_own lC26 (ns_ok tNC26 tCC26) tDC26 tlW, kC26⟩
  have o27 : XOb K C27 (wl W) := ⟨_, _, _, _, _, _, _, _, _, _, _, _, _, _, _, lC27⟩
  have cl27 : XCls K C27 := ⟨⟨_, by unfold PySem.W.clsIn; rw [lC27], .own C27 (.own W .ve), rfl⟩, saC27, gaC27, gtC27, caC27, hn, tk⟩
  have FI27 := fun_mk (st := sI27) lI27 cI27 kI27
  have i27 : XHas K mg "BadRow" sI27 C27 (wl W) fI27 _ ["self", "at"] := ⟨⟨o27, tlW, iC27, nI27, kC27⟩, cl27, wl_be W, PySem.W.mg_of X G aC27, FI27, FI27.binds (ps := ["self", "at"]) fun _ _ _ _ _ _ us hl => match us, hl with | [_, _], _ => rfl⟩
  have o28 : XOb K C28 (wl W) := ⟨_, _, _, _, _, _, _, _, _, _, _, _, _, _, _, lC28⟩
  have cl28 : XCls K C28 := ⟨⟨_, by unfold PySem.W.clsIn; rw [lC28], .own C28 (.own W .ve), rfl⟩, saC28, gaC28, gtC28, caC28, hn, tk⟩
  have FI28 := fun_mk (st := sI28) lI28 cI28 kI28
  have i28 : XHas K mg "NoBase" sI28 C28 (wl W) fI28 _ ["self", "word", "stamp"] := ⟨⟨o28, tlW, iC28, nI28, kC28⟩, cl28, wl_be W, PySem.W.mg_of X G aC28, FI28, FI28.binds (ps := ["self", "word", "stamp"]) fun _ _ _ _ _ _ us hl => match us, hl with | [_, _, _], _ => rfl⟩
  have o29 : XOb K C29 (wl W) := ⟨_, _, _, _, _, _, _, _, _, _, _, _, _, _, _, lC29⟩
  have cl29 : XCls K C29 := ⟨⟨_, by unfold PySem.W.clsIn; rw [lC29], .own C29 (.own W .ve), rfl⟩, saC29, gaC29, gtC29, caC29, hn, tk⟩
  have FI29 := fun_mk (st := sI29) lI29 cI29 kI29
  have i29 : XHas K mg "NoLine" sI29 C29 (wl W) fI29 _ ["self", "line"] := ⟨⟨o29, tlW, iC29, nI29, kC29⟩, cl29, wl_be W, PySem.W.mg_of X G aC29, FI29, FI29.binds (ps := ["self", "line"]) fun _ _ _ _ _ _ us hl => match us, hl with | [_, _], _ => rfl⟩
  let c : Nat → Addr := fun k => ([C0, C1, C2, C3, C4, C5, C6, C7, C8, C9, C10, C11, C12, C13, C14, C15, C16, C17, C18, C19, C20, C21, C22, C23, C24, C25, C26, C27, C28, C29] : List Addr).getD k 0
  let fi : Nat → Addr := fun k => ([fI0, fI1, 0, fI3, fI4, fI5, fI6, fI7, fI8, fI9, fI10, fI11, fI12, fI13, fI14, fI15, fI16, fI17, fI18, fI19, fI20, fI21, fI22, fI23, 0, 0, 0, fI27, fI28, fI29] : List Addr).getD k 0
  let di : Nat → FuncData := fun k => ([(PySem.W.fnOf "__init__" "NoWord.__init__" (defArgs sI0) (defBody sI0) (defScope sI0) .none kVI0 dcI0 pmI0 anI0 cdI0 ctI0), (PySem.W.fnOf "__init__" "NoPath.__init__" (defArgs sI1) (defBody sI1) (defScope sI1) .none kVI1 dcI1 pmI1 anI1 cdI1 ctI1), (PySem.W.fnOf "__init__" "NoWord.__init__" (defArgs sI0) (defBody sI0) (defScope sI0) .none kVI0 dcI0 pmI0 anI0 cdI0 ctI0), (PySem.W.fnOf "__init__" "NoSpan.__init__" (defArgs sI3) (defBody sI3) (defScope sI3) .none kVI3 dcI3 pmI3 anI3 cdI3 ctI3), (PySem.W.fnOf "__init__" "NotThere.__init__" (defArgs sI4) (defBody sI4) (defScope sI4) .none kVI4 dcI4 pmI4 anI4 cdI4 ctI4), (PySem.W.fnOf "__init__" "There.__init__" (defArgs sI5) (defBody sI5) (defScope sI5) .none kVI5 dcI5 pmI5 anI5 cdI5 ctI5), (PySem.W.fnOf "__init__" "NotFolder.__init__" (defArgs sI6) (defBody sI6) (defScope sI6) .none kVI6 dcI6 pmI6 anI6 cdI6 ctI6), (PySem.W.fnOf "__init__" "NotFile.__init__" (defArgs sI7) (defBody sI7) (defScope sI7) .none kVI7 dcI7 pmI7 anI7 cdI7 ctI7), (PySem.W.fnOf "__init__" "Within.__init__" (defArgs sI8) (defBody sI8) (defScope sI8) .none kVI8 dcI8 pmI8 anI8 cdI8 ctI8), (PySem.W.fnOf "__init__" "TooDeep.__init__" (defArgs sI9) (defBody sI9) (defScope sI9) .none kVI9 dcI9 pmI9 anI9 cdI9 ctI9), (PySem.W.fnOf "__init__" "Crowded.__init__" (defArgs sI10) (defBody sI10) (defScope sI10) .none kVI10 dcI10 pmI10 anI10 cdI10 ctI10), (PySem.W.fnOf "__init__" "TooMany.__init__" (defArgs sI11) (defBody sI11) (defScope sI11) .none kVI11 dcI11 pmI11 anI11 cdI11 ctI11), (PySem.W.fnOf "__init__" "Over.__init__" (defArgs sI12) (defBody sI12) (defScope sI12) .none kVI12 dcI12 pmI12 anI12 cdI12 ctI12), (PySem.W.fnOf "__init__" "NoRoom.__init__" (defArgs sI13) (defBody sI13) (defScope sI13) .none kVI13 dcI13 pmI13 anI13 cdI13 ctI13), (PySem.W.fnOf "__init__" "NoHead.__init__" (defArgs sI14) (defBody sI14) (defScope sI14) .none kVI14 dcI14 pmI14 anI14 cdI14 ctI14), (PySem.W.fnOf "__init__" "OldHead.__init__" (defArgs sI15) (defBody sI15) (defScope sI15) .none kVI15 dcI15 pmI15 anI15 cdI15 ctI15), (PySem.W.fnOf "__init__" "NotGrowth.__init__" (defArgs sI16) (defBody sI16) (defScope sI16) .none kVI16 dcI16 pmI16 anI16 cdI16 ctI16), (PySem.W.fnOf "__init__" "NotMake.__init__" (defArgs sI17) (defBody sI17) (defScope sI17) .none kVI17 dcI17 pmI17 anI17 cdI17 ctI17), (PySem.W.fnOf "__init__" "Needed.__init__" (defArgs sI18) (defBody sI18) (defScope sI18) .none kVI18 dcI18 pmI18 anI18 cdI18 ctI18), (PySem.W.fnOf "__init__" "Rootless.__init__" (defArgs sI19) (defBody sI19) (defScope sI19) .none kVI19 dcI19 pmI19 anI19 cdI19 ctI19), (PySem.W.fnOf "__init__" "NoFloor.__init__" (defArgs sI20) (defBody sI20) (defScope sI20) .none kVI20 dcI20 pmI20 anI20 cdI20 ctI20), (PySem.W.fnOf "__init__" "NoPlace.__init__" (defArgs sI21) (defBody sI21) (defScope sI21) .none kVI21 dcI21 pmI21 anI21 cdI21 ctI21), (PySem.W.fnOf "__init__" "NoPiece.__init__" (defArgs sI22) (defBody sI22) (defScope sI22) .none kVI22 dcI22 pmI22 anI22 cdI22 ctI22), (PySem.W.fnOf "__init__" "Spoilt.__init__" (defArgs sI23) (defBody sI23) (defScope sI23) .none kVI23 dcI23 pmI23 anI23 cdI23 ctI23), (PySem.W.fnOf "__init__" "NoWord.__init__" (defArgs sI0) (defBody sI0) (defScope sI0) .none kVI0 dcI0 pmI0 anI0 cdI0 ctI0), (PySem.W.fnOf "__init__" "NoWord.__init__" (defArgs sI0) (defBody sI0) (defScope sI0) .none kVI0 dcI0 pmI0 anI0 cdI0 ctI0), (PySem.W.fnOf "__init__" "NoWord.__init__" (defArgs sI0) (defBody sI0) (defScope sI0) .none kVI0 dcI0 pmI0 anI0 cdI0 ctI0), (PySem.W.fnOf "__init__" "BadRow.__init__" (defArgs sI27) (defBody sI27) (defScope sI27) .none kVI27 dcI27 pmI27 anI27 cdI27 ctI27), (PySem.W.fnOf "__init__" "NoBase.__init__" (defArgs sI28) (defBody sI28) (defScope sI28) .none kVI28 dcI28 pmI28 anI28 cdI28 ctI28), (PySem.W.fnOf "__init__" "NoLine.__init__" (defArgs sI29) (defBody sI29) (defScope sI29) .none kVI29 dcI29 pmI29 anI29 cdI29 ctI29)] : List FuncData).getD k (PySem.W.fnOf "__init__" "NoWord.__init__" (defArgs sI0) (defBody sI0) (defScope sI0) .none kVI0 dcI0 pmI0 anI0 cdI0 ctI0)
  obtain ⟨ndW, ndC⟩ := List.nodup_cons.mp nd
  have S : Cs K mg c W := {
    ob := all30 o0 o1 o2 o3 o4 o5 o6 o7 o8 o9 o10 o11 o12 o13 o14 o15 o16 o17 o18 o19 o20 o21 o22 o23 o24 o25 o26 o27 o28 o29
    cl := all30 cl0 cl1 cl2 cl3 cl4 cl5 cl6 cl7 cl8 cl9 cl10 cl11 cl12 cl13 cl14 cl15 cl16 cl17 cl18 cl19 cl20 cl21 cl22 cl23 cl24 cl25 cl26 cl27 cl28 cl29
    nm := all30 (PySem.W.mg_of X G aC0) (PySem.W.mg_of X G aC1) (PySem.W.mg_of X G aC2) (PySem.W.mg_of X G aC3) (PySem.W.mg_of X G aC4) (PySem.W.mg_of X G aC5) (PySem.W.mg_of X G aC6) (PySem.W.mg_of X G aC7) (PySem.W.mg_of X G aC8) (PySem.W.mg_of X G aC9) (PySem.W.mg_of X G aC10) (PySem.W.mg_of X G aC11) (PySem.W.mg_of X G aC12) (PySem.W.mg_of X G aC13) (PySem.W.mg_of X G aC14) (PySem.W.mg_of X G aC15) (PySem.W.mg_of X G aC16) (PySem.W.mg_of X G aC17) (PySem.W.mg_of X G aC18) (PySem.W.mg_of X G aC19) (PySem.W.mg_of X G aC20) (PySem.W.mg_of X G aC21) (PySem.W.mg_of X G aC22) (PySem.W.mg_of X G aC23) (PySem.W.mg_of X G aC24) (PySem.W.mg_of X G aC25) (PySem.W.mg_of X G aC26) (PySem.W.mg_of X G aC27) (PySem.W.mg_of X G aC28) (PySem.W.mg_of X G aC29)
    inj := fun k hk j hj e => getD_inj ndC hk hj e
    nw := fun k hk e => ndW (by
      rw [← e]
      exact getD_mem hk)
    noat := all30 (fun f h => by obtain rfl : f = _ := List.mem_singleton.mp h; exact na0_0) (fun f h => by obtain rfl : f = _ := List.mem_singleton.mp h; exact na1_0) (fun f h => by cases h) (fun f h => by rcases List.mem_cons.mp h with rfl | h; exact na3_0; obtain rfl : f = _ := List.mem_singleton.mp h; exact na3_1) (fun f h => by obtain rfl : f = _ := List.mem_singleton.mp h; exact na4_0) (fun f h => by obtain rfl : f = _ := List.mem_singleton.mp h; exact na5_0) (fun f h => by obtain rfl : f = _ := List.mem_singleton.mp h; exact na6_0) (fun f h => by obtain rfl : f = _ := List.mem_singleton.mp h; exact na7_0) (fun f h => by obtain rfl : f = _ := List.mem_singleton.mp h; exact na8_0) (fun f h => by obtain rfl : f = _ := List.mem_singleton.mp h; exact na9_0) (fun f h => by obtain rfl : f = _ := List.mem_singleton.mp h; exact na10_0) (fun f h => by obtain rfl : f = _ := List.mem_singleton.mp h; exact na11_0) (fun f h => by rcases List.mem_cons.mp h with rfl | h; exact na12_0; obtain rfl : f = _ := List.mem_singleton.mp h; exact na12_1) (fun f h => by rcases List.mem_cons.mp h with rfl | h; exact na13_0; obtain rfl : f = _ := List.mem_singleton.mp h; exact na13_1) (fun f h => by obtain rfl : f = _ := List.mem_singleton.mp h; exact na14_0) (fun f h => by obtain rfl : f = _ := List.mem_singleton.mp h; exact na15_0) (fun f h => by obtain rfl : f = _ := List.mem_singleton.mp h; exact na16_0) (fun f h => by obtain rfl : f = _ := List.mem_singleton.mp h; exact na17_0) (fun f h => by rcases List.mem_cons.mp h with rfl | h; exact na18_0; obtain rfl : f = _ := List.mem_singleton.mp h; exact na18_1) (fun f h => by obtain rfl : f = _ := List.mem_singleton.mp h; exact na19_0) (fun f h => by obtain rfl : f = _ := List.mem_singleton.mp h; exact na20_0) (fun f h => by obtain rfl : f = _ := List.mem_singleton.mp h; exact na21_0) (fun f h => by obtain rfl : f = _ := List.mem_singleton.mp h; exact na22_0) (fun f h => by obtain rfl : f = _ := List.mem_singleton.mp h; exact na23_0) (fun f h => by cases h) (fun f h => by cases h) (fun f h => by cases h) (fun f h => by obtain rfl : f = _ := List.mem_singleton.mp h; exact na27_0) (fun f h => by rcases List.mem_cons.mp h with rfl | h; exact na28_0; obtain rfl : f = _ := List.mem_singleton.mp h; exact na28_1) (fun f h => by obtain rfl : f = _ := List.mem_singleton.mp h; exact na29_0)
    wo := oW
    wn := PySem.W.mg_of X G aW }
  have I : Inis K mg c W fi di := ⟨i0, i1, i2, i3, i4, i5, i6, i7, i8, i9, i10, i11, i12, i13, i14, i15, i16, i17, i18, i19, i20, i21, i22, i23, i24, i25, i26, i27, i28, i29⟩
  refine ⟨PySem.W.fnOf "law" "law" (defArgs sLaw) (defBody sLaw) (defScope sLaw) .none kVLaw dcLaw pmLaw anLaw cdLaw ctLaw, fun s v => .of_eq rfl, fun base _ _ => ?_⟩
  have J : InG l.prog w K mg base c fi di := ⟨ini0 FI0 cl0 na0_0, ini1 FI1 cl1 na1_0, ini3 FI3 cl3 na3_0 na3_1, ini4 FI4 cl4 na4_0, ini5 FI5 cl5 na5_0, ini6 FI6 cl6 na6_0, ini7 FI7 cl7 na7_0, ini8 FI8 cl8 na8_0, ini9 FI9 cl9 na9_0, ini10 FI10 cl10 na10_0, ini11 FI11 cl11 na11_0, ini12 FI12 cl12 na12_0 na12_1, ini13 FI13 cl13 na13_0 na13_1, ini14 FI14 cl14 na14_0, ini15 FI15 cl15 na15_0, ini16 FI16 cl16 na16_0, ini17 FI17 cl17 na17_0, ini18 FI18 cl18 na18_0 na18_1, ini19 FI19 cl19 na19_0, ini20 FI20 cl20 na20_0, ini21 FI21 cl21 na21_0, ini22 FI22 cl22 na22_0, ini23 FI23 cl23 na23_0, ini27 FI27 cl27 na27_0, ini28 FI28 cl28 na28_0 na28_1, ini29 FI29 cl29 na29_0⟩
  have GRa : FnOk l.prog w K mg base (CXw l.prog w) 3 fRa _ ["_law_k", "_law_one", "_law_other"] (spRs c 0 8) := ok_Ra FRa S I J
  have GRb : FnOk l.prog w K mg base (CXw l.prog w) 3 fRb _ ["_law_k", "_law_one", "_law_other"] (spRs c 8 16) := ok_Rb FRb S I J
  have GRc : FnOk l.prog w K mg base (CXw l.prog w) 3 fRc _ ["_law_k", "_law_one", "_law_other"] (spRs c 16 24) := ok_Rc FRc S I J
  have GRd : FnOk l.prog w K mg base (CXw l.prog w) 3 fRd _ ["_law_k", "_law_one", "_law_other"] (spRs c 24 30) := ok_Rd FRd S I J
  have GRai : FnOk l.prog w K mg base (CXw l.prog w) 4 fRai _ ["_law_k", "_law_one", "_law_other"] (spRs c 0 30) := ok_Rai FRai hRa GRa hRb GRb hRc GRc hRd GRd
  have GKa : FnOk l.prog w K mg base CX0 1 fKa _ ["_law_e"] (spKs c 0) false := ok_Ka FKa S T
  have GKb : FnOk l.prog w K mg base CX0 1 fKb _ ["_law_e"] (spKs c 15) false := ok_Kb FKb S T
  have GTf : FnOk l.prog w K mg base CX0 1 fTf _ ["_law_e"] (spTf c) false := ok_Tf FTf S T
  have GFf : FnOk l.prog w K mg base CX0 2 fFf _ ["_law_e"] (spFf c) false := ok_Ff FFf hTf GTf S T
  have GMf : FnOk l.prog w K mg base CX0 1 fMf _ ["_law_k"] spMf false := ok_Mf FMf
  have GRig : FnOk l.prog w K mg base CX0 5 fRig _ ["_law_k", "_law_one", "_law_other"] spRig := ok_Rig FRig hRai GRai hKa GKa hKb GKb hFf GFf hMf GMf S T
  exact ok_law FLaw hRig GRig T
theorem walk {l : PySem.W.OpenLaw} {q : Program} {loose : List Str} {XP : (Str → Option Value) → Heap → Prop} {YP : World → Heap → Prop} {d : DefRec} {K : Params → PySem.W.Frag} (hn : l.most = some 63) (hdf : d.params.defaults = [])
    (hY : ∀ (w : World) (h : Heap), YP w h → (K w.params).In h)
    (F : ∀ (w : World) (mg : Str → Option Value) (fa : Addr) (h : Heap), (K w.params).In h → h.Ns mainGlobals mg → mg d.name = some (.ref fa) →
      ∃ fd : FuncData, (∀ (s : Shared) (u : Value), BindsTo s fd ⟨[u], []⟩ [("_law_script", u)]) ∧ ∀ base : Heap, (K w.params).In base → base.Ns mainGlobals mg → FnOk l.prog w (K w.params) mg base CX0 6 fa fd ["_law_script"] (spLaw (K w.params))) :
    PySem.W.WalkO q loose XP YP l.row.toRowW d [] (fun f vs => PySem.call f vs) :=
  L2.walk_of (n := 63) (k := 6) (x := "_law_script") (CX := fun _ => CX0) (sp := fun w => spLaw (K w.params)) hn (by decide) hdf ⟨fun _ => rfl, by decide, by decide⟩ hY F (fun _ _ a ns hl _ hS => ⟨a, ns, rfl, hS, hl, fun _ => rfl⟩) fun _ _ _ _ _ z => z
end K5
open PySem PySem.W PyProof.Rows
set_option maxRecDepth 100000
set_option maxHeartbeats 0
def PySem.W.Fast.tw2498884170135990033 : Unit := ()
def PySem.W.Fast.tw2356050649938077955 : Unit := ()
def PySem.W.Fast.tw6859466646741528095 : Unit := ()
def PySem.W.Fast.tw17836064001364381501 : Unit := ()
def PySem.W.Fast.tw4555405921747060648 : Unit := ()
def PySem.W.Fast.tw10583315501532875571 : Unit := ()
def PySem.W.Fast.tw17680369422305660199 : Unit := ()
def PySem.W.Fast.tw13729955550148612555 : Unit := ()
def PySem.W.Fast.tw14144328918044174649 : Unit := ()
def PySem.W.Fast.tw11941860355344270449 : Unit := ()
def PySem.W.Fast.tw5107162703404049883 : Unit := ()
def PySem.W.Fast.tw15749751473067468045 : Unit := ()
def PySem.W.Fast.tw7579453211939562906 : Unit := ()
def PySem.W.Fast.tw7364753506923380172 : Unit := ()
def PySem.W.Fast.tw6384132355092016229 : Unit := ()
def PySem.W.Fast.tw8605528803309929038 : Unit := ()
def PySem.W.Fast.tw6096608725430410958 : Unit := ()
def PySem.W.Fast.tw15195461041776904348 : Unit := ()
def PySem.W.Fast.tw6288777515033323821 : Unit := ()
def PySem.W.Fast.tw11091438383315799132 : Unit := ()
def PySem.W.Fast.tw7824476878355514185 : Unit := ()
def PySem.W.Fast.tw2423891319245612566 : Unit := ()
def PySem.W.Fast.tw15447160564898575454 : Unit := ()
def PySem.W.Fast.tw11463703774982922670 : Unit := ()
def PySem.W.Fast.tw8133375367428594486 : Unit := ()
def PySem.W.Fast.tw4739349651818029484 : Unit := ()
def PySem.W.Fast.tw13378269751861816715 : Unit := ()
def PySem.W.Fast.tw16025625115569584527 : Unit := ()
def PySem.W.Fast.tw10350748025524242494 : Unit := ()
def PySem.W.Fast.tw1603636283685297389 : Unit := ()
def PySem.W.Fast.tw6439085043087418049 : Unit := ()
def PySem.W.Fast.tw1519219470120835198 : Unit := ()
def PySem.W.Fast.tw2593625847312552953 : Unit := ()
def PySem.W.Fast.tw17079739875920941041 : Unit := ()
def PySem.W.Fast.tw3110558457395923264 : Unit := ()
open_top K5hd for PySem.Challenge.rw_clonewood_k05_refusals
theorem PySem.Challenge.cw_clonewood_k05_refusals_holds : PySem.Challenge.rw_clonewood_k05_refusals.Holds := by
  refine K5hd ?_
  k_fill
  refine K5.walk (l := PySem.Challenge.rw_clonewood_k05_refusals) rfl rfl (fun w h Y => PySem.W.kIn_of Y) ?F
  case F =>
    intro w mg fa h KX G hmg
    refine' K5.all_mk KX G hmg ?aRa ?lRa ?cRa ?kRa ?aRb ?lRb ?cRb ?kRb ?aRc ?lRc ?cRc ?kRc ?aRd ?lRd ?cRd ?kRd ?aRai ?lRai ?cRai ?kRai ?aKa ?lKa ?cKa ?kKa ?aKb ?lKb ?cKb ?kKb ?aFf ?lFf ?cFf ?kFf ?aTf ?lTf ?cTf ?kTf ?aMf ?lMf ?cMf ?kMf ?aRig ?lRig ?cRig ?kRig ?aLaw ?lLaw ?cLaw ?kLaw ?aW ?lW ?tNW ?tCW ?tDW ?hn ?tk ?aC0 ?lC0 ?kC0 ?saC0 ?gaC0 ?gtC0 ?caC0 ?na0_0 ?iC0 ?nI0 ?lI0 ?cI0 ?kI0 ?aC1 ?lC1 ?kC1 ?saC1 ?gaC1 ?gtC1 ?caC1 ?na1_0 ?iC1 ?nI1 ?lI1 ?cI1 ?kI1 ?aC2 ?lC2 ?kC2 ?saC2 ?gaC2 ?gtC2 ?caC2 ?tNC2 ?tCC2 ?tDC2 ?aC3 ?lC3 ?kC3 ?saC3 ?gaC3 ?gtC3 ?caC3 ?na3_0 ?na3_1 ?iC3 ?nI3 ?lI3 ?cI3 ?kI3 ?aC4 ?lC4 ?kC4 ?saC4 ?gaC4 ?gtC4 ?caC4 ?na4_0 ?iC4 ?nI4 ?lI4 ?cI4 ?kI4 ?aC5 ?lC5 ?kC5 ?saC5 ?gaC5 ?gtC5 ?caC5 ?na5_0 ?iC5 ?nI5 ?lI5 ?cI5 ?kI5 ?aC6 ?lC6 ?kC6 ?saC6 ?gaC6 ?gtC6 ?caC6 ?na6_0 ?iC6 ?nI6 ?lI6 ?cI6 ?kI6 ?aC7 ?lC7 ?kC7 ?saC7 ?gaC7 ?gtC7 ?caC7 ?na7_0 ?iC7 ?nI7 ?lI7 ?cI7 ?kI7 ?aC8 ?lC8 ?kC8 ?saC8 ?gaC8 ?gtC8 ?caC8 ?na8_0 ?iC8 ?nI8 ?lI8 ?cI8 ?kI8 ?aC9 ?lC9 ?kC9 ?saC9 ?gaC9 ?gtC9 ?caC9 ?na9_0 ?iC9 ?nI9 ?lI9 ?cI9 ?kI9 ?aC10 ?lC10 ?kC10 ?saC10 ?gaC10 ?gtC10 ?caC10 ?na10_0 ?iC10 ?nI10 ?lI10 ?cI10 ?kI10 ?aC11 ?lC11 ?kC11 ?saC11 ?gaC11 ?gtC11 ?caC11 ?na11_0 ?iC11 ?nI11 ?lI11 ?cI11 ?kI11 ?aC12 ?lC12 ?kC12 ?saC12 ?gaC12 ?gtC12 ?caC12 ?na12_0 ?na12_1 ?iC12 ?nI12 ?lI12 ?cI12 ?kI12 ?aC13 ?lC13 ?kC13 ?saC13 ?gaC13 ?gtC13 ?caC13 ?na13_0 ?na13_1 ?iC13 ?nI13 ?lI13 ?cI13 ?kI13 ?aC14 ?lC14 ?kC14 ?saC14 ?gaC14 ?gtC14 ?caC14 ?na14_0 ?iC14 ?nI14 ?lI14 ?cI14 ?kI14 ?aC15 ?lC15 ?kC15 ?saC15 ?gaC15 ?gtC15 ?caC15 ?na15_0 ?iC15 ?nI15 ?lI15 ?cI15 ?kI15 ?aC16 ?lC16 ?kC16 ?saC16 ?gaC16 ?gtC16 ?caC16 ?na16_0 ?iC16 ?nI16 ?lI16 ?cI16 ?kI16 ?aC17 ?lC17 ?kC17 ?saC17 ?gaC17 ?gtC17 ?caC17 ?na17_0 ?iC17 ?nI17 ?lI17 ?cI17 ?kI17 ?aC18 ?lC18 ?kC18 ?saC18 ?gaC18 ?gtC18 ?caC18 ?na18_0 ?na18_1 ?iC18 ?nI18 ?lI18 ?cI18 ?kI18 ?aC19 ?lC19 ?kC19 ?saC19 ?gaC19 ?gtC19 ?caC19 ?na19_0 ?iC19 ?nI19 ?lI19 ?cI19 ?kI19 ?aC20 ?lC20 ?kC20 ?saC20 ?gaC20 ?gtC20 ?caC20 ?na20_0 ?iC20 ?nI20 ?lI20 ?cI20 ?kI20 ?aC21 ?lC21 ?kC21 ?saC21 ?gaC21 ?gtC21 ?caC21 ?na21_0 ?iC21 ?nI21 ?lI21 ?cI21 ?kI21 ?aC22 ?lC22 ?kC22 ?saC22 ?gaC22 ?gtC22 ?caC22 ?na22_0 ?iC22 ?nI22 ?lI22 ?cI22 ?kI22 ?aC23 ?lC23 ?kC23 ?saC23 ?gaC23 ?gtC23 ?caC23 ?na23_0 ?iC23 ?nI23 ?lI23 ?cI23 ?kI23 ?aC24 ?lC24 ?kC24 ?saC24 ?gaC24 ?gtC24 ?caC24 ?tNC24 ?tCC24 ?tDC24 ?aC25 ?lC25 ?kC25 ?saC25 ?gaC25 ?gtC25 ?caC25 ?tNC25 ?tCC25 ?tDC25 ?aC26 ?lC26 ?kC26 ?saC26 ?gaC26 ?gtC26 ?caC26 ?tNC26 ?tCC26 ?tDC26 ?aC27 ?lC27 ?kC27 ?saC27 ?gaC27 ?gtC27 ?caC27 ?na27_0 ?iC27 ?nI27 ?lI27 ?cI27 ?kI27 ?aC28 ?lC28 ?kC28 ?saC28 ?gaC28 ?gtC28 ?caC28 ?na28_0 ?na28_1 ?iC28 ?nI28 ?lI28 ?cI28 ?kI28 ?aC29 ?lC29 ?kC29 ?saC29 ?gaC29 ?gtC29 ?caC29 ?na29_0 ?iC29 ?nI29 ?lI29 ?cI29 ?kI29 ?nd ?z0 ?z1 ?z2 ?z3
    (case aRa => k_is)
    (case lRa => k_is)
    (case cRa => k_is)
    (case kRa => k_is)
    (case aRb => k_is)
    (case lRb => k_is)
    (case cRb => k_is)
    (case kRb => k_is)
    (case aRc => k_is)
    (case lRc => k_is)
    (case cRc => k_is)
    (case kRc => k_is)
    (case aRd => k_is)
    (case lRd => k_is)
    (case cRd => k_is)
    (case kRd => k_is)
    (case aRai => k_is)
    (case lRai => k_is)
    (case cRai => k_is)
    (case kRai => k_is)
    (case aKa => k_is)
    (case lKa => k_is)
    (case cKa => k_is)
    (case kKa => k_is)
    (case aKb => k_is)
    (case lKb => k_is)
    (case cKb => k_is)
    (case kKb => k_is)
    (case aFf => k_is)
    (case lFf => k_is)
    (case cFf => k_is)
    (case kFf => k_is)
    (case aTf => k_is)
    (case lTf => k_is)
    (case cTf => k_is)
    (case kTf => k_is)
    (case aMf => k_is)
    (case lMf => k_is)
    (case cMf => k_is)
    (case kMf => k_is)
    (case aRig => k_is)
    (case lRig => k_is)
    (case cRig => k_is)
    (case kRig => k_is)
    (case aLaw => k_is)
    (case lLaw => k_is)
    (case cLaw => k_is)
    (case kLaw => k_is)
    (case aW => k_is)
    (case lW => k_is)
    (case tNW => k_is)
    (case tCW => first | rfl | decide | simp)
    (case tDW => k_is)
    (case hn => k_is)
    (case tk => k_is)
    (case aC0 => k_is)
    (case lC0 => k_is)
    (case kC0 => k_is)
    (case saC0 => k_is)
    (case gaC0 => k_is)
    (case gtC0 => k_is)
    (case caC0 => k_is)
    (case na0_0 => k_is)
    (case iC0 => k_is)
    (case nI0 => k_is)
    (case lI0 => k_is)
    (case cI0 => k_is)
    (case kI0 => k_is)
    (case aC1 => k_is)
    (case lC1 => k_is)
    (case kC1 => k_is)
    (case saC1 => k_is)
    (case gaC1 => k_is)
    (case gtC1 => k_is)
    (case caC1 => k_is)
    (case na1_0 => k_is)
    (case iC1 => k_is)
    (case nI1 => k_is)
    (case lI1 => k_is)
    (case cI1 => k_is)
    (case kI1 => k_is)
    (case aC2 => k_is)
    (case lC2 => k_is)
    (case kC2 => k_is)
    (case saC2 => k_is)
    (case gaC2 => k_is)
    (case gtC2 => k_is)
    (case caC2 => k_is)
    (case tNC2 => k_is)
    (case tCC2 => first | rfl | decide | simp)
    (case tDC2 => k_is)
    (case aC3 => k_is)
    (case lC3 => k_is)
    (case kC3 => k_is)
    (case saC3 => k_is)
    (case gaC3 => k_is)
    (case gtC3 => k_is)
    (case caC3 => k_is)
    (case na3_0 => k_is)
    (case na3_1 => k_is)
    (case iC3 => k_is)
    (case nI3 => k_is)
    (case lI3 => k_is)
    (case cI3 => k_is)
    (case kI3 => k_is)
    (case aC4 => k_is)
    (case lC4 => k_is)
    (case kC4 => k_is)
    (case saC4 => k_is)
    (case gaC4 => k_is)
    (case gtC4 => k_is)
    (case caC4 => k_is)
    (case na4_0 => k_is)
    (case iC4 => k_is)
    (case nI4 => k_is)
    (case lI4 => k_is)
    (case cI4 => k_is)
    (case kI4 => k_is)
    (case aC5 => k_is)
    (case lC5 => k_is)
    (case kC5 => k_is)
    (case saC5 => k_is)
    (case gaC5 => k_is)
    (case gtC5 => k_is)
    (case caC5 => k_is)
    (case na5_0 => k_is)
    (case iC5 => k_is)
    (case nI5 => k_is)
    (case lI5 => k_is)
    (case cI5 => k_is)
    (case kI5 => k_is)
    (case aC6 => k_is)
    (case lC6 => k_is)
    (case kC6 => k_is)
    (case saC6 => k_is)
    (case gaC6 => k_is)
    (case gtC6 => k_is)
    (case caC6 => k_is)
    (case na6_0 => k_is)
    (case iC6 => k_is)
    (case nI6 => k_is)
    (case lI6 => k_is)
    (case cI6 => k_is)
    (case kI6 => k_is)
    (case aC7 => k_is)
    (case lC7 => k_is)
    (case kC7 => k_is)
    (case saC7 => k_is)
    (case gaC7 => k_is)
    (case gtC7 => k_is)
    (case caC7 => k_is)
    (case na7_0 => k_is)
    (case iC7 => k_is)
    (case nI7 => k_is)
    (case lI7 => k_is)
    (case cI7 => k_is)
    (case kI7 => k_is)
    (case aC8 => k_is)
    (case lC8 => k_is)
    (case kC8 => k_is)
    (case saC8 => k_is)
    (case gaC8 => k_is)
    (case gtC8 => k_is)
    (case caC8 => k_is)
    (case na8_0 => k_is)
    (case iC8 => k_is)
    (case nI8 => k_is)
    (case lI8 => k_is)
    (case cI8 => k_is)
    (case kI8 => k_is)
    (case aC9 => k_is)
    (case lC9 => k_is)
    (case kC9 => k_is)
    (case saC9 => k_is)
    (case gaC9 => k_is)
    (case gtC9 => k_is)
    (case caC9 => k_is)
    (case na9_0 => k_is)
    (case iC9 => k_is)
    (case nI9 => k_is)
    (case lI9 => k_is)
    (case cI9 => k_is)
    (case kI9 => k_is)
    (case aC10 => k_is)
    (case lC10 => k_is)
    (case kC10 => k_is)
    (case saC10 => k_is)
    (case gaC10 => k_is)
    (case gtC10 => k_is)
    (case caC10 => k_is)
    (case na10_0 => k_is)
    (case iC10 => k_is)
    (case nI10 => k_is)
    (case lI10 => k_is)
    (case cI10 => k_is)
    (case kI10 => k_is)
    (case aC11 => k_is)
    (case lC11 => k_is)
    (case kC11 => k_is)
    (case saC11 => k_is)
    (case gaC11 => k_is)
    (case gtC11 => k_is)
    (case caC11 => k_is)
    (case na11_0 => k_is)
    (case iC11 => k_is)
    (case nI11 => k_is)
    (case lI11 => k_is)
    (case cI11 => k_is)
    (case kI11 => k_is)
    (case aC12 => k_is)
    (case lC12 => k_is)
    (case kC12 => k_is)
    (case saC12 => k_is)
    (case gaC12 => k_is)
    (case gtC12 => k_is)
    (case caC12 => k_is)
    (case na12_0 => k_is)
    (case na12_1 => k_is)
    (case iC12 => k_is)
    (case nI12 => k_is)
    (case lI12 => k_is)
    (case cI12 => k_is)
    (case kI12 => k_is)
    (case aC13 => k_is)
    (case lC13 => k_is)
    (case kC13 => k_is)
    (case saC13 => k_is)
    (case gaC13 => k_is)
    (case gtC13 => k_is)
    (case caC13 => k_is)
    (case na13_0 => k_is)
    (case na13_1 => k_is)
    (case iC13 => k_is)
    (case nI13 => k_is)
    (case lI13 => k_is)
    (case cI13 => k_is)
    (case kI13 => k_is)
    (case aC14 => k_is)
    (case lC14 => k_is)
    (case kC14 => k_is)
    (case saC14 => k_is)
    (case gaC14 => k_is)
    (case gtC14 => k_is)
    (case caC14 => k_is)
    (case na14_0 => k_is)
    (case iC14 => k_is)
    (case nI14 => k_is)
    (case lI14 => k_is)
    (case cI14 => k_is)
    (case kI14 => k_is)
    (case aC15 => k_is)
    (case lC15 => k_is)
    (case kC15 => k_is)
    (case saC15 => k_is)
    (case gaC15 => k_is)
    (case gtC15 => k_is)
    (case caC15 => k_is)
    (case na15_0 => k_is)
    (case iC15 => k_is)
    (case nI15 => k_is)
    (case lI15 => k_is)
    (case cI15 => k_is)
    (case kI15 => k_is)
    (case aC16 => k_is)
    (case lC16 => k_is)
    (case kC16 => k_is)
    (case saC16 => k_is)
    (case gaC16 => k_is)
    (case gtC16 => k_is)
    (case caC16 => k_is)
    (case na16_0 => k_is)
    (case iC16 => k_is)
    (case nI16 => k_is)
    (case lI16 => k_is)
    (case cI16 => k_is)
    (case kI16 => k_is)
    (case aC17 => k_is)
    (case lC17 => k_is)
    (case kC17 => k_is)
    (case saC17 => k_is)
    (case gaC17 => k_is)
    (case gtC17 => k_is)
    (case caC17 => k_is)
    (case na17_0 => k_is)
    (case iC17 => k_is)
    (case nI17 => k_is)
    (case lI17 => k_is)
    (case cI17 => k_is)
    (case kI17 => k_is)
    (case aC18 => k_is)
    (case lC18 => k_is)
    (case kC18 => k_is)
    (case saC18 => k_is)
    (case gaC18 => k_is)
    (case gtC18 => k_is)
    (case caC18 => k_is)
    (case na18_0 => k_is)
    (case na18_1 => k_is)
    (case iC18 => k_is)
    (case nI18 => k_is)
    (case lI18 => k_is)
    (case cI18 => k_is)
    (case kI18 => k_is)
    (case aC19 => k_is)
    (case lC19 => k_is)
    (case kC19 => k_is)
    (case saC19 => k_is)
    (case gaC19 => k_is)
    (case gtC19 => k_is)
    (case caC19 => k_is)
    (case na19_0 => k_is)
    (case iC19 => k_is)
    (case nI19 => k_is)
    (case lI19 => k_is)
    (case cI19 => k_is)
    (case kI19 => k_is)
    (case aC20 => k_is)
    (case lC20 => k_is)
    (case kC20 => k_is)
    (case saC20 => k_is)
    (case gaC20 => k_is)
    (case gtC20 => k_is)
    (case caC20 => k_is)
    (case na20_0 => k_is)
    (case iC20 => k_is)
    (case nI20 => k_is)
    (case lI20 => k_is)
    (case cI20 => k_is)
    (case kI20 => k_is)
    (case aC21 => k_is)
    (case lC21 => k_is)
    (case kC21 => k_is)
    (case saC21 => k_is)
    (case gaC21 => k_is)
    (case gtC21 => k_is)
    (case caC21 => k_is)
    (case na21_0 => k_is)
    (case iC21 => k_is)
    (case nI21 => k_is)
    (case lI21 => k_is)
    (case cI21 => k_is)
    (case kI21 => k_is)
    (case aC22 => k_is)
    (case lC22 => k_is)
    (case kC22 => k_is)
    (case saC22 => k_is)
    (case gaC22 => k_is)
    (case gtC22 => k_is)
    (case caC22 => k_is)
    (case na22_0 => k_is)
    (case iC22 => k_is)
    (case nI22 => k_is)
    (case lI22 => k_is)
    (case cI22 => k_is)
    (case kI22 => k_is)
    (case aC23 => k_is)
    (case lC23 => k_is)
    (case kC23 => k_is)
    (case saC23 => k_is)
    (case gaC23 => k_is)
    (case gtC23 => k_is)
    (case caC23 => k_is)
    (case na23_0 => k_is)
    (case iC23 => k_is)
    (case nI23 => k_is)
    (case lI23 => k_is)
    (case cI23 => k_is)
    (case kI23 => k_is)
    (case aC24 => k_is)
    (case lC24 => k_is)
    (case kC24 => k_is)
    (case saC24 => k_is)
    (case gaC24 => k_is)
    (case gtC24 => k_is)
    (case caC24 => k_is)
    (case tNC24 => k_is)
    (case tCC24 => first | rfl | decide | simp)
    (case tDC24 => k_is)
    (case aC25 => k_is)
    (case lC25 => k_is)
    (case kC25 => k_is)
    (case saC25 => k_is)
    (case gaC25 => k_is)
    (case gtC25 => k_is)
    (case caC25 => k_is)
    (case tNC25 => k_is)
    (case tCC25 => first | rfl | decide | simp)
    (case tDC25 => k_is)
    (case aC26 => k_is)
    (case lC26 => k_is)
    (case kC26 => k_is)
    (case saC26 => k_is)
    (case gaC26 => k_is)
    (case gtC26 => k_is)
    (case caC26 => k_is)
    (case tNC26 => k_is)
    (case tCC26 => first | rfl | decide | simp)
    (case tDC26 => k_is)
    (case aC27 => k_is)
    (case lC27 => k_is)
    (case kC27 => k_is)
    (case saC27 => k_is)
    (case gaC27 => k_is)
    (case gtC27 => k_is)
    (case caC27 => k_is)
    (case na27_0 => k_is)
    (case iC27 => k_is)
    (case nI27 => k_is)
    (case lI27 => k_is)
    (case cI27 => k_is)
    (case kI27 => k_is)
    (case aC28 => k_is)
    (case lC28 => k_is)
    (case kC28 => k_is)
    (case saC28 => k_is)
    (case gaC28 => k_is)
    (case gtC28 => k_is)
    (case caC28 => k_is)
    (case na28_0 => k_is)
    (case na28_1 => k_is)
    (case iC28 => k_is)
    (case nI28 => k_is)
    (case lI28 => k_is)
    (case cI28 => k_is)
    (case kI28 => k_is)
    (case aC29 => k_is)
    (case lC29 => k_is)
    (case kC29 => k_is)
    (case saC29 => k_is)
    (case gaC29 => k_is)
    (case gtC29 => k_is)
    (case caC29 => k_is)
    (case na29_0 => k_is)
    (case iC29 => k_is)
    (case nI29 => k_is)
    (case lI29 => k_is)
    (case cI29 => k_is)
    (case kI29 => k_is)
    (case nd => first | decide | decide +kernel)
    (case z0 => k_is)
    (case z1 => k_is)
    (case z2 => k_is)
    (case z3 => k_is)
#print axioms PySem.Challenge.cw_clonewood_k05_refusals_holds
