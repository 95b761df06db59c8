import PyProof.Rows.All
import Wide.All
import OpenK.AllK
import Wide.FinOn
import Lean
import PyProof.EqAt
import PyProof.EqKinds
import PyProof.NeKinds
import PyProof.TupleCall
import PySem.Challenge.RW_clonewood_k43_odd_arguments
import PyProof.SetKind
import PyProof.Rows.SetFrom
import KE.KDictList
import KE.KEqDict
import OpenK.KCls
set_option Elab.async false
set_option linter.all false
set_option maxRecDepth 100000
/-! THE HAND LAYER, for ints, bools, texts, own classes, LISTS and tuples (index, slices, in, append, pop ..), calls, loops. Paste it whole ahead of your own text; what your proof does not reach may be deleted. -/
namespace L2
open PySem PySem.Spec PyProof.Rows

/-- a key: an int or a str -/
abbrev Key := Sum Int Str
def keyIs : Key → Value → Bool
  | .inl k, v => Value.isInt k v
  | .inr x, v => Value.isStrOf x v
def keyH (w : World) : Key → Int
  | .inl k => hashInt k
  | .inr x => hashStr w x
theorem keyIs_shape : ∀ {k : Key} {v : Value}, keyIs k v = true → (∃ i t, k = Sum.inl i ∧ v = Value.int i t) ∨ (∃ x t, k = Sum.inr x ∧ v = Value.str x t)
  | .inl i, v, h => by
    obtain ⟨t, e⟩ := Value.isInt_shape (k := i) (v := v) h
    exact .inl ⟨i, t, rfl, e⟩
  | .inr x, v, h => by
    obtain ⟨t, e⟩ := Value.isStrOf_shape (x := x) (v := v) h
    exact .inr ⟨x, t, rfl, e⟩
theorem keyIs_int (i : Int) (t : Tok) : keyIs (.inl i) (.int i t) = true := by simp [keyIs, Value.isInt]
theorem keyIs_str (x : Str) (t : Tok) : keyIs (.inr x) (.str x t) = true := by simp [keyIs, Value.isStrOf]
theorem key_ll (a b : Int) : decide ((Sum.inl a : Key) = Sum.inl b) = (a == b) := by
  by_cases e : a = b
  · subst e; simp
  · have h : ¬ (Sum.inl a : Key) = Sum.inl b := fun q => e (Sum.inl.inj q)
    rw [decide_eq_false h]
    exact (beq_eq_false_iff_ne.mpr e).symm
theorem key_rr (a b : Str) : decide ((Sum.inr a : Key) = Sum.inr b) = decide (a = b) := by
  by_cases e : a = b
  · subst e; simp
  · have h : ¬ (Sum.inr a : Key) = Sum.inr b := fun q => e (Sum.inr.inj q)
    rw [decide_eq_false h, decide_eq_false e]
theorem key_lr (a : Int) (b : Str) : decide ((Sum.inl a : Key) = Sum.inr b) = false := decide_eq_false (fun q => nomatch q)
theorem key_rl (a : Str) (b : Int) : decide ((Sum.inr a : Key) = Sum.inl b) = false := decide_eq_false (fun q => nomatch q)

def mixKind (prog : Program) (w : World) : PySem.KeyKind prog w Key where
  is := keyIs
  hash := keyH w
  inj := fun v a b ha hb => by
    rcases keyIs_shape ha with ⟨i, t, rfl, rfl⟩ | ⟨x, t, rfl, rfl⟩
    · rcases keyIs_shape hb with ⟨j, u, rfl, e⟩ | ⟨y, u, rfl, e⟩
      · injection e with e1 _; rw [e1]
      · exact nomatch e
    · rcases keyIs_shape hb with ⟨j, u, rfl, e⟩ | ⟨y, u, rfl, e⟩
      · exact nomatch e
      · injection e with e1 _; rw [e1]
  byValue := fun k v h => by
    rcases keyIs_shape h with ⟨i, t, rfl, rfl⟩ | ⟨x, t, rfl, rfl⟩ <;> rfl
  pyHash := fun hv h => by
    rcases keyIs_shape hv with ⟨i, t, rfl, rfl⟩ | ⟨x, t, rfl, rfl⟩
    · exact wpAny_pyHash_int h
    · exact wpAny_pyHash_str h
  eqBool := fun hu hv h => by
    rcases keyIs_shape hu with ⟨i, t, rfl, rfl⟩ | ⟨x, t, rfl, rfl⟩
    · rcases keyIs_shape hv with ⟨j, u, rfl, rfl⟩ | ⟨y, u, rfl, rfl⟩
      · rw [key_ll] at h; exact wpAny_eqBool_int h
      · rw [key_lr] at h; exact SeqAt.EqAt.int_str i t y u _ _ _ _ h
    · rcases keyIs_shape hv with ⟨j, u, rfl, rfl⟩ | ⟨y, u, rfl, rfl⟩
      · rw [key_rl] at h; exact SeqAt.EqAt.str_int x t j u _ _ _ _ h
      · rw [key_rr] at h; exact wpAny_eqBool_str h
  «strs» := fun k x t v h => by
    rcases keyIs_shape h with ⟨i, u, rfl, e⟩ | ⟨y, u, rfl, e⟩
    · exact nomatch e
    · injection e with e1 _
      subst e1
      cases v <;> rfl

theorem mixKind_int (prog : Program) (w : World) (i : Int) (t : Tok) : (mixKind prog w).is (.inl i) (.int i t) = true := keyIs_int i t
theorem mixKind_str (prog : Program) (w : World) (x : Str) (t : Tok) : (mixKind prog w).is (.inr x) (.str x t) = true := keyIs_str x t
end L2

namespace L2
open PySem PySem.Spec PyProof.Rows

/-- a value, without the heap -/
inductive V where
  | non | bl (b : Bool) | int (i : Int) | str (x : Str) | byt (b : Array UInt8) | flt (b : UInt64) | ref (a : Addr) | ty (n : String)
  deriving DecidableEq

def RelV : V → Value → Prop
  | .non, u => u = Value.none
  | .bl b, u => u = Value.bool b
  | .int i, u => ∃ t, u = Value.int i t
  | .str x, u => ∃ t, u = Value.str x t
  | .byt b, u => ∃ t, u = Value.bytes b t
  | .flt b, u => ∃ t, u = Value.float b t
  | .ref a, u => u = Value.ref a
  | .ty n, u => u = Value.type n

abbrev Vals : List V → List Value → Prop := Paired RelV
theorem Vals.length {xs : List V} {us : List Value} (r : Vals xs us) : xs.length = us.length := Paired.length r
theorem Vals.get : ∀ {xs : List V} {us : List Value} {i : Nat} {x : V}, Vals xs us → xs[i]? = some x → ∃ u, us[i]? = some u ∧ RelV x u
  | _, _, _, _, .nil, e => by simp at e
  | _, _, 0, _, .cons r _, e => by simp at e; subst e; exact ⟨_, rfl, r⟩
  | _, _, i + 1, x, .cons _ t, e => by
    obtain ⟨u, h1, h2⟩ := Vals.get (i := i) (x := x) t (by simpa using e)
    exact ⟨u, by simpa using h1, h2⟩
theorem Vals.append : ∀ {xs ys : List V} {us ws : List Value}, Vals xs us → Vals ys ws → Vals (xs ++ ys) (us ++ ws)
  | _, _, _, _, .nil, s => s
  | _, _, _, _, .cons r t, s => .cons r (Vals.append t s)
theorem Vals.take : ∀ {xs : List V} {us : List Value} (n : Nat), Vals xs us → Vals (xs.take n) (us.take n)
  | _, _, 0, _ => .nil
  | _, _, _ + 1, .nil => .nil
  | _, _, n + 1, .cons r t => .cons r (Vals.take n t)
theorem Vals.drop : ∀ {xs : List V} {us : List Value} (n : Nat), Vals xs us → Vals (xs.drop n) (us.drop n)
  | _, _, 0, r => r
  | _, _, _ + 1, .nil => .nil
  | _, _, n + 1, .cons _ t => Vals.drop n t
def RelO : Option V → Option Value → Prop
  | some v, some u => RelV v u
  | none, none => True
  | _, _ => False
def KV {κ : Type} : List (κ × V) → List (κ × Value) → Prop := Paired fun (p : κ × V) (q : κ × Value) => p.1 = q.1 ∧ RelV p.2 q.2

/-- a key of a dict (00_mix): an int or a text -/
def kV : Key → V
  | .inl i => .int i
  | .inr x => .str x

/-- what stands at a tracked address -/
inductive HO where
  /-- a list -/
  | lst (xs : List V)
  /-- a tuple (never changes) -/
  | tup (xs : List V)
  /-- a dict whose keys are ints and texts; one whose keys are tuples of ints and texts (the empty one is both) -/
  | dK (kvs : List (Key × V)) | dT (kvs : List (List Key × V))
  /-- a set of ints: its members, its size -/
  | set (S : Int → Bool) (n : Nat)
  /-- an instance of the class at C, its dict at dx, its attributes -/
  | ins (C dx : Addr) (fs : List (Str × V))
  /-- the dict of the instance at x -/
  | own (x : Addr)
  /-- the dict of an exception -/
  | xd (fs : List (Str × V))
  /-- a bound method, f of x -/
  | met (f x : Addr)
  /-- a range object lo, lo + 1, .. below hi -/
  | rng (lo hi : Int)
  /-- a thing that is known to the object (the script; a dict while a loop walks it): read, never written while it is so -/
  | frz (o : Obj) (u : HO)
  /-- a code object's table -/
  | tbl (ps : Array Value)
  /-- any other thing, by what is true of its one object (a def of one's own: SetO a S n := HO.ext fun h => ..) -/
  | ext (φ : Heap → Prop)

abbrev Hp := Addr → Option HO
def upd (H : Hp) (a : Addr) (o : HO) : Hp := fun b => if b = a then some o else H b
theorem upd_same {H : Hp} {a : Addr} {o : HO} : upd H a o a = some o := by unfold upd; rw [if_pos rfl]
theorem upd_ne {H : Hp} {a b : Addr} {o : HO} (h : b ≠ a) : upd H a o b = H b := by unfold upd; rw [if_neg h]
theorem upd_upd {H : Hp} {a : Addr} {o u : HO} : upd (upd H a o) a u = upd H a u := by
  funext b; unfold upd; split <;> rfl
theorem ne_of_none {H : Hp} {a b : Addr} {o : HO} (h : H a = some o) (h' : H b = none) : a ≠ b := by
  intro e; subst e; rw [h] at h'; cases h'

section
variable (P : Program) (w : World)
def ObjOk (H : Hp) (h : Heap) (a : Addr) : HO → Prop
  | .lst xs => xs.length ≤ sizeLine ∧ ∃ (its : List Value) (n : Nat), Vals xs its ∧ h.get? a = some { cls := .type "list", data := .seq its.toArray n }
  | .tup xs => xs.length ≤ sizeLine ∧ ∃ its : List Value, Vals xs its ∧ IsTup h a its.toArray
  | .dK kvs => kvs.length ≤ sizeLine ∧ (a == sysModules) = false ∧ ∃ vs, KV kvs vs ∧ h.DictOf (mixKind P w) a vs
  | .dT kvs => kvs.length ≤ sizeLine ∧ (a == sysModules) = false ∧ ∃ xs : List (List Key × Addr × Value),
      Paired (fun (p : List Key × V) (q : List Key × Addr × Value) => p.1 = q.1 ∧ H q.2.1 = some (.tup (p.1.map kV)) ∧ RelV p.2 q.2.2) kvs xs ∧
      ∃ o es ep, h.get? a = some o ∧ o.ExactDict ∧ o.data = .dict es ep ∧ es.toList = xs.map (entryOfKey (tupleKind (mixKind P w))) ∧ (xs.map (·.1)).Nodup
  | .set S n => h.SetOf (intKind P w) a S n
  | .ins C dx fs => H dx = some (.own a) ∧ fs.length ≤ 1000 ∧ dx ≠ a ∧ h.get? a = some (PySem.W.instObj C dx) ∧
      ∃ mA, h.Ns1 dx mA ∧ (∀ f, RelO (fs.lookup f) (mA f)) ∧ PySem.Within mA (fs.map (·.1))
  | .own _ => ∃ o, h.get? a = some o
  | .xd fs => ∃ mA, h.Ns1 a mA ∧ ∀ f, RelO (fs.lookup f) (mA f)
  | .rng lo hi => ∃ t u v, h.get? a = some { cls := .type "range", data := .fields #[.int lo t, .int hi u, .int 1 v] }
  | .frz o u => h.get? a = some o ∧ ObjOk H h a u
  | .tbl ps => h.get? a = some { cls := .none, data := .fields ps }
  | .met f x => h.get? a = some (PySem.W.methodObj (.ref f) (.ref x))
  | .ext φ => φ h ∧ (∃ o, h.get? a = some o) ∧ ∀ h1 h2 : Heap, φ h1 → (∀ o, h1.get? a = some o → h2.get? a = some o) → φ h2
/-- the abstract heap is held -/
def HOk (H : Hp) (h : Heap) : Prop := ∀ a o, H a = some o → ObjOk P w H h a o
end

section
variable {P : Program} {w : World} {H H' : Hp} {h h' : Heap} {a : Addr} {o : HO}
theorem ObjOk.lt (x : ObjOk P w H h a o) : a < h.objs.size := by
  cases o with
  | lst xs => obtain ⟨_, _, _, _, e⟩ := x; exact Heap.lt_size e
  | tup xs => obtain ⟨_, _, _, p⟩ := x; exact p.lt
  | dK kvs => obtain ⟨_, _, _, _, o, _, _, e, _⟩ := x; exact Heap.lt_size e
  | dT kvs => obtain ⟨_, _, _, _, o, _, _, e, _⟩ := x; exact Heap.lt_size e
  | set S n => obtain ⟨o, _, _, _, e, _⟩ := x; exact Heap.lt_size e
  | ins C dx fs => obtain ⟨_, _, _, e, _⟩ := x; exact Heap.lt_size e
  | own y => obtain ⟨_, e⟩ := x; exact Heap.lt_size e
  | xd fs => obtain ⟨_, ⟨_, _, _, e, _⟩, _⟩ := x; exact Heap.lt_size e
  | rng lo hi => obtain ⟨_, _, _, e⟩ := x; exact Heap.lt_size e
  | frz ob u => obtain ⟨e, _⟩ := x; exact Heap.lt_size e
  | tbl ps => exact Heap.lt_size (show h.get? a = some _ from x)
  | met f y => exact Heap.lt_size (show h.get? a = some _ from x)
  | ext φ => obtain ⟨_, ⟨_, e⟩, _⟩ := x; exact Heap.lt_size e
theorem Paired.mapP {α β : Type} {F G : α → β → Prop} : ∀ {l₁ : List α} {l₂ : List β}, Paired F l₁ l₂ → (∀ a b, F a b → G a b) → Paired G l₁ l₂
  | _, _, .nil, _ => .nil
  | _, _, .cons r t, f => .cons (f _ _ r) (Paired.mapP t f)
/-- what an object's description leans on: its own object, its own dict, the tuples -/
theorem ObjOk.stay (x : ObjOk P w H h a o) (k : ∀ b u, (b = a ∨ H b = some (.own a)) → h.get? b = some u → h'.get? b = some u)
    (ho : ∀ b, H b = some (.own a) → H' b = some (.own a)) (ht : ∀ b xs, H b = some (.tup xs) → H' b = some (.tup xs)) : ObjOk P w H' h' a o := by
  induction o with
  | lst xs => obtain ⟨z, its, n, r, e⟩ := x; exact ⟨z, its, n, r, k _ _ (.inl rfl) e⟩
  | tup xs => obtain ⟨z, its, r, ob, e, c⟩ := x; exact ⟨z, its, r, ob, k _ _ (.inl rfl) e, c⟩
  | dK kvs => obtain ⟨z, y, vs, r, ob, es, ep, e, c⟩ := x; exact ⟨z, y, vs, r, ob, es, ep, k _ _ (.inl rfl) e, c⟩
  | dT kvs =>
    obtain ⟨z, y, xs, r, ob, es, ep, e, c⟩ := x
    exact ⟨z, y, xs, Paired.mapP r fun p q z => ⟨z.1, ht _ _ z.2.1, z.2.2⟩, ob, es, ep, k _ _ (.inl rfl) e, c⟩
  | set S n => obtain ⟨ob, es, ep, t, e, c⟩ := x; exact ⟨ob, es, ep, t, k _ _ (.inl rfl) e, c⟩
  | ins C dx fs =>
    obtain ⟨d, z, ne, e, mA, ⟨od, es, ep, e2, c⟩, r⟩ := x
    exact ⟨ho _ d, z, ne, k _ _ (.inl rfl) e, mA, ⟨od, es, ep, k _ _ (.inr d) e2, c⟩, r⟩
  | own y => obtain ⟨ob, e⟩ := x; exact ⟨ob, k _ _ (.inl rfl) e⟩
  | xd fs => obtain ⟨mA, ⟨od, es, ep, e, c⟩, r⟩ := x; exact ⟨mA, ⟨od, es, ep, k _ _ (.inl rfl) e, c⟩, r⟩
  | rng lo hi => obtain ⟨t, u, v, e⟩ := x; exact ⟨t, u, v, k _ _ (.inl rfl) e⟩
  | frz ob u ih => obtain ⟨e, q⟩ := x; exact ⟨k _ _ (.inl rfl) e, ih q⟩
  | tbl ps =>
    have e : h.get? a = some { cls := .none, data := .fields ps } := x
    show h'.get? a = some { cls := .none, data := .fields ps }
    exact k a _ (.inl rfl) e
  | met f y =>
    have e : h.get? a = some (PySem.W.methodObj (.ref f) (.ref y)) := x
    show h'.get? a = some (PySem.W.methodObj (.ref f) (.ref y))
    exact k a _ (.inl rfl) e
  | ext φ => obtain ⟨p, ⟨o, e⟩, st⟩ := x; exact ⟨st _ _ p fun o q => k _ _ (.inl rfl) q, ⟨o, k _ _ (.inl rfl) e⟩, st⟩
theorem HOk.lt (x : HOk P w H h) (e : H a = some o) : a < h.objs.size := (x a o e).lt
theorem HOk.fresh (x : HOk P w H h) (e : h.objs.size ≤ a) : H a = none := by
  cases q : H a with
  | none => rfl
  | some u => exact absurd (Nat.lt_of_lt_of_le (x.lt q) e) (Nat.lt_irrefl _)
/-- every object of the heap is kept -/
theorem HOk.kept (x : HOk P w H h) (k : ∀ b u, h.get? b = some u → h'.get? b = some u) : HOk P w H h' := fun a o e =>
  (x a o e).stay (fun b u _ q => k b u q) (fun _ q => q) fun _ _ q => q
/-- a new object is laid and tracked -/
theorem HOk.laid (x : HOk P w H h) (k : ∀ b u, h.get? b = some u → h'.get? b = some u) (hp : h.objs.size ≤ a) (new : ObjOk P w (upd H a o) h' a o) : HOk P w (upd H a o) h' := fun b u e => by
  have hn := x.fresh hp
  by_cases hb : b = a
  · subst hb; rw [upd_same] at e; cases e; exact new
  · rw [upd_ne hb] at e
    exact (x b u e).stay (fun c v _ q => k c v q) (fun c q => by rw [upd_ne (ne_of_none q hn)]; exact q) fun c xs q => by rw [upd_ne (ne_of_none q hn)]; exact q
end

/-- what may be read as u: it is u, or a known u -/
def Rd (H : Hp) (a : Addr) (u : HO) : Prop := H a = some u ∨ ∃ o, H a = some (.frz o u)
theorem Rd.ok {P : Program} {w : World} {H : Hp} {h : Heap} {a : Addr} {u : HO} (r : Rd H a u) (x : HOk P w H h) : ObjOk P w H h a u := by
  rcases r with r | ⟨o, r⟩
  · exact x a u r
  · obtain ⟨_, q⟩ := x a _ r
    exact q
/-- what may be written -/
def Mut : Option HO → Prop
  | some (.lst _) => True
  | some (.dK _) => True
  | some (.dT _) => True
  | some (.set _ _) => True
  | some (.ins _ _ _) => True
  | some (.ext _) => True
  | _ => False
section
variable {P : Program} {w : World} {H : Hp} {h h' : Heap} {x e : Addr} {o' : HO}
/-- the object at e is changed: x itself, or the dict of the instance x -/
theorem HOk.write (ok : HOk P w H h) (mu : Mut (H x)) (he : e = x ∨ H e = some (.own x)) (k : ∀ b u, b ≠ e → h.get? b = some u → h'.get? b = some u) (heo : ∃ u, h'.get? e = some u)
    (new : ObjOk P w (upd H x o') h' x o') : HOk P w (upd H x o') h' := fun b u q => by
  have nown : ∀ c y, H c = some (.own y) → c ≠ x := fun c y r z => by subst z; rw [r] at mu; exact mu
  have ntup : ∀ c xs, H c = some (.tup xs) → c ≠ x := fun c xs r z => by subst z; rw [r] at mu; exact mu
  by_cases hb : b = x
  · subst hb; rw [upd_same] at q; cases q; exact new
  · rw [upd_ne hb] at q
    by_cases hbe : b = e
    · have q' : H b = some (.own x) := by
        rcases he with z | z
        · exact absurd (hbe.trans z) hb
        · rw [hbe]; exact z
      rw [q] at q'; cases q'
      obtain ⟨v, hv⟩ := heo
      exact ⟨v, by rw [hbe]; exact hv⟩
    · refine (ok b u q).stay (fun c v hc r => k c v ?_ r) (fun c r => by rw [upd_ne (nown c b r)]; exact r) fun c xs r => by rw [upd_ne (ntup c xs r)]; exact r
      rcases hc with rfl | hc
      · exact hbe
      · rintro rfl
        rcases he with z | z
        · exact nown c b hc z
        · rw [hc] at z; cases z; exact hb rfl
end

/-! ### kept unless tracked; of the frames at fs (the callers') the slots may change (an exception that passes writes there); of the records at ex (iterators) nothing is said -/
structure Un (fs ex : List Addr) (H H' : Hp) (h h' : Heap) : Prop where
  keep : ∀ b o, h.get? b = some o → H b = none → b ∉ fs → b ∉ ex → h'.get? b = some o
  slot : ∀ b o, h.get? b = some o → H b = none → b ∈ fs → b ∉ ex → ∃ sl, h'.get? b = some { o with slots := sl }
  free : ∀ b o, h.get? b = some o → H b = none → b ∉ ex → H' b = none
  there : ∀ b o, h.get? b = some o → b ∉ ex → ∃ o', h'.get? b = some o'
  tups : ∀ b xs, H b = some (.tup xs) → H' b = some (.tup xs)
  frzs : ∀ b o u, H b = some (.frz o u) → H' b = some (.frz o u)
  tbls : ∀ b ps, H b = some (.tbl ps) → ∃ more, H' b = some (.tbl (ps ++ more))
section
variable {fs fs' ex ex' : List Addr} {H H1 H2 : Hp} {h h1 h2 h' : Heap} {a x e : Addr} {o : HO}
theorem Un.any (u : Un fs ex H H1 h h1) {b : Addr} {ob : Obj} (q : h.get? b = some ob) (n : H b = none) (hx : b ∉ ex) : ∃ sl, h1.get? b = some { ob with slots := sl } := by
  by_cases hb : b ∈ fs
  · exact u.slot b ob q n hb hx
  · exact ⟨ob.slots, u.keep b ob q n hb hx⟩
theorem Un.kept (k : ∀ b u, h.get? b = some u → h'.get? b = some u) : Un fs ex H H h h' :=
  ⟨fun b ob q _ _ _ => k b ob q, fun b ob q _ _ _ => ⟨ob.slots, k b ob q⟩, fun _ _ _ n _ => n, fun b ob q _ => ⟨ob, k b ob q⟩, fun _ _ q => q, fun _ _ _ q => q, fun _ ps q => ⟨#[], by rw [q]; simp⟩⟩
theorem Un.refl : Un fs ex H H h h := Un.kept fun _ _ q => q
theorem Un.laid (k : ∀ b u, h.get? b = some u → h'.get? b = some u) (hp : h.objs.size ≤ a) (hn : H a = none) : Un fs ex H (upd H a o) h h' where
  keep := fun b u q _ _ _ => k b u q
  slot := fun b u q _ _ _ => ⟨u.slots, k b u q⟩
  free := fun b u q n _ => by rw [upd_ne (Nat.ne_of_lt (Nat.lt_of_lt_of_le (Heap.lt_size q) hp))]; exact n
  there := fun b u q _ => ⟨u, k b u q⟩
  tups := fun b xs q => by rw [upd_ne (ne_of_none q hn)]; exact q
  frzs := fun b u xs q => by rw [upd_ne (ne_of_none q hn)]; exact q
  tbls := fun b ps q => ⟨#[], by rw [upd_ne (ne_of_none q hn), q]; simp⟩
theorem Un.write (mu : Mut (H x)) (he : e = x ∨ H e = some (.own x)) (k : ∀ b u, b ≠ e → h.get? b = some u → h'.get? b = some u) (heo : ∃ u, h'.get? e = some u) : Un fs ex H (upd H x o) h h' := by
  have hx : ∀ b, H b = none → b ≠ x := fun b n z => by subst z; rw [n] at mu; exact mu
  have hb : ∀ b, H b = none → b ≠ e := fun b n z => by
    subst z
    rcases he with r | r
    · exact hx b n r
    · rw [n] at r; cases r
  have hm : ∀ b u, H b = some u → ¬ Mut (some u) → b ≠ x := fun b u q nm z => by subst z; rw [q] at mu; exact nm mu
  refine ⟨fun b u q n _ _ => k b u (hb b n) q, fun b u q n _ _ => ⟨u.slots, k b u (hb b n) q⟩, fun b u q n _ => by rw [upd_ne (hx b n)]; exact n, fun b u q _ => ?_,
    fun b xs q => by rw [upd_ne (hm b _ q fun z => z)]; exact q, fun b u xs q => by rw [upd_ne (hm b _ q fun z => z)]; exact q, fun b ps q => ⟨#[], by rw [upd_ne (hm b _ q fun z => z), q]; simp⟩⟩
  by_cases hbe : b = e
  · subst hbe; exact heo
  · exact ⟨u, k b u hbe q⟩
end

/-! ### the heap without what is tracked -/
def trk (h : Heap) (H : Hp) : List Addr := (List.range h.objs.size).filter fun a => (H a).isSome
def hidT (h : Heap) (H : Hp) : Heap := PySem.W.hideAll h (trk h H)
theorem hidT_size (h : Heap) (H : Hp) : (hidT h H).objs.size = h.objs.size := PySem.W.hideAll_size _ _
theorem hidT_get {h : Heap} {H : Hp} {b : Addr} {o : Obj} (e : h.get? b = some o) (n : H b = none) : (hidT h H).get? b = some o :=
  PySem.W.hideAll_get _ e fun hm => by
    have q : (H b).isSome = true := (List.mem_filter.mp hm).2
    rw [n] at q; simp at q
theorem of_hidT {h : Heap} {H : Hp} {b : Addr} {o : Obj} (e : (hidT h H).get? b = some o) : h.get? b = some o ∧ H b = none := by
  have e' : h.get? b = some o := PySem.W.of_hideAll (trk h H) e
  refine ⟨e', ?_⟩
  cases q : H b with
  | none => rfl
  | some x =>
    have hm : b ∈ trk h H := List.mem_filter.mpr ⟨List.mem_range.mpr (Heap.lt_size e'), by simp [q]⟩
    have z : (hidT h H).get? b = none := PySem.W.hideAll_none (trk h H) hm
    rw [z] at e; cases e

/-! ### OpenK's ledger, filled with every new object but one -/
end L2

namespace L2
open PySem PySem.Spec PyProof.Rows

/-- the module's facts, over the base: the heap at the law's entry without what is tracked there -/
structure Mod (K : PySem.W.Frag) (mg : Str → Option Value) (base : Heap) : Prop where
  kin : K.In base
  glob : base.Ns mainGlobals mg
  blt : ∃ mb, base.Ns builtinsNs mb ∧ ∀ x : Str, x ≠ "__name__" → mb x = bootBuiltins x
  nolimit : base.NoLimit

/-- the context: a def's body (or a comprehension's block) running. base: fixed through the whole law; s₀, H₀: the entry; outer: the frames whose slots others may change (a def's callers); stack: all frames that run;
   ex: iterators that were made ahead of the entry and are walked here (a comprehension's); fn: the names whose cells were made at the entry (a def: all; a comprehension's block: its own); calm: not within an except suite; pn: pins that every state bears; xe: what is wanted of an exception that leaves the code -/
structure Cx where
  prog : Program
  w : World
  K : PySem.W.Frag
  mg : Str → Option Value
  base : Heap
  A : Around
  N : List Str
  s₀ : Shared
  H₀ : Hp
  env : Env
  outer : List Env
  stack : List Env
  ex : List Addr
  fn : Str → Bool
  calm : Bool
  pn : List (Addr × Obj)
  xe : Value → Shared → Prop
/-- the callers' frames -/
def frs (l : List Env) : List Addr := l.filterMap (·.frame)
abbrev Cx.fs (X : Cx) : List Addr := frs X.outer

def Vis (sc : Scope) (x : Str) : Prop := sc.names.lookup x = some .local ∨ sc.names.lookup x = some .cell ∨ sc.names.lookup x = some .free
def Loc (sc : Scope) (x : Str) : Prop := sc.names.lookup x = some .local ∨ sc.names.lookup x = some .cell
def Look (env : Env) (h : Heap) (m : Str → Option Value) (x : Str) (u : Value) : Prop :=
  (env.kindOf x = some .local ∧ m x = some u) ∨ ((env.kindOf x = some .cell ∨ env.kindOf x = some .free) ∧ ∃ c, env.cells.lookup x = some c ∧ h.IsCell c (some u))

structure Cx.Ok (X : Cx) : Prop where
  mod : Mod X.K X.mg X.base
  kind : X.env.scope.kind = .function
  glob : X.env.globals = mainGlobals
  blt : X.env.builtins = builtinsNs
  above : X.s₀.heap.objs.size ≤ X.env.locals
  inj : ∀ x y c, X.env.cells.lookup x = some c → X.env.cells.lookup y = some c → x = y
  has : ∀ x, (X.env.kindOf x = some .cell ∨ X.env.kindOf x = some .free) → ∃ c, X.env.cells.lookup x = some c
  cab : ∀ x c, X.fn x = true → X.env.cells.lookup x = some c → X.s₀.heap.objs.size ≤ c
  hd : X.calm = true → X.A.handled = none
  frames : X.A.frames = some X.stack
  stk : X.stack = X.outer ∨ (X.stack = X.env :: X.outer ∧ X.env.frame = some X.env.locals)
  exf : ∀ b ∈ X.ex, b ≠ X.env.locals ∧ ∀ x c, X.env.cells.lookup x = some c → c ≠ b
  bs : ∀ b o, X.base.get? b = some o → X.s₀.heap.get? b = some o ∧ X.H₀ b = none
  bsz : X.base.objs.size ≤ X.s₀.heap.objs.size
  noex : ∀ b o, X.base.get? b = some o → b ∉ X.ex
  exfs : ∀ b ∈ X.ex, b ∉ X.fs
  funs : X.s₀.heap.FunFrames X.base X.outer
  frf : ∀ b ∈ X.fs, X.H₀ b = none

structure Inv (X : Cx) (pins : List (Addr × Obj)) (σ : List (Option V)) (H : Hp) (s : Shared) : Prop where
  ok : X.Ok
  os : s.os = X.s₀.os
  bare : AllBare s.gens
  base : Un X.fs X.ex X.H₀ H X.s₀.heap s.heap
  loc : ∃ m, s.heap.Ns X.env.locals m ∧ ∀ (i : Nat) (x : Str) (v : V), X.N[i]? = some x → σ[i]? = some (some v) → Vis X.env.scope x → ∃ u, RelV v u ∧ Look X.env s.heap m x u
  cell : ∀ x c, X.env.cells.lookup x = some c → ∃ v, s.heap.IsCell c v
  free : H X.env.locals = none
  freeC : ∀ x c, X.env.cells.lookup x = some c → H c = none
  pin : ∀ p ∈ X.pn ++ pins, s.heap.get? p.1 = some p.2 ∧ H p.1 = none ∧ p.1 ≠ X.env.locals ∧ p.1 ∉ X.fs ∧ ∀ v, p.2.data ≠ .cell v
  hok : HOk X.prog X.w H s.heap
  len : σ.length = X.N.length

section
variable {X : Cx} {pins : List (Addr × Obj)} {σ : List (Option V)} {H H' : Hp} {s : Shared} {h' : Heap}

theorem Cx.Ok.nofr (ok : X.Ok) {b : Addr} {o : Obj} (e : X.base.get? b = some o) : b ∉ X.fs := fun hb => by
  have := (ok.funs.mem hb).1
  rw [e] at this; cases this
theorem Inv.bs (I : Inv X pins σ H s) : ∀ b o, X.base.get? b = some o → s.heap.get? b = some o ∧ H b = none := fun b o e =>
  ⟨I.base.keep b o (I.ok.bs b o e).1 (I.ok.bs b o e).2 (I.ok.nofr e) (I.ok.noex b o e), I.base.free b o (I.ok.bs b o e).1 (I.ok.bs b o e).2 (I.ok.noex b o e)⟩
theorem Inv.bk (I : Inv X pins σ H s) : ∀ b o, X.base.get? b = some o → s.heap.get? b = some o := fun b o e => (I.bs b o e).1
theorem Inv.mod (I : Inv X pins σ H s) : Mod X.K X.mg X.base := I.ok.mod
theorem Inv.kIn (I : Inv X pins σ H s) : X.K.In s.heap := I.ok.mod.kin.keeps I.bk
theorem Inv.nolimit (I : Inv X pins σ H s) : s.heap.NoLimit := I.ok.mod.nolimit.keeps I.bk
theorem Inv.lt (I : Inv X pins σ H s) : X.env.locals < s.heap.objs.size := let ⟨_, hn, _⟩ := I.loc; hn.lt
theorem Inv.sz (I : Inv X pins σ H s) : X.s₀.heap.objs.size ≤ s.heap.objs.size := Nat.le_trans I.ok.above (Nat.le_of_lt I.lt)
theorem Inv.nofs (I : Inv X pins σ H s) {a : Addr} (h : s.heap.objs.size ≤ a) : a ∉ X.fs := fun hb => by
  obtain ⟨_, o, ho, _⟩ := I.ok.funs.mem hb
  exact absurd (Nat.lt_of_lt_of_le (Heap.lt_size ho) (Nat.le_trans I.sz h)) (Nat.lt_irrefl _)
theorem Inv.cne (I : Inv X pins σ H s) : ∀ x c, X.env.cells.lookup x = some c → c ≠ X.env.locals := fun x c e z => by
  obtain ⟨v, o, ho, hd⟩ := I.cell x c e
  obtain ⟨m, ⟨o', es, ep, ho', hd', _⟩, _⟩ := I.loc
  rw [z, ho'] at ho; cases ho; rw [hd'] at hd; cases hd
theorem Inv.funs (I : Inv X pins σ H s) : s.heap.FunFrames X.base X.outer := by
  have all : ∀ (l : List Env), (∀ b ∈ frs l, b ∈ X.fs) → X.s₀.heap.FunFrames X.base l → s.heap.FunFrames X.base l := by
    intro l
    induction l with
    | nil => intro _ _; trivial
    | cons env r ih =>
      intro hs hl
      obtain ⟨hk, ⟨L, o, hf, hn, ho, hd⟩, hr⟩ := hl
      have hL : L ∈ X.fs := hs L (by unfold frs; rw [List.filterMap_cons, hf]; exact List.mem_cons_self)
      obtain ⟨sl, e⟩ := I.base.slot L o ho (I.ok.frf L hL) hL fun z => I.ok.exfs L z hL
      exact ⟨hk, ⟨L, _, hf, hn, e, hd⟩, ih (fun b hb => hs b (by unfold frs; rw [List.filterMap_cons, hf]; exact List.mem_cons_of_mem _ hb)) hr⟩
  exact all X.outer (fun _ hb => hb) I.ok.funs

/-- the frames that run, for a call -/
theorem Inv.stack (I : Inv X pins σ H s) : s.heap.FunFrames X.base X.stack := by
  rcases I.ok.stk with e | ⟨e, hf⟩
  · rw [e]; exact I.funs
  · rw [e]
    obtain ⟨m, hn, _⟩ := I.loc
    refine .cons (by rw [I.ok.kind]; decide) hf hn ?_ I.funs
    exact Heap.get?_none_of_le (Nat.le_trans I.ok.bsz I.ok.above)
theorem Inv.stkSub (I : Inv X pins σ H s) : ∀ b ∈ frs X.stack, b ∈ X.env.locals :: X.fs := fun b hb => by
  rcases I.ok.stk with e | ⟨e, hf⟩
  · rw [e] at hb; exact List.mem_cons_of_mem _ hb
  · rw [e] at hb
    unfold frs at hb
    rw [List.filterMap_cons, hf] at hb
    exact hb
theorem Inv.stkFree (I : Inv X pins σ H s) : ∀ b ∈ frs X.stack, H b = none := fun b hb => by
  rcases List.mem_cons.mp (I.stkSub b hb) with e | hb
  · rw [e]; exact I.free
  · obtain ⟨_, o, ho, _⟩ := I.ok.funs.mem hb
    exact I.base.free b o ho (I.ok.frf b hb) fun z => I.ok.exfs b z hb

/-- THE STEP: the untracked objects but the frame and the records at ch are kept (the callers' frames up to slots), the frame's map is kept, the new abstract heap is held -/
theorem Inv.step {g' : Array GenState} {t' : Nat} {d' : Drawn} {ch : List Addr} (I : Inv X pins σ H s)
    (hch : ∀ b ∈ ch, (b ∈ X.ex ∨ X.s₀.heap.objs.size ≤ b) ∧ b ≠ X.env.locals ∧ (∀ x c, X.env.cells.lookup x = some c → c ≠ b) ∧ ∀ p ∈ X.pn ++ pins, p.1 ≠ b)
    (keep : ∀ b o, b ≠ X.env.locals → b ∉ X.fs → b ∉ ch → s.heap.get? b = some o → H b = none → h'.get? b = some o)
    (slot : ∀ b o, b ≠ X.env.locals → b ∈ X.fs → b ∉ ch → s.heap.get? b = some o → H b = none → ∃ sl, h'.get? b = some { o with slots := sl }) (free : ∀ b o, b ∉ ch → s.heap.get? b = some o → H b = none → H' b = none)
    (there : ∀ b o, b ∉ ch → s.heap.get? b = some o → ∃ o', h'.get? b = some o')
    (tups : ∀ b xs, H b = some (.tup xs) → H' b = some (.tup xs)) (frzs : ∀ b o u, H b = some (.frz o u) → H' b = some (.frz o u)) (tbls : ∀ b ps, H b = some (.tbl ps) → ∃ more, H' b = some (.tbl (ps ++ more)))
    (ns : ∀ m, s.heap.Ns X.env.locals m → h'.Ns X.env.locals m) (hok : HOk X.prog X.w H' h') (hg : AllBare g') :
    Inv X pins σ H' { s with heap := h', gens := g', drawn := d', toks := t' } := by
  have neL : ∀ b o, X.s₀.heap.get? b = some o → b ≠ X.env.locals := fun b o e => Nat.ne_of_lt (Nat.lt_of_lt_of_le (Heap.lt_size e) I.ok.above)
  have neC : ∀ b o, X.s₀.heap.get? b = some o → b ∉ X.ex → b ∉ ch := fun b o e hx hb => by
    rcases (hch b hb).1 with z | z
    · exact hx z
    · exact absurd (Nat.lt_of_lt_of_le (Heap.lt_size e) z) (Nat.lt_irrefl _)
  have cellK : ∀ x c, X.env.cells.lookup x = some c → ∀ v, s.heap.IsCell c v → h'.IsCell c v := fun x c e v ⟨o, ho, hd⟩ => by
    have nch : c ∉ ch := fun z => (hch c z).2.2.1 x c e rfl
    by_cases hc : c ∈ X.fs
    · obtain ⟨sl, q⟩ := slot c o (I.cne x c e) hc nch ho (I.freeC x c e)
      exact ⟨_, q, hd⟩
    · exact ⟨o, keep c o (I.cne x c e) hc nch ho (I.freeC x c e), hd⟩
  refine ⟨I.ok, I.os, hg, ⟨fun b o e n hb hx => ?_, fun b o e n hb hx => ?_, fun b o e n hx => ?_, fun b o e hx => ?_, fun b xs e => tups b xs (I.base.tups b xs e), fun b o xs e => frzs b o xs (I.base.frzs b o xs e), fun b ps e => ?_⟩, ?_, fun x c e => ?_, ?_, fun x c e => ?_, fun p hp => ?_, hok, I.len⟩
  · exact keep b o (neL b o e) hb (neC b o e hx) (I.base.keep b o e n hb hx) (I.base.free b o e n hx)
  · obtain ⟨sl, e1⟩ := I.base.slot b o e n hb hx
    obtain ⟨sl', e2⟩ := slot b _ (neL b o e) hb (neC b o e hx) e1 (I.base.free b o e n hx)
    exact ⟨sl', e2⟩
  · obtain ⟨o', e1⟩ := I.base.there b o e hx
    exact free b o' (neC b o e hx) e1 (I.base.free b o e n hx)
  · obtain ⟨o', e1⟩ := I.base.there b o e hx
    exact there b o' (neC b o e hx) e1
  · obtain ⟨m1, e1⟩ := I.base.tbls b ps e
    obtain ⟨m2, e2⟩ := tbls b _ e1
    exact ⟨m1 ++ m2, by rw [e2, Array.append_assoc]⟩
  · obtain ⟨m, hn, hl⟩ := I.loc
    refine ⟨m, ns m hn, fun i x v e1 e2 e3 => ?_⟩
    obtain ⟨u, r, l⟩ := hl i x v e1 e2 e3
    refine ⟨u, r, ?_⟩
    rcases l with l | ⟨k, c, e, z⟩
    · exact .inl l
    · exact .inr ⟨k, c, e, cellK x c e _ z⟩
  · obtain ⟨v, z⟩ := I.cell x c e
    exact ⟨v, cellK x c e v z⟩
  · obtain ⟨m, ⟨o, _, _, ho, _⟩, _⟩ := I.loc
    exact free _ o (fun z => (hch _ z).2.1 rfl) ho I.free
  · obtain ⟨v, o, ho, hd⟩ := I.cell x c e
    exact free c o (fun z => (hch c z).2.2.1 x c e rfl) ho (I.freeC x c e)
  · obtain ⟨e, n, ne, nf, d⟩ := I.pin p hp
    have nch : p.1 ∉ ch := fun z => (hch p.1 z).2.2.2 p hp rfl
    exact ⟨keep p.1 p.2 ne nf nch e n, free p.1 p.2 nch e n, ne, nf, d⟩
/-- .. where the frame's own object is kept too -/
theorem Inv.un {t' : Nat} (I : Inv X pins σ H s) (u : Un X.fs [] H H' s.heap h') (hok : HOk X.prog X.w H' h') : Inv X pins σ H' { s with heap := h', toks := t' } := by
  obtain ⟨m, ⟨o, es, ep, ho, r⟩, _⟩ := id I.loc
  obtain ⟨sl, hL⟩ := u.any ho I.free (by simp)
  exact I.step (g' := s.gens) (d' := s.drawn) (ch := []) (fun _ z => nomatch z) (fun b o _ hb _ e n => u.keep b o e n hb (by simp)) (fun b o _ hb _ e n => u.slot b o e n hb (by simp)) (fun b o _ e n => u.free b o e n (by simp)) (fun b o _ e => u.there b o e (by simp)) u.tups u.frzs u.tbls (fun m' hm => by
    obtain ⟨o', es', ep', ho', r'⟩ := hm
    rw [ho] at ho'; cases ho'
    exact ⟨_, es', ep', hL, r'⟩) hok I.bare
/-- behind a call (or a comprehension's block): the slots of this frame may have changed too, the records at ch may have turned -/
theorem Inv.call {g' : Array GenState} {t' : Nat} {d' : Drawn} {ch : List Addr} (I : Inv X pins σ H s) (u : Un (frs X.stack) ch H H' s.heap h') (hok : HOk X.prog X.w H' h') (hg : AllBare g')
    (hch : ∀ b ∈ ch, (b ∈ X.ex ∨ X.s₀.heap.objs.size ≤ b) ∧ b ≠ X.env.locals ∧ (∀ x c, X.env.cells.lookup x = some c → c ≠ b) ∧ ∀ p ∈ X.pn ++ pins, p.1 ≠ b) :
    Inv X pins σ H' { s with heap := h', gens := g', drawn := d', toks := t' } := by
  obtain ⟨m, ⟨o, es, ep, ho, r⟩, _⟩ := id I.loc
  obtain ⟨sl, hL⟩ := u.any ho I.free fun z => (hch _ z).2.1 rfl
  exact I.step (ch := ch) hch (fun b o hL hb hc e n => u.keep b o e n (fun z => (List.mem_cons.mp (I.stkSub b z)).elim hL hb) hc) (fun b o _ _ hc e n => u.any e n hc) (fun b o hc e n => u.free b o e n hc) (fun b o hc e => u.there b o e hc) u.tups u.frzs u.tbls (fun m' hm => by
    obtain ⟨o', es', ep', ho', r'⟩ := hm
    rw [ho] at ho'; cases ho'
    exact ⟨_, es', ep', hL, r'⟩) hok hg
/-- an untracked record of ours (an iterator) has turned -/
theorem Inv.turned {t' : Nat} {it : Addr} (I : Inv X pins σ H s) (k : ∀ b o, b ≠ it → s.heap.get? b = some o → h'.get? b = some o) (hn : H it = none) (hL : it ≠ X.env.locals)
    (h1 : it ∈ X.ex ∨ X.s₀.heap.objs.size ≤ it) (h2 : ∀ x c, X.env.cells.lookup x = some c → c ≠ it) (h3 : ∀ p ∈ X.pn ++ pins, p.1 ≠ it) : Inv X pins σ H { s with heap := h', toks := t' } := by
  have nit : ∀ b u, H b = some u → b ≠ it := fun b u e z => by rw [z, hn] at e; cases e
  refine I.step (g' := s.gens) (d' := s.drawn) (ch := [it]) (fun b hb => ?_) (fun b o _ _ hc e _ => k b o (fun z => hc (by simp [z])) e) (fun b o _ _ hc e _ => ⟨o.slots, k b o (fun z => hc (by simp [z])) e⟩) (fun _ _ _ _ n => n)
    (fun b o hc e => ⟨o, k b o (fun z => hc (by simp [z])) e⟩) (fun _ _ e => e) (fun _ _ _ e => e) (fun b ps e => ⟨#[], by rw [e]; simp⟩) (fun m hm => ?_) (fun b u e => ?_) I.bare
  · have e : b = it := by simpa using hb
    subst e
    exact ⟨h1, hL, h2, h3⟩
  · obtain ⟨o, es, ep, ho, r⟩ := hm
    exact ⟨o, es, ep, k _ o (Ne.symm hL) ho, r⟩
  · refine (I.hok b u e).stay (fun c v hc q => k c v ?_ q) (fun _ q => q) fun _ _ q => q
    rcases hc with z | z
    · rw [z]; exact nit b u e
    · exact nit c _ z
theorem Inv.tok (I : Inv X pins σ H s) (t : Nat) : Inv X pins σ H { s with toks := t } := I.un (h' := s.heap) (t' := t) Un.refl I.hok
/-- all objects kept -/
theorem Inv.kept {t' : Nat} (I : Inv X pins σ H s) (k : ∀ b u, s.heap.get? b = some u → h'.get? b = some u) : Inv X pins σ H { s with heap := h', toks := t' } := I.un (Un.kept k) (I.hok.kept k)
/-- a new object laid and tracked -/
theorem Inv.laid {a : Addr} {o : HO} {t' : Nat} (I : Inv X pins σ H s) (k : ∀ b u, s.heap.get? b = some u → h'.get? b = some u) (hp : s.heap.objs.size ≤ a) (new : ObjOk X.prog X.w (upd H a o) h' a o) :
    Inv X pins σ (upd H a o) { s with heap := h', toks := t' } := I.un (Un.laid k hp (I.hok.fresh hp)) (I.hok.laid k hp new)
/-- an object written -/
theorem Inv.write {x e : Addr} {o : HO} {t' : Nat} (I : Inv X pins σ H s) (mu : Mut (H x)) (he : e = x ∨ H e = some (.own x)) (k : ∀ b u, b ≠ e → s.heap.get? b = some u → h'.get? b = some u) (heo : ∃ u, h'.get? e = some u)
    (new : ObjOk X.prog X.w (upd H x o) h' x o) : Inv X pins σ (upd H x o) { s with heap := h', toks := t' } := I.un (Un.write mu he k heo) (I.hok.write mu he k heo new)
theorem Inv.pins_of {pins' : List (Addr × Obj)} (I : Inv X pins σ H s) (h : ∀ p ∈ pins', s.heap.get? p.1 = some p.2 ∧ H p.1 = none ∧ p.1 ≠ X.env.locals ∧ p.1 ∉ X.fs ∧ ∀ v, p.2.data ≠ .cell v) : Inv X pins' σ H s :=
  ⟨I.ok, I.os, I.bare, I.base, I.loc, I.cell, I.free, I.freeC, fun p hp => (List.mem_append.mp hp).elim (fun z => I.pin p (List.mem_append_left _ z)) (h p), I.hok, I.len⟩

theorem nodup_ix {N : List Str} (hN : N.Nodup) {i j : Nat} {x : Str} (a : N[i]? = some x) (b : N[j]? = some x) : i = j := by
  obtain ⟨h1, e1⟩ := List.getElem?_eq_some_iff.mp a
  obtain ⟨h2, e2⟩ := List.getElem?_eq_some_iff.mp b
  exact (List.getElem_inj hN).mp (e1.trans e2.symm)

/-- a name is stored; what changed -/
theorem store_ok2 {M : Model} {A : Around} {E : Value → Shared → Prop} {i : Nat} {x : Str} {v : V} {u : Value} {Q : Unit → Shared → Prop} (I : Inv X pins σ H s) (hN : X.N.Nodup) (hi : X.N[i]? = some x) (hx : Loc X.env.scope x) (r : RelV v u)
    (h : ∀ s', Inv X pins (σ.set i (some v)) H s' → (∃ a, Heap.SameBut a s.heap s'.heap ∧ (a = X.env.locals ∨ X.env.cells.lookup x = some a)) → Q () s') (hf : X.fn x = true ∨ X.env.scope.names.lookup x = some .local := by first | exact .inl rfl | exact .inr rfl | assumption) : wpAny M A (storeName X.env x u) Q E s := by
  obtain ⟨m, hn, hl⟩ := id I.loc
  have hcls : (X.env.scope.kind == .class || (X.env.scope.kind == .module && X.env.locals != X.env.globals)) = false := by rw [I.ok.kind]; rfl
  have hiσ : i < σ.length := by rw [I.len]; exact (List.getElem?_eq_some_iff.mp hi).1
  have cne := I.cne
  have tracked : ∀ {a : Addr} {h' : Heap}, (∃ o, s.heap.get? a = some o ∧ H a = none) → Heap.SameBut a s.heap h' → HOk X.prog X.w H h' := fun {a h'} ha hs b ob e => by
    obtain ⟨_, _, hfree⟩ := ha
    refine (I.hok b ob e).stay (fun c w' hc q => (hs.2 c ?_).trans q) (fun _ q => q) fun _ _ q => q
    rintro rfl
    rcases hc with rfl | hc
    · rw [hfree] at e; cases e
    · rw [hfree] at hc; cases hc
  rcases hx with hk | hk
  · refine wpAny_storeName_local hk hn (fun h' hn' hs => ?_) hcls
    obtain ⟨oL, _, _, hoL, _⟩ := id hn
    refine h _ ⟨I.ok, I.os, I.bare, ⟨fun b o e n hb hx => ?_, fun b o e n hb hx => ?_, I.base.free, fun b o e hx => ?_, I.base.tups, I.base.frzs, I.base.tbls⟩, ⟨_, hn', fun j y v' e1 e2 e3 => ?_⟩, fun y c e => ?_, I.free, I.freeC, fun p hp => ?_, tracked ⟨oL, hoL, I.free⟩ hs, by simpa using I.len⟩ ⟨_, hs, .inl rfl⟩
    · exact (hs.2 b (Nat.ne_of_lt (Nat.lt_of_lt_of_le (Heap.lt_size e) I.ok.above))).trans (I.base.keep b o e n hb hx)
    · obtain ⟨sl, e1⟩ := I.base.slot b o e n hb hx
      exact ⟨sl, (hs.2 b (Nat.ne_of_lt (Nat.lt_of_lt_of_le (Heap.lt_size e) I.ok.above))).trans e1⟩
    · obtain ⟨o', e1⟩ := I.base.there b o e hx
      exact ⟨o', (hs.2 b (Nat.ne_of_lt (Nat.lt_of_lt_of_le (Heap.lt_size e) I.ok.above))).trans e1⟩
    · by_cases hj : j = i
      · subst hj
        rw [hi] at e1; cases e1
        rw [List.getElem?_set_self hiσ] at e2
        cases e2
        exact ⟨u, r, .inl ⟨hk, by simp⟩⟩
      · rw [List.getElem?_set_ne (Ne.symm hj)] at e2
        obtain ⟨u', r', q⟩ := hl j y v' e1 e2 e3
        refine ⟨u', r', ?_⟩
        rcases q with ⟨k, e⟩ | ⟨k, c, e, z⟩
        · refine .inl ⟨k, ?_⟩
          have : y ≠ x := fun e => hj (nodup_ix hN e1 (e ▸ hi))
          simp [this, e]
        · exact .inr ⟨k, c, e, z.sameBut hs (cne y c e)⟩
    · obtain ⟨w', z⟩ := I.cell y c e
      exact ⟨w', z.sameBut hs (cne y c e)⟩
    · obtain ⟨e, n, ne, nf, d⟩ := I.pin p hp
      exact ⟨(hs.2 p.1 ne).trans e, n, ne, nf, d⟩
  · have hfn : X.fn x = true := by
      rcases hf with z | z
      · exact z
      · rw [z] at hk; cases hk
    obtain ⟨c, hc⟩ := I.ok.has x (.inl hk)
    obtain ⟨w', z⟩ := I.cell x c hc
    refine wpAny_storeName_cell I.ok.kind hk hc z (fun h' hc' hs => ?_)
    obtain ⟨oc, hoc, hocd⟩ := id z
    refine h { s with heap := h' } ⟨I.ok, I.os, I.bare, ⟨fun b o e n hb hx => ?_, fun b o e n hb hx => ?_, I.base.free, fun b o e hx => ?_, I.base.tups, I.base.frzs, I.base.tbls⟩, ⟨m, hn.sameBut hs (Ne.symm (cne x c hc)), fun j y v' e1 e2 e3 => ?_⟩, fun y c' e => ?_, I.free, I.freeC, fun p hp => ?_, tracked ⟨oc, hoc, I.freeC x c hc⟩ hs, by simpa using I.len⟩ ⟨c, hs, .inr hc⟩
    · exact (hs.2 b (Nat.ne_of_lt (Nat.lt_of_lt_of_le (Heap.lt_size e) (I.ok.cab x c hfn hc)))).trans (I.base.keep b o e n hb hx)
    · obtain ⟨sl, e1⟩ := I.base.slot b o e n hb hx
      exact ⟨sl, (hs.2 b (Nat.ne_of_lt (Nat.lt_of_lt_of_le (Heap.lt_size e) (I.ok.cab x c hfn hc)))).trans e1⟩
    · obtain ⟨o', e1⟩ := I.base.there b o e hx
      exact ⟨o', (hs.2 b (Nat.ne_of_lt (Nat.lt_of_lt_of_le (Heap.lt_size e) (I.ok.cab x c hfn hc)))).trans e1⟩
    · by_cases hj : j = i
      · subst hj
        rw [hi] at e1; cases e1
        rw [List.getElem?_set_self hiσ] at e2
        cases e2
        exact ⟨u, r, .inr ⟨.inl hk, c, hc, hc'⟩⟩
      · rw [List.getElem?_set_ne (Ne.symm hj)] at e2
        obtain ⟨u', r', q⟩ := hl j y v' e1 e2 e3
        refine ⟨u', r', ?_⟩
        rcases q with q | ⟨k, c', e, z'⟩
        · exact .inl q
        · refine .inr ⟨k, c', e, z'.sameBut hs ?_⟩
          rintro rfl
          exact hj (nodup_ix hN e1 (I.ok.inj _ _ _ e hc ▸ hi))
    · by_cases hcc : c' = c
      · subst hcc; exact ⟨_, hc'⟩
      · obtain ⟨w2, z2⟩ := I.cell y c' e
        exact ⟨w2, z2.sameBut hs hcc⟩
    · obtain ⟨e, n, ne, nf, d⟩ := I.pin p hp
      refine ⟨(hs.2 p.1 ?_).trans e, n, ne, nf, d⟩
      intro q
      rw [q, hoc] at e
      have q' : oc = p.2 := Option.some.inj e
      exact d w' (by rw [← q']; exact hocd)
theorem store_ok {M : Model} {A : Around} {E : Value → Shared → Prop} {i : Nat} {x : Str} {v : V} {u : Value} {Q : Unit → Shared → Prop} (I : Inv X pins σ H s) (hN : X.N.Nodup) (hi : X.N[i]? = some x) (hx : Loc X.env.scope x) (r : RelV v u)
    (h : ∀ s', Inv X pins (σ.set i (some v)) H s' → Q () s') (hf : X.fn x = true ∨ X.env.scope.names.lookup x = some .local := by first | exact .inl rfl | exact .inr rfl | assumption) : wpAny M A (storeName X.env x u) Q E s :=
  store_ok2 I hN hi hx r (fun s' I' _ => h s' I') hf
/-- behind a call or a block, the state as it is -/
theorem Inv.call' {s' : Shared} {ch : List Addr} (I : Inv X pins σ H s) (ho : s'.os = s.os) (u : Un (frs X.stack) ch H H' s.heap s'.heap) (hok : HOk X.prog X.w H' s'.heap) (hg : AllBare s'.gens)
    (hch : ∀ b ∈ ch, (b ∈ X.ex ∨ X.s₀.heap.objs.size ≤ b) ∧ b ≠ X.env.locals ∧ (∀ x c, X.env.cells.lookup x = some c → c ≠ b) ∧ ∀ p ∈ X.pn ++ pins, p.1 ≠ b) : Inv X pins σ H' s' := by
  obtain ⟨h', g', d', t', o'⟩ := s'
  have e : o' = s.os := ho
  subst e
  exact I.call (g' := g') (t' := t') (d' := d') u hok hg hch
end

/-! ### the judgements -/
/-- an exception: its class, its own dict's address (where it has one), the abstract heap behind it -/
abbrev XK := Value → Option Addr → Hp → Prop
abbrev St := List (Option V)
abbrev VK := V → Hp → Prop
/-- an expression's reading; a test's; an argument list's -/
abbrev TE := St → Hp → VK → Prop
abbrev TT := St → Hp → (Bool → Hp → Prop) → Prop
abbrev TA := St → Hp → (List V → Hp → Prop) → Prop
/-- what is wanted behind a statement -/
structure Ends where
  nx : St → Hp → Prop
  rt : VK
  bk : St → Hp → Prop := fun _ _ => False
  ct : St → Hp → Prop := fun _ _ => False
abbrev TS := Ends → St → Hp → Prop

def EP (X : Cx) (pins : List (Addr × Obj)) (σ : St) (Q : VK) (u : Value) (s' : Shared) : Prop := ∃ v H', Inv X pins σ H' s' ∧ RelV v u ∧ Q v H'
def TP (X : Cx) (pins : List (Addr × Obj)) (σ : St) (Q : Bool → Hp → Prop) (b : Bool) (s' : Shared) : Prop := ∃ H', Inv X pins σ H' s' ∧ Q b H'
def AP (X : Cx) (pins : List (Addr × Obj)) (σ : St) (Q : List V → Hp → Prop) (us : List Value) (s' : Shared) : Prop := ∃ vs H', Inv X pins σ H' s' ∧ Vals vs us ∧ Q vs H'
def SP (X : Cx) (pins : List (Addr × Obj)) (D : Ends) (f : Flow) (s' : Shared) : Prop :=
  match f with
  | .next => ∃ σ' H', Inv X pins σ' H' s' ∧ D.nx σ' H'
  | .brk => ∃ σ' H', Inv X pins σ' H' s' ∧ D.bk σ' H'
  | .cont => ∃ σ' H', Inv X pins σ' H' s' ∧ D.ct σ' H'
  | .ret u => ∃ v σ' H', Inv X pins σ' H' s' ∧ RelV v u ∧ D.rt v H'

def PE (X : Cx) (e : Expr) (t : TE) : Prop :=
  ∀ (pins : List (Addr × Obj)) (s : Shared) (σ : St) (H : Hp) (Q : VK), Inv X pins σ H s → t σ H Q → wpAny (model X.prog X.w) X.A (eval e X.env) (EP X pins σ Q) X.xe s
def PT (X : Cx) (e : Expr) (t : TT) : Prop :=
  ∀ (pins : List (Addr × Obj)) (s : Shared) (σ : St) (H : Hp) (Q : Bool → Hp → Prop), Inv X pins σ H s → t σ H Q → wpAny (model X.prog X.w) X.A (isTrue e X.env (eval e X.env)) (TP X pins σ Q) X.xe s
/-- a test whatever its 'whole' is (and, or) -/
def PW (X : Cx) (e : Expr) (t : TT) : Prop :=
  ∀ (whole : Sem Value) (pins : List (Addr × Obj)) (s : Shared) (σ : St) (H : Hp) (Q : Bool → Hp → Prop), Inv X pins σ H s → t σ H Q → wpAny (model X.prog X.w) X.A (isTrue e X.env whole) (TP X pins σ Q) X.xe s
theorem PW.pt {X : Cx} {e : Expr} {t : TT} (h : PW X e t) : PT X e t := h _
/-- an argument list (no star), from the left -/
def PA (X : Cx) (es : List Expr) (t : TA) : Prop :=
  ∀ (pos : Pos) (pins : List (Addr × Obj)) (s : Shared) (σ : St) (H : Hp) (Q : List V → Hp → Prop), Inv X pins σ H s → t σ H Q → wpAny (model X.prog X.w) X.A (spliced (backTo pos (starEach es X.env))) (AP X pins σ Q) X.xe s
def PS (X : Cx) (st : Stmt) (t : TS) : Prop :=
  ∀ (pins : List (Addr × Obj)) (s : Shared) (σ : St) (H : Hp) (D : Ends), Inv X pins σ H s → t D σ H → wpAny (model X.prog X.w) X.A (exec st X.env) (SP X pins D) X.xe s
def PSs (X : Cx) (st : List Stmt) (t : TS) : Prop :=
  ∀ (pins : List (Addr × Obj)) (s : Shared) (σ : St) (H : Hp) (D : Ends), Inv X pins σ H s → t D σ H → wpAny (model X.prog X.w) X.A (execs st X.env) (SP X pins D) X.xe s
/-- weaken the end -/
theorem thn {α : Type} {t : Sem α} {Q Q' : α → Shared → Prop} {M : Model} {A : Around} {E : Value → Shared → Prop} {s : Shared} (h : wpAny M A t Q E s) (hQ : ∀ a s, Q a s → Q' a s) : wpAny M A t Q' E s := wpAny_mono h hQ fun _ _ x => x
end L2

namespace L2
open PySem PySem.Spec PyProof.Rows
section
variable {X : Cx}

/-- two expressions in a row -/
theorem bin {a b : Expr} {ta tb : TE} (ha : PE X a ta) (hb : PE X b tb) {pins : List (Addr × Obj)} {s : Shared} {σ : St} {H : Hp} {R : V → V → Hp → Prop} (I : Inv X pins σ H s) (h : ta σ H fun x H1 => tb σ H1 fun y H2 => R x y H2)
    {α : Type} {Q : α → Shared → Prop} {f : Value → Value → Sem α}
    (hf : ∀ v u s2 x y H2, Inv X pins σ H2 s2 → RelV x v → RelV y u → R x y H2 → wpAny (model X.prog X.w) X.A (f v u) Q X.xe s2) :
    wpAny (model X.prog X.w) X.A (eval a X.env) (fun v s₁ => wpAny (model X.prog X.w) X.A (eval b X.env) (fun u s₂ => wpAny (model X.prog X.w) X.A (f v u) Q X.xe s₂) X.xe s₁) X.xe s := by
  refine thn (ha pins s σ H _ I h) fun v s1 ⟨x, H1, I1, r1, q1⟩ => ?_
  refine thn (hb pins s1 σ H1 _ I1 q1) fun u s2 ⟨y, H2, I2, r2, q2⟩ => ?_
  exact hf v u s2 x y H2 I2 r1 r2 q2

/-! ### names and constants -/
def tVar (i : Nat) : TE := fun σ H Q => ∃ v, σ[i]? = some (some v) ∧ Q v H
def tC (v : V) : TE := fun _ H Q => Q v H
theorem pe_var {i : Nat} {x : Str} {pos : Pos} (hN : X.N[i]? = some x) (hv : Vis X.env.scope x) (hd : (x == ("__debug__" : Str)) = false := by decide) (hcd : (x == ("__classdict__" : Str)) = false := by decide) : PE X (.Name x pos) (tVar i) := by
  intro pins s σ H Q I h
  obtain ⟨v, e, h⟩ := h
  obtain ⟨m, hn, hl⟩ := I.loc
  obtain ⟨u, r, l⟩ := hl i x v hN e hv
  have fin : EP X pins σ Q u s := ⟨v, H, I, r, h⟩
  rcases l with ⟨hk, hm⟩ | ⟨hk, c, hc, hcell⟩
  · exact wpAny_Name (wpAny_loadName_local I.ok.kind hk hn hm fin) hd
  · rcases hk with hk | hk
    · exact wpAny_Name (wpAny_loadName_cell I.ok.kind hk hc hcell fin) hd
    · exact wpAny_Name (wpAny_loadName_free I.ok.kind hk hc hcell fin hcd) hd
theorem pe_int {i j pos} : PE X (.Constant (.int i) j pos) (tC (.int i)) := fun _ _ _ H _ I h => wpAny_Constant_int ⟨.int i, H, I.tok _, ⟨_, rfl⟩, h⟩
theorem pe_bl {b j pos} : PE X (.Constant (.bool b) j pos) (tC (.bl b)) := fun _ _ _ H _ I h => Constant_bool ⟨.bl b, H, I, rfl, h⟩
theorem pe_non {j pos} : PE X (.Constant .none j pos) (tC .non) := fun _ _ _ H _ I h => Constant_none ⟨.non, H, I, rfl, h⟩
theorem pe_str {x j pos} : PE X (.Constant (.str x) j pos) (tC (.str x)) := fun _ _ _ H _ I h => Calls.Constant_str ⟨.str x, H, I.tok _, ⟨_, rfl⟩, h⟩

/-- a global name of the def -/
def Gl (X : Cx) (x : Str) : Prop := X.env.kindOf x = some .globalImplicit
theorem ld_glob {E : Value → Shared → Prop} {pins : List (Addr × Obj)} {s : Shared} {σ : St} {H : Hp} {x : Str} {u : Value} {pos : Pos} {Q : Value → Shared → Prop} (I : Inv X pins σ H s) (hg : Gl X x) (hm : X.mg x = some u) (h : Q u s)
    (hd : (x == ("__debug__" : Str)) = false := by decide) : wpAny (model X.prog X.w) X.A (eval (.Name x pos) X.env) Q E s :=
  Calls.Name_function_global I.ok.kind hg (Calls.loadGlobal_global (by rw [I.ok.glob]; exact I.mod.glob.keeps I.bk) hm h) hd
theorem ld_blt {E : Value → Shared → Prop} {pins : List (Addr × Obj)} {s : Shared} {σ : St} {H : Hp} {x : Str} {u : Value} {pos : Pos} {Q : Value → Shared → Prop} (I : Inv X pins σ H s) (hg : Gl X x) (hm : X.mg x = none) (hv : bootBuiltins x = some u) (h : Q u s)
    (hn : x ≠ "__name__" := by decide) (hd : (x == ("__debug__" : Str)) = false := by decide) : wpAny (model X.prog X.w) X.A (eval (.Name x pos) X.env) Q E s := by
  obtain ⟨mb, h1, h2⟩ := I.mod.blt
  exact Calls.Name_function_global I.ok.kind hg (Calls.loadGlobal_builtin (by rw [I.ok.glob]; exact I.mod.glob.keeps I.bk) hm (by rw [I.ok.blt]; exact h1.keeps I.bk) ((h2 x hn).trans hv) h) hd
/-- a module's constant, a class, a function, as a value -/
theorem pe_glob {x : Str} {v : V} {u : Value} {pos : Pos} (hg : Gl X x) (hm : X.mg x = some u) (r : RelV v u) (hd : (x == ("__debug__" : Str)) = false := by decide) : PE X (.Name x pos) (tC v) :=
  fun _ _ _ H _ I h => ld_glob I hg hm ⟨v, H, I, r, h⟩ hd
theorem pe_bltn {x : Str} {v : V} {u : Value} {pos : Pos} (hg : Gl X x) (hm : X.mg x = none) (hv : bootBuiltins x = some u) (r : RelV v u) (hn : x ≠ "__name__" := by decide) (hd : (x == ("__debug__" : Str)) = false := by decide) : PE X (.Name x pos) (tC v) :=
  fun _ _ _ H _ I h => ld_blt I hg hm hv ⟨v, H, I, r, h⟩ hn hd

/-! ### arithmetic -/
variable {a b : Expr} {ta tb : TE} {pos : Pos}
/-! ### comparisons -/
def PC (X : Cx) (op : CmpOp) (a b : Expr) (t : TE) : Prop :=
  ∀ (pins : List (Addr × Obj)) (s : Shared) (σ : St) (H : Hp) (Q : VK), Inv X pins σ H s → t σ H Q →
    wpAny (model X.prog X.w) X.A (eval a X.env) (fun v s₁ => wpAny (model X.prog X.w) X.A (eval b X.env) (fun u s₂ => wpAny (model X.prog X.w) X.A (compareOp op v u) (EP X pins σ Q) X.xe s₂) X.xe s₁) X.xe s
/-- a comparison as a value, as a test -/
def tB (t : TE) : TT := fun σ H Q => t σ H fun x H1 => ∃ c, x = .bl c ∧ Q c H1
theorem pt_cmp {op : CmpOp} {t : TE} (h : PC X op a b t) (h1 : behindInMarks op b = false := by first | exact nobehind _ (by decide) (by decide) | rfl) : PT X (.Compare a [op] [b] pos) (tB t) := by
  intro pins s σ H Q I hw
  refine wpAny_isTrue_Compare1 (thn (h pins s σ H _ I hw) fun v s1 h1 => thn h1 fun u s2 h2 => thn h2 fun c s3 ⟨x, H1, I1, r1, q1⟩ => ?_) h1
  obtain ⟨d, rfl, q⟩ := q1
  cases r1
  exact wpAny_truthy_bool ⟨H1, I1, q⟩
/-- an expression whose value is a bool, as a test -/
theorem pt_val {e : Expr} {t : TE} (h : PE X e t) (he : ∀ whole, isTrue e X.env whole = (do let v ← whole; standAt e.pos; holding [v] (truthy v)) := by intro _; rfl) : PT X e (tB t) := by
  intro pins s σ H Q I hw
  refine isTrue_plain (thn (h pins s σ H _ I hw) fun v s1 ⟨x, H1, I1, r1, q1⟩ => ?_) (he _)
  obtain ⟨d, rfl, q⟩ := q1
  cases r1
  exact wpAny_truthy_bool ⟨H1, I1, q⟩

/-! ### and, or, not -/
variable {tA tB' : TT} {rest : List Expr}
def tAnd (t u : TT) : TT := fun σ H Q => t σ H fun c H1 => if c = true then u σ H1 Q else Q false H1
def tOr (t u : TT) : TT := fun σ H Q => t σ H fun c H1 => if c = true then Q true H1 else u σ H1 Q
def tNot (t : TT) : TT := fun σ H Q => t σ H fun c H1 => Q (!c) H1
theorem pw_and1 (ha : PT X a tA) : PW X (.BoolOp .And [a] pos) tA := by
  intro wh pins s σ H Q I h
  refine isTrue_and (thn (ha pins s σ H Q I h) fun c s1 e => ?_)
  cases c with
  | true => exact isTrue_and_nil e
  | false => exact e
theorem pw_or1 (ha : PT X a tA) : PW X (.BoolOp .Or [a] pos) tA := by
  intro wh pins s σ H Q I h
  refine isTrue_or (thn (ha pins s σ H Q I h) fun c s1 e => ?_)
  cases c with
  | false => exact isTrue_or_nil e
  | true => exact e
theorem pw_and (ha : PT X a tA) (hb : PW X (.BoolOp .And (b :: rest) pos) tB') : PW X (.BoolOp .And (a :: b :: rest) pos) (tAnd tA tB') := by
  intro wh pins s σ H Q I h
  refine isTrue_and (thn (ha pins s σ H _ I h) fun c s1 ⟨H1, I1, q1⟩ => ?_)
  cases c with
  | true => exact hb wh pins s1 σ H1 Q I1 q1
  | false => exact ⟨H1, I1, q1⟩
theorem pw_or (ha : PT X a tA) (hb : PW X (.BoolOp .Or (b :: rest) pos) tB') : PW X (.BoolOp .Or (a :: b :: rest) pos) (tOr tA tB') := by
  intro wh pins s σ H Q I h
  refine isTrue_or (thn (ha pins s σ H _ I h) fun c s1 ⟨H1, I1, q1⟩ => ?_)
  cases c with
  | true => exact ⟨H1, I1, q1⟩
  | false => exact hb wh pins s1 σ H1 Q I1 q1
theorem pt_not (ha : PT X a tA) : PT X (.UnaryOp .Not a pos) (tNot tA) := by
  intro pins s σ H Q I h
  exact isTrue_not (ha pins s σ H (fun c H1 => Q (!c) H1) I h)
/-- .. as values (bools) -/
def tAndV (ta tb : TE) : TE := fun σ H Q => ta σ H fun x H1 => ∃ c, x = .bl c ∧ if c = true then tb σ H1 Q else Q (.bl false) H1
def tNotV (ta : TE) : TE := fun σ H Q => ta σ H fun x H1 => ∃ c, x = .bl c ∧ Q (.bl (!c)) H1
theorem pe_one {op} {t : TE} (h : PE X a t) : PE X (.BoolOp op [a] pos) t := fun pins s σ H Q I hw => BoolOp_one (h pins s σ H Q I hw)
theorem pe_and (ha : PE X a ta) (hb : PE X (.BoolOp .And (b :: rest) pos) tb) : PE X (.BoolOp .And (a :: b :: rest) pos) (tAndV ta tb) := by
  intro pins s σ H Q I h
  refine BoolOp_and (thn (ha pins s σ H _ I h) fun v s1 ⟨x, H1, I1, r1, q1⟩ => ?_)
  obtain ⟨c, rfl, q1⟩ := q1
  cases r1
  refine wpAny_truthy_bool ?_
  cases c with
  | true => exact hb pins s1 σ H1 Q I1 q1
  | false => exact ⟨.bl false, H1, I1, rfl, q1⟩
theorem pe_not (ha : PE X a ta) : PE X (.UnaryOp .Not a pos) (tNotV ta) := by
  intro pins s σ H Q I h
  refine UnaryOp_ (thn (ha pins s σ H _ I h) fun v s1 ⟨x, H1, I1, r1, q1⟩ => ?_)
  obtain ⟨c, rfl, q1⟩ := q1
  cases r1
  exact not_of (wpAny_truthy_bool ⟨.bl (!c), H1, I1, rfl, q1⟩)
end
end L2

namespace L2
open PySem PySem.Spec PyProof.Rows

/-! ### a list, a tuple that is read: tracked, frozen, or an object of the module -/
def SqL (K : PySem.W.Frag) (H : Hp) (a : Addr) (xs : List V) : Prop :=
  Rd H a (.lst xs) ∨
    ∃ (o : Obj) (its : Array Value) (n : Nat), K.lookup a = some o ∧ o.cls = .type "list" ∧ o.dict = none ∧ o.data = .seq its n ∧ its.size ≤ sizeLine ∧ Vals xs its.toList
def SqT (K : PySem.W.Frag) (H : Hp) (a : Addr) (xs : List V) : Prop :=
  Rd H a (.tup xs) ∨
    ∃ (o : Obj) (its : Array Value) (n : Nat), K.lookup a = some o ∧ o.cls = .type "tuple" ∧ o.data = .seq its n ∧ its.size ≤ sizeLine ∧ Vals xs its.toList
def absV : Value → Option V
  | .none => some .non
  | .bool b => some (.bl b)
  | .int i _ => some (.int i)
  | .str x _ => some (.str x)
  | .bytes b _ => some (.byt b)
  | .float b _ => some (.flt b)
  | .ref a => some (.ref a)
  | .type n => some (.ty n)
  | _ => none
theorem RelV.abs {x : V} {u : Value} (r : RelV x u) : absV u = some x := by
  cases x with
  | non => cases r; rfl
  | bl _ => cases r; rfl
  | int _ => obtain ⟨t, rfl⟩ := r; rfl
  | str _ => obtain ⟨t, rfl⟩ := r; rfl
  | byt _ => obtain ⟨t, rfl⟩ := r; rfl
  | flt _ => obtain ⟨t, rfl⟩ := r; rfl
  | ref _ => cases r; rfl
  | ty _ => cases r; rfl
theorem RelV.inj {x y : V} {u : Value} (r : RelV x u) (q : RelV y u) : x = y := Option.some.inj (r.abs.symm.trans q.abs)
theorem Vals.inj : ∀ {xs ys : List V} {us : List Value}, Vals xs us → Vals ys us → xs = ys
  | _, _, _, .nil, .nil => rfl
  | _, _, _, .cons r t, .cons r' t' => by rw [r.inj r', Vals.inj t t']
section
variable {X : Cx} {pins : List (Addr × Obj)} {σ : St} {H : Hp} {s : Shared} {a : Addr} {xs ys : List V}
theorem SqL.of {K : PySem.W.Frag} (h : H a = some (.lst xs)) : SqL K H a xs := .inl (.inl h)
theorem SqT.of {K : PySem.W.Frag} (h : H a = some (.tup xs)) : SqT K H a xs := .inl (.inl h)
theorem Inv.list (I : Inv X pins σ H s) (h : SqL X.K H a xs) : ∃ its : List Value, Vals xs its ∧ PlainL s.heap a its.toArray ∧ xs.length ≤ sizeLine := by
  rcases h with h | ⟨o, its, n, hk, hc, hd, hs, hz, r⟩
  · obtain ⟨z, its, n, r, e⟩ := h.ok I.hok
    exact ⟨its, r, ⟨_, n, e, rfl, rfl, rfl⟩, z⟩
  · refine ⟨its.toList, r, ⟨o, n, I.kIn a o hk, hc, hd, by simpa using hs⟩, ?_⟩
    have e := r.length
    simp only [Array.length_toList] at e
    omega
theorem Inv.tuple (I : Inv X pins σ H s) (h : SqT X.K H a xs) : ∃ its : List Value, Vals xs its ∧ IsTup s.heap a its.toArray ∧ xs.length ≤ sizeLine := by
  rcases h with h | ⟨o, its, n, hk, hc, hs, hz, r⟩
  · obtain ⟨z, its, r, p⟩ := h.ok I.hok
    exact ⟨its, r, p, z⟩
  · refine ⟨its.toList, r, ⟨o, I.kIn a o hk, hc, n, by simpa using hs⟩, ?_⟩
    have e := r.length
    simp only [Array.length_toList] at e
    omega
theorem Inv.list_inj (I : Inv X pins σ H s) (h : SqL X.K H a xs) (h' : SqL X.K H a ys) : xs = ys := by
  obtain ⟨its, r, ⟨o, n, e, _, _, d⟩, _⟩ := I.list h
  obtain ⟨its', r', ⟨o', n', e', _, _, d'⟩, _⟩ := I.list h'
  rw [e] at e'; cases e'
  rw [d] at d'
  injection d' with d1 _
  have : its = its' := by simpa using congrArg Array.toList d1
  subst this
  exact r.inj r'
theorem Inv.tuple_inj (I : Inv X pins σ H s) (h : SqT X.K H a xs) (h' : SqT X.K H a ys) : xs = ys := by
  obtain ⟨its, r, ⟨o, e, _, n, d⟩, _⟩ := I.tuple h
  obtain ⟨its', r', ⟨o', e', _, n', d'⟩, _⟩ := I.tuple h'
  rw [e] at e'; cases e'
  rw [d] at d'
  injection d' with d1 _
  have : its = its' := by simpa using congrArg Array.toList d1
  subst this
  exact r.inj r'
end

/-! ### another wish about exceptions -/
abbrev Cx.wish (X : Cx) (E : Value → Shared → Prop) : Cx := { X with xe := E }
/-- no exception leaves -/
abbrev Cx.nox (X : Cx) : Cx := X.wish fun _ _ => False
theorem Cx.Ok.wish {X : Cx} (ok : X.Ok) (E : Value → Shared → Prop) : (X.wish E).Ok :=
  ⟨ok.mod, ok.kind, ok.glob, ok.blt, ok.above, ok.inj, ok.has, ok.cab, ok.hd, ok.frames, ok.stk, ok.exf, ok.bs, ok.bsz, ok.noex, ok.exfs, ok.funs, ok.frf⟩
theorem Cx.Ok.unwish {X : Cx} {E : Value → Shared → Prop} (ok : (X.wish E).Ok) : X.Ok :=
  ⟨ok.mod, ok.kind, ok.glob, ok.blt, ok.above, ok.inj, ok.has, ok.cab, ok.hd, ok.frames, ok.stk, ok.exf, ok.bs, ok.bsz, ok.noex, ok.exfs, ok.funs, ok.frf⟩
section
variable {X : Cx} {pins : List (Addr × Obj)} {σ : St} {H : Hp} {s : Shared} {E : Value → Shared → Prop}
theorem Inv.wish (I : Inv X pins σ H s) (E : Value → Shared → Prop) : Inv (X.wish E) pins σ H s := ⟨I.ok.wish E, I.os, I.bare, I.base, I.loc, I.cell, I.free, I.freeC, I.pin, I.hok, I.len⟩
theorem Inv.unwish (I : Inv (X.wish E) pins σ H s) : Inv X pins σ H s := ⟨I.ok.unwish, I.os, I.bare, I.base, I.loc, I.cell, I.free, I.freeC, I.pin, I.hok, I.len⟩
theorem SP.unwish {D : Ends} {f : Flow} {s' : Shared} (h : SP (X.wish E) pins D f s') : SP X pins D f s' := by
  cases f with
  | next => obtain ⟨σ', H', I, q⟩ := h; exact ⟨σ', H', I.unwish, q⟩
  | brk => obtain ⟨σ', H', I, q⟩ := h; exact ⟨σ', H', I.unwish, q⟩
  | cont => obtain ⟨σ', H', I, q⟩ := h; exact ⟨σ', H', I.unwish, q⟩
  | ret u => obtain ⟨v, σ', H', I, r, q⟩ := h; exact ⟨v, σ', H', I.unwish, r, q⟩
theorem PSs.nox {st : List Stmt} {t : TS} (h : PSs X.nox st t) : PSs X st t := fun pins s σ H D I hw =>
  wpAny_mono (h pins s σ H D (I.wish _) hw) (fun _ _ q => q.unwish) fun _ _ z => False.elim z
end

/-! ### blocks and small statements -/
section
variable {X : Cx} {st : Stmt} {rest : List Stmt} {t u : TS} {e : Expr} {te : TE} {pos : Pos}
def tNext : TS := fun D σ H => D.nx σ H
def tSeq (t u : TS) : TS := fun D σ H => t { D with nx := u D } σ H
theorem pss_nil : PSs X [] tNext := fun _ _ σ H _ I h => wpAny_execs_nil ⟨σ, H, I, h⟩
theorem pss_cons (h1 : PS X st t) (h2 : PSs X rest u) : PSs X (st :: rest) (tSeq t u) := by
  intro pins s σ H D I h
  refine wpAny_execs_cons (thn (h1 pins s σ H { D with nx := u D } I h) fun f s1 q => ?_)
  cases f with
  | next =>
    obtain ⟨σ', H', I', q⟩ := q
    exact h2 pins s1 σ' H' D I' q
  | ret v => exact q
  | brk => exact q
  | cont => exact q
theorem pss_one (h1 : PS X st t) : PSs X [st] t := by
  intro pins s σ H D I h
  refine wpAny_execs_cons (thn (h1 pins s σ H D I h) fun f s1 q => ?_)
  cases f with
  | next => exact wpAny_execs_nil q
  | ret v => exact q
  | brk => exact q
  | cont => exact q
def tCont : TS := fun D σ H => D.ct σ H
theorem ps_continue : PS X (.Continue pos) tCont := fun _ _ σ H _ I h => wpAny_Continue ⟨σ, H, I, h⟩
/-- in a def's body nothing is shown -/
theorem Inv.quiet {pins : List (Addr × Obj)} {σ : St} {H : Hp} {s : Shared} (I : Inv X pins σ H s) : interactive X.env = false := by simp [interactive, I.ok.kind]
/-- an expression whose value is dropped -/
def tDrop (te : TE) : TS := fun D σ H => te σ H fun _ H1 => D.nx σ H1
theorem ps_expr (he : PE X e te) (hs : swapsWith e none pos.line X.env = pure false := by rfl) : PS X (.Expr e pos) (tDrop te) := by
  intro pins s σ H D I h
  exact wpAny_Expr_any (thn (he pins s σ H _ I h) fun v s1 ⟨x, H1, I1, r1, q1⟩ => ⟨σ, H1, I1, q1⟩) I.quiet hs
def tRet (te : TE) : TS := fun D σ H => te σ H D.rt
theorem ps_ret (he : PE X e te) : PS X (.Return (some e) pos) (tRet te) := by
  intro pins s σ H D I h
  exact wpAny_Return_some (thn (he pins s σ H _ I h) fun v s1 ⟨x, H1, I1, r1, q1⟩ => ⟨x, σ, H1, I1, r1, q1⟩)
def tIfS (c : TT) (t u : TS) : TS := fun D σ H => c σ H fun b H1 => if b = true then t D σ H1 else u D σ H1
theorem ps_if {c : Expr} {a b : List Stmt} {tc : TT} (hc : PT X c tc) (ha : PSs X a t) (hb : PSs X b u) : PS X (.If c a b pos) (tIfS tc t u) := by
  intro pins s σ H D I h
  refine wpAny_If (thn (hc pins s σ H _ I h) fun d s1 ⟨H1, I1, q1⟩ => ?_)
  cases d with
  | true => exact ha pins s1 σ H1 D I1 q1
  | false => exact hb pins s1 σ H1 D I1 q1
/-- code that the proof never comes to -/
def tNever : TS := fun _ _ _ => False
theorem ps_never : PS X st tNever := fun _ _ _ _ _ _ h => h.elim
theorem pss_never {sts : List Stmt} : PSs X sts tNever := fun _ _ _ _ _ _ h => h.elim
end

/-! ### targets -/
abbrev TG := V → St → Hp → (St → Hp → Prop) → Prop
abbrev TGs := List V → St → Hp → (St → Hp → Prop) → Prop
def PG (X : Cx) (target : Expr) (t : TG) : Prop :=
  ∀ (pins : List (Addr × Obj)) (s : Shared) (σ : St) (H : Hp) (v : V) (u : Value) (Q : St → Hp → Prop), Inv X pins σ H s → RelV v u → t v σ H Q →
    wpAny (model X.prog X.w) X.A (assign target X.env u) (fun _ s' => ∃ σ' H', Inv X pins σ' H' s' ∧ Q σ' H') X.xe s
/-- several targets, one after another -/
def PGs (X : Cx) (ts : List Expr) (t : TGs) : Prop :=
  ∀ (pins : List (Addr × Obj)) (s : Shared) (σ : St) (H : Hp) (vs : List V) (us : List Value) (Q : St → Hp → Prop), Inv X pins σ H s → Vals vs us → t vs σ H Q →
    wpAny (model X.prog X.w) X.A (assignInOrder ((assignEach ts X.env).map (·.2)) us) (fun _ s' => ∃ σ' H', Inv X pins σ' H' s' ∧ Q σ' H') X.xe s
section
variable {X : Cx} {pos : Pos}
def gName (i : Nat) : TG := fun v σ H Q => Q (σ.set i (some v)) H
theorem pg_name {i : Nat} {x : Str} (hN : X.N.Nodup) (hi : X.N[i]? = some x) (hx : Loc X.env.scope x) (hf : X.fn x = true ∨ X.env.scope.names.lookup x = some .local := by first | exact .inl rfl | exact .inr rfl | assumption) : PG X (.Name x pos) (gName i) := by
  intro pins s σ H v u Q I r h
  exact wpAny_assign_Name (store_ok I hN hi hx r (fun s' I' => ⟨_, H, I', h⟩) hf)
def gNil : TGs := fun vs σ H Q => vs = [] ∧ Q σ H
def gCons (t : TG) (u : TGs) : TGs := fun vs σ H Q => ∃ v r, vs = v :: r ∧ t v σ H fun σ' H' => u r σ' H' Q
theorem pgs_nil : PGs X [] gNil := by
  intro pins s σ H vs us Q I r h
  obtain ⟨e, h⟩ := h
  subst e
  cases r
  exact assignInOrder_nil ⟨σ, H, I, h⟩
theorem pgs_cons {e : Expr} {es : List Expr} {t : TG} {u : TGs} (h1 : PG X e t) (h2 : PGs X es u)
    (hs : (assignEach (e :: es) X.env).map (·.2) = assign e X.env :: (assignEach es X.env).map (·.2) := by rfl) : PGs X (e :: es) (gCons t u) := by
  intro pins s σ H vs us Q I r h
  obtain ⟨v, vr, e1, h⟩ := h
  subst e1
  cases r with
  | cons r rr =>
    rw [hs]
    refine assignInOrder_cons (thn (h1 pins s σ H _ _ _ I r h) fun _ s1 ⟨σ1, H1, I1, q1⟩ => ?_)
    exact h2 pins s1 σ1 H1 _ _ Q I1 rr q1
/-- (a, b, ..) = a tuple of that length -/
def gTup (K : PySem.W.Frag) (n : Nat) (t : TGs) : TG := fun v σ H Q => ∃ a xs, v = .ref a ∧ SqT K H a xs ∧ xs.length = n ∧ t xs σ H Q
theorem pg_tup {es : List Expr} {k : Nat} {t : TGs} {n : Nat} (hc : X.calm = true) (h : PGs X es t)
    (hn : (assignEach es X.env).length = n := by rfl) (hst : (assignEach es X.env).findIdx? (·.1) = none := by rfl) : PG X (.Tuple es k pos) (gTup X.K n t) := by
  intro pins s σ H v u Q I r hw
  obtain ⟨a, xs, e1, hq, hl, hw⟩ := hw
  subst e1
  cases r
  obtain ⟨its, rv, ht, hz⟩ := I.tuple hq
  refine assign_Tuple_tuple (I.ok.hd hc) ht (by simp [hn, ← hl, rv.length]) hst fun h' hx => ?_
  have I1 : Inv X pins σ H { s with heap := h' } := I.kept (t' := s.toks) fun b o e => hx b o (Nat.ne_of_lt (Heap.lt_size e)) e
  exact h pins _ σ H xs _ Q I1 (by simpa using rv) hw
/-- target = value -/
def tAsg (te : TE) (g : TG) : TS := fun D σ H => te σ H fun x H1 => g x σ H1 D.nx
theorem ps_asg {tg e : Expr} {te : TE} {g : TG} (he : PE X e te) (hg : PG X tg g) (hs : swapsWithSole [tg] e pos.line X.env = pure false := by rfl) (hw : swappedStores [tg] e X.env = pure none := by rfl)
    (h1 : (assignEach [tg] X.env).map (·.2) = [assign tg X.env] := by rfl) : PS X (.Assign [tg] e pos) (tAsg te g) := by
  intro pins s σ H D I h
  refine wpAny_Assign_stores (thn (he pins s σ H _ I h) fun v s1 ⟨x, H1, I1, r1, q1⟩ => ?_) hs hw
  rw [h1]
  exact thn (hg pins s1 σ H1 x v _ I1 r1 q1) fun _ s2 q => q
/-- name = value -/
theorem ps_set {i : Nat} {x : Str} {e : Expr} {te : TE} {pos' : Pos} (hN : X.N.Nodup) (hi : X.N[i]? = some x) (hx : Loc X.env.scope x) (he : PE X e te) (hs : swapsWith e (some (.Name x pos')) pos.line X.env = pure false := by rfl) (hf : X.fn x = true ∨ X.env.scope.names.lookup x = some .local := by first | exact .inl rfl | exact .inr rfl | assumption) :
    PS X (.Assign [.Name x pos'] e pos) (tAsg te (gName i)) := by
  intro pins s σ H D I h
  refine wpAny_Assign_Name (thn (he pins s σ H _ I h) fun v s1 ⟨y, H1, I1, r1, q1⟩ => ?_) hs
  exact store_ok I1 hN hi hx r1 (fun s2 I2 => ⟨_, H1, I2, q1⟩) hf
end

/-! ### while -/
section
variable {X : Cx} {pos : Pos}
end

/-! ### what a loop or a comprehension walks -/
/-- at turn i: it yields x (the heap may grow), or it stops -/
structure It where
  go : Nat → Hp → Prop
  yld : Nat → Hp → V → Hp → Prop
  stop : Nat → Hp → Prop
/-- the iterator's own objects may turn: they are not the frame's, not pinned, younger than the entry (or a comprehension's own) -/
def FpOk (X : Cx) (pins : List (Addr × Obj)) (H : Hp) (b : Addr) : Prop :=
  H b = none ∧ b ≠ X.env.locals ∧ b ∉ X.fs ∧ (b ∈ X.ex ∨ X.s₀.heap.objs.size ≤ b) ∧ (∀ x c, X.env.cells.lookup x = some c → c ≠ b) ∧ ∀ p ∈ X.pn ++ pins, p.1 ≠ b
theorem Inv.fpOk {X : Cx} {pins : List (Addr × Obj)} {σ : St} {H H' : Hp} {s : Shared} {b : Addr} (I : Inv X pins σ H s) (hb : s.heap.objs.size ≤ b) (hn : H' b = none) : FpOk X pins H' b := by
  refine ⟨hn, Nat.ne_of_gt (Nat.lt_of_lt_of_le I.lt hb), I.nofs hb, .inr (Nat.le_trans I.sz hb), fun x c e z => ?_, fun p hp z => ?_⟩
  · obtain ⟨v, q⟩ := I.cell x c e
    exact absurd (Nat.lt_of_lt_of_le q.lt (by rw [z]; exact hb)) (Nat.lt_irrefl _)
  · exact absurd (Nat.lt_of_lt_of_le (Heap.lt_size (I.pin p hp).1) (by rw [z]; exact hb)) (Nat.lt_irrefl _)
/-- what is handled stands with no context -/
def HandQ (X : Cx) (s : Shared) : Prop := ∃ (ea : Addr) (o : Obj) (vs : Array Value), X.A.handled = some (.ref ea) ∧ s.heap.get? ea = some o ∧ o.data = .fields vs ∧ vs[2]? = some .none
/-- where an iterator may end: nothing is handled; hb: or what is handled has no context -/
def EndQ (hb : Bool) (X : Cx) (s : Shared) : Prop := X.A.handled = none ∨ (hb = true ∧ HandQ X s)
theorem EndQ.none {X : Cx} {s : Shared} (h : EndQ false X s) : X.A.handled = Option.none := by
  rcases h with h | ⟨z, _⟩
  · exact h
  · cases z
structure Turn (P : Program) (w : World) (K : PySem.W.Frag) (tg : Expr) (J : It) (fp : List Addr) (it : Addr) (tn : Nat → Heap → Prop) (hb : Bool := false) : Prop where
  mem : it ∈ fp
  obj : ∀ i h, tn i h → ∀ b ∈ fp, ∃ o, h.get? b = some o ∧ ∀ v, o.data ≠ .cell v
  keep : ∀ i h h', tn i h → (∀ b ∈ fp, ∀ o, h.get? b = some o → h'.get? b = some o) → tn i h'
  item : ∀ (X : Cx), X.prog = P → X.w = w → X.K = K → ∀ (s : Shared), EndQ hb X s → ∀ (i : Nat) (pins : List (Addr × Obj)) (σ : St) (H : Hp) (E : Value → Shared → Prop), Inv X pins σ H s → (∀ b ∈ fp, FpOk X pins H b) → tn i s.heap → J.go i H →
    wpAny (model P w) X.A (pyNext (.ref it)) (fun r s1 => ∃ u, r = some u ∧
      wpAny (model P w) X.A (letOwnedTupleGo tg (.ref it) u) (fun _ s2 => ∃ x H', Inv X pins σ H' s2 ∧ RelV x u ∧ J.yld i H x H' ∧ tn (i + 1) s2.heap ∧ ∀ b ∈ fp, H' b = none) E s1) E s
  done : ∀ (X : Cx), X.prog = P → X.w = w → X.K = K → ∀ (s : Shared), EndQ hb X s → ∀ (i : Nat) (pins : List (Addr × Obj)) (σ : St) (H : Hp) (E : Value → Shared → Prop), Inv X pins σ H s → (∀ b ∈ fp, FpOk X pins H b) → tn i s.heap → J.stop i H →
    wpAny (model P w) X.A (pyNext (.ref it)) (fun r s1 => r = none ∧ Inv X pins σ H s1) E s
  self : ∀ (A : Around) (i : Nat) (s : Shared) (Q : Value → Shared → Prop) (E : Value → Shared → Prop), tn i s.heap → Q (.ref it) s → wpAny (model P w) A (pyIter (.ref it)) Q E s
abbrev TI := St → Hp → (It → Hp → Prop) → Prop
/-- an iterator has come -/
def PIE (X : Cx) (pins : List (Addr × Obj)) (σ : St) (tg : Expr) (R : It → Hp → Prop) (hb : Bool) (itv : Value) (s2 : Shared) : Prop :=
  ∃ (it : Addr) (fp : List Addr) (tn : Nat → Heap → Prop) (J : It) (H' : Hp), itv = .ref it ∧ Inv X pins σ H' s2 ∧ Turn X.prog X.w X.K tg J fp it tn hb ∧ tn 0 s2.heap ∧ (∀ b ∈ fp, FpOk X pins H' b) ∧ R J H'
def PI (X : Cx) (tg iter : Expr) (wi : TI) (hb : Bool := false) : Prop :=
  ∀ (pins : List (Addr × Obj)) (s : Shared) (σ : St) (H : Hp) (R : It → Hp → Prop), Inv X pins σ H s → wi σ H R →
    wpAny (model X.prog X.w) X.A (eval iter X.env) (fun v s1 => wpAny (model X.prog X.w) X.A (pyIter v) (PIE X pins σ tg R hb) X.xe s1) X.xe s

/-- the step ahead of the store is nothing for an iterator that keeps no tuple -/
theorem go_of {M : Model} {A : Around} {E : Value → Shared → Prop} {s : Shared} {tg : Expr} {it : Addr} {u : Value} {o : Obj} {n : String} {vs : Array Value} {Q : Unit → Shared → Prop} (ho : s.heap.get? it = some o) (hc : o.cls = .type n) (hd : o.data = .fields vs)
    (hn : ["enumerate", "zip", "dict_itemiterator", "dict_reverseitemiterator", "odict_iterator", "itertools.zip_longest", "itertools.pairwise"].contains n = false) (hQ : Q () s) : wpAny M A (letOwnedTupleGo tg (.ref it) u) Q E s := by
  unfold letOwnedTupleGo
  cases tg <;> first
    | exact wpAny_pure hQ
    | (cases u <;> first
        | exact wpAny_pure hQ
        | (refine wpAny_bind (wpAny_load ho ?_)
           rw [hc, hd]
           show wpAny M A (if (["enumerate", "zip", "dict_itemiterator", "dict_reverseitemiterator", "odict_iterator", "itertools.zip_longest", "itertools.pairwise"].contains n && vs[0]? == some (rawInt _)) = true then _ else _) Q E s
           rw [if_neg (by intro h; rw [hn, Bool.false_and] at h; cases h)]
           exact wpAny_pure hQ))

/-- the list at a, as it stands at each turn (a loop may append to it) -/
def Itl (K : PySem.W.Frag) (a : Addr) : It :=
  ⟨fun i H => ∃ xs x, SqL K H a xs ∧ xs[i]? = some x, fun i H x H' => H' = H ∧ ∀ xs, SqL K H a xs → xs[i]? = some x, fun i H => ∃ xs, SqL K H a xs ∧ xs.length ≤ i⟩
/-- lo, lo + 1, .. (n of them) -/
def Itr (lo : Int) (n : Nat) : It := ⟨fun i _ => i < n, fun i H x H' => H' = H ∧ x = .int (lo + i), fun i _ => n ≤ i⟩
theorem turn_list {P : Program} {w : World} {K : PySem.W.Frag} {tg : Expr} (a it : Addr) : Turn P w K tg (Itl K a) [it] it (fun i h => h.IsListIter it a i) where
  mem := by simp
  obj := fun i h st b hb => by
    have e : b = it := by simpa using hb
    subst e
    obtain ⟨o, e, c, d⟩ := st
    exact ⟨o, e, fun v z => by rw [d] at z; cases z⟩
  keep := fun i h h' st k => st.at fun o e => k it (by simp) o e
  item := by
    intro X hP hw hK s hc i pins σ H E I hf st hg
    subst hP hw hK
    obtain ⟨xs, x, hq, hx⟩ := hg
    obtain ⟨its, rv, p, hz⟩ := I.list hq
    obtain ⟨u, hu, ru⟩ := rv.get hx
    obtain ⟨f0, f1, f2, f3, f4, f5⟩ := hf it (by simp)
    refine wpAny_pyNext_list_item st p.isList (x := u) (by simpa using hu) fun h' st' sb => ?_
    have I1 : Inv X pins σ H { s with heap := h' } := I.turned (t' := s.toks) (fun b o hb e => (sb.2 b hb).trans e) f0 f1 f3 f4 f5
    obtain ⟨o, e, c, d⟩ := id st'
    exact ⟨u, rfl, go_of (s := { s with heap := h' }) e c d (by decide) ⟨x, H, I1, ru, ⟨rfl, fun ys hy => by rw [I.list_inj hy hq]; exact hx⟩, st', fun b hb => (hf b hb).1⟩⟩
  done := by
    intro X hP hw hK s hc i pins σ H E I hf st hg
    subst hP hw hK
    obtain ⟨xs, hq, hx⟩ := hg
    obtain ⟨its, rv, p, hz⟩ := I.list hq
    obtain ⟨f0, f1, f2, f3, f4, f5⟩ := hf it (by simp)
    have hl := rv.length
    exact wpAny_pyNext_list_end hc.none st p.isList (by simp; omega) fun h' eb => ⟨rfl, I.turned (t' := s.toks) (fun b o hb e => eb b o hb e) f0 f1 f3 f4 f5⟩
  self := fun _ _ _ _ _ st h => wpAny_pyIter_listiter st h
section
variable {prog : Program} {w : World} {A : Around} {E : Value → Shared → Prop} {s : Shared} {e ea it : Addr} {o oe : Obj} {us vs : Array Value}
theorem ent_unchain : entryFor table "proto.unchain" = some Builtin.«proto.unchain» := entryFor_of_tree (by kernel_rfl)
/-- a new exception is raised while another one is handled, which has no context -/
theorem raise_hand {α : Type} {Q : α → Shared → Prop} (hh : A.handled = some (.ref ea)) (hea : s.heap.get? ea = some oe) (hd : oe.data = .fields vs) (h2 : vs[2]? = some .none) (he : s.heap.get? e = some o) (hde : o.data = .fields us) (hsz : 2 < us.size) (hne : ea ≠ e)
    (hE : E (.ref e) { s with heap := s.heap.update e (Obj.mapFields (·.setIfInBounds 2 (.ref ea))) }) : wpAny (model prog w) A (raiseNew (.ref e) : Sem α) Q E s := by
  have n : (Value.ref ea != Value.ref e) = true := by simp [hne]
  unfold raiseNew
  refine wpAny_bind (wpAny_handled ?_)
  rw [hh]
  show wpAny _ _ (if (Value.ref ea != Value.ref e) = true then _ else _) _ _ _
  rw [if_pos n]
  refine wpAny_bind (wpAny_holding (wpAny_runValue (codeAny_builtin ent_unchain ?_)))
  show wpAny _ _ (field (.ref ea) 2 >>= _) _ _ _
  refine wpAny_bind (wpAny_field hea hd h2 ?_)
  show wpAny _ _ (if (Value.none == Value.none) = true then _ else _) _ _ _
  rw [if_pos (show (Value.none == Value.none) = true from rfl)]
  refine wpAny_pure ?_
  exact wpAny_bind (wpAny_setField he hde hsz (wpAny_throw hE))
/-- a range's end, while an exception is handled -/
theorem range_end_hand {x left step : Int} {Q : Option Value → Shared → Prop} (hh : A.handled = some (.ref ea)) (hea : s.heap.get? ea = some oe) (hd : oe.data = .fields vs) (h2 : vs[2]? = some .none) (hit : IsRangeIter s.heap it x left step) (hleft : left ≤ 0)
    (hQ : ∀ h', Heap.ExtBut it s.heap h' → Q none { s with heap := h' }) : wpAny (model prog w) A (pyNext (.ref it)) Q E s := by
  have hT : s.TypeIs (.ref it) "range_iterator" := ⟨_, hit, rfl⟩
  have lt := Heap.lt_size hea
  unfold pyNext; refine wpAny_bind (wpAny_attempt (wpAny_callSpecial?_slot (name := Str.ofString "__next__") hT F.slot_range_iterator_next (wpAny_call_entry F.slot_range_iterator_next hT F.entry_range_iterator_next ?_ (F.args_range_iterator_next_1 _))))
  show wpAny _ _ (field (.ref it) 0 >>= _) _ _ s; refine wpAny_bind (wpAny_field hit rfl (x := rawInt x) rfl ?_); show wpAny _ _ (field (.ref it) 1 >>= _) _ _ s; refine wpAny_bind (wpAny_field hit rfl (x := rawInt left) rfl ?_)
  show wpAny _ _ (field (.ref it) 2 >>= _) _ _ s; refine wpAny_bind (wpAny_field hit rfl (x := rawInt step) rfl ?_); show wpAny _ _ (if left ≤ 0 then _ else _) _ _ s; rw [if_pos hleft]
  refine wpAny_bind (wpAny_rule (wpAny_bind ?_)); show wpAny _ _ (newExc (.type "StopIteration") [] >>= _) _ _ _; refine wpAny_bind ?_; simp only [newExc, newTuple]
  refine wpAny_bind (wpAny_newObj_type ?_ (by size_fits)); refine wpAny_bind (m := firstArgMember _ _) (wpAny_of_eq (a := Value.none) (by first | rfl | (simp only [firstArgMember]; rfl)) ?_); refine wpAny_newObj_type ?_ (by size_fits)
  refine raise_hand (oe := oe) (vs := vs) (by first | exact hh | exact (show A.in1.handled = _ from hh)) (Heap.get?_push_of_some _ (Heap.get?_push_of_some _ hea)) hd h2 (Heap.get?_push_size _ rfl) rfl (by simp; omega) (Nat.ne_of_lt (by rw [Heap.size_push]; exact Nat.lt_succ_of_lt lt)) ?_
  refine wpAny_bind (wpAny_isInstance (T := "StopIteration") (b := true) ⟨_, Heap.get?_update_self _ (Heap.get?_push_size _ rfl) rfl, rfl⟩ isSubtype_stop ?_)
  refine wpAny_pure (hQ _ fun b ob hb q => ?_)
  rw [Heap.get?_update_other _ _ (Nat.ne_of_gt (by rw [Heap.size_push]; exact Nat.lt_succ_of_lt (Heap.lt_size q)))]
  exact Heap.get?_push_of_some _ (Heap.get?_push_of_some _ q)
end
theorem turn_range {P : Program} {w : World} {K : PySem.W.Frag} {tg : Expr} (it : Addr) (lo : Int) (n : Nat) {hb : Bool} : Turn P w K tg (Itr lo n) [it] it (fun i h => IsRangeIter h it (lo + (i : Nat) * 1) ((n : Int) - (i : Nat)) 1) hb where
  mem := by simp
  obj := fun i h st b hb => by
    have e : b = it := by simpa using hb
    subst e
    exact ⟨_, st, fun v z => by
      have z' : Data.fields _ = Data.cell v := z
      cases z'⟩
  keep := fun i h h' st k => k it (by simp) _ st
  item := by
    intro X hP hw hK s hc i pins σ H E I hf st hg
    subst hP hw hK
    obtain ⟨f0, f1, f2, f3, f4, f5⟩ := hf it (by simp)
    have hi : i < n := hg
    refine wpAny_pyNext_range_item st (by omega) fun h' st' sb => ?_
    have I1 : Inv X pins σ H { s with heap := h', toks := s.toks + 1 } := I.turned (fun b o hb e => (sb.2 b hb).trans e) f0 f1 f3 f4 f5
    have e1 : lo + ((i : Nat) : Int) * 1 + 1 = lo + ((i + 1 : Nat) : Int) * 1 := by omega
    have e2 : (n : Int) - ((i : Nat) : Int) - 1 = (n : Int) - ((i + 1 : Nat) : Int) := by omega
    rw [e1, e2] at st'
    refine ⟨_, rfl, go_of (s := { s with heap := h', toks := s.toks + 1 }) (n := "range_iterator") st' rfl rfl (by decide) ⟨.int (lo + i), H, I1, ⟨s.toks, ?_⟩, ⟨rfl, rfl⟩, st', fun b hb => (hf b hb).1⟩⟩
    rw [Int.mul_one]
  done := by
    intro X hP hw hK s hc i pins σ H E I hf st hg
    subst hP hw hK
    obtain ⟨f0, f1, f2, f3, f4, f5⟩ := hf it (by simp)
    have hi : (n : Int) - ((i : Nat) : Int) ≤ 0 := by have : n ≤ i := hg; omega
    rcases hc with hc | ⟨_, ea, o, vs, h1, h2, h3, h4⟩
    · exact wpAny_pyNext_range_end hc st hi fun h' eb => ⟨rfl, I.turned (t' := s.toks) (fun b o hb e => eb b o hb e) f0 f1 f3 f4 f5⟩
    · exact range_end_hand h1 h2 h3 h4 st hi fun h' eb => ⟨rfl, I.turned (t' := s.toks) (fun b o hb e => eb b o hb e) f0 f1 f3 f4 f5⟩
  self := fun _ _ _ _ _ st h => wpAny_pyIter_rangeiter st h
end L2

namespace L2
open PySem PySem.Spec PyProof.Rows
section
variable {X : Cx} {tg : Expr}
def iList (K : PySem.W.Frag) (tl : TE) : TI := fun σ H R => tl σ H fun x H1 => ∃ a, x = .ref a ∧ (∃ xs, SqL K H1 a xs) ∧ R (Itl K a) H1
theorem pi_list {l : Expr} {tl : TE} (hl : PE X l tl) : PI X tg l (iList X.K tl) := by
  intro pins s σ H R I h
  refine thn (hl pins s σ H _ I h) fun v s1 ⟨x, H1, I1, r1, q1⟩ => ?_
  obtain ⟨a, e, ⟨xs, hq⟩, q⟩ := q1
  subst e
  cases r1
  obtain ⟨its, rv, p, hz⟩ := I1.list hq
  refine wpAny_pyIter_list p.isList ?_
  refine ⟨s1.heap.objs.size, [s1.heap.objs.size], _, _, H1, rfl, I1.kept (t' := s1.toks) fun b o e => Heap.get?_push_of_some _ e, turn_list a _, ⟨_, Heap.get?_push_size _ rfl, rfl, rfl⟩, fun b hb => ?_, q⟩
  have e : b = s1.heap.objs.size := by simpa using hb
  subst e
  exact I1.fpOk (Nat.le_refl _) (I1.hok.fresh (Nat.le_refl _))
/-- a range object just made, walked -/
theorem range_it {hb : Bool} {pins : List (Addr × Obj)} {σ : St} {H : Hp} {s : Shared} {R : It → Hp → Prop} {E : Value → Shared → Prop} {lo hi : Int} {t u v : Tok} {tk : Nat} (I : Inv X pins σ H s) (h1 : -(2 ^ 62) ≤ lo) (h2 : lo < 2 ^ 62) (h3 : -(2 ^ 62) ≤ hi) (h4 : hi < 2 ^ 62)
    (q : R (Itr lo (hi - lo).toNat) H) : wpAny (model X.prog X.w) X.A (pyIter (.ref s.heap.objs.size)) (PIE X pins σ tg R hb) E { s with heap := s.heap.push { cls := .type "range", data := .fields #[.int lo t, .int hi u, .int 1 v] }, toks := tk } := by
  refine wpAny_pyIter_range (IsRange.new ..) (small_one h1 h2 h3 h4) ?_
  have I1 : Inv X pins σ H { s with heap := s.heap.push { cls := .type "range", data := .fields #[.int lo t, .int hi u, .int 1 v] }, toks := tk } := I.kept fun b o e => Heap.get?_push_of_some _ e
  refine ⟨(s.heap.push { cls := .type "range", data := .fields #[.int lo t, .int hi u, .int 1 v] }).objs.size, [(s.heap.push { cls := .type "range", data := .fields #[.int lo t, .int hi u, .int 1 v] }).objs.size], _, _, H, rfl,
    I1.kept (t' := tk) fun b o e => Heap.get?_push_of_some _ e, turn_range _ lo (hi - lo).toNat, ?_, fun b hb => ?_, q⟩
  · have e1 : lo + ((0 : Nat) : Int) * 1 = lo := by simp
    have e2 : (((hi - lo).toNat : Nat) : Int) - ((0 : Nat) : Int) = Builtin.Range.rangeSize lo hi 1 := by rw [rangeSize_one]; split <;> omega
    show IsRangeIter _ _ (lo + ((0 : Nat) : Int) * 1) ((((hi - lo).toNat : Nat) : Int) - ((0 : Nat) : Int)) 1
    rw [e1, e2]
    exact Heap.get?_push_size _ rfl
  · have e : b = (s.heap.push { cls := .type "range", data := .fields #[.int lo t, .int hi u, .int 1 v] }).objs.size := by simpa using hb
    subst e
    exact I1.fpOk (Nat.le_refl _) (I1.hok.fresh (Nat.le_refl _))
def iRng1 (ta : TA) : TI := fun σ H R => ta σ H fun vs H1 => ∃ j : Int, vs = [.int j] ∧ -(2 ^ 62) ≤ j ∧ j < 2 ^ 62 ∧ R (Itr 0 j.toNat) H1
theorem pi_range1 {hb : Bool} {a : Expr} {ta : TA} {p pos : Pos} (hg : Gl X "range") (hm : X.mg "range" = none) (ha : PA X [a] ta) (hs : starEach [a] X.env = [(false, eval a X.env)] := by rfl) : PI X tg (.Call (.Name "range" p) [a] [] pos) (iRng1 ta) hb := by
  intro pins s σ H R I h
  refine Call_ (ld_blt I hg hm boot_range (PyProof.Rows.callWith_type1 (thn (ha pos pins s σ H _ I h) fun us s1 ⟨vs, H1, I1, r1, q1⟩ => ?_) hs rfl))
  obtain ⟨j, e, q1, q2, q⟩ := q1
  subst e
  cases r1 with
  | cons r rr =>
    cases rr
    obtain ⟨t, rfl⟩ := r
    exact call_range_1 (range_it I1 (by omega) (by omega) q1 q2 (by simpa using q))
/-! ### for -/
/-- W: the invariant by the turn and a measure; N: what the body is to reach -/
def tFor (wi : TI) (g : TG) (tb : TS) : TS := fun D σ H => wi σ H fun J H1 => ∃ W : Nat → Nat → St → Hp → Prop, (∃ m, W 0 m σ H1) ∧ ∀ i m σ H, W i m σ H →
  (J.stop i H ∧ D.nx σ H) ∨ (J.go i H ∧ ∃ N : St → Hp → Prop, (∀ σ' H', N σ' H' → ∃ m', m' < m ∧ W (i + 1) m' σ' H') ∧ ∀ x H', J.yld i H x H' → g x σ H' fun σ2 H2 => tb { D with nx := N, ct := N, bk := D.nx } σ2 H2)
/-- the records at fp as they stand -/
def pinsAt (fp : List Addr) (h : Heap) : List (Addr × Obj) := fp.filterMap fun b => (h.get? b).map fun o => (b, o)
theorem mem_pinsAt {fp : List Addr} {h : Heap} {b : Addr} {o : Obj} (hb : b ∈ fp) (e : h.get? b = some o) : (b, o) ∈ pinsAt fp h := List.mem_filterMap.mpr ⟨b, hb, by rw [e]; rfl⟩
theorem of_pinsAt {fp : List Addr} {h : Heap} {p : Addr × Obj} (hp : p ∈ pinsAt fp h) : p.1 ∈ fp ∧ h.get? p.1 = some p.2 := by
  obtain ⟨b, hb, e⟩ := List.mem_filterMap.mp hp
  cases q : h.get? b with
  | none => rw [q] at e; cases e
  | some o =>
    rw [q] at e
    have e' : (b, o) = p := Option.some.inj e
    subst e'
    exact ⟨hb, q⟩
theorem Inv.pinned {pins : List (Addr × Obj)} {σ : St} {H : Hp} {s : Shared} {fp : List Addr} (I : Inv X pins σ H s) (hf : ∀ b ∈ fp, FpOk X pins H b) (ho : ∀ b ∈ fp, ∃ o, s.heap.get? b = some o ∧ ∀ v, o.data ≠ .cell v) : Inv X (pins ++ pinsAt fp s.heap) σ H s :=
  I.pins_of fun p hp => (List.mem_append.mp hp).elim (fun z => I.pin p (List.mem_append_right _ z)) fun z => by
    obtain ⟨hb, e⟩ := of_pinsAt z
    obtain ⟨f0, f1, f2, _⟩ := hf p.1 hb
    obtain ⟨o, e', d⟩ := ho p.1 hb
    rw [e] at e'; cases e'
    exact ⟨e, f0, f1, f2, d⟩
theorem Inv.unpinned {pins pl : List (Addr × Obj)} {σ : St} {H : Hp} {s : Shared} (I : Inv X (pins ++ pl) σ H s) : Inv X pins σ H s := I.pins_of fun p hp => I.pin p (List.mem_append_right _ (List.mem_append_left _ hp))
theorem ps_for {iter : Expr} {body : List Stmt} {wi : TI} {g : TG} {tb : TS} {pos : Pos} (hp : PassesOwn (model X.prog X.w) X.A X.env X.xe) (hc : X.calm = true) (hi : PI X tg iter wi) (hg : PG X tg g) (hb : PSs X body tb)
    (hs : ∀ x, foldedSetIterable iter X.env x = pure x := by intro _; rfl) : PS X (.For tg iter body [] pos) (tFor wi g tb) := by
  intro pins s σ H D I h
  refine wpAny_For (thn (hi pins s σ H _ I h) fun v s1 h1 => thn h1 fun itv s2 h2 => ?_) hs
  obtain ⟨it, fp, tn, J, H2, e, I2, T, st2, f2, W, ⟨m0, w0⟩, turn⟩ := h2
  subst e
  -- what stays true of the iterator's objects through the loop
  have stat : ∀ {H' : Hp}, (∀ b ∈ fp, H' b = none) → ∀ b ∈ fp, FpOk X pins H' b := fun hn b hb => ⟨hn b hb, (f2 b hb).2⟩
  refine codeAny_forLoop_any (fun n s' => ∃ i σ' H', Inv X pins σ' H' s' ∧ tn i s'.heap ∧ (∀ b ∈ fp, H' b = none) ∧ W i n σ' H') ?_ m0 ⟨0, σ, H2, I2, st2, fun b hb => (f2 b hb).1, w0⟩
  rintro n s3 ⟨i, σ3, H3, I3, st3, fr3, w3⟩
  rcases turn i n σ3 H3 w3 with ⟨stop, qn⟩ | ⟨go, N, hN, step⟩
  · refine wpAny_passesOwn hp (thn (T.done X rfl rfl rfl s3 (.inl (I3.ok.hd hc)) i pins σ3 H3 X.xe I3 (stat fr3) st3 stop) fun r s4 ⟨hr, I4⟩ => ?_)
    subst hr
    exact wpAny_execs_nil ⟨σ3, H3, I4, qn⟩
  · refine wpAny_passesOwn hp (thn (T.item X rfl rfl rfl s3 (.inl (I3.ok.hd hc)) i pins σ3 H3 X.xe I3 (stat fr3) st3 go) fun r s4 ⟨u, hr, h4⟩ => ?_)
    subst hr
    refine wpAny_passesOwn hp (thn h4 fun _ s5 ⟨x, H5, I5, r5, y5, st5, fr5⟩ => ?_)
    have I5' := I5.pinned (stat fr5) (T.obj _ _ st5)
    refine wpAny_passesOwn hp (thn (hg _ s5 σ3 H5 x u _ I5' r5 (step x H5 y5)) fun _ s6 ⟨σ6, H6, I6, q6⟩ => ?_)
    refine wpAny_passesOwn hp (thn (hb _ s6 σ6 H6 _ I6 q6) fun f s7 q7 => ?_)
    have again : ∀ {σ7 : St} {H7 : Hp}, Inv X (pins ++ pinsAt fp s5.heap) σ7 H7 s7 → N σ7 H7 → ∃ m, m < n ∧ ∃ i σ' H', Inv X pins σ' H' s7 ∧ tn i s7.heap ∧ (∀ b ∈ fp, H' b = none) ∧ W i m σ' H' := fun {σ7 H7} I7 n7 => by
      obtain ⟨m', hm, w7⟩ := hN σ7 H7 n7
      refine ⟨m', hm, i + 1, σ7, H7, I7.unpinned, T.keep _ _ _ st5 fun b hb o e => (I7.pin (b, o) (List.mem_append_right _ (List.mem_append_right _ (mem_pinsAt hb e)))).1, fun b hb => ?_, w7⟩
      obtain ⟨o, e, d⟩ := T.obj _ _ st5 b hb
      exact (I7.pin (b, o) (List.mem_append_right _ (List.mem_append_right _ (mem_pinsAt hb e)))).2.1
    cases f with
    | next => obtain ⟨σ7, H7, I7, n7⟩ := q7; exact again I7 n7
    | cont => obtain ⟨σ7, H7, I7, n7⟩ := q7; exact again I7 n7
    | brk => obtain ⟨σ7, H7, I7, q7⟩ := q7; exact ⟨σ7, H7, I7.unpinned, q7⟩
    | ret v => obtain ⟨x7, σ7, H7, I7, r7, q7⟩ := q7; exact ⟨x7, σ7, H7, I7.unpinned, r7, q7⟩
end

/-! ### the forms one uses -/
/-- over a list that the body leaves as it is -/
theorem for_list {K : PySem.W.Frag} {a : Addr} {xs : List V} {g : TG} {tb : TS} {D : Ends} {σ : St} {H : Hp} (Pv : Nat → St → Hp → Prop) (h0 : Pv 0 σ H) (hl : ∀ i σ H, i ≤ xs.length → Pv i σ H → SqL K H a xs)
    (hs : ∀ i x σ H, xs[i]? = some x → Pv i σ H → g x σ H fun σ2 H2 => tb { D with nx := Pv (i + 1), ct := Pv (i + 1), bk := D.nx } σ2 H2) (hd : ∀ σ H, Pv xs.length σ H → D.nx σ H) :
    ∃ W : Nat → Nat → St → Hp → Prop, (∃ m, W 0 m σ H) ∧ ∀ i m σ H, W i m σ H →
      ((Itl K a).stop i H ∧ D.nx σ H) ∨ ((Itl K a).go i H ∧ ∃ N : St → Hp → Prop, (∀ σ' H', N σ' H' → ∃ m', m' < m ∧ W (i + 1) m' σ' H') ∧ ∀ x H', (Itl K a).yld i H x H' → g x σ H' fun σ2 H2 => tb { D with nx := N, ct := N, bk := D.nx } σ2 H2) := by
  refine ⟨fun i m σ H => m = xs.length - i ∧ i ≤ xs.length ∧ Pv i σ H, ⟨xs.length, by simp, Nat.zero_le _, h0⟩, ?_⟩
  rintro i m σ H ⟨rfl, hi, p⟩
  have q := hl i σ H hi p
  by_cases hlt : i < xs.length
  · refine .inr ⟨⟨xs, xs[i], q, by simp [hlt]⟩, Pv (i + 1), fun σ' H' p' => ⟨xs.length - (i + 1), by omega, rfl, hlt, p'⟩, fun x H' y => ?_⟩
    obtain ⟨e, y⟩ := y
    subst e
    exact hs i x σ _ (y xs q) p
  · have e : i = xs.length := by omega
    subst e
    exact .inl ⟨⟨xs, q, Nat.le_refl _⟩, hd σ H p⟩
theorem for_range {lo : Int} {n : Nat} {g : TG} {tb : TS} {D : Ends} {σ : St} {H : Hp} (Pv : Nat → St → Hp → Prop) (h0 : Pv 0 σ H)
    (hs : ∀ i σ H, i < n → Pv i σ H → g (.int (lo + i)) σ H fun σ2 H2 => tb { D with nx := Pv (i + 1), ct := Pv (i + 1), bk := D.nx } σ2 H2) (hd : ∀ σ H, Pv n σ H → D.nx σ H) :
    ∃ W : Nat → Nat → St → Hp → Prop, (∃ m, W 0 m σ H) ∧ ∀ i m σ H, W i m σ H →
      ((Itr lo n).stop i H ∧ D.nx σ H) ∨ ((Itr lo n).go i H ∧ ∃ N : St → Hp → Prop, (∀ σ' H', N σ' H' → ∃ m', m' < m ∧ W (i + 1) m' σ' H') ∧ ∀ x H', (Itr lo n).yld i H x H' → g x σ H' fun σ2 H2 => tb { D with nx := N, ct := N, bk := D.nx } σ2 H2) := by
  refine ⟨fun i m σ H => m = n - i ∧ i ≤ n ∧ Pv i σ H, ⟨n, by simp, Nat.zero_le _, h0⟩, ?_⟩
  rintro i m σ H ⟨rfl, hi, p⟩
  by_cases hlt : i < n
  · refine .inr ⟨hlt, Pv (i + 1), fun σ' H' p' => ⟨n - (i + 1), by omega, rfl, hlt, p'⟩, fun x H' y => ?_⟩
    obtain ⟨e, y⟩ := y
    subst e y
    exact hs i σ _ hlt p
  · have e : i = n := by omega
    subst e
    exact .inl ⟨Nat.le_refl _, hd σ H p⟩
end L2

namespace L2
open PySem PySem.Spec PyProof.Rows

abbrev R2 := V → V → Hp → VK → Prop
/-- a two-place operation on values: f is binaryOp op, inplaceOp op or compareOp op -/
def OpR (X : Cx) (f : Value → Value → Sem Value) (r : R2) : Prop :=
  ∀ (pins : List (Addr × Obj)) (s : Shared) (σ : St) (H : Hp) (x y : V) (v u : Value) (Q : VK), Inv X pins σ H s → RelV x v → RelV y u → r x y H Q →
    wpAny (model X.prog X.w) X.A (f v u) (EP X pins σ Q) X.xe s
/-- a one-place operation -/
def UnR (X : Cx) (f : Value → Sem Value) (r : V → Hp → VK → Prop) : Prop :=
  ∀ (pins : List (Addr × Obj)) (s : Shared) (σ : St) (H : Hp) (x : V) (v : Value) (Q : VK), Inv X pins σ H s → RelV x v → r x H Q →
    wpAny (model X.prog X.w) X.A (f v) (EP X pins σ Q) X.xe s
/-- a call of a value that is known (a builtin, a type) with values -/
def CallR (X : Cx) (f : Value) (r : List V → Hp → VK → Prop) : Prop :=
  ∀ (pins : List (Addr × Obj)) (s : Shared) (σ : St) (H : Hp) (xs : List V) (us : List Value) (Q : VK), Inv X pins σ H s → Vals xs us → r xs H Q →
    wpAny (model X.prog X.w) X.A (call f us) (EP X pins σ Q) X.xe s
/-- a value's truth -/
def TruR (X : Cx) (r : V → Hp → (Bool → Hp → Prop) → Prop) : Prop :=
  ∀ (pins : List (Addr × Obj)) (s : Shared) (σ : St) (H : Hp) (x : V) (v : Value) (Q : Bool → Hp → Prop), Inv X pins σ H s → RelV x v → r x H Q →
    wpAny (model X.prog X.w) X.A (truthy v) (TP X pins σ Q) X.xe s

def tOp (r : R2) (ta tb : TE) : TE := fun σ H Q => ta σ H fun x H1 => tb σ H1 fun y H2 => r x y H2 Q
def tUn (r : V → Hp → VK → Prop) (ta : TE) : TE := fun σ H Q => ta σ H fun x H1 => r x H1 Q
/-- ints in, under C, and a value out -/
def rI (C : Int → Int → Prop) (g : Int → Int → V) : R2 := fun x y H Q => ∃ i j, x = .int i ∧ y = .int j ∧ C i j ∧ Q (g i j) H
def rI0 (g : Int → Int → V) : R2 := fun x y H Q => ∃ i j, x = .int i ∧ y = .int j ∧ Q (g i j) H
def rU (g : Int → V) : V → Hp → VK → Prop := fun x H Q => ∃ i, x = .int i ∧ Q (g i) H

section
variable {X : Cx} {a b c : Expr} {ta tb tc : TE} {pos : Pos}

theorem binT (ha : PE X a ta) (hb : PE X b tb) {pins : List (Addr × Obj)} {s : Shared} {σ : St} {H : Hp} {R : V → V → Hp → Prop} (I : Inv X pins σ H s)
    (h : ta σ H fun x H1 => tb σ H1 fun y H2 => R x y H2) {Q : Value → Shared → Prop} {f : Value → Value → Sem Value}
    (hf : ∀ v u s2 x y H2, Inv X pins σ H2 s2 → RelV x v → RelV y u → R x y H2 → wpAny (model X.prog X.w) X.A (f v u) Q X.xe s2) :
    wpAny (model X.prog X.w) X.A (eval a X.env) (fun v s₁ => wpAny (model X.prog X.w) X.A (eval b X.env) (fun u s₂ => wpAny (model X.prog X.w) X.A (f v u) Q X.xe s₂) X.xe s₁) X.xe s := by
  refine thn (ha pins s σ H _ I h) fun v s1 ⟨x, H1, I1, r1, q1⟩ => ?_
  refine thn (hb pins s1 σ H1 _ I1 q1) fun u s2 ⟨y, H2, I2, r2, q2⟩ => ?_
  exact hf v u s2 x y H2 I2 r1 r2 q2

theorem pe_op {op : Operator} {r : R2} (ho : OpR X (binaryOp op) r) (ha : PE X a ta) (hb : PE X b tb) : PE X (.BinOp a op b pos) (tOp r ta tb) := by
  intro pins s σ H Q I h
  exact wpAny_BinOp (binT ha hb I h fun v u s2 x y H2 I2 rx ry q => ho pins s2 σ H2 x y v u Q I2 rx ry q)
theorem pe_un {op : UnaryOp} {r : V → Hp → VK → Prop} (ho : UnR X (unaryOp op) r) (ha : PE X a ta) : PE X (.UnaryOp op a pos) (tUn r ta) := by
  intro pins s σ H Q I h
  exact UnaryOp_ (thn (ha pins s σ H _ I h) fun v s1 ⟨x, H1, I1, r1, q1⟩ => ho pins s1 σ H1 x v Q I1 r1 q1)
/-! ### ints -/
theorem opI {f : Value → Value → Sem Value} {C : Int → Int → Prop} {g : Int → Int → Int}
    (rule : ∀ (i j : Int) (t u : Tok) (s : Shared) (Q : Value → Shared → Prop) (E : Value → Shared → Prop), C i j → Q (.int (g i j) s.toks) { s with toks := s.toks + 1 } → wpAny (model X.prog X.w) X.A (f (.int i t) (.int j u)) Q E s) :
    OpR X f (rI C fun i j => .int (g i j)) := by
  intro pins s σ H x y v u Q I rx ry h
  obtain ⟨i, j, rfl, rfl, hc, q⟩ := h
  obtain ⟨t, rfl⟩ := rx
  obtain ⟨t', rfl⟩ := ry
  exact rule i j t t' s _ _ hc ⟨.int (g i j), H, I.tok _, ⟨_, rfl⟩, q⟩
theorem opI0 {f : Value → Value → Sem Value} {g : Int → Int → Int}
    (rule : ∀ (i j : Int) (t u : Tok) (s : Shared) (Q : Value → Shared → Prop) (E : Value → Shared → Prop), Q (.int (g i j) s.toks) { s with toks := s.toks + 1 } → wpAny (model X.prog X.w) X.A (f (.int i t) (.int j u)) Q E s) :
    OpR X f (rI0 fun i j => .int (g i j)) := by
  intro pins s σ H x y v u Q I rx ry h
  obtain ⟨i, j, rfl, rfl, q⟩ := h
  obtain ⟨t, rfl⟩ := rx
  obtain ⟨t', rfl⟩ := ry
  exact rule i j t t' s _ _ ⟨.int (g i j), H, I.tok _, ⟨_, rfl⟩, q⟩
theorem opB0 {f : Value → Value → Sem Value} {g : Int → Int → Bool}
    (rule : ∀ (i j : Int) (t u : Tok) (s : Shared) (Q : Value → Shared → Prop) (E : Value → Shared → Prop), Q (.bool (g i j)) s → wpAny (model X.prog X.w) X.A (f (.int i t) (.int j u)) Q E s) :
    OpR X f (rI0 fun i j => .bl (g i j)) := by
  intro pins s σ H x y v u Q I rx ry h
  obtain ⟨i, j, rfl, rfl, q⟩ := h
  obtain ⟨t, rfl⟩ := rx
  obtain ⟨t', rfl⟩ := ry
  exact rule i j t t' s _ _ ⟨.bl (g i j), H, I, rfl, q⟩

def CDiv (i j : Int) : Prop := 0 < j ∧ j < 1073741824
def CPow (i j : Int) : Prop := 0 ≤ j ∧ j ≤ 1000000 ∧ i.natAbs < 2 ^ 64
def CMul (i j : Int) : Prop := (-(2 ^ 64) < i ∧ i < 2 ^ 64) ∨ (-(2 ^ 64) < j ∧ j < 2 ^ 64)
theorem CMul.ok {i j : Int} (h : CMul i j) : IntMulOk i j := by
  rcases h with ⟨h1, h2⟩ | ⟨h1, h2⟩
  · exact .of_left (intBits_le_64 h1 h2)
  · exact .of_right (intBits_le_64 h1 h2)
theorem op_add : OpR X (binaryOp .Add) (rI0 fun i j => .int (i + j)) := opI0 fun _ _ _ _ _ _ _ q => add_int q
theorem op_sub : OpR X (binaryOp .Sub) (rI0 fun i j => .int (i - j)) := opI0 fun _ _ _ _ _ _ _ q => sub_int q
theorem op_mul : OpR X (binaryOp .Mult) (rI CMul fun i j => .int (i * j)) := opI fun _ _ _ _ _ _ _ hc q => mul_int q hc.ok
/-- // by a positive divisor -/
theorem op_fdiv : OpR X (binaryOp .FloorDiv) (rI CDiv fun i j => .int (i / j)) := opI fun i j _ _ _ _ _ hc q => by
  have h1 : (0 : Int) < j := hc.1
  have h2 : j < 1073741824 := hc.2
  exact floordiv_int (by omega) (by rw [Int.fdiv_eq_ediv_of_nonneg i (by omega)]; exact q) (.inl (PyProof.noPylong_small (by omega)))
/-- % by a positive divisor of any size -/
theorem op_mod : OpR X (binaryOp .Mod) (rI (fun _ j => 0 < j) fun i j => .int (i % j)) := opI fun i j _ _ _ _ _ hc q => by
  have h1 : (0 : Int) < j := hc
  exact mod_int' (by omega) (by rw [Int.fmod_eq_emod_of_nonneg i (by omega)]; exact q)
theorem op_pow : OpR X (binaryOp .Pow) (rI CPow fun i j => .int (i ^ j.toNat)) := opI fun _ _ _ _ _ _ _ hc q => pow_int_small hc.1 hc.2.1 hc.2.2 q
theorem unI {f : Value → Sem Value} {g : Int → Int}
    (rule : ∀ (i : Int) (t : Tok) (s : Shared) (Q : Value → Shared → Prop) (E : Value → Shared → Prop), Q (.int (g i) s.toks) { s with toks := s.toks + 1 } → wpAny (model X.prog X.w) X.A (f (.int i t)) Q E s) :
    UnR X f (rU fun i => .int (g i)) := by
  intro pins s σ H x v Q I rx h
  obtain ⟨i, rfl, q⟩ := h
  obtain ⟨t, rfl⟩ := rx
  exact rule i t s _ _ ⟨.int (g i), H, I.tok _, ⟨_, rfl⟩, q⟩
theorem un_neg : UnR X (unaryOp .USub) (rU fun i => .int (-i)) := unI fun _ _ _ _ _ q => neg_int q
/-! ### bools among ints: n += (a < b) -/
end

/-! ### comparisons -/
/-- the scalars that == tells apart as data does -/
def scal : V → V → Bool
  | .non, .non => true | .non, .int _ => true | .int _, .non => true | .non, .bl _ => true | .bl _, .non => true | .non, .str _ => true | .str _, .non => true
  | .int _, .int _ => true | .bl _, .bl _ => true | .str _, .str _ => true | .byt _, .byt _ => true
  | .int _, .str _ => true | .str _, .int _ => true | .bl _, .str _ => true | .str _, .bl _ => true
  | _, _ => false
def rEq : R2 := fun x y H Q => scal x y = true ∧ Q (.bl (decide (x = y))) H
def rNe : R2 := fun x y H Q => scal x y = true ∧ Q (.bl (!decide (x = y))) H

theorem dec_int {i j : Int} : decide (V.int i = V.int j) = (i == j) := by
  rw [Bool.eq_iff_iff]
  simp
theorem dec_bl {i j : Bool} : decide (V.bl i = V.bl j) = (i == j) := by
  rw [Bool.eq_iff_iff]
  simp
theorem dec_str {i j : Str} : decide (V.str i = V.str j) = (i == j) := by
  rw [Bool.eq_iff_iff]
  simp
theorem dec_byt {i j : Array UInt8} : decide (V.byt i = V.byt j) = (i.toList == j.toList) := by
  rw [Bool.eq_iff_iff]
  cases i
  cases j
  simp

section
variable {X : Cx} {a b c : Expr} {ta tb tc : TE} {pos : Pos}
theorem fin_bl {pins : List (Addr × Obj)} {σ : St} {H : Hp} {s : Shared} {Q : VK} {k k' : Bool} (I : Inv X pins σ H s) (q : Q (.bl k) H) (e : k = k') : EP X pins σ Q (.bool k') s := by
  subst e
  exact ⟨.bl k, H, I, rfl, q⟩
theorem op_eq : OpR X (compareOp .Eq) rEq := by
  intro pins s σ H x y v u Q I rx ry h
  obtain ⟨hs, q⟩ := h
  cases x with
  | non =>
    cases rx
    cases y with
    | non => cases ry; exact PySem.EqNone.eq_none_none (fin_bl I q (by simp))
    | bl j => cases ry; exact PySem.EqNone.eq_none_bool (fin_bl I q (by simp))
    | int j => obtain ⟨t', rfl⟩ := ry; exact PySem.EqNone.eq_none_int (fin_bl I q (by simp))
    | str j => obtain ⟨t', rfl⟩ := ry; exact PySem.EqNone.eq_none_str (fin_bl I q (by simp))
    | _ => exact absurd (show false = true from hs) Bool.false_ne_true
  | bl i =>
    cases rx
    cases y with
    | non => cases ry; exact PySem.EqNone.eq_bool_none (fin_bl I q (by simp))
    | bl j => cases ry; exact eq_bool (fin_bl I q dec_bl)
    | str j => obtain ⟨t', rfl⟩ := ry; exact PySem.EqMixed.eq_bool_str (fin_bl I q (by simp))
    | _ => exact absurd (show false = true from hs) Bool.false_ne_true
  | int i =>
    obtain ⟨t, rfl⟩ := rx
    cases y with
    | non => cases ry; exact PySem.EqNone.eq_int_none (fin_bl I q (by simp))
    | int j => obtain ⟨t', rfl⟩ := ry; exact eq_int (fin_bl I q dec_int)
    | str j => obtain ⟨t', rfl⟩ := ry; exact PySem.EqMixed.eq_int_str (fin_bl I q (by simp))
    | _ => exact absurd (show false = true from hs) Bool.false_ne_true
  | str i =>
    obtain ⟨t, rfl⟩ := rx
    cases y with
    | non => cases ry; exact PySem.EqNone.eq_str_none (fin_bl I q (by simp))
    | bl j => cases ry; exact PySem.EqMixed.eq_str_bool (fin_bl I q (by simp))
    | int j => obtain ⟨t', rfl⟩ := ry; exact PySem.EqMixed.eq_str_int (fin_bl I q (by simp))
    | str j => obtain ⟨t', rfl⟩ := ry; exact eq_str (fin_bl I q dec_str)
    | _ => exact absurd (show false = true from hs) Bool.false_ne_true
  | byt i =>
    obtain ⟨t, rfl⟩ := rx
    cases y with
    | byt j => obtain ⟨t', rfl⟩ := ry; exact PySem.W.eq_bytes (fin_bl I q dec_byt)
    | _ => exact absurd (show false = true from hs) Bool.false_ne_true
  | _ => cases y <;> exact absurd (show false = true from hs) Bool.false_ne_true
theorem op_ne : OpR X (compareOp .NotEq) rNe := by
  intro pins s σ H x y v u Q I rx ry h
  obtain ⟨hs, q⟩ := h
  cases x with
  | non =>
    cases rx
    cases y with
    | non => cases ry; exact PySem.EqNone.ne_none_none (fin_bl I q (by simp))
    | bl j => cases ry; exact PySem.EqNone.ne_none_bool (fin_bl I q (by simp))
    | int j => obtain ⟨t', rfl⟩ := ry; exact PySem.EqNone.ne_none_int (fin_bl I q (by simp))
    | str j => obtain ⟨t', rfl⟩ := ry; exact PySem.EqNone.ne_none_str (fin_bl I q (by simp))
    | _ => exact absurd (show false = true from hs) Bool.false_ne_true
  | bl i =>
    cases rx
    cases y with
    | non => cases ry; exact PySem.EqNone.ne_bool_none (fin_bl I q (by simp))
    | bl j => cases ry; exact ne_bool (fin_bl I q (congrArg not dec_bl))
    | str j => obtain ⟨t', rfl⟩ := ry; exact PySem.EqMixed.ne_bool_str (fin_bl I q (by simp))
    | _ => exact absurd (show false = true from hs) Bool.false_ne_true
  | int i =>
    obtain ⟨t, rfl⟩ := rx
    cases y with
    | non => cases ry; exact PySem.EqNone.ne_int_none (fin_bl I q (by simp))
    | int j => obtain ⟨t', rfl⟩ := ry; exact ne_int (fin_bl I q (congrArg not dec_int))
    | str j => obtain ⟨t', rfl⟩ := ry; exact PySem.EqMixed.ne_int_str (fin_bl I q (by simp))
    | _ => exact absurd (show false = true from hs) Bool.false_ne_true
  | str i =>
    obtain ⟨t, rfl⟩ := rx
    cases y with
    | non => cases ry; exact PySem.EqNone.ne_str_none (fin_bl I q (by simp))
    | bl j => cases ry; exact PySem.EqMixed.ne_str_bool (fin_bl I q (by simp))
    | int j => obtain ⟨t', rfl⟩ := ry; exact PySem.EqMixed.ne_str_int (fin_bl I q (by simp))
    | str j => obtain ⟨t', rfl⟩ := ry; exact ne_str (fin_bl I q (congrArg not dec_str))
    | _ => exact absurd (show false = true from hs) Bool.false_ne_true
  | byt i =>
    obtain ⟨t, rfl⟩ := rx
    cases y with
    | byt j => obtain ⟨t', rfl⟩ := ry; exact PySem.W.ne_bytes (fin_bl I q (congrArg not dec_byt))
    | _ => exact absurd (show false = true from hs) Bool.false_ne_true
  | _ => cases y <;> exact absurd (show false = true from hs) Bool.false_ne_true

theorem op_lt : OpR X (compareOp .Lt) (rI0 fun i j => .bl (decide (i < j))) := opB0 fun _ _ _ _ _ _ _ q => lt_int q
theorem op_le : OpR X (compareOp .LtE) (rI0 fun i j => .bl (decide (i ≤ j))) := opB0 fun _ _ _ _ _ _ _ q => le_int q
theorem op_gt : OpR X (compareOp .Gt) (rI0 fun i j => .bl (decide (j < i))) := opB0 fun _ _ _ _ _ _ _ q => gt_int q
/-- the one string within the other -/
theorem op_in_str : OpR X (compareOp .In) (fun x y H Q => ∃ i j, x = .str i ∧ y = .str j ∧ Q (.bl (!(Builtin.Str.occurrences j i 0 j.length 1).isEmpty)) H) := by
  intro pins s σ H x y v u Q I rx ry h
  obtain ⟨i, j, rfl, rfl, q⟩ := h
  obtain ⟨t, rfl⟩ := rx
  obtain ⟨t', rfl⟩ := ry
  exact in_str (fin_bl I q rfl)

/-- is None, is not None: the right side a value none -/
theorem op_isN : OpR X (compareOp .Is) (fun x y H Q => y = .non ∧ Q (.bl (decide (x = .non))) H) := by
  intro pins s σ H x y v u Q I rx ry h
  obtain ⟨rfl, q⟩ := h
  cases ry
  refine is_none_gen (fin_bl I q ?_)
  cases x <;> first
    | (cases rx; rfl)
    | (obtain ⟨t, rfl⟩ := rx; rfl)
theorem nomark (b : Expr) {op : CmpOp} (h : op ≠ .In := by decide) (h2 : op ≠ .NotIn := by decide) : behindInMarks op b = false := by
  have e1 : (op == CmpOp.In) = false := by cases op <;> first | rfl | exact absurd rfl h
  have e2 : (op == CmpOp.NotIn) = false := by cases op <;> first | rfl | exact absurd rfl h2
  cases b <;> simp [behindInMarks, e1, e2]
/-- a comparison as a value; hm: nomark b, or (for in, not in) by with_unfolding_all rfl -/
theorem pe_cmpR {op : CmpOp} {r : R2} (ho : OpR X (compareOp op) r) (ha : PE X a ta) (hb : PE X b tb) (hm : behindInMarks op b = false) : PE X (.Compare a [op] [b] pos) (tOp r ta tb) := by
  intro pins s σ H Q I h
  exact wpAny_Compare1 (binT ha hb I h fun v u s2 x y H2 I2 rx ry q => ho pins s2 σ H2 x y v u Q I2 rx ry q) hm
/-- a reading of a value as a test -/
def tTest (t : TE) : TT := fun σ H Q => t σ H fun x H' => ∃ k, x = .bl k ∧ Q k H'
theorem pt_cmpR {op : CmpOp} {r : R2} (ho : OpR X (compareOp op) r) (ha : PE X a ta) (hb : PE X b tb) (hm : behindInMarks op b = false) : PT X (.Compare a [op] [b] pos) (tTest (tOp r ta tb)) := by
  intro pins s σ H Q I h
  refine wpAny_isTrue_Compare1 (thn (ha pins s σ H _ I h) fun v s1 ⟨x, H1, I1, r1, q1⟩ => thn (hb pins s1 σ H1 _ I1 q1) fun u s2 ⟨y, H2, I2, r2, q2⟩ =>
    thn (ho pins s2 σ H2 x y v u _ I2 r1 r2 q2) fun c s3 ⟨z, H3, I3, r3, k, e, q3⟩ => ?_) hm
  subst e
  cases r3
  exact wpAny_truthy_bool ⟨H3, I3, q3⟩
/-- a op1 b op2 c -/
def tChain (r r' : R2) (ta tb tc : TE) : TE := fun σ H Q => ta σ H fun x H1 => tb σ H1 fun y H2 => r x y H2 fun z H3 => ∃ k, z = .bl k ∧
  (if k = true then tc σ H3 fun w' H4 => r' y w' H4 Q else Q (.bl false) H3)
theorem pe_chain {op op' : CmpOp} {r r' : R2} (ho : OpR X (compareOp op) r) (ho' : OpR X (compareOp op') r') (ha : PE X a ta) (hb : PE X b tb) (hc : PE X c tc)
    (hm : lastMarks [op, op'] [b, c] = false := by with_unfolding_all rfl) : PE X (.Compare a [op, op'] [b, c] pos) (tChain r r' ta tb tc) := by
  intro pins s σ H Q I h
  refine Compare_chain (thn (ha pins s σ H _ I h) fun v s1 ⟨x, H1, I1, r1, q1⟩ => chain_link (thn (hb pins s1 σ H1 _ I1 q1) fun u s2 ⟨y, H2, I2, r2, q2⟩ =>
    thn (ho pins s2 σ H2 x y v u _ I2 r1 r2 q2) fun d s3 ⟨z, H3, I3, r3, k, e, q3⟩ => ?_)) hm
  subst e
  cases r3
  refine wpAny_truthy_bool ?_
  cases k with
  | false => exact ite_ff ⟨.bl false, H3, I3, rfl, q3⟩
  | true => exact ite_tt (chain_last (thn (hc pins s3 σ H3 _ I3 q3) fun w' s4 ⟨z', H4, I4, r4, q4⟩ => ho' pins s4 σ H4 y z' u w' Q I4 r2 r4 q4))
theorem pt_chain {op op' : CmpOp} {r r' : R2} (ho : OpR X (compareOp op) r) (ho' : OpR X (compareOp op') r') (ha : PE X a ta) (hb : PE X b tb) (hc : PE X c tc)
    (hm : lastMarks [op, op'] [b, c] = false := by with_unfolding_all rfl) : PT X (.Compare a [op, op'] [b, c] pos) (tTest (tChain r r' ta tb tc)) := by
  intro pins s σ H Q I h
  refine isTrue_chain (thn (ha pins s σ H _ I h) fun v s1 ⟨x, H1, I1, r1, q1⟩ => test_link (thn (hb pins s1 σ H1 _ I1 q1) fun u s2 ⟨y, H2, I2, r2, q2⟩ =>
    thn (ho pins s2 σ H2 x y v u _ I2 r1 r2 q2) fun d s3 ⟨z, H3, I3, r3, k, e, q3⟩ => ?_)) hm
  subst e
  cases r3
  refine wpAny_truthy_bool ?_
  cases k with
  | false =>
    obtain ⟨k', e', q'⟩ := q3
    cases e'
    exact ite_ff ⟨H3, I3, q'⟩
  | true =>
    refine ite_tt (test_last (thn (hc pins s3 σ H3 _ I3 q3) fun w' s4 ⟨z', H4, I4, r4, q4⟩ => thn (ho' pins s4 σ H4 y z' u w' _ I4 r2 r4 q4) fun d' s5 ⟨z2, H5, I5, r5, k2, e2, q5⟩ => ?_))
    subst e2
    cases r5
    exact wpAny_truthy_bool ⟨H5, I5, q5⟩

/-! ### truth -/
/-- a value's truth by the abstract heap -/
def TruV (K : PySem.W.Frag) (x : V) (H : Hp) (k : Bool) : Prop :=
  match x with
  | .non => k = false
  | .bl b => k = b
  | .int i => k = (i != 0)
  | .str y => y.length ≤ sizeLine ∧ k = ((y.length : Int) != 0)
  | .byt y => y.size ≤ sizeLine ∧ k = ((y.size : Int) != 0)
  | .ref p => (∃ xs, SqL K H p xs ∧ k = !xs.isEmpty) ∨ (∃ xs, SqT K H p xs ∧ k = !xs.isEmpty) ∨ ∃ kvs, H p = some (.dK kvs) ∧ k = !kvs.isEmpty
  | _ => False
theorem isEmpty_kv {κ : Type} {kvs : List (κ × V)} {vs : List (κ × Value)} (r : KV kvs vs) : (!vs.isEmpty) = !kvs.isEmpty := by
  cases r <;> rfl
theorem isEmpty_of {xs : List V} {its : List Value} (r : Vals xs its) : (!its.toArray.isEmpty) = !xs.isEmpty := by
  cases r <;> simp
theorem line63 : (sizeLine : Nat) < 2 ^ 63 := by rw [sizeLine_eq]; decide
theorem tru_ok : TruR X (fun x H Q => ∃ k, TruV X.K x H k ∧ Q k H) := by
  intro pins s σ H x v Q I rx h
  obtain ⟨k, e, q⟩ := h
  have hl := line63
  have hs : sizeLine = 16777216 := sizeLine_eq
  cases x with
  | non =>
    cases rx
    have e' : k = false := e
    subst e'
    exact truthy_none ⟨H, I, q⟩
  | bl b =>
    cases rx
    have e' : k = b := e
    subst e'
    exact wpAny_truthy_bool ⟨H, I, q⟩
  | int i =>
    obtain ⟨t, rfl⟩ := rx
    have e' : k = (i != 0) := e
    subst e'
    exact PySem.P.truthy_int ⟨H, I, q⟩
  | str y =>
    obtain ⟨t, rfl⟩ := rx
    obtain ⟨hy, e'⟩ : y.length ≤ sizeLine ∧ k = ((y.length : Int) != 0) := e
    subst e'
    exact PySem.P.truthy_str (by omega) ⟨H, I.tok _, q⟩
  | byt y =>
    obtain ⟨t, rfl⟩ := rx
    obtain ⟨hy, e'⟩ : y.size ≤ sizeLine ∧ k = ((y.size : Int) != 0) := e
    subst e'
    exact PySem.W.truthy_bytes (by omega) ⟨H, I.tok _, q⟩
  | ref p =>
    cases rx
    have e' : (∃ xs, SqL X.K H p xs ∧ k = !xs.isEmpty) ∨ (∃ xs, SqT X.K H p xs ∧ k = !xs.isEmpty) ∨ ∃ kvs, H p = some (.dK kvs) ∧ k = !kvs.isEmpty := e
    rcases e' with ⟨xs, hx, e'⟩ | ⟨xs, hx, e'⟩ | ⟨kvs, hx, e'⟩
    · subst e'
      obtain ⟨its, r, pl, hz⟩ := I.list hx
      have hlen := r.length
      exact wpAny_truthy_list pl.isList (by simp only [List.size_toArray]; omega) ⟨H, I.tok _, by rw [isEmpty_of r]; exact q⟩
    · subst e'
      obtain ⟨its, r, pl, hz⟩ := I.tuple hx
      have hlen := r.length
      exact truthy_tuple pl (by simp only [List.size_toArray]; omega) ⟨H, I.tok _, by rw [isEmpty_of r]; exact q⟩
    · subst e'
      obtain ⟨hz, hS, vs, r, m⟩ : kvs.length ≤ sizeLine ∧ (p == sysModules) = false ∧ ∃ vs, KV kvs vs ∧ s.heap.DictOf (mixKind X.prog X.w) p vs := I.hok p _ hx
      have hlen : kvs.length = vs.length := Paired.length r
      exact wpAny_truthy_dict hS m (by omega) ⟨H, I.tok _, by rw [isEmpty_kv r]; exact q⟩
  | _ => exact (show False from e).elim
/-- any expression whose test is its value's truth (a name, a call, a subscript, a field ..: he by fun _ => rfl) -/
theorem pt_truth (ha : PE X a ta) (he : ∀ whole, isTrue a X.env whole = (do let v ← whole; standAt a.pos; holding [v] (truthy v))) :
    PT X a (fun σ H Q => ta σ H fun x H' => ∃ k, TruV X.K x H' k ∧ Q k H') := by
  intro pins s σ H Q I h
  exact isTrue_plain (thn (ha pins s σ H _ I h) fun v s1 ⟨x, H1, I1, r1, q1⟩ => tru_ok pins s1 σ H1 x v Q I1 r1 q1) (he _)

/-! ### strs and bytes -/
theorem op_add_str : OpR X (binaryOp .Add) (fun x y H Q => ∃ i j, x = .str i ∧ y = .str j ∧ i.length + j.length ≤ sizeLine ∧ Q (.str (i ++ j)) H) := by
  intro pins s σ H x y v u Q I rx ry h
  obtain ⟨i, j, rfl, rfl, hz, q⟩ := h
  obtain ⟨t, rfl⟩ := rx
  obtain ⟨t', rfl⟩ := ry
  exact add_str (fun t' tk => ⟨.str (i ++ j), H, I.tok _, ⟨_, rfl⟩, q⟩) hz
/-! ### scalar builtins, by CallR -/
theorem vals1 {x : V} {us : List Value} (r : Vals [x] us) : ∃ u, us = [u] ∧ RelV x u := by
  cases r with
  | cons r1 r2 => cases r2; exact ⟨_, rfl, r1⟩
end
end L2

namespace L2
open PySem PySem.Spec PyProof.Rows

/-! ### an instance, its attributes a map -/
structure ObjM (h : Heap) (x dx C : Addr) (mA : Str → Option Value) : Prop where
  obj : h.get? x = some (PySem.W.instObj C dx)
  ns : h.Ns1 dx mA
  ne : dx ≠ x

theorem lookIn_ns {h : Heap} {dx : Addr} {mA : Str → Option Value} (n : h.Ns1 dx mA) : ∃ od, h.get? dx = some od ∧ ∀ name, PySem.W.lookIn name od = some (mA name) := by
  obtain ⟨o, es, ep, ho, hd, hk, _, hm⟩ := n
  refine ⟨o, ho, fun name => ?_⟩
  have e := hm name
  unfold nsFind findBy at e
  rw [← Array.find?_toList] at e
  unfold PySem.W.lookIn
  rw [hd]
  dsimp only
  split
  · rename_i y q
    rw [q] at e
    exact congrArg some e
  · rename_i q
    rw [q] at e
    have a : es.toList.any (·.refKey) = false := by
      rw [List.any_eq_false]
      intro y hy
      obtain ⟨z, t, hkey⟩ := hk y (Array.mem_toList_iff.mp hy)
      simp [DictEntry.refKey, hkey]
    have a' : ¬ es.toList.any (·.refKey) = true := by rw [a]; exact Bool.false_ne_true
    rw [if_neg a']
    exact congrArg some e

theorem ObjM.look {h : Heap} {x dx C : Addr} {mA : Str → Option Value} (I : ObjM h x dx C mA) : ∃ od, PySem.W.InstAt h x (PySem.W.instObj C dx) C (some od) ∧ ∀ name, PySem.W.lookIn name od = some (mA name) :=
  let ⟨od, ho, hl⟩ := lookIn_ns I.ns
  ⟨od, ⟨I.obj, rfl, rfl, ho⟩, hl⟩

section
variable {prog : Program} {w : World} {A : Around} {E : Value → Shared → Prop} {s : Shared} {K : PySem.W.Frag} {x dx C f : Addr} {mA : Str → Option Value} {name : Str} {v : Value}

theorem get_map {expr : Bool} {Q : Value → Shared → Prop} (X : K.In s.heap) (I : ObjM s.heap x dx C mA) (hg : PySem.W.plainGet K C name = true) (hh : PySem.W.hasDictIn K C = true)
    (ha : PySem.W.findIn K (.ref C) name = some none) (hv : mA name = some v) (hv' : PySem.W.handedIn v = true) (h : Q v { s with toks := s.toks + 1 }) :
    wpAny (model prog w) A (getAttr (.ref x) name expr) Q E s := by
  obtain ⟨od, J, hl⟩ := I.look
  exact PySem.W.get_value X J (PySem.W.plainGet_of hg).1 (PySem.W.findObj_own hh ha rfl (by rw [hl, hv])) hv' h

theorem get_meth {pl : Sem Bool} {Q : Value × List Value → Shared → Prop} (X : K.In s.heap) (I : ObjM s.heap x dx C mA) (hg : PySem.W.plainGet K C name = true)
    (hf : PySem.W.findIn K (.ref C) name = some (some (.ref f))) (ht : PySem.W.isFn K (.ref f) = true) (hv : mA name = none) (h : Q (.ref f, [.ref x]) s) :
    wpAny (model prog w) A (getMethod (.ref x) name pl) Q E s := by
  obtain ⟨od, J, hl⟩ := I.look
  exact PySem.W.method_fn X J (PySem.W.plainGet_of hg).1 (PySem.W.plainGet_of hg).2 hf (beq_iff_eq.mp ht) (by show (PySem.W.lookIn name od).map (·.isSome) = some false; rw [hl, hv]; rfl) h

theorem set_map {ns : List Str} {Q : Unit → Shared → Prop} (X : K.In s.heap) (I : ObjM s.heap x dx C mA)
    (hs : PySem.W.findIn K (.ref C) "__setattr__" = some (some (.builtin "object.__setattr__"))) (hp : PySem.W.plainOver K C = true) (ht : PySem.W.takerIn K C name = some none) (hh : PySem.W.hasDictIn K C = true)
    (hw : PySem.Within mA ns) (hsz : ns.length ≤ sizeLine)
    (h : ∀ h', ObjM h' x dx C (fun y => if y = name then some v else mA y) → Heap.SameBut dx s.heap h' → Q () { s with heap := h', toks := s.toks + 2 }) :
    wpAny (model prog w) A (setAttr (.ref x) name v) Q E s := by
  obtain ⟨od, J, hl⟩ := I.look
  refine PySem.W.set_plain X J hs (PySem.W.osa_open (s := { s with toks := s.toks + 1 }) (r := none) X J hp ht fun b => ?_)
  obtain ⟨cd, hc, hd'⟩ := PySem.W.any_some hh
  have hx : s.heap.get? x = some ⟨.ref C, some dx, .plain, #[]⟩ := I.obj
  refine wpAny_bind (wpAny_pure (wpAny_bind (wpAny_bind (wpAny_loadPart hx (wpAny_bind (PySem.W.Looks.here (s := { s with toks := s.toks + 1 }) (PySem.W.looks_clsIn X hc) ?_))))))
  rw [hd']
  refine wpAny_pure (a := some dx) (wpAny_bind (wpAny_pure (wpAny_bind ?_)))
  refine wpAny_nsSet1 (s := { s with toks := s.toks + 1 }) I.ns fun h' hn2 hs2 => ?_
  obtain ⟨oD, esD, epD, hoD, hdD, hcD⟩ := hn2.count (PySem.Within.cons name v hw)
  refine wpAny_bind (wpAny_lookBehind hoD (by rw [hdD]; exact pastItsLine_dict (Nat.le_trans hcD (by rw [List.length_cons]; omega))) ?_)
  exact wpAny_pure (h _ ⟨(hs2.2 _ (Ne.symm I.ne)).trans I.obj, hn2, I.ne⟩ hs2)

/-- C(..): the dict at the heap's end, the instance behind it; then its __init__ -/
theorem make_map {R : Result → Shared → Prop} {vs : List Value} {kw : List (Str × Value)} (X : K.In s.heap) (hm : PySem.W.makesIn K C = true)
    (hi : PySem.W.findIn K (.ref C) "__init__" = some (some (.ref f))) (hf : PySem.W.typeIn K (.ref f) = some (.type "function"))
    (h : codeAny (model prog w) (A.under (.builtin "type.__call__" ⟨.ref C :: vs, kw⟩)) (.call (.ref f) ⟨.ref (s.heap.objs.size + 1) :: vs, kw⟩) (PySem.W.InitBack (s.heap.objs.size + 1) R)
      { s with heap := (s.heap.push PySem.W.emptyDict).push (PySem.W.instObj C s.heap.objs.size) }) :
    codeAny (model prog w) A (.call (.ref C) ⟨vs, kw⟩) R s := by
  obtain ⟨hh, g, d, t, os⟩ := s
  exact PySem.W.make_core (PySem.W.makes_of X hm) (PySem.W.looks_findIn X hi) (fun self => PySem.W.bind_fn X self hf) (.inl rfl) h
end

/-! ### the attributes as a list of pairs -/
def putF (f : Str) (v : V) : List (Str × V) → List (Str × V)
  | [] => [(f, v)]
  | (g, x) :: r => if g = f then (g, v) :: r else (g, x) :: putF f v r
theorem lookup_putF (f g : Str) (v : V) : ∀ fs : List (Str × V), (putF f v fs).lookup g = if g = f then some v else fs.lookup g
  | [] => by
    show List.lookup g [(f, v)] = _
    by_cases h : g = f
    · have hb : (g == f) = true := beq_iff_eq.mpr h
      simp only [List.lookup, hb, if_pos h]
    · have hb : (g == f) = false := beq_eq_false_iff_ne.mpr h
      simp only [List.lookup, hb, if_neg h]
  | (k, x) :: r => by
    have ih := lookup_putF f g v r
    rw [show putF f v ((k, x) :: r) = (if k = f then (k, v) :: r else (k, x) :: putF f v r) from rfl]
    by_cases hk : k = f
    · rw [if_pos hk]
      by_cases h : g = k
      · have hb : (g == k) = true := beq_iff_eq.mpr h
        simp only [List.lookup, hb, if_pos (h.trans hk)]
      · have hb : (g == k) = false := beq_eq_false_iff_ne.mpr h
        simp only [List.lookup, hb, if_neg (fun e : g = f => h (e.trans hk.symm))]
    · rw [if_neg hk]
      by_cases h : g = k
      · have hb : (g == k) = true := beq_iff_eq.mpr h
        simp only [List.lookup, hb, if_neg (fun e : g = f => hk (h.symm.trans e))]
      · have hb : (g == k) = false := beq_eq_false_iff_ne.mpr h
        simp only [List.lookup, hb]
        exact ih
theorem keys_putF (f : Str) (v : V) : ∀ fs : List (Str × V), f ∈ (putF f v fs).map (·.1) ∧ ∀ g, g ∈ fs.map (·.1) → g ∈ (putF f v fs).map (·.1)
  | [] => ⟨by simp [putF], fun g h => by simp at h⟩
  | (k, x) :: r => by
    obtain ⟨i1, i2⟩ := keys_putF f v r
    rw [show putF f v ((k, x) :: r) = (if k = f then (k, v) :: r else (k, x) :: putF f v r) from rfl]
    by_cases hk : k = f
    · rw [if_pos hk]
      subst hk
      exact ⟨by simp, fun g h => by simpa using h⟩
    · rw [if_neg hk]
      refine ⟨?_, fun g h => ?_⟩
      · rw [List.map_cons]
        exact List.mem_cons_of_mem _ i1
      · rw [List.map_cons] at h ⊢
        rcases List.mem_cons.mp h with e | e
        · exact List.mem_cons.mpr (.inl e)
        · exact List.mem_cons_of_mem _ (i2 g e)
theorem length_putF (f : Str) (v : V) : ∀ fs : List (Str × V), (putF f v fs).length ≤ fs.length + 1
  | [] => by simp [putF]
  | (k, x) :: r => by
    have ih := length_putF f v r
    rw [show putF f v ((k, x) :: r) = (if k = f then (k, v) :: r else (k, x) :: putF f v r) from rfl]
    by_cases hk : k = f
    · rw [if_pos hk, List.length_cons, List.length_cons]; omega
    · rw [if_neg hk, List.length_cons, List.length_cons]; omega

theorem RelO.some_of {v : V} {o : Option Value} (r : RelO (some v) o) : ∃ u, o = some u ∧ RelV v u := by
  cases o with
  | none => exact (show False from r).elim
  | some u => exact ⟨u, rfl, r⟩
theorem RelO.none_of {o : Option Value} (r : RelO none o) : o = none := by
  cases o with
  | none => rfl
  | some u => exact (show False from r).elim
theorem handed_of {v : V} {u : Value} (r : RelV v u) : PySem.W.handedIn u = true := by
  cases v with
  | non => cases (show u = Value.none from r); rfl
  | bl b => cases (show u = Value.bool b from r); rfl
  | int i => obtain ⟨t, e⟩ := (show ∃ t, u = Value.int i t from r); cases e; rfl
  | str x => obtain ⟨t, e⟩ := (show ∃ t, u = Value.str x t from r); cases e; rfl
  | byt b => obtain ⟨t, e⟩ := (show ∃ t, u = Value.bytes b t from r); cases e; rfl
  | flt b => obtain ⟨t, e⟩ := (show ∃ t, u = Value.float b t from r); cases e; rfl
  | ref a => cases (show u = Value.ref a from r); rfl
  | ty n => cases (show u = Value.type n from r); rfl

section
variable {P : Program} {w : World} {H H' : Hp} {h h' : Heap} {a C dx : Addr} {fs fs' : List (Str × V)}
theorem ins_get (hok : HOk P w H h) (e : H a = some (.ins C dx fs)) : ∃ mA, ObjM h a dx C mA ∧ (∀ f, RelO (fs.lookup f) (mA f)) ∧ PySem.Within mA (fs.map (·.1)) ∧ fs.length ≤ 1000 ∧ H dx = some (.own a) := by
  obtain ⟨d, z, ne, ob, mA, n, r, q⟩ := (show ObjOk P w H h a (.ins C dx fs) from hok a _ e)
  exact ⟨mA, ⟨ob, n, ne⟩, r, q, z, d⟩
end

/-! ### what of the text a class must have -/
structure Cls (K : PySem.W.Frag) (C : Addr) : Prop where
  pg : PySem.W.plainGet K C Str.empty = true
  hd : PySem.W.hasDictIn K C = true
  po : PySem.W.plainOver K C = true
  sa : PySem.W.findIn K (.ref C) "__setattr__" = some (some (.builtin "object.__setattr__"))
theorem Cls.get {K : PySem.W.Frag} {C : Addr} (c : Cls K C) (f : Str) : PySem.W.plainGet K C f = true := c.pg
/-- no class of it has the name -/
def NoAttr (K : PySem.W.Frag) (C : Addr) (f : Str) : Prop := PySem.W.findIn K (.ref C) f = some none
theorem NoAttr.taker {K : PySem.W.Frag} {C : Addr} {f : Str} (n : NoAttr K C f) : PySem.W.takerIn K C f = some none := by
  unfold PySem.W.takerIn
  rw [show PySem.W.findIn K (.ref C) f = some none from n]
  rfl
/-- a method: a plain def of the class or of one above it -/
structure Meth (K : PySem.W.Frag) (C : Addr) (m : Str) (f : Addr) : Prop where
  at_ : PySem.W.findIn K (.ref C) m = some (some (.ref f))
  fn : PySem.W.isFn K (.ref f) = true
  kp : PySem.W.keepIn K (.ref f) = true

section
variable {X : Cx} {pins : List (Addr × Obj)} {σ : St} {H : Hp} {s : Shared} {a C dx : Addr} {fs : List (Str × V)} {f : Str} {v : V} {A : Around} {E : Value → Shared → Prop}

theorem getattr_ok {b : Bool} {Q : Value → Shared → Prop} (I : Inv X pins σ H s) (e : H a = some (.ins C dx fs)) (c : Cls X.K C) (n : NoAttr X.K C f) (l : fs.lookup f = some v)
    (h : ∀ u s', Inv X pins σ H s' → RelV v u → Q u s') : wpAny (model X.prog X.w) A (getAttr (.ref a) f b) Q E s := by
  obtain ⟨mA, O, r, _, _, _⟩ := ins_get I.hok e
  obtain ⟨u, hu, ru⟩ := RelO.some_of (v := v) (o := mA f) (by rw [← l]; exact r f)
  exact get_map I.kIn O (c.get f) c.hd n hu (handed_of ru) (h u _ (I.tok _) ru)

theorem getmeth_ok {m : Str} {g : Addr} {pl : Sem Bool} {Q : Value × List Value → Shared → Prop} (I : Inv X pins σ H s) (e : H a = some (.ins C dx fs)) (c : Cls X.K C) (k : Meth X.K C m g) (l : fs.lookup m = none)
    (h : Q (.ref g, [.ref a]) s) : wpAny (model X.prog X.w) A (getMethod (.ref a) m pl) Q E s := by
  obtain ⟨mA, O, r, _, _, _⟩ := ins_get I.hok e
  have hn : mA m = none := RelO.none_of (by rw [← l]; exact r m)
  exact get_meth I.kIn O (c.get m) k.at_ k.fn hn h

theorem setattr_ok {y : V} {u : Value} {Q : Unit → Shared → Prop} (I : Inv X pins σ H s) (e : H a = some (.ins C dx fs)) (c : Cls X.K C) (n : NoAttr X.K C f) (hl : fs.length < 1000) (ry : RelV y u)
    (h : ∀ s', Inv X pins σ (upd H a (.ins C dx (putF f y fs))) s' → Q () s') : wpAny (model X.prog X.w) A (setAttr (.ref a) f u) Q E s := by
  obtain ⟨mA, O, r, wi, _, ho⟩ := ins_get I.hok e
  have hz : (fs.map (·.1)).length ≤ sizeLine := by rw [List.length_map, sizeLine_eq]; omega
  refine set_map I.kIn O c.sa c.po n.taker c.hd wi hz fun h' O' sb => h _ ?_
  have hd : ∃ o, h'.get? dx = some o := let ⟨o, _, _, e', _⟩ := O'.ns; ⟨o, e'⟩
  refine I.write (x := a) (e := dx) (by rw [e]; exact True.intro) (.inr ho) (fun b q hb z => (sb.2 b hb).trans z) hd ?_
  refine ⟨by rw [upd_ne O.ne]; exact ho, ?_, O.ne, O'.obj, _, O'.ns, fun g => ?_, fun g hg => ?_⟩
  · have := length_putF f y fs; omega
  · show RelO ((putF f y fs).lookup g) (if g = f then some u else mA g)
    rw [lookup_putF]
    by_cases q : g = f
    · rw [if_pos q, if_pos q]; exact ry
    · rw [if_neg q, if_neg q]; exact r g
  · by_cases q : g = f
    · rw [q]; exact (keys_putF f y fs).1
    · refine (keys_putF f y fs).2 g (wi g fun z => hg ?_)
      show (if g = f then some u else mA g) = none
      rw [if_neg q]; exact z

/-- a new instance, tracked, without attributes -/
theorem Inv.made (I : Inv X pins σ H s) : Inv X pins σ (upd (upd H s.heap.objs.size (.own (s.heap.objs.size + 1))) (s.heap.objs.size + 1) (.ins C s.heap.objs.size []))
    { s with heap := (s.heap.push PySem.W.emptyDict).push (PySem.W.instObj C s.heap.objs.size) } := by
  have e1 : (s.heap.push PySem.W.emptyDict).get? s.heap.objs.size = some PySem.W.emptyDict := Heap.get?_push_size s.heap rfl
  have e2 : ((s.heap.push PySem.W.emptyDict).push (PySem.W.instObj C s.heap.objs.size)).get? (s.heap.objs.size + 1) = some (PySem.W.instObj C s.heap.objs.size) := by
    have := Heap.get?_push_size (s.heap.push PySem.W.emptyDict) (o := PySem.W.instObj C s.heap.objs.size) rfl
    rwa [Heap.size_push] at this
  have e3 : (s.heap.push PySem.W.emptyDict).Ns s.heap.objs.size (fun _ => none) := ⟨PySem.W.emptyDict, #[], _, e1, rfl, (fun e he => absurd he (by simp)), fun _ => rfl⟩
  have I1 := I.laid (a := s.heap.objs.size) (o := .own (s.heap.objs.size + 1)) (h' := s.heap.push PySem.W.emptyDict) (t' := s.toks) (fun b u q => Heap.get?_push_of_some _ q) (Nat.le_refl _) ⟨_, e1⟩
  refine I1.laid (a := s.heap.objs.size + 1) (o := .ins C s.heap.objs.size []) (t' := s.toks) (fun b u q => Heap.get?_push_of_some _ q) (Nat.le_of_eq (Heap.size_push _ _)) ?_
  have ne : s.heap.objs.size ≠ s.heap.objs.size + 1 := Nat.ne_of_lt (Nat.lt_succ_self _)
  refine ⟨by rw [upd_ne ne, upd_same], Nat.zero_le _, ne, e2, fun _ => none, (Heap.Ns1.of_empty e3).at fun o q => Heap.get?_push_of_some _ q, fun _ => True.intro, fun y hy => absurd rfl hy⟩

/-- e.f where nothing but the object is asked: through attributeBase (super) and the last hold -/
theorem attr_of {prog : Program} {w : World} {env : Env} {e : Expr} {f : Str} {pos : Pos} {s : Shared} {Q : Value → Shared → Prop} (hb : attributeBase e f env (eval e env) = eval e env)
    (h : wpAny (model prog w) A (eval e env) (fun o s₁ => wpAny (model prog w) A (getAttr o f true) Q E s₁) E s) : wpAny (model prog w) A (eval (.Attribute e f pos) env) Q E s :=
  Attribute_any_ h (by rw [arm_eval_Attribute, hb])
end

/-! ### readings and rules -/
/-- e.f, an attribute of the instance -/
def tFld (K : PySem.W.Frag) (ta : TE) (f : Str) : TE := fun σ H Q => ta σ H fun x H1 => ∃ a C dx fs v, x = .ref a ∧ H1 a = some (.ins C dx fs) ∧ Cls K C ∧ NoAttr K C f ∧ fs.lookup f = some v ∧ Q v H1
/-- e.f = value -/
def sFld (K : PySem.W.Frag) (ta tv : TE) (f : Str) : TS := fun D σ H => tv σ H fun y H1 => ta σ H1 fun x H2 => ∃ a C dx fs, x = .ref a ∧ H2 a = some (.ins C dx fs) ∧ Cls K C ∧ NoAttr K C f ∧ fs.length < 1000 ∧
  D.nx σ (upd H2 a (.ins C dx (putF f y fs)))
section
variable {X : Cx} {o e value : Expr} {f : Str} {pos pos' tpos : Pos} {ta tv : TE}
theorem pe_fld (he : PE X e ta) (hb : attributeBase e f X.env (eval e X.env) = eval e X.env) : PE X (.Attribute e f pos) (tFld X.K ta f) := by
  intro pins s σ H Q I h
  refine attr_of hb (thn (he pins s σ H _ I h) fun u s1 ⟨x, H1, I1, rx, a, C, dx, fs, v, ex, ea, c, n, l, q⟩ => ?_)
  subst ex
  obtain rfl : u = Value.ref a := rx
  exact getattr_ok I1 ea c n l fun u' s2 I2 ru => ⟨v, H1, I2, ru, q⟩
theorem ps_fld (ha : PE X o ta) (hv : PE X value tv) (hs : swapsWith value (some (.Attribute o f pos')) pos.line X.env = pure false) : PS X (.Assign [.Attribute o f pos'] value pos) (sFld X.K ta tv f) := by
  intro pins s σ H D I h
  refine plainObj_wpAny_Assign_Attribute (thn (hv pins s σ H _ I h) fun u s1 ⟨y, H1, I1, ry, q⟩ => thn (ha pins s1 σ H1 _ I1 q) fun ov s2 ⟨x, H2, I2, rx, a, C, dx, fs, ex, ea, c, n, l, q2⟩ => ?_) hs
  subst ex
  obtain rfl : ov = Value.ref a := rx
  exact setattr_ok I2 ea c n l ry fun s3 I3 => ⟨σ, _, I3, q2⟩
/-- what is between an instance and its method: the tree of a method call -/
theorem methcall_of {pl : Sem Bool} {m : Str} {apos : Pos} {args : List Expr} {pins : List (Addr × Obj)} {s : Shared} {σ : St} {H : Hp} {Q : Value → Shared → Prop} {te : TE} (he : PE X e te) (I : Inv X pins σ H s)
    (h : te σ H fun x H1 => ∃ a C dx fs g, x = .ref a ∧ H1 a = some (.ins C dx fs) ∧ Cls X.K C ∧ Meth X.K C m g ∧ fs.lookup m = none ∧
      ∀ s1, Inv X pins σ H1 s1 → wpAny (model X.prog X.w) X.A (callWith pos (.ref g) [.ref a] (backTo pos (starEach args X.env)) (backToKw pos (keywordEach [] X.env))) Q X.xe s1)
    (ht : eval (.Call (.Attribute e m apos) args [] pos) X.env = (do
      let ov ← eval e X.env
      standAt apos.atName
      let (f, first) ← holding [ov] (getMethod ov m pl)
      callWith pos f first (backTo pos (starEach args X.env)) (backToKw pos (keywordEach [] X.env)))) :
    wpAny (model X.prog X.w) X.A (eval (.Call (.Attribute e m apos) args [] pos) X.env) Q X.xe s := by
  refine PySem.W.methodCall_KW (pl := pl) (thn (he pins s σ H _ I h) fun u s1 ⟨x, H1, I1, rx, a, C, dx, fs, g, ex, ea, c, k, l, q⟩ => ?_) ht
  subst ex
  obtain rfl : u = Value.ref a := rx
  exact getmeth_ok I1 ea c k l (q s1 I1)
end

/-! ### isinstance -/
section
variable {X : Cx} {pins : List (Addr × Obj)} {σ : St} {H : Hp} {s : Shared} {A : Around} {E : Value → Shared → Prop} {Q : Value → Shared → Prop} {c : Value} {b : Bool}
/-- the type of a value, as the fragment's deciders take it; for an instance its class -/
inductive TyOf (K : PySem.W.Frag) (H : Hp) : V → Value → Prop where
  | non : TyOf K H .non (.type "NoneType")
  | bl (x : Bool) : TyOf K H (.bl x) (.type "bool")
  | int (i : Int) : TyOf K H (.int i) (.type "int")
  | str (x : Str) : TyOf K H (.str x) (.type "str")
  | flt (x : UInt64) : TyOf K H (.flt x) (.type "float")
  | lst {a : Addr} {xs : List V} (e : H a = some (.lst xs)) : TyOf K H (.ref a) (.type "list")
  | frz {a : Addr} {o : Obj} {xs : List V} (e : H a = some (.frz o (.lst xs))) : TyOf K H (.ref a) (.type "list")
  | tup {a : Addr} {xs : List V} (e : H a = some (.tup xs)) : TyOf K H (.ref a) (.type "tuple")
  | dK {a : Addr} {kvs : List (Key × V)} (e : H a = some (.dK kvs)) : TyOf K H (.ref a) (.type "dict")
  | dT {a : Addr} {kvs : List (List Key × V)} (e : H a = some (.dT kvs)) : TyOf K H (.ref a) (.type "dict")
  | ins {a C dx : Addr} {fs : List (Str × V)} (e : H a = some (.ins C dx fs)) (cl : Cls K C) (ha : PySem.W.findIn K (.ref C) "__class__" = some (some (.builtin "object.__class__")))
      (hn : PySem.W.specialIn K (.builtin "object.__class__") "__get__" = some (some (.builtin "getset_descriptor.__get__"))) (htk : PySem.W.takesIn K (.builtin "object.__class__") = some true)
      (hm : PySem.W.mroIn K C (.type "object") = some true) : TyOf K H (.ref a) (.ref C)
/-- isinstance(x, c) for one class c, a built-in or an own one: kitOne's answer -/
theorem isinst_ok {x : V} {u t : Value} (I : Inv X pins σ H s) (rx : RelV x u) (ty : TyOf X.K H x t) (e : PySem.W.kitOne X.K t c = some b) (h : ∀ tk, Q (.bool b) { s with toks := tk }) :
    wpAny (model X.prog X.w) A (call (.builtin "isinstance") [u, c]) Q E s := by
  cases ty with
  | non => cases (show u = Value.none from rx); exact PySem.W.kia_one PySem.W.kitx_none I.kIn True.intro e (fun z => nomatch z) h
  | bl y => cases (show u = Value.bool y from rx); exact PySem.W.kia_one PySem.W.kitx_bool I.kIn True.intro e (fun z => nomatch z) h
  | int i => obtain ⟨t, q⟩ := (show ∃ t, u = Value.int i t from rx); cases q; exact PySem.W.kia_one PySem.W.kitx_int I.kIn True.intro e (fun z => nomatch z) h
  | str y => obtain ⟨t, q⟩ := (show ∃ t, u = Value.str y t from rx); cases q; exact PySem.W.kia_one PySem.W.kitx_str I.kIn True.intro e (fun z => nomatch z) h
  | flt y => obtain ⟨t, q⟩ := (show ∃ t, u = Value.float y t from rx); cases q; exact PySem.W.kia_one PySem.W.kitx_float I.kIn True.intro e (fun z => nomatch z) h
  | @lst a xs ea =>
    cases (show u = Value.ref a from rx)
    obtain ⟨_, _, n, _, h1⟩ := (show ObjOk X.prog X.w H s.heap a (.lst xs) from I.hok a _ ea)
    exact PySem.W.kia_one PySem.W.kitx_list I.kIn ⟨_, h1, rfl⟩ e (fun z => nomatch z) h
  | @frz a ob xs ea =>
    cases (show u = Value.ref a from rx)
    obtain ⟨_, _, _, n, _, h1⟩ := (show ObjOk X.prog X.w H s.heap a (.frz ob (.lst xs)) from I.hok a _ ea)
    exact PySem.W.kia_one PySem.W.kitx_list I.kIn ⟨_, h1, rfl⟩ e (fun z => nomatch z) h
  | @tup a xs ea =>
    cases (show u = Value.ref a from rx)
    obtain ⟨_, _, _, p⟩ := (show ObjOk X.prog X.w H s.heap a (.tup xs) from I.hok a _ ea)
    obtain ⟨o, h1, h2, _⟩ := p
    exact PySem.W.kia_one PySem.W.kitx_tuple I.kIn ⟨o, h1, h2⟩ e (fun z => nomatch z) h
  | @dK a kvs ea =>
    cases (show u = Value.ref a from rx)
    obtain ⟨_, _, vs, _, p⟩ := (show ObjOk X.prog X.w H s.heap a (.dK kvs) from I.hok a _ ea)
    obtain ⟨o, es, ep, h1, h2, _⟩ := p
    exact PySem.W.kia_one PySem.W.kitx_dict I.kIn ⟨o, h1, h2.1⟩ e (fun z => nomatch z) h
  | @dT a kvs ea =>
    cases (show u = Value.ref a from rx)
    obtain ⟨_, _, xs, _, o, es, ep, h1, h2, _⟩ := (show ObjOk X.prog X.w H s.heap a (.dT kvs) from I.hok a _ ea)
    exact PySem.W.kia_one PySem.W.kitx_dict I.kIn ⟨o, h1, h2.1⟩ e (fun z => nomatch z) h
  | @ins a C dx fs ea cl ha hn htk hm =>
    cases (show u = Value.ref a from rx)
    obtain ⟨mA, O, _⟩ := ins_get I.hok ea
    obtain ⟨od, J, _⟩ := O.look
    exact PySem.W.kia_one (PySem.W.kitx_own (cl.get _) cl.hd ha hn htk hm) I.kIn J e (fun z => nomatch z) h
end
end L2

namespace L2
open PySem PySem.Spec PyProof.Rows

/-! ### room -/
structure Room (k : Nat) (A : Around) (c : Bool := true) : Prop where
  hc : c = true → A.handled = none
  dp : A.depth + 3 * k + 5 < recursionLimit
  un : A.units + 16 * k + 200 < cLine
theorem Room.hd {k : Nat} {A : Around} (r : Room k A) : A.handled = none := r.hc rfl
theorem Room.mono {j k : Nat} {A : Around} {c : Bool} (r : Room k A c) (h : j ≤ k) : Room j A c := ⟨r.hc, by have := r.dp; omega, by have := r.un; omega⟩
theorem Room.deeper {k : Nat} {A : Around} {c : Bool} (r : Room (k + 1) A c) (env : Env) : Room k (A.deeper env) c :=
  ⟨r.hc, by have := r.dp; show A.depth + 1 + 3 * k + 5 < _; omega, by have := r.un; show A.units + 3 + 16 * k + 200 < _; omega⟩
theorem make_depth {A : Around} {C : Addr} {us : List Value} {kw : List (Str × Value)} : (A.under (.builtin "type.__call__" ⟨.ref C :: us, kw⟩)).depth = A.depth + 1 := by
  first | rfl | simp [Around.under, Code.weight, Code.isCreation, Code.isGuard, Code.isCaller, Code.frames, Code.isFrame, guardIds]
theorem make_units {A : Around} {C : Addr} {us : List Value} {kw : List (Str × Value)} : (A.under (.builtin "type.__call__" ⟨.ref C :: us, kw⟩)).units = A.units + 1 := by
  first | rfl | simp [Around.under, Code.cUnits, Code.frames, Code.isFrame]
theorem Room.make {k : Nat} {A : Around} {c : Bool} (r : Room (k + 1) A c) (C : Addr) (us : List Value) (kw : List (Str × Value)) : Room k (A.under (.builtin "type.__call__" ⟨.ref C :: us, kw⟩)) c :=
  ⟨r.hc, by have := r.dp; rw [make_depth]; omega, by have := r.un; rw [make_units]; omega⟩
theorem Room.depth {k : Nat} {A : Around} {c : Bool} (r : Room k A c) : A.depth < recursionLimit := by have := r.dp; omega
theorem Room.units {k : Nat} {A : Around} {c : Bool} (r : Room k A c) : A.units + 64 < cLine := by have := r.un; omega
/-! ### argument lists and displays -/
def tNil : TA := fun _ H Q => Q [] H
def tCons (ta : TE) (tr : TA) : TA := fun σ H Q => ta σ H fun x H1 => tr σ H1 fun xs H2 => Q (x :: xs) H2
section
variable {X : Cx} {e : Expr} {es : List Expr} {te : TE} {t : TA} {pos : Pos}
theorem pa_nil : PA X [] tNil := fun _ _ _ _ H Q I h => Calls.spliced_nil ⟨[], H, I, .nil, h⟩
theorem pa_cons (ha : PE X e te) (hr : PA X es t) (hs : starEach (e :: es) X.env = (false, eval e X.env) :: starEach es X.env := by rfl) : PA X (e :: es) (tCons te t) := by
  intro pos pins s σ H Q I h
  rw [hs]
  show wpAny _ _ (spliced ((false, eval e X.env) :: backTo pos (starEach es X.env))) _ _ s
  refine Calls.spliced_cons (thn (ha pins s σ H _ I h) fun u s1 ⟨x, H1, I1, r1, q1⟩ => ?_)
  exact thn (hr pos pins s1 σ H1 _ I1 q1) fun us s2 ⟨xs, H2, I2, r2, q2⟩ => ⟨x :: xs, H2, I2, .cons r1 r2, q2⟩

/-- a tuple, a list of written items -/
def tTup (t : TA) : TE := fun σ H Q => t σ H fun xs H1 => xs.length ≤ sizeLine ∧ ∀ p, H1 p = none → Q (.ref p) (upd H1 p (.tup xs))
def tLst (t : TA) : TE := fun σ H Q => t σ H fun xs H1 => xs.length ≤ sizeLine ∧ ∀ p, H1 p = none → Q (.ref p) (upd H1 p (.lst xs))
theorem pe_tup {x1} (h : PA X es t) : PE X (.Tuple es x1 pos) (tTup t) := by
  intro pins s σ H Q I hq
  refine wpAny_Tuple_spliced (thn (h pos pins s σ H _ I hq) fun us s1 ⟨xs, H1, I1, r, z, q⟩ => ⟨by rw [← r.length]; exact z, ?_⟩)
  have hf : H1 s1.heap.objs.size = none := I1.hok.fresh (Nat.le_refl _)
  refine ⟨.ref s1.heap.objs.size, upd H1 s1.heap.objs.size (.tup xs), I1.laid (t' := s1.toks) (fun b u e => Heap.get?_push_of_some _ e) (Nat.le_refl _) ?_, rfl, q _ hf⟩
  exact ⟨z, us, r, ⟨_, Heap.get?_push_size _ rfl, rfl, _, rfl⟩⟩
theorem pe_lst (h : PA X es t) : PE X (.List es pos) (tLst t) := by
  intro pins s σ H Q I hq
  refine wpAny_List_spliced (thn (h pos pins s σ H _ I hq) fun us s1 ⟨xs, H1, I1, r, z, q⟩ => ⟨by rw [← r.length]; exact z, ?_⟩)
  have hf : H1 s1.heap.objs.size = none := I1.hok.fresh (Nat.le_refl _)
  refine ⟨.ref s1.heap.objs.size, upd H1 s1.heap.objs.size (.lst xs), I1.laid (t' := s1.toks) (fun b u e => Heap.get?_push_of_some _ e) (Nat.le_refl _) ?_, rfl, q _ hf⟩
  exact ⟨z, us, 0, r, Heap.get?_push_size _ rfl⟩
end

/-! ### what a def promises -/
/-- a def's promise: the bound arguments in the parameters' order, the heap, the wanted end, the wanted exception -/
abbrev Sp := List V → Hp → VK → XK → Prop
/-- how an exception lies behind a call (file 08 gives it): the callers' frames, abstract heap and state ahead of the call, the wish, the exception, the state -/
abbrev CXT := List Env → Hp → Shared → XK → Value → Shared → Prop

/-- the state at a call -/
structure Env0 (P : Program) (w : World) (K : PySem.W.Frag) (mg : Str → Option Value) (base : Heap) (A : Around) (outer : List Env) (s : Shared) (H : Hp) : Prop where
  frames : A.frames = some outer
  mod : Mod K mg base
  bs : ∀ b o, base.get? b = some o → s.heap.get? b = some o ∧ H b = none
  bsz : base.objs.size ≤ s.heap.objs.size
  funs : s.heap.FunFrames base outer
  frf : ∀ b ∈ frs outer, H b = none
  hok : HOk P w H s.heap
  bare : AllBare s.gens
/-- a call's end -/
def CE (outer : List Env) (P : Program) (w : World) (H : Hp) (s : Shared) (Q : VK) (u : Value) (s' : Shared) : Prop :=
  ∃ v H', s'.os = s.os ∧ AllBare s'.gens ∧ Un (frs outer) [] H H' s.heap s'.heap ∧ HOk P w H' s'.heap ∧ RelV v u ∧ Q v H'
def CR (CX : CXT) (outer : List Env) (P : Program) (w : World) (H : Hp) (s : Shared) (Q : VK) (E : XK) (r : Result) (s' : Shared) : Prop :=
  match r with
  | .ok (.ret u) => CE outer P w H s Q u s'
  | .ok _ => False
  | .error e => CX outer H s E e s'
structure FnOk (P : Program) (w : World) (K : PySem.W.Frag) (mg : Str → Option Value) (base : Heap) (CX : CXT) (k : Nat) (f : Addr) (fd : FuncData) (ps : List Str) (sp : Sp) (c : Bool := true) : Prop where
  len : ∀ vs H Q E, sp vs H Q E → vs.length = ps.length
  run : ∀ (A : Around) (outer : List Env) (s : Shared) (H : Hp) (args : Args) (us : List Value) (vs : List V) (Q : VK) (E : XK), Room k A c → Env0 P w K mg base A outer s H → BindsTo s fd args (ps.zip us) → Vals vs us → sp vs H Q E →
    codeAny (model P w) A (.call (.ref f) args) (CR CX outer P w H s Q E) s
theorem Env0.make {P : Program} {w : World} {K : PySem.W.Frag} {mg : Str → Option Value} {base : Heap} {A : Around} {outer : List Env} {s : Shared} {H : Hp} (e : Env0 P w K mg base A outer s H) (C : Addr) (us : List Value) (kw : List (Str × Value)) :
    Env0 P w K mg base (A.under (.builtin "type.__call__" ⟨.ref C :: us, kw⟩)) outer s H := ⟨by first | exact e.frames | (simpa [Around.under, Code.envs, Code.isFrame, pushEnvs] using e.frames), e.mod, e.bs, e.bsz, e.funs, e.frf, e.hok, e.bare⟩
section
variable {X : Cx} {pins : List (Addr × Obj)} {σ : St} {H : Hp} {s s' : Shared}
/-- from a body: what a callee wants -/
theorem Inv.env0 (I : Inv X pins σ H s) : Env0 X.prog X.w X.K X.mg X.base X.A X.stack s H :=
  ⟨I.ok.frames, I.ok.mod, I.bs, Nat.le_trans I.ok.bsz I.sz, I.stack, I.stkFree, I.hok, I.bare⟩
/-- behind a call -/
theorem Inv.after {Q : VK} {u : Value} (I : Inv X pins σ H s) (h : CE X.stack X.prog X.w H s Q u s') : EP X pins σ Q u s' := by
  obtain ⟨v, H', os, bare, un, hok, r, q⟩ := h
  obtain ⟨hh, g, d, t, os'⟩ := s'
  obtain rfl : os' = s.os := os
  exact ⟨v, H', I.call (h' := hh) (g' := g) (d' := d) (t' := t) (ch := []) un hok bare (fun b z => absurd z (by simp)), r, q⟩
end

/-! ### calls -/
/-- f(..): the written arguments, then the defaults dvs; E: what is wanted of an exception -/
def tCall (sp : Sp) (dvs : List V) (E : XK) (t : TA) : TE := fun σ H Q => t σ H fun vs H1 => sp (vs ++ dvs) H1 Q E
/-- o.m(..) of an instance of the class at C -/
def tMeth (C : Addr) (m : Str) (sp : Sp) (dvs : List V) (E : XK) (ta : TE) (t : TA) : TE := fun σ H Q => ta σ H fun x H1 => ∃ a dx fs, x = .ref a ∧ H1 a = some (.ins C dx fs) ∧ fs.lookup m = none ∧
  t σ H1 fun vs H2 => sp (x :: (vs ++ dvs)) H2 Q E
/-- C(..): a new instance and its dict, then __init__ -/
def tMake (C : Addr) (sp : Sp) (dvs : List V) (E : XK) (t : TA) : TE := fun σ H Q => t σ H fun vs H1 => ∀ x dx, H1 x = none → H1 dx = none → dx ≠ x →
  sp (.ref x :: (vs ++ dvs)) (upd (upd H1 dx (.own x)) x (.ins C dx [])) (fun v H2 => v = .non ∧ Q (.ref x) H2) E

/-- how the parameters are bound: us the positional arguments, kw the keywords' values by name, ds the defaults that fill up -/
def Binds (K : PySem.W.Frag) (fd : FuncData) (ps : List Str) (ds : List Value) : Prop :=
  ∀ (s : Shared) (us : List Value), K.In s.heap → (us ++ ds).length = ps.length → BindsTo s fd ⟨us, []⟩ (ps.zip (us ++ ds))
/-- every parameter is given -/
theorem Binds.all {K : PySem.W.Frag} {fd : FuncData} {ps : List Str} (h : ∀ us : List Value, us.length = ps.length → bindArgs fd ⟨us, []⟩ = pure (ps.zip us)) : Binds K fd ps [] := fun s us _ hl => by
  rw [List.append_nil] at hl ⊢
  exact .of_eq (h us hl)

/-- an exception of a callee reaches what this body wants of exceptions -/
def Passes (CX : CXT) (X : Cx) (E : XK) : Prop := ∀ (pins : List (Addr × Obj)) (σ : St) (H : Hp) (s : Shared) (e : Value) (s' : Shared), Inv X pins σ H s → CX X.stack H s E e s' → X.xe e s'

section
variable {X : Cx} {CX : CXT} {k : Nat} {f C : Addr} {fd : FuncData} {ps : List Str} {sp : Sp} {dvs : List V} {ds : List Value} {E : XK} {x m : Str} {p pos apos : Pos} {e o : Expr} {es : List Expr} {ta : TE} {t : TA}

/-- the callee runs -/
theorem run_fn {pins : List (Addr × Obj)} {σ : St} {H : Hp} {s : Shared} {Q : VK} {us : List Value} {vs : List V} {cc : Bool} (F : FnOk X.prog X.w X.K X.mg X.base CX k f fd ps sp cc) (hr : Room k X.A cc) (hb : Binds X.K fd ps ds) (hd : Vals dvs ds) (hx : Passes CX X E)
    (I : Inv X pins σ H s) (r : Vals vs us) (h : sp (vs ++ dvs) H Q E) : wpAny (model X.prog X.w) X.A (call (.ref f) us) (EP X pins σ Q) X.xe s := by
  have r2 : Vals (vs ++ dvs) (us ++ ds) := r.append hd
  have hl : (us ++ ds).length = ps.length := by rw [← r2.length]; exact F.len _ _ _ _ h
  refine wpAny_call (codeAny_mono (F.run X.A X.stack s H ⟨us, []⟩ (us ++ ds) (vs ++ dvs) Q E hr I.env0 (hb s us I.kIn hl) r2 h) fun r s' hq => ?_)
  cases r with
  | error e => exact hx pins σ H s e s' I hq
  | ok fl =>
    cases fl with
    | ret u => exact I.after hq
    | next => exact False.elim hq
    | brk => exact False.elim hq
    | cont => exact False.elim hq

theorem pe_call {cc : Bool} (F : FnOk X.prog X.w X.K X.mg X.base CX k f fd ps sp cc) (hr : Room k X.A cc) (hg : Gl X x) (hm : X.mg x = some (.ref f)) (hk : PySem.W.keepIn X.K (.ref f) = true) (hb : Binds X.K fd ps ds) (hd : Vals dvs ds) (hx : Passes CX X E)
    (ha : PA X (e :: es) t) (hdb : (x == ("__debug__" : Str)) = false := by decide) (he : starEach (e :: es) X.env = (false, eval e X.env) :: starEach es X.env := by rfl) (hpl : (backTo pos (starEach es X.env)).any (·.1) = false := by rfl) :
    PE X (.Call (.Name x p) (e :: es) [] pos) (tCall sp dvs E t) := by
  intro pins s σ H Q I h
  refine wpAny_Call_Name_kw (ld_glob I hg hm ?_ hdb)
  refine PySem.W.callWith_K (h₀ := X.base) I.ok.mod.kin hk (thn (ha pos pins s σ H _ I h) fun us s1 ⟨vs, H1, I1, r, q⟩ => ⟨I1.kIn, ?_⟩) he hpl
  exact run_fn F hr hb hd hx I1 r q
/-- o.m(e, ..) -/
theorem pe_meth {pl : Sem Bool} (he : PE X o ta) (c : Cls X.K C) (hm : Meth X.K C m f) {cc : Bool} (F : FnOk X.prog X.w X.K X.mg X.base CX k f fd ps sp cc) (hr : Room k X.A cc) (hb : Binds X.K fd ps ds) (hd : Vals dvs ds) (hx : Passes CX X E) (ha : PA X (e :: es) t)
    (hst : starEach (e :: es) X.env = (false, eval e X.env) :: starEach es X.env := by rfl) (hpl : (backTo pos (starEach es X.env)).any (·.1) = false := by rfl)
    (ht : eval (.Call (.Attribute o m apos) (e :: es) [] pos) X.env = (do
      let ov ← eval o X.env
      standAt apos.atName
      let (f, first) ← holding [ov] (getMethod ov m pl)
      callWith pos f first (backTo pos (starEach (e :: es) X.env)) (backToKw pos (keywordEach [] X.env))) := by rfl) :
    PE X (.Call (.Attribute o m apos) (e :: es) [] pos) (tMeth C m sp dvs E ta t) := by
  intro pins s σ H Q I h
  refine PySem.W.methodCall_KW (pl := pl) (thn (he pins s σ H _ I h) fun u s1 ⟨x, H1, I1, rx, a, dx, fs, ex, ea, l, q⟩ => ?_) ht
  subst ex
  obtain rfl : u = Value.ref a := rx
  refine getmeth_ok I1 ea c hm l ?_
  refine PySem.W.callWith_K (first := [.ref a]) (h₀ := X.base) I.ok.mod.kin hm.kp (thn (ha pos pins s1 σ H1 _ I1 q) fun us s2 ⟨vs, H2, I2, r, q2⟩ => ⟨I2.kIn, ?_⟩) hst hpl
  exact run_fn (us := .ref a :: us) (vs := .ref a :: vs) F hr hb hd hx I2 (.cons rfl r) q2
/-- o.m() -/
theorem pe_meth0 {pl : Sem Bool} (he : PE X o ta) (c : Cls X.K C) (hm : Meth X.K C m f) {cc : Bool} (F : FnOk X.prog X.w X.K X.mg X.base CX k f fd ps sp cc) (hr : Room k X.A cc) (hb : Binds X.K fd ps ds) (hd : Vals dvs ds) (hx : Passes CX X E)
    (ht : eval (.Call (.Attribute o m apos) [] [] pos) X.env = (do
      let ov ← eval o X.env
      standAt apos.atName
      let (f, first) ← holding [ov] (getMethod ov m pl)
      callWith pos f first (backTo pos (starEach [] X.env)) (backToKw pos (keywordEach [] X.env))) := by rfl) :
    PE X (.Call (.Attribute o m apos) [] [] pos) (tMeth C m sp dvs E ta tNil) := by
  intro pins s σ H Q I h
  refine PySem.W.methodCall_KW (pl := pl) (thn (he pins s σ H _ I h) fun u s1 ⟨x, H1, I1, rx, a, dx, fs, ex, ea, l, q⟩ => ?_) ht
  subst ex
  obtain rfl : u = Value.ref a := rx
  refine getmeth_ok I1 ea c hm l ?_
  exact PySem.W.callWith_K0 (first := [.ref a]) I1.kIn hm.kp (run_fn (us := [.ref a]) (vs := [.ref a]) F hr hb hd hx I1 (.cons rfl .nil) q)

/-- what a class must have to be made -/
structure Mk (K : PySem.W.Frag) (C f : Addr) : Prop where
  makes : PySem.W.makesIn K C = true
  init : PySem.W.findIn K (.ref C) "__init__" = some (some (.ref f))
  fn : PySem.W.isFn K (.ref f) = true
  kp : PySem.W.keepIn K (.ref C) = true

theorem run_make {pins : List (Addr × Obj)} {σ : St} {H : Hp} {s : Shared} {Q : VK} {us : List Value} {vs : List V} (M : Mk X.K C f) {cc : Bool} (F : FnOk X.prog X.w X.K X.mg X.base CX k f fd ps sp cc) (hr : Room (k + 1) X.A cc) (hb : Binds X.K fd ps ds) (hd : Vals dvs ds)
    (hx : Passes CX X E) (I : Inv X pins σ H s) (r : Vals vs us)
    (h : ∀ x dx, H x = none → H dx = none → dx ≠ x → sp (.ref x :: (vs ++ dvs)) (upd (upd H dx (.own x)) x (.ins C dx [])) (fun v H2 => v = .non ∧ Q (.ref x) H2) E) :
    wpAny (model X.prog X.w) X.A (call (.ref C) us) (EP X pins σ Q) X.xe s := by
  have hq := h (s.heap.objs.size + 1) s.heap.objs.size (I.hok.fresh (Nat.le_succ _)) (I.hok.fresh (Nat.le_refl _)) (Nat.ne_of_lt (Nat.lt_succ_self _))
  have I2 := Inv.made (C := C) I
  have r2 : Vals (V.ref (s.heap.objs.size + 1) :: (vs ++ dvs)) (Value.ref (s.heap.objs.size + 1) :: (us ++ ds)) := .cons rfl (r.append hd)
  have hl : (Value.ref (s.heap.objs.size + 1) :: us ++ ds).length = ps.length := by
    have e := r2.length
    rw [F.len _ _ _ _ hq] at e
    exact e.symm
  refine wpAny_call (make_map (f := f) I.kIn M.makes M.init (beq_iff_eq.mp M.fn) (codeAny_mono (F.run _ X.stack _ _ ⟨Value.ref (s.heap.objs.size + 1) :: us, []⟩ (Value.ref (s.heap.objs.size + 1) :: (us ++ ds)) _ _ E (hr.make C us [])
    (I2.env0.make C us []) (hb _ (Value.ref (s.heap.objs.size + 1) :: us) I2.kIn hl) r2 hq) fun r s' hq' => ?_))
  cases r with
  | error e => exact hx pins σ _ _ e s' I2 hq'
  | ok fl =>
    cases fl with
    | ret u =>
      obtain ⟨v, H', I3, rv, ev, q3⟩ := I2.after hq'
      subst ev
      exact ⟨rv, ⟨V.ref (s.heap.objs.size + 1), H', I3, rfl, q3⟩⟩
    | next => exact False.elim hq'
    | brk => exact False.elim hq'
    | cont => exact False.elim hq'
theorem pe_make (M : Mk X.K C f) {cc : Bool} (F : FnOk X.prog X.w X.K X.mg X.base CX k f fd ps sp cc) (hr : Room (k + 1) X.A cc) (hg : Gl X x) (hm : X.mg x = some (.ref C)) (hb : Binds X.K fd ps ds) (hd : Vals dvs ds) (hx : Passes CX X E)
    (ha : PA X (e :: es) t) (hdb : (x == ("__debug__" : Str)) = false := by decide) (he : starEach (e :: es) X.env = (false, eval e X.env) :: starEach es X.env := by rfl) (hpl : (backTo pos (starEach es X.env)).any (·.1) = false := by rfl) :
    PE X (.Call (.Name x p) (e :: es) [] pos) (tMake C sp dvs E t) := by
  intro pins s σ H Q I h
  refine wpAny_Call_Name_kw (ld_glob I hg hm ?_ hdb)
  refine PySem.W.callWith_K (h₀ := X.base) I.ok.mod.kin M.kp (thn (ha pos pins s σ H _ I h) fun us s1 ⟨vs, H1, I1, r, q⟩ => ⟨I1.kIn, ?_⟩) he hpl
  exact run_make M F hr hb hd hx I1 r q
end

/-! ### keywords -/
section
variable {X : Cx} {CX : CXT} {k : Nat} {f C : Addr} {fd : FuncData} {ps ks : List Str} {sp : Sp} {E : XK} {x m : Str} {p pos apos kpos : Pos} {e o : Expr} {es : List Expr} {kws : List Keyword} {te ta : TE} {t tk : TA} {nm : Option Str}
variable {g : List Value → List Value → List Value} {gV : List V → List V → List V}
end

/-! ### a def's body keeps its promise -/
/-- names: the parameters first -/
structure FnScope (N P : List Str) (sc : Scope) : Prop where
  kind : sc.kind = .function
  co : sc.isCoroutine = false
  gen : sc.isGenerator = false
  nd : N.Nodup
  pre : N.take P.length = P
  par : ∀ x ∈ P, sc.names.lookup x = some .local ∨ sc.names.lookup x = some .cell
  nofree : ∀ y ∈ sc.names, y.2 ≠ .free

theorem bindL_out {kindOf : Str → Option NameKind} {x : Str} : ∀ {binds : List (Str × Value)} {m : Str → Option Value}, (∀ v, (x, v) ∉ binds) → bindL kindOf binds m x = m x
  | [], _, _ => rfl
  | (n, v) :: r, m, h => by
    unfold bindL
    rw [bindL_out fun w hw => h w (List.mem_cons_of_mem _ hw)]
    split
    · have : x ≠ n := by rintro rfl; exact h v List.mem_cons_self
      simp [this]
    · rfl
theorem bindC_out {kindOf : Str → Option NameKind} {x : Str} : ∀ {binds : List (Str × Value)} {m : Str → Option Value}, (∀ v, (x, v) ∉ binds) → bindC kindOf binds m x = m x
  | [], _, _ => rfl
  | (n, v) :: r, m, h => by
    unfold bindC
    rw [bindC_out fun w hw => h w (List.mem_cons_of_mem _ hw)]
    split
    · rfl
    · have : x ≠ n := by rintro rfl; exact h v List.mem_cons_self
      simp [this]
theorem bindL_get {kindOf : Str → Option NameKind} {x : Str} {v : Value} : ∀ {P : List Str} {vs : List Value} {i : Nat} {m : Str → Option Value}, P.Nodup → P[i]? = some x → vs[i]? = some v → kindOf x = some .local →
    bindL kindOf (P.zip vs) m x = some v
  | [], _, _, _, _, h, _, _ => by simp at h
  | _ :: _, [], _, _, _, _, h, _ => by simp at h
  | p :: P, w :: vs, 0, m, nd, h1, h2, hk => by
    simp at h1 h2; subst h1; subst h2
    show bindL kindOf ((p, w) :: P.zip vs) m p = _
    unfold bindL
    rw [bindL_out fun v hv => (List.nodup_cons.mp nd).1 (List.of_mem_zip hv).1, if_pos hk]
    simp
  | p :: P, w :: vs, i + 1, m, nd, h1, h2, hk => by
    show bindL kindOf ((p, w) :: P.zip vs) m x = _
    unfold bindL
    exact bindL_get (i := i) (List.nodup_cons.mp nd).2 (by simpa using h1) (by simpa using h2) hk
theorem bindC_get {kindOf : Str → Option NameKind} {x : Str} {v : Value} : ∀ {P : List Str} {vs : List Value} {i : Nat} {m : Str → Option Value}, P.Nodup → P[i]? = some x → vs[i]? = some v → kindOf x ≠ some .local →
    bindC kindOf (P.zip vs) m x = some v
  | [], _, _, _, _, h, _, _ => by simp at h
  | _ :: _, [], _, _, _, _, h, _ => by simp at h
  | p :: P, w :: vs, 0, m, nd, h1, h2, hk => by
    simp at h1 h2; subst h1; subst h2
    show bindC kindOf ((p, w) :: P.zip vs) m p = _
    unfold bindC
    rw [bindC_out fun v hv => (List.nodup_cons.mp nd).1 (List.of_mem_zip hv).1, if_neg hk]
    simp
  | p :: P, w :: vs, i + 1, m, nd, h1, h2, hk => by
    show bindC kindOf ((p, w) :: P.zip vs) m x = _
    unfold bindC
    exact bindC_get (i := i) (List.nodup_cons.mp nd).2 (by simpa using h1) (by simpa using h2) hk

/-- the names' values at the entry -/
def start (N : List Str) (vs : List V) : St := vs.map some ++ List.replicate (N.length - vs.length) none

/-- the context of a def's body, at its entry; an exception leaves the frame, then lies as CX says -/
def cxOf (CX : CXT) (P : Program) (w : World) (K : PySem.W.Frag) (mg : Str → Option Value) (base : Heap) (N : List Str) (qual : Str) (scope : Scope) (f : Addr) (cd : Value) (A : Around) (outer : List Env) (s : Shared) (H : Hp) (E : XK) (c : Bool := true) : Cx where
  prog := P
  w := w
  K := K
  mg := mg
  base := base
  A := A.deeper (envOfC qual scope s.heap.objs.size f cd)
  N := N
  s₀ := s
  H₀ := H
  env := envOfC qual scope s.heap.objs.size f cd
  outer := outer
  stack := envOfC qual scope s.heap.objs.size f cd :: outer
  ex := []
  calm := c
  fn := fun _ => true
  pn := []
  xe := fun e s' => wpAny (model P w) (A.deeper (envOfC qual scope s.heap.objs.size f cd)) (leaving (envOfC qual scope s.heap.objs.size f cd) e) (fun _ s'' => CX outer H s E e s'') (fun e' s'' => CX outer H s E e' s'') s'

theorem cell_has {sc : Scope} {n : Nat} {x : Str} (h : sc.names.lookup x = some .cell) : ∃ c, (cellsFrom n sc.names []).lookup x = some c := by
  have q := PySem.W.cellsFrom_some sc.names n [] (.inl h)
  exact Option.isSome_iff_exists.mp q

theorem inv_start {CX : CXT} {P : Program} {w : World} {K : PySem.W.Frag} {mg : Str → Option Value} {base : Heap} {N ps : List Str} {qual : Str} {scope : Scope} {f : Addr} {cd : Value} {A : Around} {outer : List Env} {s s1 : Shared} {H : Hp} {E : XK} {us : List Value} {vs : List V} {c : Bool}
    (S : FnScope N ps scope) (hd : c = true → A.handled = none) (e0 : Env0 P w K mg base A outer s H) (hl : vs.length = ps.length) (r : Vals vs us)
    (x : InCallC s s.heap.objs.size (bindL (envOfC qual scope s.heap.objs.size f cd).kindOf (ps.zip us) fun _ => none) (cellsFrom (s.heap.objs.size + 1) scope.names []) (bindC (envOfC qual scope s.heap.objs.size f cd).kindOf (ps.zip us) fun _ => none) s1) :
    Inv (cxOf CX P w K mg base N qual scope f cd A outer s H E c) [] (start N vs) H s1 := by
  have hpl : ps.length ≤ N.length := by have := congrArg List.length S.pre; rw [List.length_take] at this; omega
  obtain ⟨h1, tk, rfl, hk⟩ := x.done
  have noA : ∀ b : Addr, b ∉ (cxOf CX P w K mg base N qual scope f cd A outer s H E c).ex := fun b z => absurd (show b ∈ ([] : List Addr) from z) (by simp)
  refine ⟨⟨e0.mod, S.kind, rfl, rfl, Nat.le_refl _, fun y z c' h1 h2 => ?_, fun y hy => ?_, fun y c _ h => ?_, hd, Around.frames_deeper e0.frames, .inr ⟨rfl, rfl⟩, fun b z => absurd z (noA b), e0.bs, e0.bsz, fun b _ _ => noA b, fun b z => absurd z (noA b), e0.funs, e0.frf⟩,
    rfl, e0.bare, Un.kept hk, ⟨_, x.toInCall.ns, fun i y v h1 h2 h3 => ?_⟩, fun y c h => ⟨_, x.cell y c h⟩, e0.hok.fresh (Nat.le_refl _), fun y c h => ?_, fun p hp => absurd (show p ∈ ([] : List (Addr × Obj)) from hp) (by simp), e0.hok.kept hk, ?_⟩
  · exact name_of_addr x.apart (PySem.mem_of_lookup h1) (PySem.mem_of_lookup h2)
  · have hy : scope.names.lookup y = some .cell ∨ scope.names.lookup y = some .free := hy
    rcases hy with hy | hy
    · exact cell_has hy
    · exact absurd rfl (S.nofree _ (PySem.mem_of_lookup hy))
  · exact Nat.le_of_lt (x.above y c (PySem.mem_of_lookup h))
  · have hi : i < vs.length := by
      unfold start at h2
      by_cases hi : i < vs.length
      · exact hi
      · rw [List.getElem?_append_right (by simpa using hi)] at h2
        rw [List.getElem?_replicate] at h2
        split at h2 <;> cases h2
    have ha : vs[i]? = some v := by
      unfold start at h2
      rw [List.getElem?_append_left (by simpa using hi), List.getElem?_map] at h2
      cases e : vs[i]? with
      | none => rw [e] at h2; cases h2
      | some a => rw [e] at h2; cases h2; rfl
    obtain ⟨u, hu, rv⟩ := r.get ha
    have hp : ps[i]? = some y := by
      rw [← S.pre, List.getElem?_take_of_lt (by omega)]; exact h1
    have ndP : ps.Nodup := by rw [← S.pre]; exact S.nd.sublist (List.take_sublist _ _)
    refine ⟨u, rv, ?_⟩
    rcases S.par y (List.mem_of_getElem? hp) with k | k
    · exact .inl ⟨k, bindL_get ndP hp hu k⟩
    · obtain ⟨c, e⟩ := cell_has (n := s.heap.objs.size + 1) k
      refine .inr ⟨.inl k, c, e, ?_⟩
      have q := x.cell y c e
      rw [bindC_get ndP hp hu (by show scope.names.lookup y ≠ _; rw [k]; decide)] at q
      exact q
  · exact e0.hok.fresh (Nat.le_of_lt (x.above y c (PySem.mem_of_lookup h)))
  · unfold start
    show _ = N.length
    rw [List.length_append, List.length_map, List.length_replicate]
    omega

/-- THE RULE: a def (or a method) of the text, by its body. The body's reading t is chosen for each entry; it is run at the parameters' values -/
theorem fn_of {CX : CXT} {P : Program} {w : World} {K : PySem.W.Frag} {mg : Str → Option Value} {base : Heap} {k : Nat} {f : Addr} {name qual : Str} {params : Arguments} {body : List Stmt} {scope : Scope} {dV kV doc pm cdv ct oc : Value} {an od : Option Addr}
    {osl : Array (Option Value)} {N ps : List Str} {sp : Sp} {c : Bool} (lk : K.lookup f = some ⟨oc, od, .func (PySem.W.fnOf name qual params body scope dV kV doc pm an cdv ct), osl⟩) (hcd : PySem.W.codeIn K cdv qual = true) (S : FnScope N ps scope)
    (len : ∀ vs H Q E, sp vs H Q E → vs.length = ps.length)
    (hbody : ∀ (A : Around) (outer : List Env) (s : Shared) (H : Hp) (vs : List V) (Q : VK) (E : XK), Room k (A.deeper (envOfC qual scope s.heap.objs.size f cdv)) c → sp vs H Q E →
      ∃ t, PSs (cxOf CX P w K mg base N qual scope f cdv A outer s H E c) body t ∧ t { nx := fun _ H' => Q .non H', rt := Q } (start N vs) H) :
    FnOk P w K mg base CX (k + 1) f (PySem.W.fnOf name qual params body scope dV kV doc pm an cdv ct) ps sp c := by
  refine ⟨len, fun A outer s H args us vs Q E hr e0 hb r hsp => ?_⟩
  have hl := len _ _ _ _ hsp
  have KX : K.In s.heap := e0.mod.kin.keeps fun b o e => (e0.bs b o e).1
  have lim : s.heap.NoLimit := e0.mod.nolimit.keeps fun b o e => (e0.bs b o e).1
  have hkind : ∀ y ∈ ps.zip us, scope.names.lookup y.1 = some .local ∨ (scope.names.lookup y.1 = some .cell ∧ ((cellsFrom (s.heap.objs.size + 1) scope.names []).lookup y.1).isSome = true) := fun ⟨n, v⟩ hy => by
    rcases S.par n (List.of_mem_zip hy).1 with q | q
    · exact .inl q
    · exact .inr ⟨q, PySem.W.cellsFrom_some _ _ _ (.inl q)⟩
  refine codeAny_call_function hr.depth (KX _ _ lk) rfl S.co S.gen rfl (PySem.W.codeRec_of KX hcd) (hb _ _ _ _ ?_)
  refine wpAny_newFunctionEnv_cells S.kind hkind fun env he s1 x => ?_
  subst he
  refine ⟨lim.keeps x.toInCall.keep, codeAny_func ?_⟩
  obtain ⟨t, ht, hq⟩ := hbody A outer s H vs Q E (hr.deeper _) hsp
  have I : Inv (cxOf CX P w K mg base N qual scope f cdv A outer s H E c) [] (start N vs) H s1 := inv_start S hr.hc e0 hl r x
  refine wpAny_mono (ht [] s1 (start N vs) H _ I hq) (fun fl s' hs => ?_) fun e s' hs => hs
  have fin : ∀ {σ' : St} {H' : Hp} {v : V} {u : Value}, Inv (cxOf CX P w K mg base N qual scope f cdv A outer s H E c) [] σ' H' s' → RelV v u → Q v H' → CE outer P w H s Q u s' :=
    fun {σ' H' v u} J rv q => ⟨v, H', J.os, J.bare, J.base, J.hok, rv, q⟩
  cases fl with
  | ret u =>
    obtain ⟨v, σ', H', J, rv, q⟩ := hs
    exact fin J rv q
  | next =>
    obtain ⟨σ', H', J, q⟩ := hs
    exact fin (v := V.non) (u := Value.none) J rfl q
  | brk =>
    obtain ⟨_, _, _, q⟩ := hs
    exact False.elim q
  | cont =>
    obtain ⟨_, _, _, q⟩ := hs
    exact False.elim q
end L2

namespace L2
open PySem PySem.Spec PyProof.Rows
section
variable {X : Cx} {x : Str} {p pos : Pos} {e : Expr} {es : List Expr} {t : TA} {id T : String} {r : List V → Hp → VK → Prop}

def tCB (r : List V → Hp → VK → Prop) (t : TA) : TE := fun σ H Q => t σ H fun vs H1 => r vs H1 Q
/-- f(e, ..), f a built-in function -/
theorem pe_callB (hc : CallR X (.builtin id) r) (hg : Gl X x) (hm : X.mg x = none) (hv : bootBuiltins x = some (.builtin id)) (ha : PA X (e :: es) t) (hn : x ≠ "__name__" := by decide) (hdb : (x == ("__debug__" : Str)) = false := by decide)
    (he : starEach (e :: es) X.env = (false, eval e X.env) :: starEach es X.env := by rfl) (hpl : (backTo pos (starEach es X.env)).any (·.1) = false := by rfl) : PE X (.Call (.Name x p) (e :: es) [] pos) (tCB r t) := by
  intro pins s σ H Q I h
  refine wpAny_Call_Name_kw (ld_blt I hg hm hv ?_ hn hdb)
  exact PyProof.Rows.callWith_builtin1 (thn (ha pos pins s σ H _ I h) fun us s1 ⟨vs, H1, I1, r1, q1⟩ => hc pins s1 σ H1 vs us Q I1 r1 q1) he hpl
/-- T(e, ..), T a built-in type -/
theorem pe_callTy (hc : CallR X (.type T) r) (hg : Gl X x) (hm : X.mg x = none) (hv : bootBuiltins x = some (.type T)) (ha : PA X (e :: es) t) (hn : x ≠ "__name__" := by decide) (hdb : (x == ("__debug__" : Str)) = false := by decide)
    (he : starEach (e :: es) X.env = (false, eval e X.env) :: starEach es X.env := by rfl) (hpl : (backTo pos (starEach es X.env)).any (·.1) = false := by rfl) : PE X (.Call (.Name x p) (e :: es) [] pos) (tCB r t) := by
  intro pins s σ H Q I h
  refine wpAny_Call_Name_kw (ld_blt I hg hm hv ?_ hn hdb)
  exact PyProof.Rows.callWith_type1 (thn (ha pos pins s σ H _ I h) fun us s1 ⟨vs, H1, I1, r1, q1⟩ => hc pins s1 σ H1 vs us Q I1 r1 q1) he hpl
end
end L2

namespace HT
open PySem PyProof.Rows

section
open PySem.SeqAt
open PySem.AutoSeq1 (wpAny_loadPart')
open PySem.MeetsSeq PySem.MeetsSeq2 PySem.MeetsSeq3

end

section
variable {prog : Program} {w : World} {A : Around} {E : Value → Shared → Prop} {s : Shared}

/-! ### t[a:b], not the whole -/
/-- a slice's bound as a place among n (d where it is left out) -/
def sIx (n d : Nat) : Option Int → Nat
  | none => d
  | some v => if v < 0 then (v + (n : Int)).toNat else min v.toNat n
theorem sIx_none (n d : Nat) : sIx n d none = d := rfl
theorem sIx_nat (n d k : Nat) : sIx n d (some (k : Int)) = min k n := by
  show (if (k : Int) < 0 then ((k : Int) + (n : Int)).toNat else min (k : Int).toNat n) = min k n
  rw [if_neg (by omega), Int.toNat_natCast]
theorem sIx_le (n d : Nat) (hd : d ≤ n) (o : Option Int) : sIx n d o ≤ n := by
  cases o with
  | none => exact hd
  | some v =>
    show (if v < 0 then (v + (n : Int)).toNat else min v.toNat n) ≤ n
    by_cases hv : v < 0
    · rw [if_pos hv]; omega
    · rw [if_neg hv]; exact Nat.min_le_right _ _
theorem clip_eq (v : Int) (n d : Nat) : (if v < 0 then max (v + (n : Int)) 0 else min v (n : Int)) = ((sIx n d (some v) : Nat) : Int) := by
  show (if v < 0 then max (v + (n : Int)) 0 else min v (n : Int)) = (((if v < 0 then (v + (n : Int)).toNat else min v.toNat n) : Nat) : Int)
  by_cases hv : v < 0
  · simp only [if_pos hv]; omega
  · simp only [if_neg hv]; omega
theorem adjust_gen (lo hi : Option Int) (n : Nat) : Builtin.Slice.sliceAdjust lo hi 1 (n : Int) = (((sIx n 0 lo : Nat) : Int), ((sIx n n hi : Nat) : Int)) := by
  have h1 : ¬ ((1 : Int) < 0) := by omega
  unfold Builtin.Slice.sliceAdjust
  simp only [h1, if_false]
  refine Prod.ext ?_ ?_
  · cases lo with
    | none => rfl
    | some v => exact clip_eq v n 0
  · cases hi with
    | none => rfl
    | some v => exact clip_eq v n n
theorem places_gen (i j : Nat) : Builtin.Slice.slicePlaces (i : Int) (j : Int) 1 = j - i := by
  unfold Builtin.Slice.slicePlaces
  have h1 : (1 : Int) > 0 := by omega
  simp only [h1, if_true, Int.ediv_one]
  split <;> omega
theorem slicePart_ {v : Value} {o : Option Int} {Q : Option Int → Shared → Prop} (p : IsPart v o) (h : Q o s) : wpAny (model prog w) A (Builtin.Slice.slicePartIndex v) Q E s := by
  cases p with
  | none => exact slicePart_none h
  | int i t => exact slicePart_int h
theorem sliceApplied_gen {sl : Addr} {vl vu : Value} {lo hi : Option Int} {n : Nat} {Q : Int × Int × Nat → Shared → Prop} (hs : s.heap.IsSliceOf sl vl vu .none) (pl : IsPart vl lo) (pu : IsPart vu hi)
    (h : Q (((sIx n 0 lo : Nat) : Int), 1, sIx n n hi - sIx n 0 lo) s) : wpAny (model prog w) A (Builtin.Slice.sliceApplied (.ref sl) (pure (n : Int))) Q E s := by
  obtain ⟨os, hos, hcs, hds⟩ := id hs
  unfold Builtin.Slice.sliceApplied Builtin.Slice.sliceFields
  refine wpAny_bind (wpAny_bind (wpAny_field hos hds (x := vl) rfl (wpAny_bind (wpAny_field hos hds (x := vu) rfl (wpAny_bind (wpAny_field hos hds (x := .none) rfl (wpAny_pure ?_)))))))
  refine wpAny_bind (slicePart_none ?_)
  show wpAny _ _ (if ((1 : Int) == 0) = true then _ else _) _ _ s
  rw [if_neg (by decide)]
  refine wpAny_bind (slicePart_ pl (wpAny_bind (slicePart_ pu (wpAny_bind (wpAny_pure ?_)))))
  show wpAny _ _ (match Builtin.Slice.sliceAdjust lo hi 1 (n : Int) with | (lo, hi) => pure (lo, (1 : Int), Builtin.Slice.slicePlaces lo hi 1)) _ _ s
  rw [adjust_gen lo hi n]
  show wpAny _ _ (pure (((sIx n 0 lo : Nat) : Int), (1 : Int), Builtin.Slice.slicePlaces ((sIx n 0 lo : Nat) : Int) ((sIx n n hi : Nat) : Int) 1)) _ _ s
  rw [places_gen]
  exact wpAny_pure h
theorem pick_gen (xs : Array Value) (i k : Nat) : ((List.range k).filterMap fun (m : Nat) => xs[((i : Int) + (m : Int) * 1).toNat]?).toArray = ((xs.toList.drop i).take k).toArray := by
  have e : (fun (m : Nat) => xs[((i : Int) + (m : Int) * 1).toNat]?) = fun m => xs[i + m]? := by
    funext m
    have : ((i : Int) + (m : Int) * 1).toNat = i + m := by omega
    rw [this]
  rw [e]
  have := pick_run xs i k
  rw [List.filterMap_map] at this
  have e2 : ((fun x => xs[x]?) ∘ fun x => i + x) = fun m => xs[i + m]? := rfl
  rw [e2] at this
  rw [this]

theorem getItem_tuple_cut {t sl : Addr} {items : Array Value} {vl vu : Value} {lo hi : Option Int} {Q : Value → Shared → Prop} (ht : IsTup s.heap t items) (hs : s.heap.IsSliceOf sl vl vu .none) (pl : IsPart vl lo) (pu : IsPart vu hi)
    (hw : ¬ (sIx items.size 0 lo = 0 ∧ sIx items.size items.size hi = items.size))
    (h : Q (.ref s.heap.objs.size) { s with heap := s.heap.push { cls := .type "tuple", data := .seq ((items.toList.drop (sIx items.size 0 lo)).take (sIx items.size items.size hi - sIx items.size 0 lo)).toArray } })
    (hsz : items.size ≤ sizeLine) : wpAny (model prog w) A (getItem (.ref t) (.ref sl)) Q E s := by
  have htake : sizeOk (.seq ((items.toList.drop (sIx items.size 0 lo)).take (sIx items.size items.size hi - sIx items.size 0 lo)).toArray) := by
    show ((items.toList.drop (sIx items.size 0 lo)).take (sIx items.size items.size hi - sIx items.size 0 lo)).toArray.size ≤ sizeLine
    rw [List.size_toArray, List.length_take, List.length_drop, Array.length_toList]
    omega
  have hj : sIx items.size items.size hi ≤ items.size := sIx_le _ _ (Nat.le_refl _) hi
  obtain ⟨os, hos, hcs, hds⟩ := id hs
  have hTs : s.TypeIs (.ref sl) "slice" := ⟨os, hos, hcs⟩
  unfold getItem
  try with_reducible refine wpAny_holding ?_
  first | refine wpAny_bind (wpAny_pure ?_) | skip
  refine wpAny_bind (wpAny_sequenceKey ht.typeIs (by decide) ?_)
  refine wpAny_bind (wpAny_callSpecial?_slot (name := Str.ofString "__getitem__") ht.typeIs PyProof.Rows.slot_tuple_getitem
    (wpAny_call_entry PyProof.Rows.slot_tuple_getitem ht.typeIs entry_tuple_getitem ?_ (args_tuple_getitem _ _)))
  show wpAny _ _ (Builtin.Tuple.tupleItemsOf (.ref t) >>= _) _ _ s
  refine wpAny_bind (tupleItemsOf_ ht ?_)
  refine wpAny_bind (wpAny_typeOf hTs ?_)
  rw [if_pos (by decide)]
  refine wpAny_bind (sliceApplied_gen hs pl pu ?_)
  have hno : ¬ ((((sIx items.size 0 lo : Nat) : Int) == 0 && (1 : Int) == 1 && (sIx items.size items.size hi - sIx items.size 0 lo) == items.size) = true) := by
    intro q
    rw [Bool.and_eq_true, Bool.and_eq_true] at q
    have q1 : ((sIx items.size 0 lo : Nat) : Int) = 0 := eq_of_beq q.1.1
    have q2 : sIx items.size items.size hi - sIx items.size 0 lo = items.size := eq_of_beq q.2
    exact hw ⟨by omega, by omega⟩
  show wpAny _ _ (if (((sIx items.size 0 lo : Nat) : Int) == 0 && (1 : Int) == 1 && (sIx items.size items.size hi - sIx items.size 0 lo) == items.size) = true then _ else _) _ _ s
  rw [if_neg hno, pick_gen]
  first
    | exact wpAny_bind (m := Builtin.Tuple.tupleExact _) (wpAny_newObj_type (wpAny_pure ⟨_, rfl, wpAny_pure h⟩) htake)
    | exact wpAny_bind (m := Builtin.Tuple.tupleExact _) (wpAny_newObj_type (wpAny_bind (wpAny_pure (wpAny_pure ⟨_, rfl, wpAny_pure h⟩))) htake)
    | exact wpAny_bind (wpAny_bind (m := Builtin.Tuple.tupleExact _) (wpAny_newObj_type (wpAny_pure (wpAny_pure ⟨_, rfl, wpAny_pure h⟩)) htake))
    | exact wpAny_bind (wpAny_bind (m := Builtin.Tuple.tupleExact _) (wpAny_newObj_type (wpAny_pure ⟨_, rfl, wpAny_pure h⟩) htake))
end
end HT

namespace L2
open PySem PySem.Spec PyProof.Rows

/-! ### the parts of a slice -/
abbrev TO := St → Hp → (Option Int → Hp → Prop) → Prop
/-- a slice's part (left out, or an int) -/
def PO (X : Cx) (e : Option Expr) (t : TO) : Prop :=
  ∀ (pins : List (Addr × Obj)) (s : Shared) (σ : St) (H : Hp) (Q : Option Int → Hp → Prop), Inv X pins σ H s → t σ H Q →
    wpAny (model X.prog X.w) X.A (evalPart e X.env) (fun u s' => ∃ o H', Inv X pins σ H' s' ∧ IsPart u o ∧ Q o H') X.xe s
def tNoPart : TO := fun _ H Q => Q none H
def tPart (t : TE) : TO := fun σ H Q => t σ H fun x H1 => ∃ i, x = .int i ∧ Q (some i) H1

section
variable {X : Cx} {e : Expr} {te : TE} {lo hi : Option Expr} {tl th : TO} {pos p2 : Pos}

theorem po_none : PO X none tNoPart := by
  intro pins s σ H Q I h
  rw [evalPart_none]
  exact wpAny_pure ⟨none, H, I, .none, h⟩
theorem po_some (h : PE X e te) : PO X (some e) (tPart te) := by
  intro pins s σ H Q I hw
  rw [evalPart_some]
  refine thn (h pins s σ H _ I hw) fun u s1 ⟨x, H1, I1, r1, q1⟩ => ?_
  obtain ⟨i, rfl, q⟩ := q1
  obtain ⟨t, rfl⟩ := r1
  exact ⟨some i, H1, I1, .int i t, q⟩

/-- what a slice of a value is, by values: the slice object stands at sl -/
def SlR (X : Cx) (r : V → Option Int → Option Int → Hp → VK → Prop) : Prop :=
  ∀ (pins : List (Addr × Obj)) (s : Shared) (σ : St) (H : Hp) (x : V) (v vl vu : Value) (lo hi : Option Int) (sl : Addr) (Q : VK), Inv X pins σ H s → RelV x v → s.heap.IsSliceOf sl vl vu .none → IsPart vl lo → IsPart vu hi → r x lo hi H Q →
    ∃ T id, typeLookup (.type T) "__getitem__" = pure (some (.builtin id)) ∧ s.TypeIs v T ∧ wpAny (model X.prog X.w) X.A (getItem v (.ref sl)) (EP X pins σ Q) X.xe s
def tSl (r : V → Option Int → Option Int → Hp → VK → Prop) (te : TE) (tl th : TO) : TE := fun σ H Q => te σ H fun x H1 => tl σ H1 fun l H2 => th σ H2 fun u H3 => r x l u H3 Q
/-- a[lo:hi], any a -/
theorem pe_slice {r : V → Option Int → Option Int → Hp → VK → Prop} (hr : SlR X r) (he : PE X e te) (hl : PO X lo tl) (hu : PO X hi th) : PE X (.Subscript e (.Slice lo hi none p2) pos) (tSl r te tl th) := by
  intro pins s σ H Q I h
  refine Subscript_ (thn (he pins s σ H _ I h) fun v s1 ⟨x, H1, I1, r1, q1⟩ => ?_)
  refine wpAny_Slice (thn (hl pins s1 σ H1 _ I1 q1) fun vl s2 ⟨l, H2, I2, pl, q2⟩ => thn (hu pins s2 σ H2 _ I2 q2) fun vu s3 ⟨u, H3, I3, pu, q3⟩ => ?_)
  rw [evalPart_none]
  refine wpAny_pure ?_
  have I4 : Inv X pins σ H3 { s3 with heap := s3.heap.push { cls := .type "slice", data := .fields #[vl, vu, .none] } } := I3.kept (t' := s3.toks) fun b ob q => Heap.get?_push_of_some _ q
  obtain ⟨T, id, hT, ht, hg⟩ := hr pins { s3 with heap := s3.heap.push { cls := .type "slice", data := .fields #[vl, vu, .none] } } σ H3 x v vl vu l u s3.heap.objs.size Q I4 r1 (Heap.IsSliceOf.new ..) pl pu q3
  show wpAny (model X.prog X.w) X.A (subscriptTail e (.Slice lo hi none p2) v (.ref s3.heap.objs.size)) (EP X pins σ Q) X.xe { s3 with heap := s3.heap.push { cls := .type "slice", data := .fields #[vl, vu, .none] } }
  exact tail_any (ops := [.ref s3.heap.objs.size, v]) ht hT hg (by with_unfolding_all rfl)

/-- the items of xs[lo:hi] -/
def cutV (xs : List V) (lo hi : Option Int) : List V := (xs.drop (HT.sIx xs.length 0 lo)).take (HT.sIx xs.length xs.length hi - HT.sIx xs.length 0 lo)
theorem cutV_length (xs : List V) (lo hi : Option Int) : (cutV xs lo hi).length ≤ xs.length := by
  unfold cutV
  rw [List.length_take, List.length_drop]
  omega
/-- t[lo:hi], not the whole of it (the whole would be t itself) -/
def rSlT (K : PySem.W.Frag) : V → Option Int → Option Int → Hp → VK → Prop := fun x lo hi H Q => ∃ a xs, x = .ref a ∧ SqT K H a xs ∧
  ¬ (HT.sIx xs.length 0 lo = 0 ∧ HT.sIx xs.length xs.length hi = xs.length) ∧ ∀ p, H p = none → Q (.ref p) (upd H p (.tup (cutV xs lo hi)))
theorem sl_tup : SlR X (rSlT X.K) := by
  intro pins s σ H x v vl vu lo hi sl Q I rx hs pl pu h
  obtain ⟨a, xs, rfl, hx, hw, q⟩ := h
  cases rx
  obtain ⟨its, r, ht, hz⟩ := I.tuple hx
  have hlen : its.toArray.size = xs.length := by rw [List.size_toArray]; exact r.length.symm
  refine ⟨"tuple", _, PyProof.Rows.slot_tuple_getitem.lookup, ht.typeIs, ?_⟩
  refine HT.getItem_tuple_cut ht hs pl pu (by rw [hlen]; exact hw) ?_ (by rw [hlen]; exact hz)
  rw [hlen]
  refine ⟨.ref s.heap.objs.size, _, I.laid (t' := s.toks) (o := .tup (cutV xs lo hi)) (fun b ob q => Heap.get?_push_of_some _ q) (Nat.le_refl _) ?_, rfl, q _ (I.hok.fresh (Nat.le_refl _))⟩
  exact ⟨Nat.le_trans (cutV_length xs lo hi) hz, _, (r.drop (HT.sIx xs.length 0 lo)).take (HT.sIx xs.length xs.length hi - HT.sIx xs.length 0 lo), IsTup.new _ _⟩

/-! ### t < u, t + u -/
end
end L2

namespace L2
open PySem PySem.Spec PyProof.Rows

/-! ### places -/
/-- the place that an index of any sign means -/
def ixN (n : Nat) (i : Int) : Option Nat := if 0 ≤ i then (if i < n then some i.toNat else none) else if -(n : Int) ≤ i then some (i + n).toNat else none
def atI {α : Type} (xs : List α) (i : Int) : Option α := (ixN xs.length i).bind fun j => xs[j]?
theorem ixN_seq {n : Nat} {i : Int} {j : Nat} (h : ixN n i = some j) : seqIndex? i n = some j ∧ j < n ∧ -(n : Int) ≤ i ∧ i < n := by
  unfold ixN at h
  by_cases h0 : 0 ≤ i
  · rw [if_pos h0] at h
    by_cases h1 : i < n
    · rw [if_pos h1] at h
      have e : i.toNat = j := Option.some.inj h
      exact ⟨by rw [seqIndex_of h0 h1, e], by omega, by omega, h1⟩
    · rw [if_neg h1] at h; cases h
  · rw [if_neg h0] at h
    by_cases h1 : -(n : Int) ≤ i
    · rw [if_pos h1] at h
      have e : (i + n).toNat = j := Option.some.inj h
      exact ⟨by rw [seqIndex_neg (by omega) h1, e], by omega, h1, by omega⟩
    · rw [if_neg h1] at h; cases h
theorem atI_get {α : Type} {xs : List α} {i : Int} {v : α} (h : atI xs i = some v) : ∃ j, seqIndex? i xs.length = some j ∧ xs[j]? = some v ∧ j < xs.length ∧ -(xs.length : Int) ≤ i ∧ i < xs.length := by
  unfold atI at h
  cases e : ixN xs.length i with
  | none => rw [e] at h; cases h
  | some j =>
    rw [e] at h
    obtain ⟨h1, h2, h3, h4⟩ := ixN_seq e
    exact ⟨j, h1, h, h2, h3, h4⟩
theorem atI_nat {α : Type} {xs : List α} {j : Nat} {v : α} (h : xs[j]? = some v) : atI xs (j : Int) = some v := by
  have hj : j < xs.length := (List.getElem?_eq_some_iff.mp h).1
  have e : ixN xs.length (j : Int) = some j := by
    unfold ixN
    rw [if_pos (by omega), if_pos (by omega)]; simp
  unfold atI; rw [e]; exact h
/-! ### what may be subscripted -/
/-- what stands as an index of a plain subscript -/
def PlainIx (b : Expr) : Prop := ∀ o i, subscripted b false o i = operate [o, i] (getItem o i)
/-- a subscript by values -/
def IxR (X : Cx) (r : R2) : Prop :=
  ∀ (value slice : Expr) (pins : List (Addr × Obj)) (s : Shared) (σ : St) (H : Hp) (x y : V) (v u : Value) (Q : VK), Inv X pins σ H s → RelV x v → RelV y u → r x y H Q →
    subscripted slice false v u = operate [v, u] (getItem v u) → wpAny (model X.prog X.w) X.A (subscriptTail value slice v u) (EP X pins σ Q) X.xe s
/-- a call of a builtin's method by values: the receiver, the arguments -/
def MtR (X : Cx) (id : String) (r : V → List V → Hp → VK → Prop) : Prop :=
  ∀ (pins : List (Addr × Obj)) (s : Shared) (σ : St) (H : Hp) (x : V) (xs : List V) (v : Value) (us : List Value) (Q : VK), Inv X pins σ H s → RelV x v → Vals xs us → r x xs H Q →
    wpAny (model X.prog X.w) X.A (call (.builtin id) (v :: us)) (EP X pins σ Q) X.xe s
section
variable {X : Cx} {a b : Expr} {ta tb : TE} {pos : Pos}
/-- a[b] -/
theorem pe_ix {r : R2} (hr : IxR X r) (ha : PE X a ta) (hb : PE X b tb) (hs : PlainIx b) : PE X (.Subscript a b pos) (tOp r ta tb) := by
  intro pins s σ H Q I h
  exact Subscript_ (binT ha hb I h fun v u s2 x y H2 I2 rx ry q => hr a b pins s2 σ H2 x y v u Q I2 rx ry q (hs _ _))

def rIxL (K : PySem.W.Frag) : R2 := fun x y H Q => ∃ p xs i v, x = .ref p ∧ y = .int i ∧ SqL K H p xs ∧ atI xs i = some v ∧ Q v H
def rIxT (K : PySem.W.Frag) : R2 := fun x y H Q => ∃ p xs i v, x = .ref p ∧ y = .int i ∧ SqT K H p xs ∧ atI xs i = some v ∧ Q v H
def rIxS : R2 := fun x y H Q => ∃ z i c, x = .str z ∧ y = .int i ∧ z.length ≤ sizeLine ∧ atI z.cps.toList i = some c ∧ Q (.str ⟨#[c]⟩) H
theorem ix_list : IxR X (rIxL X.K) := by
  intro value slice pins s σ H x y v u Q I rx ry h hs
  obtain ⟨p, xs, i, z, rfl, rfl, hq, he, q⟩ := h
  cases rx
  obtain ⟨t, rfl⟩ := ry
  obtain ⟨its, r, pl, hz⟩ := I.list hq
  obtain ⟨j, h1, h2, h3, h4, h5⟩ := atI_get he
  obtain ⟨w, ew, rw'⟩ := r.get h2
  have hl := r.length
  have hn := line63
  have fin : EP X pins σ Q w s := ⟨z, H, I, rw', q⟩
  by_cases h0 : 0 ≤ i
  · have hj : i.toNat = j := by
      rw [seqIndex_of h0 h5] at h1
      exact Option.some.inj h1
    exact item_listR pl.isList h0 (by omega) (by rw [hj]; simpa using ew) fin hs
  · have hj : (i + (its.toArray.size : Int)).toNat = j := by
      rw [seqIndex_neg (by omega) h4] at h1
      rw [List.size_toArray, ← hl]
      exact Option.some.inj h1
    exact subscriptTail_builtinR (x := w) pl.isList.typeIs slot_list_getitem.lookup
      (wpAny_getItem_list_neg (Q := fun r s' => r = w ∧ EP X pins σ Q r s') pl.isList (by omega) (by rw [List.size_toArray] <;> omega) (by omega) (by rw [hj]; simpa using ew) ⟨rfl, fin⟩) hs
theorem ix_tup : IxR X (rIxT X.K) := by
  intro value slice pins s σ H x y v u Q I rx ry h hs
  obtain ⟨p, xs, i, z, rfl, rfl, hq, he, q⟩ := h
  cases rx
  obtain ⟨t, rfl⟩ := ry
  obtain ⟨its, r, pl, hz⟩ := I.tuple hq
  obtain ⟨j, h1, h2, h3, h4, h5⟩ := atI_get he
  obtain ⟨w, ew, rw'⟩ := r.get h2
  have hl := r.length
  have hn := line63
  have fin : EP X pins σ Q w s := ⟨z, H, I, rw', q⟩
  exact subscriptTail_builtinR (x := w) pl.typeIs slot_tuple_getitem.lookup
    (getItem_tuple (j := j) (Q := fun r s' => r = w ∧ EP X pins σ Q r s') pl (by omega) (by omega) (by rw [List.size_toArray, ← hl]; exact h1) (by simpa using ew) ⟨rfl, fin⟩) hs
theorem ix_str : IxR X rIxS := by
  intro value slice pins s σ H x y v u Q I rx ry h hs
  obtain ⟨z, i, c, rfl, rfl, hz, he, q⟩ := h
  obtain ⟨t, rfl⟩ := rx
  obtain ⟨t', rfl⟩ := ry
  obtain ⟨j, h1, h2, h3, h4, h5⟩ := atI_get he
  have hl : z.cps.toList.length = z.length := by simp [Str.length]
  rw [hl] at h1 h4 h5
  have hn := line63
  exact tail_any (typeIs_str s z t) slot_str_getitem.lookup (getItem_str (c := c) (by
    have e1 : decide (i < -(2 ^ 63 : Int)) = false := decide_eq_false (by omega)
    have e2 : decide (i ≥ 2 ^ 63) = false := decide_eq_false (by omega)
    rw [e1, e2, Bool.or_false]) (by rw [h1]; simpa using h2) ⟨.str ⟨#[c]⟩, H, I.tok _, ⟨_, rfl⟩, q⟩) hs
/-! ### xs[i] = v, any sign -/
/-! ### slices -/
theorem slice_bounds (lo hi : Option Int) (n : Nat) : (sliceBounds lo hi none n).1 = ((HT.sIx n 0 lo : Nat) : Int) ∧ (sliceBounds lo hi none n).2.1 = ((HT.sIx n n hi : Nat) : Int) ∧ (sliceBounds lo hi none n).2.2 = 1 := by
  refine ⟨?_, ?_, rfl⟩
  · cases lo with
    | none => simp [sliceBounds, HT.sIx]
    | some i =>
      simp only [sliceBounds, HT.sIx, Option.getD_none, show (1 : Int) > 0 by decide, if_true]
      by_cases h : i < 0
      · simp only [h, if_true] <;> omega
      · simp only [h, if_false] <;> omega
  · cases hi with
    | none => simp [sliceBounds, HT.sIx]
    | some i =>
      simp only [sliceBounds, HT.sIx, Option.getD_none, show (1 : Int) > 0 by decide, if_true]
      by_cases h : i < 0
      · simp only [h, if_true] <;> omega
      · simp only [h, if_false] <;> omega
theorem slicePick_cut (its : List Value) (lo hi : Option Int) : slicePick its.toArray lo hi none = ((its.drop (HT.sIx its.length 0 lo)).take (HT.sIx its.length its.length hi - HT.sIx its.length 0 lo)).toArray := by
  obtain ⟨h1, h2, h3⟩ := slice_bounds lo hi its.toArray.size
  unfold slicePick
  rw [h1, h2, h3]
  simp only [sliceRange_one, pick_run, List.size_toArray] <;> rfl
/-- xs[lo:hi] of a list: a new list -/
def rSlL (K : PySem.W.Frag) : V → Option Int → Option Int → Hp → VK → Prop := fun x lo hi H Q => ∃ a xs, x = .ref a ∧ SqL K H a xs ∧ ∀ p, H p = none → Q (.ref p) (upd H p (.lst (cutV xs lo hi)))
theorem sl_list : SlR X (rSlL X.K) := by
  intro pins s σ H x v vl vu lo hi sl Q I rx hs pl pu h
  obtain ⟨a, xs, rfl, hx, q⟩ := h
  cases rx
  obtain ⟨its, r, ht, hz⟩ := I.list hx
  have hlen := r.length
  refine ⟨"list", _, slot_list_getitem.lookup, ht.isList.typeIs, ?_⟩
  refine wpAny_getItem_list_slice ht.isList hs pl pu .none (by simp) ?_ (by rw [List.size_toArray] <;> omega)
  rw [slicePick_cut, ← hlen]
  refine ⟨.ref s.heap.objs.size, _, I.laid (t' := s.toks) (o := .lst (cutV xs lo hi)) (fun b ob q => Heap.get?_push_of_some _ q) (Nat.le_refl _) ?_, rfl, q _ (I.hok.fresh (Nat.le_refl _))⟩
  exact ⟨Nat.le_trans (cutV_length xs lo hi) hz, _, 0, (r.drop (HT.sIx xs.length 0 lo)).take (HT.sIx xs.length xs.length hi - HT.sIx xs.length 0 lo), Heap.get?_push_size _ rfl⟩

/-! ### in, not in: flat items -/
def flatV : V → Bool
  | .non => true
  | .bl _ => true
  | .int _ => true
  | .str _ => true
  | _ => false
/-- == of flat values -/
def eqV : V → V → Bool
  | .non, .non => true
  | .bl a, .bl b => a == b
  | .bl a, .int b => (if a then 1 else 0) == b
  | .int a, .bl b => a == (if b then 1 else 0)
  | .int a, .int b => a == b
  | .str a, .str b => a == b
  | _, _ => false
theorem eqAt_V {A : Around} {s : Shared} {y x : V} {u v : Value} (ry : RelV y u) (rx : RelV x v) (fy : flatV y = true) (fx : flatV x = true) : SeqAt.EqAt A s u v (eqV y x) := by
  cases y with
  | non =>
    cases ry
    cases x with
    | non => cases rx; exact SeqAt.EqAt.same _
    | bl b => cases rx; exact SeqAt.EqAt.none_bool b
    | int b => obtain ⟨t, rfl⟩ := rx; exact SeqAt.EqAt.none_int b t
    | str b => obtain ⟨t, rfl⟩ := rx; exact SeqAt.EqAt.none_str b t
    | _ => exact absurd (show false = true from fx) Bool.false_ne_true
  | bl a =>
    cases ry
    cases x with
    | non => cases rx; exact SeqAt.EqAt.bool_none a
    | bl b => cases rx; exact SeqAt.EqAt.bool_bool a b
    | int b => obtain ⟨t, rfl⟩ := rx; exact SeqAt.EqAt.bool_int a b t
    | str b => obtain ⟨t, rfl⟩ := rx; exact SeqAt.EqAt.bool_str a b t
    | _ => exact absurd (show false = true from fx) Bool.false_ne_true
  | int a =>
    obtain ⟨t', rfl⟩ := ry
    cases x with
    | non => cases rx; exact SeqAt.EqAt.int_none a t'
    | bl b => cases rx; exact SeqAt.EqAt.int_bool a t' b
    | int b => obtain ⟨t, rfl⟩ := rx; exact SeqAt.EqAt.int_int a t' b t
    | str b => obtain ⟨t, rfl⟩ := rx; exact SeqAt.EqAt.int_str a t' b t
    | _ => exact absurd (show false = true from fx) Bool.false_ne_true
  | str a =>
    obtain ⟨t', rfl⟩ := ry
    cases x with
    | non => cases rx; exact SeqAt.EqAt.str_none a t'
    | bl b => cases rx; exact SeqAt.EqAt.str_bool a t' b
    | int b => obtain ⟨t, rfl⟩ := rx; exact SeqAt.EqAt.str_int a t' b t
    | str b => obtain ⟨t, rfl⟩ := rx; exact SeqAt.EqAt.str_str a t' b t
    | _ => exact absurd (show false = true from fx) Bool.false_ne_true
  | _ => exact absurd (show false = true from fy) Bool.false_ne_true
/-- the items' answers, read off the values (a value's own answer does not lean on its token) -/
def eqU (x : V) (u : Value) : Bool := match u with
  | .none => eqV .non x
  | .bool b => eqV (.bl b) x
  | .int i _ => eqV (.int i) x
  | .str z _ => eqV (.str z) x
  | _ => false
theorem eqU_of {x y : V} {u : Value} (r : RelV y u) (f : flatV y = true) : eqU x u = eqV y x := by
  cases y with
  | non => cases r; rfl
  | bl b => cases r; rfl
  | int i => obtain ⟨t, rfl⟩ := r; rfl
  | str z => obtain ⟨t, rfl⟩ := r; rfl
  | _ => exact absurd (show false = true from f) Bool.false_ne_true
theorem any_eqU {x : V} : ∀ {xs : List V} {us : List Value}, Vals xs us → xs.all flatV = true → us.any (eqU x) = xs.any fun y => eqV y x
  | _, _, .nil, _ => rfl
  | y :: xs, u :: us, .cons r t, f => by
    rw [List.all_cons, Bool.and_eq_true] at f
    rw [List.any_cons, List.any_cons, eqU_of r f.1, any_eqU t f.2]
theorem mem_eqAt {A : Around} {s : Shared} {x : V} {v : Value} (rx : RelV x v) (fx : flatV x = true) : ∀ {xs : List V} {us : List Value}, Vals xs us → xs.all flatV = true → ∀ u ∈ us, SeqAt.EqAt A s u v (eqU x u)
  | _, _, .nil, _ => fun u hu => by cases hu
  | y :: xs, u :: us, .cons r t, f => fun u' hu => by
    rw [List.all_cons, Bool.and_eq_true] at f
    rcases List.mem_cons.mp hu with rfl | hu
    · rw [eqU_of r f.1]; exact eqAt_V r rx f.1 fx
    · exact mem_eqAt rx fx t f.2 u' hu
def inV (x : V) (xs : List V) : Bool := xs.any fun y => eqV y x
/-- x in a list or tuple of flat items -/
def rIn (K : PySem.W.Frag) (neg : Bool) : R2 := fun x y H Q => ∃ p xs, y = .ref p ∧ (SqL K H p xs ∨ SqT K H p xs) ∧ flatV x = true ∧ xs.all flatV = true ∧ Q (.bl (if neg then !inV x xs else inV x xs)) H
theorem op_in_seq : OpR X (compareOp .In) (rIn X.K false) := by
  intro pins s σ H x y v u Q I rx ry h
  obtain ⟨p, xs, rfl, hq, fx, fs, q⟩ := h
  cases ry
  rcases hq with hq | hq
  · obtain ⟨its, r, pl, hz⟩ := I.list hq
    refine SeqAt.in_listAt (eqU x) pl.isList (fun w hw => mem_eqAt rx fx r fs w (by simpa using hw)) ⟨.bl _, H, I, rfl, ?_⟩
    rw [show its.toArray.any (eqU x) = its.any (eqU x) by simp, any_eqU r fs]
    exact q
  · obtain ⟨its, r, pl, hz⟩ := I.tuple hq
    refine SeqAt.in_tupleAt (eqU x) pl (fun w hw => mem_eqAt rx fx r fs w (by simpa using hw)) ⟨.bl _, H, I, rfl, ?_⟩
    rw [show its.toArray.any (eqU x) = its.any (eqU x) by simp, any_eqU r fs]
    exact q
theorem op_notIn_str : OpR X (compareOp .NotIn) (fun x y H Q => ∃ i j, x = .str i ∧ y = .str j ∧ Q (.bl (!(!(Builtin.Str.occurrences j i 0 j.length 1).isEmpty))) H) := by
  intro pins s σ H x y v u Q I rx ry h
  obtain ⟨i, j, rfl, rfl, q⟩ := h
  obtain ⟨t, rfl⟩ := rx
  obtain ⟨t', rfl⟩ := ry
  exact notIn_str ⟨.bl _, H, I, rfl, q⟩

/-! ### len, list(x), tuple(x) of any list or tuple that is read -/
theorem call_len_seq : CallR X (.builtin "len") (fun xs H Q => ∃ p ys, xs = [.ref p] ∧ (SqL X.K H p ys ∨ SqT X.K H p ys) ∧ Q (.int ys.length) H) := by
  intro pins s σ H xs us Q I r h
  obtain ⟨p, ys, rfl, hq, q⟩ := h
  obtain ⟨u, rfl, rx⟩ := vals1 r
  cases rx
  have hn := line63
  rcases hq with hq | hq
  · obtain ⟨its, r', pl, hz⟩ := I.list hq
    have hlen := r'.length
    exact Calls.call_len_list pl.isList (by simp only [List.size_toArray] <;> omega) ⟨.int ys.length, H, I.tok _, ⟨s.toks + 1, by rw [List.size_toArray, hlen]⟩, q⟩
  · obtain ⟨its, r', pl, hz⟩ := I.tuple hq
    have hlen := r'.length
    exact len_tuple pl (by simp only [List.size_toArray] <;> omega) ⟨.int ys.length, H, I.tok _, ⟨s.toks + 1, by rw [List.size_toArray, hlen]⟩, q⟩
theorem call_len_str : CallR X (.builtin "len") (fun xs H Q => ∃ z, xs = [.str z] ∧ z.length ≤ sizeLine ∧ Q (.int z.length) H) := by
  intro pins s σ H xs us Q I r h
  obtain ⟨z, rfl, hz, q⟩ := h
  obtain ⟨u, rfl, t, rfl⟩ := vals1 r
  have hn := line63
  exact len_str (by omega) ⟨.int z.length, H, I.tok _, ⟨_, rfl⟩, q⟩
theorem call_tuple_of : CallR X (.type "tuple") (fun xs H Q => ∃ p ys, xs = [.ref p] ∧ ((SqL X.K H p ys ∧ ∀ l, H l = none → Q (.ref l) (upd H l (.tup ys))) ∨ (SqT X.K H p ys ∧ Q (.ref p) H))) := by
  intro pins s σ H xs us Q I r h
  obtain ⟨p, ys, rfl, h⟩ := h
  obtain ⟨u, rfl, rx⟩ := vals1 r
  cases rx
  rcases h with ⟨hq, q⟩ | ⟨hq, q⟩
  · obtain ⟨its, r', pl, hz⟩ := I.list hq
    have hlen := r'.length
    refine call_tuple_list pl.isList (fun h' kp => ?_) (by simp only [List.size_toArray] <;> omega)
    have I1 : Inv X pins σ H { s with heap := h' } := I.kept (t' := s.toks) kp
    have I2 : Inv X pins σ (upd H h'.objs.size (.tup ys)) { s with heap := h'.push { cls := .type "tuple", data := .seq its.toArray } } :=
      I1.laid (t' := s.toks) (fun b o e => Heap.get?_push_of_some _ e) (Nat.le_refl _) (show ObjOk X.prog X.w _ _ _ (.tup ys) from ⟨hz, its, r', IsTup.new _ _⟩)
    exact ⟨.ref h'.objs.size, _, I2, rfl, q _ (I1.hok.fresh (Nat.le_refl _))⟩
  · obtain ⟨its, r', pl, hz⟩ := I.tuple hq
    exact call_tuple_same pl ⟨.ref p, H, I, rfl, q⟩

/-! ### the call of a builtin's method: o.m(..) -/
/-- the value is of that builtin type -/
def tyV (K : PySem.W.Frag) (T : String) (x : V) (H : Hp) : Prop := match x with
  | .str _ => T = "str"
  | .int _ => T = "int"
  | .ref p => (T = "list" ∧ ∃ xs, SqL K H p xs) ∨ (T = "tuple" ∧ ∃ o, K.lookup p = some o ∧ o.cls = .type "tuple" ∧ o.dict = none) ∨
      (T = "dict" ∧ ((∃ kvs, H p = some (.dK kvs)) ∨ ∃ kvs, H p = some (.dT kvs))) ∨ (T = "set" ∧ ∃ S n, H p = some (.set S n))
  | _ => False
theorem tyV_is {pins : List (Addr × Obj)} {σ : St} {H : Hp} {s : Shared} {T : String} {x : V} {v : Value} (I : Inv X pins σ H s) (r : RelV x v) (ty : tyV X.K T x H) :
    s.TypeIs v T ∧ ∀ a, v = .ref a → ∃ ob, s.heap.get? a = some ob ∧ ob.dict = none := by
  cases x with
  | str z =>
    obtain ⟨t, rfl⟩ := r
    cases (show T = "str" from ty)
    exact ⟨typeIs_str s z t, fun _ e => nomatch e⟩
  | int i =>
    obtain ⟨t, rfl⟩ := r
    cases (show T = "int" from ty)
    exact ⟨typeIs_int s i t, fun _ e => nomatch e⟩
  | ref p =>
    cases r
    rcases ty with ⟨rfl, xs, hq⟩ | ⟨rfl, o, hk, hc, hd⟩ | ⟨rfl, hk⟩ | ⟨rfl, S, n, hk⟩
    · obtain ⟨its, _, pl, _⟩ := I.list hq
      refine ⟨pl.isList.typeIs, fun a e => ?_⟩
      cases e
      obtain ⟨o, n, e, c, hd, _⟩ := pl
      exact ⟨o, e, hd⟩
    · refine ⟨⟨o, I.kIn p o hk, hc⟩, fun a e => ?_⟩
      cases e
      exact ⟨o, I.kIn _ o hk, hd⟩
    · have z : ∃ o, s.heap.get? p = some o ∧ o.ExactDict := by
        rcases hk with ⟨kvs, hk⟩ | ⟨kvs, hk⟩
        · obtain ⟨_, _, _, _, o, _, _, e, ex, _⟩ := I.hok p _ hk
          exact ⟨o, e, ex⟩
        · obtain ⟨_, _, _, _, o, _, _, e, ex, _⟩ := I.hok p _ hk
          exact ⟨o, e, ex⟩
      obtain ⟨o, e, ex⟩ := z
      refine ⟨⟨o, e, ex.1⟩, fun a e2 => ?_⟩
      cases e2
      exact ⟨o, e, ex.2.1⟩
    · obtain ⟨o, _, _, _, e, ex, _⟩ := I.hok p _ hk
      refine ⟨⟨o, e, ex.1⟩, fun a e2 => ?_⟩
      cases e2
      exact ⟨o, e, ex.2.1⟩
  | _ => exact False.elim ty
def tBM (K : PySem.W.Frag) (T : String) (r : V → List V → Hp → VK → Prop) (to : TE) (t : TA) : TE := fun σ H Q => to σ H fun x H1 => tyV K T x H1 ∧ t σ H1 fun xs H2 => r x xs H2 Q
variable {o e : Expr} {es : List Expr} {to : TE} {t : TA} {name : Str} {apos cpos : Pos} {T id : String} {r : V → List V → Hp → VK → Prop}
theorem pe_bm (pa : PlainAttrs T) (slot : Slot T name id) (hty : typeOf (.builtin id) = pure (.type "method_descriptor")) (hm : MtR X id r) (ho : PE X o to) (ha : PA X (e :: es) t)
    (hbase : attributeBase o name X.env (eval o X.env) = eval o X.env := by rfl)
    (hfew : ((backTo cpos (starEach (e :: es) X.env)).all (fun x => !x.1) && (backToKw cpos (keywordEach [] X.env)).all (fun x => x.1.isSome)
      && decide ((e :: es).length + ([] : List Keyword).length + (if ([] : List Keyword).isEmpty then 0 else 1) < 30)) = true := by rfl)
    (hline : (apos.endLine == cpos.line) = true := by rfl) (hs : starEach (e :: es) X.env = (false, eval e X.env) :: starEach es X.env := by rfl) (hplain : (backTo cpos (starEach es X.env)).any (·.1) = false := by rfl) :
    PE X (.Call (.Attribute o name apos) (e :: es) [] cpos) (tBM X.K T r to t) := by
  intro pins s σ H Q I h
  refine wpAny_Call_method_late hbase hfew hline rfl (thn (ho pins s σ H _ I h) fun v s1 ⟨x, H1, I1, r1, ty, q1⟩ => ?_)
  obtain ⟨h1, h2⟩ := tyV_is I1 r1 ty
  refine ⟨T, id, pa, slot, hty, h1, h2, ?_⟩
  have hA := ha cpos pins s1 σ H1 _ I1 q1
  rw [hs] at hA ⊢
  refine Calls.callWith_builtin (by show (false || (backTo cpos (starEach es X.env)).any (·.1)) = false; rw [hplain] <;> rfl) (Calls.evalArgs_plain ?_)
  exact thn hA fun us s2 ⟨vs, H2, I2, r2, q2⟩ => hm pins s2 σ H2 x vs v us Q I2 r1 r2 q2
/- xs.append(e), list.index on a module's tuple .. are MtR facts of 06m -/
end
end L2

namespace L2
open PySem PySem.Spec PyProof.Rows

def MtM (X : Cx) (id : String) (r : V → List V → Hp → VK → Prop) : Prop :=
  ∀ (pins : List (Addr × Obj)) (s : Shared) (σ : St) (H : Hp) (x : V) (xs : List V) (v : Value) (us : List Value) (Q : VK), Inv X pins σ H s → RelV x v → Vals xs us → r x xs H Q →
    wpAny (model X.prog X.w) X.A (call (.builtin id) (v :: us)) (EP X pins σ Q) X.xe s

/-! ### lists of values -/
theorem Vals.one : ∀ {x : V} {us : List Value}, Vals [x] us → ∃ u, us = [u] ∧ RelV x u
  | _, _, .cons r .nil => ⟨_, rfl, r⟩
theorem Vals.two : ∀ {x y : V} {us : List Value}, Vals [x, y] us → ∃ u v, us = [u, v] ∧ RelV x u ∧ RelV y v
  | _, _, _, .cons r (.cons q .nil) => ⟨_, _, rfl, r, q⟩
theorem Vals.rep {xs : List V} {us : List Value} (h : Vals xs us) : ∀ k : Nat, Vals (List.replicate k xs).flatten (List.replicate k us).flatten
  | 0 => .nil
  | k + 1 => by
    rw [List.replicate_succ, List.replicate_succ, List.flatten_cons, List.flatten_cons]
    exact Vals.append h (Vals.rep h k)
theorem foldl_rep (its : List Value) : ∀ (k : Nat) (acc : List Value),
    List.foldl (fun x1 x2 => x1 ++ x2) acc.toArray (List.replicate k its.toArray) = (acc ++ (List.replicate k its).flatten).toArray
  | 0, acc => by simp
  | k + 1, acc => by
    have e : acc.toArray ++ its.toArray = (acc ++ its).toArray := by simp
    have e2 : (acc ++ its) ++ (List.replicate k its).flatten = acc ++ (List.replicate (k + 1) its).flatten := by
      rw [List.replicate_succ, List.flatten_cons, List.append_assoc]
    rw [← e2, ← foldl_rep its k (acc ++ its), ← e, List.replicate_succ, List.foldl_cons]

section
variable {X : Cx} {pins : List (Addr × Obj)} {σ : St} {H : Hp} {s : Shared} {l b : Addr} {xs ys zs : List V}

/-! ### the two steps: a tracked list is rewritten, a new list is laid -/
theorem Inv.lset {its its' : List Value} {n : Nat} {f : Array Value → Array Value} {t' : Nat} (I : Inv X pins σ H s) (hH : H l = some (.lst xs))
    (e : s.heap.get? l = some { cls := .type "list", data := .seq its.toArray n }) (hf : f its.toArray = its'.toArray) (hv : Vals ys its') (hz : ys.length ≤ sizeLine) :
    Inv X pins σ (upd H l (.lst ys)) { s with heap := s.heap.update l (Obj.mapSeq f), toks := t' } := by
  have q := PySem.IsL.update e f
  rw [hf] at q
  refine I.write (x := l) (e := l) (by rw [hH]; exact trivial) (.inl rfl) (fun b' u hb hu => (Heap.get?_update_other s.heap (Obj.mapSeq f) (Ne.symm hb)).trans hu) ⟨_, q⟩ ?_
  exact ⟨hz, its', _, hv, q⟩
theorem Inv.lnew {its : List Value} {t' : Nat} (I : Inv X pins σ H s) (hv : Vals ys its) (hz : ys.length ≤ sizeLine) :
    Inv X pins σ (upd H s.heap.objs.size (.lst ys)) { s with heap := s.heap.push { cls := .type "list", data := .seq its.toArray }, toks := t' } :=
  I.laid (fun _ _ q => Heap.get?_push_of_some _ q) (Nat.le_refl _) ⟨hz, its, 0, hv, Heap.get?_push_size _ rfl⟩
theorem Inv.fresh (I : Inv X pins σ H s) : H s.heap.objs.size = none := I.hok.fresh (Nat.le_refl _)
theorem Inv.lstM (I : Inv X pins σ H s) (hH : H l = some (.lst xs)) : xs.length ≤ sizeLine ∧ ∃ (its : List Value) (n : Nat), Vals xs its ∧ xs.length = its.length ∧ s.heap.get? l = some { cls := .type "list", data := .seq its.toArray n } := by
  obtain ⟨z, its, n, r, e⟩ := I.hok l _ hH
  exact ⟨z, its, n, r, r.length, e⟩

theorem notLongL {n : Nat} (h : n ≤ sizeLine) : Builtin.List.listTooLong n = false := by
  unfold Builtin.List.listTooLong
  exact decide_eq_false (by omega)
end

section
variable {X : Cx}

/-! ### methods -/
def rAppend : V → List V → Hp → VK → Prop := fun x vs H Q => ∃ l xs y, x = .ref l ∧ vs = [y] ∧ H l = some (.lst xs) ∧ xs.length < sizeLine ∧ Q .non (upd H l (.lst (xs ++ [y])))
theorem mt_append : MtM X "list.append" rAppend := by
  intro pins s σ H x vs v us Q I rx rv h
  obtain ⟨l, xs, y, rfl, rfl, hH, hz, q⟩ := h
  cases rx
  obtain ⟨u, rfl, ru⟩ := rv.one
  obtain ⟨z, its, n, r, hl, e⟩ := I.lstM hH
  refine call_meets F.slot_list_append ⟨_, e, rfl⟩ F.entry_list_append (F.args_list_append_2 _ _) (PySem.list_append l its.toArray n u (by rw [List.size_toArray]; omega)) ⟨e, ?_⟩
  refine ⟨.non, _, I.lset (its' := its ++ [u]) hH e (by simp) (r.append (.cons ru .nil)) ?_, rfl, q⟩
  rw [List.length_append, List.length_singleton]
  omega

def rExtend : V → List V → Hp → VK → Prop := fun x vs H Q => ∃ l b xs zs, x = .ref l ∧ vs = [.ref b] ∧ H l = some (.lst xs) ∧ H b = some (.lst zs) ∧ xs.length + zs.length ≤ sizeLine ∧ Q .non (upd H l (.lst (xs ++ zs)))
theorem mt_extend : MtM X "list.extend" rExtend := by
  intro pins s σ H x vs v us Q I rx rv h
  obtain ⟨l, b, xs, zs, rfl, rfl, hH, hB, hz, q⟩ := h
  cases rx
  obtain ⟨u, rfl, ru⟩ := rv.one
  cases ru
  obtain ⟨z, its, n, r, hl, e⟩ := I.lstM hH
  obtain ⟨z2, its2, n2, r2, hl2, e2⟩ := I.lstM hB
  have hsz : its.toArray.size + its2.toArray.size ≤ sizeLine := by rw [List.size_toArray, List.size_toArray]; omega
  have hlong : ¬ (!its.toArray.isEmpty && Builtin.List.listTooLong (its.toArray.size + its2.toArray.size)) = true := by
    rw [notLongL hsz, Bool.and_false]
    exact Bool.false_ne_true
  refine call_meets F.slot_list_extend ⟨_, e, rfl⟩ F.entry_list_extend (F.args_list_extend_2 _ _)
    (AutoSeq1.list_extend_list_list_0 l its.toArray n b its2.toArray n2 hlong (by rw [List.size_toArray]; omega) (by omega)) ⟨e, e2, ?_⟩
  refine ⟨.non, _, I.lset (its' := its ++ its2) hH e (by simp) (r.append r2) ?_, rfl, q⟩
  rw [List.length_append]
  omega

/-! ### list + list, list += list, list * int -/
def rCat : R2 := fun x y H Q => ∃ l b xs zs, x = .ref l ∧ y = .ref b ∧ H l = some (.lst xs) ∧ H b = some (.lst zs) ∧ xs.length + zs.length ≤ sizeLine ∧ ∀ p, H p = none → Q (.ref p) (upd H p (.lst (xs ++ zs)))
theorem op_cat : OpR X (binaryOp .Add) rCat := by
  intro pins s σ H x y v u Q I rx ry h
  obtain ⟨l, b, xs, zs, rfl, rfl, hH, hB, hz, q⟩ := h
  cases rx
  cases ry
  obtain ⟨z, its, n, r, hl, e⟩ := I.lstM hH
  obtain ⟨z2, its2, n2, r2, hl2, e2⟩ := I.lstM hB
  refine PySem.P.add_list e e2 ?_ (by rw [List.size_toArray, List.size_toArray]; omega)
  have ea : its.toArray ++ its2.toArray = (its ++ its2).toArray := by simp
  rw [ea]
  exact ⟨.ref _, _, I.lnew (t' := s.toks) (r.append r2) (by rw [List.length_append]; omega), rfl, q _ I.fresh⟩
/-- a list times an int (a negative one is nothing) -/
def rRep : R2 := fun x y H Q => ∃ l k xs, x = .ref l ∧ y = .int k ∧ H l = some (.lst xs) ∧ -(2 ^ 63) ≤ k ∧ k < 2 ^ 63 ∧ xs.length * k.toNat ≤ sizeLine ∧
  ∀ p, H p = none → Q (.ref p) (upd H p (.lst (List.replicate k.toNat xs).flatten))
theorem len_rep {α : Type} (xs : List α) (k : Nat) : (List.replicate k xs).flatten.length = k * xs.length := by
  induction k with
  | zero => simp
  | succ k ih => rw [List.replicate_succ, List.flatten_cons, List.length_append, ih, Nat.succ_mul, Nat.add_comm]
theorem op_rep : OpR X (binaryOp .Mult) rRep := by
  intro pins s σ H x y v u Q I rx ry h
  obtain ⟨l, k, xs, rfl, rfl, hH, h1, h2, hz, q⟩ := h
  cases rx
  obtain ⟨t, rfl⟩ := ry
  obtain ⟨z, its, n, r, hl, e⟩ := I.lstM hH
  have hlen : its.toArray.size * k.toNat ≤ sizeLine := by rw [List.size_toArray, ← hl]; exact hz
  have hcap : ¬ its.toArray.size * k.toNat > (2 ^ 63 - 1) / 8 := by
    have : (sizeLine : Nat) ≤ (2 ^ 63 - 1) / 8 := by decide
    omega
  have hfit : ¬ (!Builtin.List.listFitsIndex k) = true := by
    rw [fitsIndex_both h1 h2]
    exact Bool.false_ne_true
  have hlong : ¬ Builtin.List.listTooLong (its.toArray.size * k.toNat) = true := by
    rw [notLongL hlen]
    exact Bool.false_ne_true
  have hnew : List.foldl (fun x1 x2 => x1 ++ x2) #[] (List.replicate (if its.toArray.isEmpty = true then 0 else k.toNat) its.toArray) = (List.replicate k.toNat its).flatten.toArray := by
    have f0 : ∀ m : Nat, List.foldl (fun x1 x2 => x1 ++ x2) #[] (List.replicate m its.toArray) = (List.replicate m its).flatten.toArray := fun m => by
      have := foldl_rep its m []
      rw [List.nil_append] at this
      exact this
    rw [f0]
    cases its with
    | nil => simp
    | cons a r' => rw [if_neg (by simp)]
  refine wpAny_binaryOp_repeat_ref (T := "list") (U := "int") (by decide) ⟨_, e, rfl⟩ (fun s' => typeIs_int s' k t) noFill_list_mul F.fills_int_mul F.slot_int_rmul repeat_list F.slot_int_index.lookup
    (call_meets F.slot_int_rmul (typeIs_int s k t) F.entry_int_rmul (F.args_int_rmul_2 _ _) (int___rmul___int_list k t l its.toArray n)
      ⟨e, rfl, ⟨_, e, rfl⟩, call_meets F.slot_list_mul ⟨_, e, rfl⟩ F.entry_list_mul (F.args_list_mul_2 _ _) (AutoListH.list___mul___list_int_3 l its.toArray n k t hfit hcap hlong) ⟨e, ?_⟩⟩)
  rw [hnew]
  exact ⟨.ref _, _, I.lnew (t' := s.toks) (r.rep k.toNat) (by rw [len_rep, Nat.mul_comm]; exact hz), rfl, q _ I.fresh⟩

/-! ### del xs[i] -/
end

/-! ### xs[a:b] = ys -/
section
variable {prog : Program} {w : World} {A : Around} {E : Value → Shared → Prop} {s : Shared}
end

section
variable {X : Cx}
end
end L2

namespace Att
open PySem PySem.W PySem.Calls PyProof.Rows

/-! ### the script -/
theorem ints_of_wellAll {P : Params} {h : Heap} : ∀ (ns : List Int) (vs : List Value), WellAll P h vs (ns.map WData.int) → IntsAre vs ns := by
  intro ns
  induction ns with
  | nil =>
    intro vs w
    rw [List.map_nil] at w
    cases w
    exact .nil
  | cons n ns ih =>
    intro vs w
    rw [List.map_cons] at w
    cases w with
    | cons a b =>
      cases a
      exact .cons _ _ (ih _ b)

theorem script_of {l : OpenLaw} {n : Nat} (hn : l.most = some n) {P : Params} {h : Heap} {args : List WData} {vals : List Value}
    (hpre : l.row.toRowW.claim.pre args = true) (hwl : WellAll P h vals args) :
    ∃ a vs ns, vals = [Value.ref a] ∧ args = [WData.list (ns.map WData.int)] ∧ h.get? a = some { cls := .type "list", data := .seq vs.toArray } ∧ IntsAre vs ns ∧ ns.length ≤ n := by
  have hsh : WShape.hasAll [] args [.list .int] = true := (pre_splitW hpre).1
  have hc : l.pre.holds [] { args := args } = true := (pre_splitW hpre).2
  obtain ⟨d, r, rfl, h1, h2⟩ := hasAllW_cons hsh
  obtain rfl := hasAllW_nil h2
  obtain ⟨xs, rfl, h3⟩ := hasW_list h1
  obtain ⟨ns, rfl⟩ := items_int h3
  have hlen : ns.length ≤ n := by
    unfold OpenLaw.pre at hc
    have h4 : (WTm.not (.lt (.lit (.int (n : Int))) (.len (.arg 0)))).holds [] { args := [.list (ns.map .int)] } = true := by
      have h4 := (holds_andW hc).1
      rw [hn] at h4
      exact h4
    have h5 := condW_of h4 (w_not (w_lt w_lit (w_len_list (w_arg rfl))))
    rw [List.length_map] at h5
    refine Nat.le_of_not_lt fun q => ?_
    have q' : (n : Int) < ((ns.length : Nat) : Int) := by omega
    first
      | (rw [decide_eq_true q'] at h5; exact absurd h5 (by decide))
      | (simp at h5; omega)
  cases hwl with
  | cons w1 w2 =>
    cases w2
    cases w1 with
    | list ho hall => exact ⟨_, _, ns, rfl, rfl, ho, ints_of_wellAll ns _ hall, hlen⟩

theorem post_true (l : OpenLaw) (args : List WData) : l.row.toRowW.claim.post args (.bool true) args = true :=
  postW_of (r := l.row.toRowW) (X := (true == true))
    (show WShape.has [] (.bool true) .bool = true by first | rfl | decide | simp [WShape.has, WShape.arms, WShape.armsAll])
    (show (WTm.eq .res (.lit (.bool true))).value [] { args := args, res := some (.bool true), after := args } = some (.bool (true == true)) from w_eq_bool (w_res rfl) w_lit) rfl

/-! ### the attachment: holds_open's last premise (the goal 'hc' behind k_head) from a wpAny of the law's body -/
/-- the same from a codeAny of the CALL (for a layer whose function contracts speak of calls) -/
theorem attach_call {l : OpenLaw} {n : Nat} {q : Program} {loose : List Str} {XP : (Str → Option Value) → Heap → Prop} {YP : World → Heap → Prop} {d : DefRec}
    (hn : l.most = some n) (hdf : d.params.defaults = [])
    (call : ∀ (w : World) (s₀ s₁ : Shared) (mg mb : Str → Option Value) (fa : Addr) (o : Obj) (pm cd doc : Value) (a : Addr) (vs : List Value) (ns : List Int),
      Ground q loose [] XP w s₀ mg mb s₁.heap → YP w s₁.heap →
      s₁.heap.get? fa = some o → o.data = .func (docDef d.name d.params d.body d.scope pm cd doc) → s₁.heap.CodeRec cd d.name → mg d.name = some (.ref fa) →
      s₁.heap.get? a = some { cls := .type "list", data := .seq vs.toArray } → IntsAre vs ns → ns.length ≤ n → s₁.gens = #[] →
      codeAny (model l.prog w) callerA (.call (.ref fa) ⟨[.ref a], []⟩) (fun r s' => r = .ok (.ret (.bool true)) ∧ OldK s₁.heap s'.heap ∧ s'.os = s₁.os ∧ AllBare s'.gens) s₁) :
    WalkO q loose XP YP l.row.toRowW d [] (fun f vs => PySem.call f vs) := by
  intro w s₀ s₁ mg mb G Y fa o pm cd doc dV kV ho hd hcd hD hmg hg args vals as hpre hlay hrd hwl hlo
  obtain rfl : dV = .none := Dflts.none hD hdf
  obtain rfl : kV = .none := Dflts.noKw hD
  obtain ⟨a, vs, ns, rfl, rfl, hobj, hints, hlen⟩ := script_of hn hpre hwl
  refine enter_call (codeAny_mono (call w s₀ s₁ mg mb fa o pm cd doc a vs ns G Y ho (fd_plain hd) hcd hmg hobj hints hlen hg) fun r s' hq => ?_)
  obtain ⟨rfl, h2, h3, h4⟩ := hq
  exact ⟨.inl ⟨.bool true, .bool true, [], rfl, fun _ => rfl, .bool true, post_true l _, fun _ => ⟨List.Pairwise.nil, fun _ hm => (nomatch hm)⟩⟩, h2, h3, h4⟩

/-! ### rules over ANY heap (no ledger) from facts about the written part K: the library's own take a ledger (News) for what they write -/
section
variable {prog : Program} {w : World} {A : Around} {E : Value → Shared → Prop} {s : Shared} {K : Frag}

/-! the whole heap as the ledger: makes every rule that writes through a ledger a rule over any heap -/
end
end Att

namespace L2
open PySem PySem.Spec PyProof.Rows

theorem vals_ints : ∀ {vs : List Value} {ns : List Int}, IntsAre vs ns → Vals (ns.map V.int) vs
  | _, _, .nil => .nil
  | _, _, .cons n t h => .cons ⟨t, rfl⟩ (vals_ints h)

end L2

namespace L2
open PySem PySem.Spec PyProof.Rows

end L2

/- THE LAST THEOREM (shape; LID, My.* are yours):
   My.Adr: a structure of the addresses that your layer names (classes, functions); My.Txt K t: a structure (Prop) of the equations over K;
   My.txt_mk : {K} {implicit addresses ..} (e1 : nsIn K mainGlobals "law" = some (some (.ref f))) (e2 : K.lookup f = some ⟨oc, od, .func (fnOf "law" "law" params body scope dV kV doc pm an cdv ct), sl⟩) (e3 : codeIn K cdv "law" = true) .. : ∃ t, My.Txt K t

set_option maxRecDepth 100000 in
set_option maxHeartbeats 0 in
theorem PySem.Challenge.cw_LID_holds : PySem.Challenge.rw_LID.Holds := by
  w_on; o_law; k_head; (case hw => w_witness2)
  k_fill
  refine L2.walk_of (l := PySem.Challenge.rw_LID) (n := 63) (k := 40) (x := "script") (CX := fun w => ..) (sp := fun _ => My.sp_law) rfl (by decide) rfl ⟨rfl, by decide, by decide⟩ (fun w h Y => PySem.W.kIn_of Y) ?F ?S ?C
  case F =>
    intro w mg fa h KX G hmg
    have T : ∃ t, My.Txt (L2.KOf KX) t := by
      dsimp only [L2.KOf]                          -- K must stand as «<heap const> w.params» for k_is
      refine' My.txt_mk ?e1 ?e2 ?e3 ..
      (case e1 => PySem.W.k_is)                    -- in the order: a name -> its address -> its object -> its parts
      (case e2 => PySem.W.k_is)
      ..
    obtain ⟨t, T⟩ := T
    have e0 := hmg.symm.trans (PySem.W.mg_of KX G T.law)
    cases e0                                       -- fa is the law's own address
    exact ⟨_, fun s u => .of_eq rfl, fun base kb nb => My.law_fn T kb nb⟩     -- if «.of_eq rfl» comes too early: refine' ⟨_, ?b, fun base kb nb => My.law_fn T kb nb⟩; exact fun s u => .of_eq rfl
  case S => exact fun w H a ns hl hO hS => ..
  case C => exact ..
(the tactic k_is has no namespace: write k_is) -/

/-! SHORT WORDS over the layer: a def of the text, its body, what a loop and a test want. -/
namespace L2
open PySem PySem.Spec PyProof.Rows

/-! ### the text by places -/
/-- the j-th statement of a class's body -/
def inClass (s : Stmt) (j : Nat) : Stmt := match s with
  | .ClassDef _ _ _ body _ _ _ _ _ _ _ => body.getD j (.Pass ⟨0, 0, 0, 0⟩)
  | _ => .Pass ⟨0, 0, 0, 0⟩
def defArgs (s : Stmt) : Arguments := match s with
  | .FunctionDef _ a _ _ _ _ _ _ _ _ => a
  | _ => { posonlyargs := [], args := [], vararg := none, kwonlyargs := [], kw_defaults := [], kwarg := none, defaults := [] }
def defBody (s : Stmt) : List Stmt := match s with
  | .FunctionDef _ _ b _ _ _ _ _ _ _ => b
  | _ => []
def defScope (s : Stmt) : Scope := match s with
  | .FunctionDef _ _ _ _ _ _ sc _ _ _ => sc
  | _ => { kind := .function, names := [], isGenerator := false, isCoroutine := false }

/-! ### no exception leaves a def -/
abbrev CX0 : CXT := fun _ _ _ _ _ _ => False
abbrev E0 : XK := fun _ _ _ => False
theorem pass0 {X : Cx} : Passes CX0 X E0 := fun _ _ _ _ _ _ _ h => h.elim

/-! ### a def (or method) of the text as it stands behind the top -/
structure Fun (K : PySem.W.Frag) (x qual : Str) (st : Stmt) (f : Addr) (fd : FuncData) : Prop where
  ex : ∃ (oc : Value) (od : Option Addr) (kV doc pm : Value) (an : Option Addr) (cdv ct : Value) (osl : Array (Option Value)),
    fd = PySem.W.fnOf x qual (defArgs st) (defBody st) (defScope st) .none kV doc pm an cdv ct ∧ K.lookup f = some ⟨oc, od, .func fd, osl⟩ ∧ PySem.W.codeIn K cdv qual = true
  kp : PySem.W.keepIn K (.ref f) = true
section
variable {P : Program} {w : World} {K : PySem.W.Frag} {mg : Str → Option Value} {base : Heap}
/-- THE RULE for a def: its body as a term of rules, and the reading of that term -/
theorem Fun.ok {x qual : Str} {st : Stmt} {f : Addr} {fd : FuncData} {N ps : List Str} {k : Nat} {sp : Sp} {c : Bool} (F : Fun K x qual st f fd) (S : FnScope N ps (defScope st)) (len : ∀ vs H Q E, sp vs H Q E → vs.length = ps.length)
    (hbody : ∀ (cdv : Value) (A : Around) (outer : List Env) (s : Shared) (H : Hp) (vs : List V) (Q : VK) (E : XK), Room k (A.deeper (envOfC qual (defScope st) s.heap.objs.size f cdv)) c → sp vs H Q E →
      ∃ t, PSs (cxOf CX0 P w K mg base N qual (defScope st) f cdv A outer s H E c).nox (defBody st) t ∧ t { nx := fun _ H' => Q .non H', rt := Q } (start N vs) H) : FnOk P w K mg base CX0 (k + 1) f fd ps sp c := by
  obtain ⟨oc, od, kV, doc, pm, an, cdv, ct, osl, rfl, lk, hcd⟩ := F.ex
  refine fn_of lk hcd S len fun A outer s H vs Q E hr hsp => ?_
  obtain ⟨t, h, q⟩ := hbody cdv A outer s H vs Q E hr hsp
  exact ⟨t, h.nox, q⟩
/-- how its arguments bind (no defaults): h is «fun _ _ _ _ _ _ us hl => match us, hl with | [_, _], _ => rfl», one _ a parameter -/
theorem Fun.binds {x qual : Str} {st : Stmt} {f : Addr} {fd : FuncData} {ps : List Str} (F : Fun K x qual st f fd)
    (h : ∀ (kV doc pm : Value) (an : Option Addr) (cdv ct : Value) (us : List Value), us.length = ps.length → bindArgs (PySem.W.fnOf x qual (defArgs st) (defBody st) (defScope st) .none kV doc pm an cdv ct) ⟨us, []⟩ = pure (ps.zip us)) : Binds K fd ps [] := by
  obtain ⟨oc, od, kV, doc, pm, an, cdv, ct, osl, rfl, lk, hcd⟩ := F.ex
  exact .all (h kV doc pm an cdv ct)
theorem fun_mk {x qual : Str} {st : Stmt} {f : Addr} {oc : Value} {od an : Option Addr} {osl : Array (Option Value)} {kV doc pm cdv ct : Value} (l : K.lookup f = some ⟨oc, od, .func (PySem.W.fnOf x qual (defArgs st) (defBody st) (defScope st) .none kV doc pm an cdv ct), osl⟩)
    (c : PySem.W.codeIn K cdv qual = true) (k : PySem.W.keepIn K (.ref f) = true) : Fun K x qual st f (PySem.W.fnOf x qual (defArgs st) (defBody st) (defScope st) .none kV doc pm an cdv ct) := ⟨⟨oc, od, kV, doc, pm, an, cdv, ct, osl, rfl, l, c⟩, k⟩
end
theorem hu_of {A : Around} {k : Nat} {c : Bool} (hr : Room k A c) : A.units + 1 < cLine := Nat.lt_of_le_of_lt (Nat.add_le_add_left (by decide : 1 ≤ 64) _) hr.units
/-! ### expressions in short: the name that stands in the i-th slot -/
section
variable {X : Cx}
theorem pv (i : Nat) {x : Str} {pos : Pos} (hN : X.N[i]? = some x := by rfl) (hv : Vis X.env.scope x := by first | exact Or.inl rfl | exact Or.inr (Or.inl rfl) | exact Or.inr (Or.inr rfl)) (hd : (x == ("__debug__" : Str)) = false := by decide)
    (hcd : (x == ("__classdict__" : Str)) = false := by decide) : PE X (.Name x pos) (tVar i) := pe_var hN hv hd hcd
end

/-! ### tests -/
theorem iteF {A B : Prop} (h : B) : if false = true then A else B := by
  rw [if_neg Bool.false_ne_true]
  exact h
theorem iteT {A B : Prop} (h : A) : if true = true then A else B := by
  rw [if_pos rfl]
  exact h
theorem ite2 {c A B : Prop} [Decidable c] (h1 : c → A) (h2 : ¬ c → B) : if c then A else B := by
  by_cases h : c
  · rw [if_pos h]
    exact h1 h
  · rw [if_neg h]
    exact h2 h
/-! ### heaps -/
/-- all that was tracked is as it was -/
def Same (H H' : Hp) : Prop := ∀ b o, H b = some o → H' b = some o
theorem Same.refl (H : Hp) : Same H H := fun _ _ h => h
theorem Same.trans {H H1 H2 : Hp} (a : Same H H1) (b : Same H1 H2) : Same H H2 := fun c o h => b c o (a c o h)
theorem Same.seq {K : PySem.W.Frag} {H H' : Hp} {a : Addr} {xs : List V} (e : Same H H') (h : SqL K H a xs) : SqL K H' a xs := by
  rcases h with (h | ⟨o, h⟩) | h
  · exact .inl (.inl (e _ _ h))
  · exact .inl (.inr ⟨o, e _ _ h⟩)
  · exact .inr h

end L2
namespace L2
open PySem PySem.Spec PyProof.Rows

/-! ### no exception -/
abbrev NoX : Value → Shared → Prop := fun _ _ => False
theorem noX {α : Type} {M : Model} {A : Around} {t : Sem α} {Q : α → Shared → Prop} {E : Value → Shared → Prop} {s : Shared} (h : wpAny M A t Q NoX s) : wpAny M A t Q E s := wpAny_mono h (fun _ _ q => q) fun _ _ z => z.elim

/-! ### a comprehension's turns -/
abbrev tstSem (ifs : List Expr) (env : Env) : Sem Bool := forIn ifs true fun c r => if r = true then do let ok ← isTrue c env (eval c env); pure (ForInStep.yield ok) else pure (ForInStep.yield r)
section
variable {prog : Program} {w : World} {A : Around} {R : Result → Shared → Prop} {s : Shared}
theorem comp_loop {elt tg iter : Expr} {ifs : List Expr} {sc : Scope} {pos : Pos} {it acc : Value} {env : Env} (I : Nat → Shared → Prop)
    (turn : ∀ n s, I n s → wpAny (model prog w) A (pyNext it) (fun r s1 => match r with
      | none => R (.ok .next) s1
      | some v => wpAny (model prog w) A (letOwnedTupleGo tg it v) (fun _ s2 => wpAny (model prog w) A (assign tg env v) (fun _ s3 => wpAny (model prog w) A (tstSem ifs env) (fun ok s4 =>
          if ok = true then wpAny (model prog w) A (eval elt env) (fun x s5 => wpAny (model prog w) A (call (.builtin "list.append") [acc, x]) (fun _ s6 => ∃ m, m < n ∧ I m s6) NoX s5) NoX s4
          else ∃ m, m < n ∧ I m s4) NoX s3) NoX s2) NoX s1) NoX s)
    (n : Nat) (h : I n s) : codeAny (model prog w) A (.compLoop (.ListComp elt [⟨tg, iter, ifs, 0⟩] sc pos) 0 it acc env) R s := by
  refine codeAny_loop rfl I (fun n s hI => ?_) n h
  show wpAny _ A ((compTurn (.ListComp elt [⟨tg, iter, ifs, 0⟩] sc pos) 0 it acc env).onRaise (fun x => do noteFrame x env; theTreesLotGoes x)) _ _ s
  refine wpAny_noted ?_
  rw [compTurn_list]
  refine wpAny_bind (wpAny_standAt (wpAny_bind (noX (thn (turn n s hI) fun r s1 h1 => ?_))))
  cases r with
  | none => exact wpAny_pure h1
  | some v =>
    refine wpAny_bind (noX (thn h1 fun _ s2 h2 => wpAny_bind (noX (thn h2 fun _ s3 h3 => wpAny_bind (noX (thn h3 fun ok s4 h4 => ?_))))))
    cases ok with
    | false => exact wpAny_pure ⟨rfl, h4⟩
    | true => exact wpAny_bind (wpAny_bind (noX (thn h4 fun x s5 h5 => wpAny_bind (noX (thn h5 fun _ s6 h6 => wpAny_pure (wpAny_pure ⟨rfl, h6⟩))))))
end

/-! ### the cells of the names that a block takes from around it -/
theorem closure_go {env : Env} : ∀ (l : List (Str × NameKind)) (acc : List (Str × Addr)), (∀ y ∈ l, y.2 = .free → ∃ c, env.cells.lookup y.1 = some c) → (∀ y c, acc.lookup y = some c → env.cells.lookup y = some c) →
    ∃ cl, (forIn l acc fun x r => if (x.2 == NameKind.free) = true then (do let c ← cellOf env x.1; pure (ForInStep.yield ((x.1, c) :: r))) else pure (ForInStep.yield r)) = (pure cl : Sem (List (Str × Addr))) ∧
      (∀ y c, cl.lookup y = some c → env.cells.lookup y = some c) ∧ (∀ y ∈ l, y.2 = .free → ∃ c, cl.lookup y.1 = some c) ∧ (∀ y c, acc.lookup y = some c → ∃ c', cl.lookup y = some c')
  | [], acc, _, h2 => ⟨acc, rfl, h2, (fun _ z => nomatch z), (fun _ c e => ⟨c, e⟩)⟩
  | (n, k) :: r, acc, h1, h2 => by
    rw [List.forIn_cons]
    by_cases hk : k = .free
    · subst hk
      obtain ⟨c, hc⟩ := h1 (n, .free) List.mem_cons_self rfl
      have e : cellOf env n = pure c := by
        have hc' : env.cells.lookup n = some c := hc
        unfold cellOf
        rw [hc']
      obtain ⟨cl, q1, q2, q3, q4⟩ := closure_go r ((n, c) :: acc) (fun y hy => h1 y (List.mem_cons_of_mem _ hy)) (fun y c' e' => by
        rw [List.lookup_cons] at e'
        by_cases hy : (y == n) = true
        · rw [hy] at e'
          have hn : y = n := eq_of_beq hy
          subst hn
          cases e'
          exact hc
        · rw [Bool.not_eq_true] at hy
          rw [hy] at e'
          exact h2 y c' e')
      refine ⟨cl, ?_, q2, fun y hy hf => ?_, fun y c' e' => ?_⟩
      · simp only [beq_self_eq_true, if_true, e, pure_bind]
        exact q1
      · rcases List.mem_cons.mp hy with rfl | hy
        · exact q4 n c (by simp)
        · exact q3 y hy hf
      · by_cases hy : (y == n) = true
        · have hn : y = n := eq_of_beq hy
          subst hn
          exact q4 y c (by simp)
        · rw [Bool.not_eq_true] at hy
          exact q4 y c' (by rw [List.lookup_cons, hy]; exact e')
    · have hb : (k == NameKind.free) = false := by simpa using hk
      obtain ⟨cl, q1, q2, q3, q4⟩ := closure_go r acc (fun y hy => h1 y (List.mem_cons_of_mem _ hy)) h2
      refine ⟨cl, ?_, q2, fun y hy hf => ?_, q4⟩
      · simp only [hb, Bool.false_eq_true, if_false, pure_bind]
        exact q1
      · rcases List.mem_cons.mp hy with rfl | hy
        · exact absurd hf hk
        · exact q3 y hy hf
theorem closure_ok {env : Env} {sc : Scope} (h : ∀ y ∈ sc.names, y.2 = .free → ∃ c, env.cells.lookup y.1 = some c) :
    ∃ cl, closureFor sc env = pure cl ∧ (∀ y c, cl.lookup y = some c → env.cells.lookup y = some c) ∧ ∀ y ∈ sc.names, y.2 = .free → ∃ c, cl.lookup y.1 = some c := by
  obtain ⟨cl, q1, q2, q3, _⟩ := closure_go sc.names [] h (fun _ _ z => nomatch z)
  refine ⟨cl, ?_, q2, q3⟩
  unfold closureFor
  rw [bind_pure]
  exact q1
theorem relabel_look {env : Env} {y : Str} {k : NameKind} {sc : Scope} (h : (relabel sc env).names.lookup y = some k) : ∃ k0, sc.names.lookup y = some k0 ∧ (k = k0 ∨ (k0 = .free ∧ k = .cell)) := by
  have go : ∀ l : List (Str × NameKind), (l.map fun (n, k) => if (k == .free && env.scope.kind == .function && env.kindOf n == some .cell) then (n, NameKind.cell) else (n, k)).lookup y = some k → ∃ k0, l.lookup y = some k0 ∧ (k = k0 ∨ (k0 = .free ∧ k = .cell)) := by
    intro l
    induction l with
    | nil => intro z; cases z
    | cons a r ih =>
      obtain ⟨n, k1⟩ := a
      intro z
      rw [List.map_cons] at z
      by_cases hc : (k1 == NameKind.free && env.scope.kind == .function && env.kindOf n == some .cell) = true
      · have hf : k1 = .free := by
          rw [Bool.and_eq_true, Bool.and_eq_true] at hc
          simpa using hc.1.1
        simp only [hc, if_true] at z
        rw [List.lookup_cons] at z ⊢
        by_cases hy : (y == n) = true
        · rw [hy] at z ⊢
          cases z
          exact ⟨k1, rfl, .inr ⟨hf, rfl⟩⟩
        · rw [Bool.not_eq_true] at hy
          rw [hy] at z ⊢
          exact ih z
      · simp only [hc, Bool.false_eq_true, if_false] at z
        rw [List.lookup_cons] at z ⊢
        by_cases hy : (y == n) = true
        · rw [hy] at z ⊢
          cases z
          exact ⟨_, rfl, .inl rfl⟩
        · rw [Bool.not_eq_true] at hy
          rw [hy] at z ⊢
          exact ih z
  exact go sc.names h
theorem relabel_free {env : Env} {y : Str} {sc : Scope} (h : sc.names.lookup y = some .free) : (relabel sc env).names.lookup y = some .cell ∨ (relabel sc env).names.lookup y = some .free := by
  have go : ∀ l : List (Str × NameKind), l.lookup y = some .free → (l.map fun (n, k) => if (k == .free && env.scope.kind == .function && env.kindOf n == some .cell) then (n, NameKind.cell) else (n, k)).lookup y = some .cell ∨
      (l.map fun (n, k) => if (k == .free && env.scope.kind == .function && env.kindOf n == some .cell) then (n, NameKind.cell) else (n, k)).lookup y = some .free := by
    intro l
    induction l with
    | nil => intro z; cases z
    | cons a r ih =>
      obtain ⟨n, k1⟩ := a
      intro z
      rw [List.lookup_cons] at z
      rw [List.map_cons]
      by_cases hy : (y == n) = true
      · rw [hy] at z
        cases z
        by_cases hc : (NameKind.free == NameKind.free && env.scope.kind == .function && env.kindOf n == some .cell) = true
        · simp only [hc, if_true]
          exact .inl (by rw [List.lookup_cons, hy])
        · simp only [hc, Bool.false_eq_true, if_false]
          exact .inr (by rw [List.lookup_cons, hy])
      · rw [Bool.not_eq_true] at hy
        rw [hy] at z
        by_cases hc : (k1 == NameKind.free && env.scope.kind == .function && env.kindOf n == some .cell) = true
        · simp only [hc, if_true]
          rw [List.lookup_cons, hy]
          exact ih z
        · simp only [hc, Bool.false_eq_true, if_false]
          rw [List.lookup_cons, hy]
          exact ih z
  exact go sc.names h

/-! ### the block's context -/
abbrev cxComp (X : Cx) (N : List Str) (sc : Scope) (cl : List (Str × Addr)) (C : Addr) (s : Shared) (H : Hp) (ex : List Addr) (pn : List (Addr × Obj)) : Cx :=
  { prog := X.prog, w := X.w, K := X.K, mg := X.mg, base := X.base, A := X.A, N := N, s₀ := s, H₀ := H, env := compEnvC sc cl C X.env, outer := X.stack, stack := X.stack, ex := ex, fn := fun _ => false, calm := X.calm, pn := pn, xe := fun _ _ => False }
/-- a block's tests -/
def PTs (X : Cx) (ifs : List Expr) (t : TT) : Prop :=
  ∀ (pins : List (Addr × Obj)) (s : Shared) (σ : St) (H : Hp) (Q : Bool → Hp → Prop), Inv X pins σ H s → t σ H Q → wpAny (model X.prog X.w) X.A (tstSem ifs X.env) (TP X pins σ Q) X.xe s
def tTrue : TT := fun _ H Q => Q true H
theorem ttT {σ : St} {H : Hp} {A B : Hp → Prop} (h : A H) : tTrue σ H (fun b H4 => if b = true then A H4 else B H4) := by
  show if true = true then A H else B H
  rw [if_pos rfl]
  exact h
theorem pts_nil {X : Cx} : PTs X [] tTrue := fun _ _ _ H _ I h => wpAny_tests_nil ⟨H, I, h⟩
/-- what the block sees of the names around it -/
def capV (σ : St) (caps : List Nat) : St := caps.map fun i => (σ[i]?).getD none
def CompW (J : It) (p : Addr) (tt : TT) (te : TE) (cs : St) (Q : VK) (H1 : Hp) : Prop := ∃ W : Nat → Nat → List V → Hp → Prop, (∃ m, W 0 m [] (upd H1 p (.lst []))) ∧ ∀ i m ys H2, W i m ys H2 →
  (J.stop i H2 ∧ Q (.ref p) H2) ∨ (J.go i H2 ∧ ∃ N : List V → Hp → Prop, (∀ ys' H', N ys' H' → ∃ m', m' < m ∧ W (i + 1) m' ys' H') ∧
    ∀ v H3, J.yld i H2 v H3 → tt (some v :: cs) H3 fun b H4 => if b = true then te (some v :: cs) H4 fun y H5 => H5 p = some (.lst ys) ∧ ys.length < sizeLine ∧ N (ys ++ [y]) (upd H5 p (.lst (ys ++ [y]))) else N ys H4)
def tCompC (CW : It → Addr → St → VK → Hp → Prop) (wi : TI) (caps : List Nat) : TE := fun σ H Q => wi σ H fun J H1 => ∀ p, H1 p = none → CW J p (capV σ caps) Q H1
def tComp (wi : TI) (tt : TT) (te : TE) (caps : List Nat) : TE := fun σ H Q => wi σ H fun J H1 => ∀ p, H1 p = none → CompW J p tt te (capV σ caps) Q H1

/-- a block over n items, by its word: turn, what is made so far, heap -/
theorem comp_by {J : It} {p : Addr} {tt : TT} {te : TE} {cs : St} {Q : VK} {H1 : Hp} (n : Nat) (Pv : Nat → List V → Hp → Prop) (h0 : Pv 0 [] (upd H1 p (.lst [])))
    (hs : ∀ i ys H, i < n → Pv i ys H → J.go i H ∧ ∀ v H3, J.yld i H v H3 → tt (some v :: cs) H3 fun b H4 => if b = true then te (some v :: cs) H4 fun y H5 => H5 p = some (.lst ys) ∧ ys.length < sizeLine ∧ Pv (i + 1) (ys ++ [y]) (upd H5 p (.lst (ys ++ [y]))) else Pv (i + 1) ys H4)
    (hd : ∀ ys H, Pv n ys H → J.stop n H ∧ Q (.ref p) H) : CompW J p tt te cs Q H1 := by
  refine ⟨fun i m ys H => m = n - i ∧ i ≤ n ∧ Pv i ys H, ⟨n, by simp, Nat.zero_le _, h0⟩, ?_⟩
  rintro i m ys H ⟨rfl, hi, pv⟩
  by_cases hlt : i < n
  · obtain ⟨g, st⟩ := hs i ys H hlt pv
    exact .inr ⟨g, Pv (i + 1), fun ys' H' p' => ⟨n - (i + 1), by omega, rfl, hlt, p'⟩, st⟩
  · have e : i = n := by omega
    subst e
    exact .inl (hd ys H pv)

/-! ### over a text's signs -/
def Its (z : Str) : It := ⟨fun i _ => i < z.length, fun i H x H' => H' = H ∧ ∃ c, z.cps[i]? = some c ∧ x = .str ⟨#[c]⟩, fun i _ => z.length ≤ i⟩
theorem turn_ascii {P : Program} {w : World} {K : PySem.W.Frag} {tg : Expr} (z : Str) (t : Tok) (it : Addr) : Turn P w K tg (Its z) [it] it (fun i h => h.IsStrIter it "str_ascii_iterator" z t i) where
  mem := by simp
  obj := fun i h st b hb => by
    have e : b = it := by simpa using hb
    subst e
    obtain ⟨o, e, c, d⟩ := st
    exact ⟨o, e, fun v z => by rw [d] at z; cases z⟩
  keep := fun i h h' st k => by
    obtain ⟨o, e, r⟩ := st
    exact ⟨o, k it (by simp) o e, r⟩
  item := by
    intro X hP hw hK s hc i pins σ H E I hf st hg
    subst hP hw hK
    obtain ⟨f0, f1, f2, f3, f4, f5⟩ := hf it (by simp)
    have hi : i < z.cps.size := hg
    refine wpAny_pyNext_ascii_item st (c := z.cps[i]) (by simp [hi]) fun h' st' sb => ?_
    have I1 : Inv X pins σ H { s with heap := h', toks := s.toks + 1 } := I.turned (fun b o hb e => (sb.2 b hb).trans e) f0 f1 f3 f4 f5
    obtain ⟨o, e, c, d⟩ := id st'
    exact ⟨_, rfl, go_of (s := { s with heap := h', toks := s.toks + 1 }) e c d (by decide) ⟨.str ⟨#[z.cps[i]]⟩, H, I1, ⟨_, rfl⟩, ⟨rfl, _, by simp [hi], rfl⟩, st', fun b hb => (hf b hb).1⟩⟩
  done := by
    intro X hP hw hK s hc i pins σ H E I hf st hg
    subst hP hw hK
    obtain ⟨f0, f1, f2, f3, f4, f5⟩ := hf it (by simp)
    have hi : z.cps.size ≤ i := hg
    exact wpAny_pyNext_ascii_end hc.none st (by simp [hi]) fun h' eb => ⟨rfl, I.turned (t' := s.toks) (fun b o hb e => eb b o hb e) f0 f1 f3 f4 f5⟩
  self := fun _ _ _ _ _ st h => wpAny_pyIter_striter_ascii st h
theorem turn_wide {P : Program} {w : World} {K : PySem.W.Frag} {tg : Expr} (z : Str) (t : Tok) (it : Addr) : Turn P w K tg (Its z) [it] it (fun i h => h.IsStrIter it "str_iterator" z t i) where
  mem := by simp
  obj := fun i h st b hb => by
    have e : b = it := by simpa using hb
    subst e
    obtain ⟨o, e, c, d⟩ := st
    exact ⟨o, e, fun v z => by rw [d] at z; cases z⟩
  keep := fun i h h' st k => by
    obtain ⟨o, e, r⟩ := st
    exact ⟨o, k it (by simp) o e, r⟩
  item := by
    intro X hP hw hK s hc i pins σ H E I hf st hg
    subst hP hw hK
    obtain ⟨f0, f1, f2, f3, f4, f5⟩ := hf it (by simp)
    have hi : i < z.cps.size := hg
    refine wpAny_pyNext_wide_item st (c := z.cps[i]) (by simp [hi]) fun h' st' sb => ?_
    have I1 : Inv X pins σ H { s with heap := h', toks := s.toks + 1 } := I.turned (fun b o hb e => (sb.2 b hb).trans e) f0 f1 f3 f4 f5
    obtain ⟨o, e, c, d⟩ := id st'
    exact ⟨_, rfl, go_of (s := { s with heap := h', toks := s.toks + 1 }) e c d (by decide) ⟨.str ⟨#[z.cps[i]]⟩, H, I1, ⟨_, rfl⟩, ⟨rfl, _, by simp [hi], rfl⟩, st', fun b hb => (hf b hb).1⟩⟩
  done := by
    intro X hP hw hK s hc i pins σ H E I hf st hg
    subst hP hw hK
    obtain ⟨f0, f1, f2, f3, f4, f5⟩ := hf it (by simp)
    have hi : z.cps.size ≤ i := hg
    exact wpAny_pyNext_wide_end hc.none st (by simp [hi]) fun h' eb => ⟨rfl, I.turned (t' := s.toks) (fun b o hb e => eb b o hb e) f0 f1 f3 f4 f5⟩
  self := fun _ _ _ _ _ st h => wpAny_pyIter_striter_wide st h
def iStr (tl : TE) : TI := fun σ H R => tl σ H fun x H1 => ∃ z, x = .str z ∧ R (Its z) H1
theorem pi_str {X : Cx} {tg l : Expr} {tl : TE} (hl : PE X l tl) : PI X tg l (iStr tl) := by
  intro pins s σ H R I h
  refine thn (hl pins s σ H _ I h) fun v s1 ⟨x, H1, I1, r1, q1⟩ => ?_
  obtain ⟨z, e, q⟩ := q1
  subst e
  obtain ⟨t, rfl⟩ := r1
  have hf : H1 s1.heap.objs.size = none := I1.hok.fresh (Nat.le_refl _)
  cases ha : z.cps.all (· < 128)
  · refine wpAny_pyIter_wide ha ?_
    exact ⟨s1.heap.objs.size, [s1.heap.objs.size], _, Its z, H1, rfl, I1.kept (t' := s1.toks) fun b u e => Heap.get?_push_of_some _ e, turn_wide z t _, ⟨_, Heap.get?_push_size _ rfl, rfl, rfl⟩, fun b hb => by
      have e : b = s1.heap.objs.size := by simpa using hb
      subst e
      exact I1.fpOk (Nat.le_refl _) hf, q⟩
  · refine wpAny_pyIter_ascii ha ?_
    exact ⟨s1.heap.objs.size, [s1.heap.objs.size], _, Its z, H1, rfl, I1.kept (t' := s1.toks) fun b u e => Heap.get?_push_of_some _ e, turn_ascii z t _, ⟨_, Heap.get?_push_size _ rfl, rfl, rfl⟩, fun b hb => by
      have e : b = s1.heap.objs.size := by simpa using hb
      subst e
      exact I1.fpOk (Nat.le_refl _) hf, q⟩

/-! ### isinstance -/
section
variable {X : Cx}
theorem call_isinst : CallR X (.builtin "isinstance") (fun vs H Q => ∃ x T t b, vs = [x, .ty T] ∧ TyOf X.K H x t ∧ PySem.W.kitOne X.K t (.type T) = some b ∧ Q (.bl b) H) := by
  intro pins s σ H xs us Q I r h
  obtain ⟨x, T, t, b, rfl, ty, e, q⟩ := h
  obtain ⟨u, v, rfl, rx, rv⟩ := r.two
  cases (show v = Value.type T from rv)
  exact isinst_ok I rx ty e fun tk => ⟨.bl b, H, I.tok tk, rfl, q⟩

/-! ### texts -/
theorem strsAre_of {ys : List Str} : ∀ {us : List Value}, Vals (ys.map V.str) us → StrsAre us ys := by
  induction ys with
  | nil => intro us r; rw [List.map_nil] at r; cases r; exact .nil
  | cons y ys ih =>
    intro us r
    rw [List.map_cons] at r
    cases r with
    | cons r1 r2 =>
      obtain ⟨t, e⟩ := r1
      subst e
      exact .cons y t (ih r2)
def rJoin (K : PySem.W.Frag) : V → List V → Hp → VK → Prop := fun x xs H Q => ∃ z p ys, x = .str z ∧ xs = [.ref p] ∧ SqL K H p (ys.map V.str) ∧ (ys.map (·.length)).sum + ys.length * z.length ≤ 16777216 ∧ Q (.str (Txt.join z ys)) H
theorem mt_join : MtR X "str.join" (rJoin X.K) := by
  intro pins s σ H x xs v us Q I rx rs h
  obtain ⟨z, p, ys, rfl, rfl, hq, hz, q⟩ := h
  obtain ⟨t, rfl⟩ := rx
  obtain ⟨u, rfl, ru⟩ := rs.one
  cases ru
  obtain ⟨its, r, pl, _⟩ := I.list hq
  exact join_list pl.isList (strsAre_of (by simpa using r)) hz fun t' k => ⟨.str _, H, I.tok k, ⟨_, rfl⟩, q⟩
def rSlS : V → Option Int → Option Int → Hp → VK → Prop := fun x lo hi H Q => ∃ z, x = .str z ∧ z.length ≤ sizeLine ∧ Q (.str (Txt.slice z lo hi)) H
theorem sl_str : SlR X rSlS := by
  intro pins s σ H x v vl vu lo hi sl Q I rx hs pl pu h
  obtain ⟨z, rfl, hz, q⟩ := h
  obtain ⟨t, rfl⟩ := rx
  refine ⟨"str", _, PySem.F.slot_str_getitem.lookup, typeIs_str _ _ _, ?_⟩
  obtain ⟨o, ho, hc, hd⟩ := hs
  have fin : ∀ {l u : Option Int}, (∀ t' k, EP X pins σ Q (.str (Txt.slice z l u) t') { s with toks := k }) → ∀ t' k, EP X pins σ Q (.str (Txt.slice z l u) t') { s with toks := k } := fun h => h
  cases pl with
  | none =>
    cases pu with
    | none => exact wpAny_getItem_str_slice (l := none) (u := none) (st := none) ⟨o, ho, hc, hd⟩ rfl (post_val_or_str ⟨Nat.le_trans (Txt.slice_le z _ _) hz, fun t' k => ⟨.str _, H, I.tok k, ⟨_, rfl⟩, q⟩⟩)
    | int j uj => exact wpAny_getItem_str_slice (l := none) (u := some (j, uj)) (st := none) ⟨o, ho, hc, hd⟩ rfl (post_val_or_str ⟨Nat.le_trans (Txt.slice_le z _ _) hz, fun t' k => ⟨.str _, H, I.tok k, ⟨_, rfl⟩, q⟩⟩)
  | int i ui =>
    cases pu with
    | none => exact wpAny_getItem_str_slice (l := some (i, ui)) (u := none) (st := none) ⟨o, ho, hc, hd⟩ rfl (post_val_or_str ⟨Nat.le_trans (Txt.slice_le z _ _) hz, fun t' k => ⟨.str _, H, I.tok k, ⟨_, rfl⟩, q⟩⟩)
    | int j uj => exact wpAny_getItem_str_slice (l := some (i, ui)) (u := some (j, uj)) (st := none) ⟨o, ho, hc, hd⟩ rfl (post_val_or_str ⟨Nat.le_trans (Txt.slice_le z _ _) hz, fun t' k => ⟨.str _, H, I.tok k, ⟨_, rfl⟩, q⟩⟩)

/-! ### lists compared, flat items -/
def eqVs : List V → List V → Bool
  | [], [] => true
  | x :: xs, y :: ys => eqV x y && eqVs xs ys
  | _, _ => false
theorem eqVs_len : ∀ {xs ys : List V}, xs.length ≠ ys.length → eqVs xs ys = false
  | [], [], h => absurd rfl h
  | [], _ :: _, _ => rfl
  | _ :: _, [], _ => rfl
  | x :: xs, y :: ys, h => by
    have h' : xs.length ≠ ys.length := fun e => h (by rw [List.length_cons, List.length_cons, e])
    show (eqV x y && eqVs xs ys) = false
    rw [eqVs_len h', Bool.and_false]
def eqAtN (xs ys : List V) (j : Nat) : Bool := match xs[j]?, ys[j]? with
  | some a, some b => eqV a b
  | _, _ => false
theorem all_eqAtN : ∀ {xs ys : List V}, xs.length = ys.length → (List.range xs.length).all (eqAtN xs ys) = eqVs xs ys
  | [], [], _ => rfl
  | [], _ :: _, h => by simp at h
  | _ :: _, [], h => by simp at h
  | x :: xs, y :: ys, h => by
    have h' : xs.length = ys.length := by simpa using h
    rw [List.length_cons, List.range_succ_eq_map, List.all_cons, List.all_map]
    have e : ((eqAtN (x :: xs) (y :: ys)) ∘ Nat.succ) = eqAtN xs ys := by
      funext j
      simp [eqAtN]
    rw [e, all_eqAtN h']
    rfl
theorem items_eqAt {A : Around} {s : Shared} {xs ys : List V} {us vs : List Value} (r : Vals xs us) (q : Vals ys vs) (fx : xs.all flatV = true) (fy : ys.all flatV = true) (j : Nat) (h1 : j < us.toArray.size) (h2 : j < vs.toArray.size) :
    SeqAt.EqAt A s us.toArray[j] vs.toArray[j] (eqAtN xs ys j) := by
  have l1 := r.length
  have l2 := q.length
  have h1' : j < xs.length := by rw [l1]; simpa using h1
  have h2' : j < ys.length := by rw [l2]; simpa using h2
  obtain ⟨u, eu, ru⟩ := r.get (i := j) (x := xs[j]) (by simp [h1'])
  obtain ⟨v, ev, rv⟩ := q.get (i := j) (x := ys[j]) (by simp [h2'])
  have e1 : us.toArray[j] = u := by
    obtain ⟨_, e⟩ := List.getElem?_eq_some_iff.mp eu
    simpa using e
  have e2 : vs.toArray[j] = v := by
    obtain ⟨_, e⟩ := List.getElem?_eq_some_iff.mp ev
    simpa using e
  have e3 : eqAtN xs ys j = eqV xs[j] ys[j] := by simp [eqAtN, h1', h2']
  rw [e1, e2, e3]
  exact eqAt_V ru rv (List.all_eq_true.mp fx _ (List.getElem_mem h1')) (List.all_eq_true.mp fy _ (List.getElem_mem h2'))
def rEqL (K : PySem.W.Frag) (neg : Bool) : R2 := fun x y H Q => ∃ a b xs ys, x = .ref a ∧ y = .ref b ∧ SqL K H a xs ∧ SqL K H b ys ∧ xs.all flatV = true ∧ ys.all flatV = true ∧ Q (.bl (if neg then !eqVs xs ys else eqVs xs ys)) H
theorem op_eqL (hu : X.A.units < cLine) : OpR X (compareOp .Eq) (rEqL X.K false) := by
  intro pins s σ H x y v u Q I rx ry h
  obtain ⟨a, b, xs, ys, rfl, rfl, ha, hb, fx, fy, q⟩ := h
  cases rx
  cases ry
  obtain ⟨its, r1, p1, _⟩ := I.list ha
  obtain ⟨its2, r2, p2, _⟩ := I.list hb
  have l1 := r1.length
  have l2 := r2.length
  by_cases hl : xs.length = ys.length
  · refine SeqAt.eq_listAt (e := eqAtN xs ys) p1.isList p2.isList (by simp; omega) hu (fun j h1 h2 => items_eqAt r1 r2 fx fy j h1 h2) ⟨.bl _, H, I, rfl, ?_⟩
    rw [List.size_toArray, ← l1, all_eqAtN hl]
    exact q
  · refine SeqAt.eq_list_lengthsAt p1.isList p2.isList (by simp; omega) hu ⟨.bl false, H, I, rfl, ?_⟩
    have e := eqVs_len hl
    simp only [e] at q
    exact q
theorem op_neL (hu : X.A.units < cLine) : OpR X (compareOp .NotEq) (rEqL X.K true) := by
  intro pins s σ H x y v u Q I rx ry h
  obtain ⟨a, b, xs, ys, rfl, rfl, ha, hb, fx, fy, q⟩ := h
  cases rx
  cases ry
  obtain ⟨its, r1, p1, _⟩ := I.list ha
  obtain ⟨its2, r2, p2, _⟩ := I.list hb
  have l1 := r1.length
  have l2 := r2.length
  by_cases hl : xs.length = ys.length
  · refine SeqAt.RcNeAt.lists (e := eqAtN xs ys) p1.isList p2.isList (by simp; omega) hu (fun j h1 h2 => items_eqAt r1 r2 fx fy j h1 h2) _ _ _ _ ⟨.bl _, H, I, rfl, ?_⟩
    rw [List.size_toArray, ← l1, all_eqAtN hl]
    exact q
  · refine SeqAt.RcNeAt.lists_lengths p1.isList p2.isList (by simp; omega) hu _ _ _ _ ⟨.bl true, H, I, rfl, ?_⟩
    have e := eqVs_len hl
    simp only [e] at q
    exact q

/-! ### sum of a list of ints -/
/-! ### // by any written positive number -/
/-! ### tuples put together: whichever is empty -/
end
end L2
namespace L2
open PySem PySem.Spec PyProof.Rows

/-! ### an exception of an own class: its object, its traceback -/
/-- e is an instance of the exception class at C, its dict at dd, its traceback tb -/
def ExAt (h : Heap) (e C : Addr) (dd : Option Addr) (tb : Value) : Prop := ∃ vs sl, h.get? e = some ⟨.ref C, dd, .fields vs, sl⟩ ∧ vs.size = 6 ∧ vs[1]? = some tb ∧ vs[2]? = some .none
/-- the traceback's first entry: in flight at fl -/
def TbAt (h : Heap) (T : Addr) (fl : Value) : Prop := ∃ oT ts, h.get? T = some oT ∧ oT.data = .fields ts ∧ ts[3]? = some fl
theorem ExAt.lt {h : Heap} {e C : Addr} {dd : Option Addr} {tb : Value} (x : ExAt h e C dd tb) : e < h.objs.size := by obtain ⟨_, _, q, _⟩ := x; exact Heap.lt_size q
theorem ExAt.keep {h h' : Heap} {e C : Addr} {dd : Option Addr} {tb : Value} (x : ExAt h e C dd tb) (k : ∀ o, h.get? e = some o → h'.get? e = some o) : ExAt h' e C dd tb := by
  obtain ⟨vs, sl, q, r⟩ := x; exact ⟨vs, sl, k _ q, r⟩
section
variable {M : Model} {A : Around} {E : Value → Shared → Prop} {s : Shared}
/-- a field of the exception is put -/
theorem ExAt.put {h : Heap} {e C : Addr} {dd : Option Addr} {tb : Value} (x : ExAt h e C dd tb) (v : Value) : ExAt (h.update e (Obj.mapFields (·.setIfInBounds 1 v))) e C dd v := by
  obtain ⟨vs, sl, q, z, r, r2⟩ := x
  refine ⟨vs.setIfInBounds 1 v, sl, ?_, by simpa using z, by simp [z], by rw [Array.getElem?_setIfInBounds_ne (by decide)]; exact r2⟩
  rw [Heap.get?_update_self _ q rfl]
  rfl
theorem TbAt.put {h : Heap} {T : Addr} {fl : Value} (x : TbAt h T fl) (v : Value) : TbAt (h.update T (Obj.mapFields (·.setIfInBounds 3 v))) T v := by
  obtain ⟨oT, ts, q, d, r⟩ := x
  have hz := (Array.getElem?_eq_some_iff.mp r).1
  have d' := Obj.data_mapFields d (·.setIfInBounds 3 v)
  exact ⟨_, _, Heap.get?_update_self _ q (Obj.isFreed_of_fields d'), d', by simp [hz]⟩
theorem setFlight_to {e C T : Addr} {dd : Option Addr} {fl : Value} {fr : Option Addr} {Q : Unit → Shared → Prop} (x : ExAt s.heap e C dd (.ref T)) (t : TbAt s.heap T fl)
    (h : Q () { s with heap := s.heap.update T (Obj.mapFields (·.setIfInBounds 3 (fr.elim .none fun f => rawInt f))) }) : wpAny M A (setFlight (.ref e) fr) Q E s := by
  obtain ⟨vs, sl, q, z, r, _⟩ := x
  obtain ⟨oT, ts, qT, dT, rT⟩ := t
  unfold setFlight
  refine wpAny_bind (wpAny_field q rfl r ?_)
  rw [if_pos (show (Value.ref T != Value.none) = true from by simp)]
  exact wpAny_setField qT dT (Array.getElem?_eq_some_iff.mp rT).1 h
theorem setFlight_ok {e C T : Addr} {dd : Option Addr} {fl : Value} {Q : Unit → Shared → Prop} (x : ExAt s.heap e C dd (.ref T)) (t : TbAt s.heap T fl)
    (h : Q () { s with heap := s.heap.update T (Obj.mapFields (·.setIfInBounds 3 .none)) }) : wpAny M A (setFlight (.ref e) none) Q E s := setFlight_to (fr := none) x t h
/-- what noteFrame and the landing behind it leave: all but e, the old entry and the frames' slots is kept; a new entry stands, nothing in flight -/
structure Noted (l : List Env) (e C : Addr) (dd : Option Addr) (tb0 fl : Value) (h h' : Heap) (T : Addr) : Prop where
  ex : ExAt h' e C dd (.ref T)
  tb : TbAt h' T fl
  new : tb0 = .ref T ∨ h.objs.size ≤ T
  keep : ∀ b o, b ≠ e → (∀ T0, tb0 = .ref T0 → b ≠ T0) → b ∉ frs l → h.get? b = some o → h'.get? b = some o
  slot : ∀ b o, b ≠ e → (∀ T0, tb0 = .ref T0 → b ≠ T0) → h.get? b = some o → ∃ sl, h'.get? b = some { o with slots := sl }
theorem new_entry {base : Heap} {env : Env} {outer : List Env} {L e C : Addr} {dd : Option Addr} {head tb : Value} {hadNext : Bool} {Q : Unit → Shared → Prop} (hfr : A.frames = some (env :: outer)) (hl : s.heap.FunFrames base (env :: outer))
    (hf : env.frame = some L) (x : ExAt s.heap e C dd tb)
    (h : ∀ h' T, ExAt h' e C dd (.ref T) → TbAt h' T (rawInt L) → s.heap.objs.size ≤ T → (∀ b o, b ≠ e → b ∉ frs (env :: outer) → s.heap.get? b = some o → h'.get? b = some o) →
      (∀ b o, b ≠ e → s.heap.get? b = some o → ∃ sl, h'.get? b = some { o with slots := sl }) → Q () { s with heap := h' }) :
    wpAny M A (do let a ← frameOf env; let pl ← entryPlaceOf L hadNext; let b ← EntryCells.newEntry head a .none (rawInt L) .none pl; setField (.ref e) 1 b) Q E s := by
  have hene : e ∉ (env :: outer).filterMap (·.frame) := fun hm => by
    obtain ⟨vs, sl, q, _⟩ := x
    obtain ⟨_, o, ho, hnf⟩ := hl.mem hm
    rw [q] at ho
    cases ho
    exact hnf vs rfl
  refine wpAny_bind (wpAny_frameOf_fun hfr hl hf fun h1 s1 => ?_)
  refine wpAny_bind (wpAny_entryPlaceOf fun pl hpl => ?_)
  unfold EntryCells.newEntry newFields
  refine wpAny_bind (wpAny_newObj_type ?_ (hpl.sizeOk5 _ _ _ _ _))
  have x1 : ExAt h1 e C dd tb := x.keep fun o q => (s1.2.1 e hene).trans q
  have hsz : h1.objs.size = s.heap.objs.size := s1.1
  obtain ⟨vs, sl, q, z, r, _⟩ := id x1
  have q2 := Heap.get?_push_of_some (h := h1) { cls := .type "traceback", dict := none, data := .fields ([head, .ref L, .none, rawInt L, .none] ++ (if pl.isEmpty then List.replicate 6 Value.none else pl)).toArray } q
  refine wpAny_setField q2 rfl (by rw [z]; decide) ?_
  have hTe : h1.objs.size ≠ e := Nat.ne_of_gt x1.lt
  have x2 : ExAt (h1.push { cls := .type "traceback", dict := none, data := .fields ([head, .ref L, .none, rawInt L, .none] ++ (if pl.isEmpty then List.replicate 6 Value.none else pl)).toArray }) e C dd tb := x1.keep fun o e => Heap.get?_push_of_some _ e
  have kp : ∀ b o, b ≠ e → h1.get? b = some o → ((h1.push { cls := .type "traceback", dict := none, data := .fields ([head, .ref L, .none, rawInt L, .none] ++ (if pl.isEmpty then List.replicate 6 Value.none else pl)).toArray }).update e (Obj.mapFields (·.setIfInBounds 1 (Value.ref h1.objs.size)))).get? b = some o := fun b o hb hq => by
    rw [Heap.get?_update_other _ _ (Ne.symm hb)]
    exact Heap.get?_push_of_some _ hq
  refine h _ h1.objs.size (x2.put _) ⟨_, _, (Heap.get?_update_other _ _ (Ne.symm hTe)).trans (Heap.get?_push_size h1 rfl), rfl, ?_⟩ (by rw [hsz]; exact Nat.le_refl _) (fun b o hb hn hq => kp b o hb ((s1.2.1 b hn).trans hq)) (fun b o hb hq => ?_)
  · simp
  · obtain ⟨sl', hs⟩ := s1.2.2 b o hq
    exact ⟨sl', kp b _ hb hs⟩
/-- noteFrame: behind a first raise, behind a callee's, or again in this frame -/
theorem note_ok {base : Heap} {env : Env} {outer : List Env} {L e C : Addr} {dd : Option Addr} {tb : Value} {Q : Unit → Shared → Prop} (hfr : A.frames = some (env :: outer)) (hl : s.heap.FunFrames base (env :: outer))
    (hf : env.frame = some L) (x : ExAt s.heap e C dd tb) (ht : tb = .none ∨ ∃ T0, tb = .ref T0 ∧ T0 ≠ e ∧ (TbAt s.heap T0 .none ∨ TbAt s.heap T0 (rawInt L)))
    (h : ∀ h' T, T ≠ e → Noted (env :: outer) e C dd tb (rawInt L) s.heap h' T → Q () { s with heap := h' }) :
    wpAny M A (noteFrame (.ref e) env) Q E s := by
  have fin : ∀ {h1 h2 : Heap} {T : Addr}, h1.objs.size = s.heap.objs.size → (∀ b o, b ≠ e → (∀ T0, tb = .ref T0 → b ≠ T0) → s.heap.get? b = some o → h1.get? b = some o) →
      ExAt h2 e C dd (.ref T) → TbAt h2 T (rawInt L) → h1.objs.size ≤ T → (∀ b o, b ≠ e → b ∉ frs (env :: outer) → h1.get? b = some o → h2.get? b = some o) →
      (∀ b o, b ≠ e → h1.get? b = some o → ∃ sl, h2.get? b = some { o with slots := sl }) → Q () { s with heap := h2 } := by
    intro h1 h2 T hsz k1 x2 t2 hT k2 s2
    exact h _ T (Nat.ne_of_gt (Nat.lt_of_lt_of_le x.lt (by rw [← hsz]; exact hT))) ⟨x2, t2, .inr (by rw [← hsz]; exact hT), fun b o hb hb0 hn q => k2 b o hb hn (k1 b o hb hb0 q), fun b o hb hb0 q => s2 b o hb (k1 b o hb hb0 q)⟩
  unfold noteFrame
  simp only [hf]
  obtain ⟨vs, sl, q, z, r, _⟩ := id x
  refine wpAny_bind (wpAny_field q rfl r ?_)
  rcases ht with rfl | ⟨T0, rfl, hne, t0 | t0⟩
  · rw [if_neg (by decide)]
    exact new_entry hfr hl hf x fun h' T x' t' hT k' s' => fin rfl (fun b o _ _ q => q) x' t' hT k' s'
  · rw [if_pos (show (Value.ref T0 != Value.none) = true from by simp)]
    obtain ⟨oT, ts, qT, dT, rT⟩ := id t0
    refine wpAny_bind (wpAny_field qT dT rT ?_)
    rw [if_neg (show ¬ ((Value.none == rawInt L) = true) from by simp [rawInt])]
    refine wpAny_bind (wpAny_setField qT dT (Array.getElem?_eq_some_iff.mp rT).1 ?_)
    have oth : ∀ b, b ≠ T0 → (s.heap.update T0 (Obj.mapFields (·.setIfInBounds 3 Value.none))).get? b = s.heap.get? b := fun b hb => Heap.get?_update_other _ _ (Ne.symm hb)
    have x1 : ExAt (s.heap.update T0 (Obj.mapFields (·.setIfInBounds 3 Value.none))) e C dd (.ref T0) := x.keep fun o q => (oth e (Ne.symm hne)).trans q
    have hl1 : (s.heap.update T0 (Obj.mapFields (·.setIfInBounds 3 Value.none))).FunFrames base (env :: outer) := hl.of_keeps fun b o hb hnf => ⟨o, (oth b (fun z => by
      rw [z, qT] at hb
      cases hb
      exact hnf ts dT)).trans hb, rfl⟩
    have hsz : (s.heap.update T0 (Obj.mapFields (·.setIfInBounds 3 Value.none))).objs.size = s.heap.objs.size := by simp [Heap.update]
    exact new_entry (s := { s with heap := s.heap.update T0 (Obj.mapFields (·.setIfInBounds 3 Value.none)) }) hfr hl1 hf x1 fun h' T x' t' hT k' s' => fin hsz (fun b o _ hb0 q => (oth b (hb0 T0 rfl)).trans q) x' t' hT k' s'
  · rw [if_pos (show (Value.ref T0 != Value.none) = true from by simp)]
    obtain ⟨oT, ts, qT, dT, rT⟩ := id t0
    refine wpAny_bind (wpAny_field qT dT rT ?_)
    rw [if_pos (show (rawInt L == rawInt L) = true from by simp)]
    exact wpAny_pure (h s.heap T0 hne ⟨x, t0, .inl rfl, fun b o _ _ _ q => q, fun b o _ _ q => ⟨o.slots, q⟩⟩)
/-- the flight of the head entry is put -/
theorem Noted.fly {l : List Env} {e C : Addr} {dd : Option Addr} {tb0 fl v : Value} {h h' : Heap} {T : Addr} (N : Noted l e C dd tb0 fl h h' T) (hne : T ≠ e) : Noted l e C dd tb0 v h (h'.update T (Obj.mapFields (·.setIfInBounds 3 v))) T := by
  have low : ∀ b o, (∀ T0, tb0 = .ref T0 → b ≠ T0) → h.get? b = some o → T ≠ b := fun b o hb q => by
    rcases N.new with z | z
    · exact (hb T z).symm
    · exact Nat.ne_of_gt (Nat.lt_of_lt_of_le (Heap.lt_size q) z)
  refine ⟨N.ex.keep fun o q => (Heap.get?_update_other _ _ hne).trans q, N.tb.put v, N.new, fun b o hb hb0 hn q => ?_, fun b o hb hb0 q => ?_⟩
  · exact (Heap.get?_update_other _ _ (low b o hb0 q)).trans (N.keep b o hb hb0 hn q)
  · obtain ⟨sl, q2⟩ := N.slot b o hb hb0 q
    exact ⟨sl, (Heap.get?_update_other _ _ (low b o hb0 q)).trans q2⟩
/-- noteFrame, then nothing in flight -/
theorem noted_ok {base : Heap} {env : Env} {outer : List Env} {L e C : Addr} {dd : Option Addr} {tb : Value} {Q : Unit → Shared → Prop} (hfr : A.frames = some (env :: outer)) (hl : s.heap.FunFrames base (env :: outer))
    (hf : env.frame = some L) (x : ExAt s.heap e C dd tb) (ht : tb = .none ∨ ∃ T0, tb = .ref T0 ∧ T0 ≠ e ∧ (TbAt s.heap T0 .none ∨ TbAt s.heap T0 (rawInt L)))
    (h : ∀ h' T, Noted (env :: outer) e C dd tb .none s.heap h' T → Q () { s with heap := h' }) :
    wpAny M A (noteFrame (.ref e) env) (fun _ s2 => wpAny M A (setFlight (.ref e) none) Q E s2) E s :=
  note_ok hfr hl hf x ht fun h' T hne N => setFlight_ok (s := { s with heap := h' }) N.ex N.tb (h _ T (N.fly hne))
end
end L2
namespace L2
open PySem PySem.Spec PyProof.Rows PySem.W PySem.Builtin PySem.Builtin.ObjectAttr

/-! ### a field of an exception of an own class is stored, read -/
def tailVE : List Value := [.type "ValueError", .type "Exception", .type "BaseException", .type "object"]
/-- own classes, then ValueError's line -/
inductive ExcMro : List Value → Prop where
  | ve : ExcMro tailVE
  | own {l : List Value} (c : Addr) (h : ExcMro l) : ExcMro (.ref c :: l)
theorem refuse_tail (self : Value) : refuseLoop self "__setattr__" tailVE = pure () := by kernel_rfl
theorem ExcMro.passes {l : List Value} (h : ExcMro l) (self : Value) : refuseLoop self "__setattr__" l = pure () := by
  induction h with
  | ve => exact refuse_tail self
  | own c _ ih => rw [refuseLoop_ref]; exact ih
theorem ExcMro.has {l : List Value} (h : ExcMro l) : l.contains (.type "object") = true ∧ l.contains (.type "BaseException") = true ∧ l.contains (.type "ValueError") = true ∧ l.isEmpty = false := by
  induction h with
  | ve => decide +kernel
  | own c _ ih =>
    obtain ⟨i1, i2, i3, _⟩ := ih
    exact ⟨by rw [List.contains_cons, i1, Bool.or_true], by rw [List.contains_cons, i2, Bool.or_true], by rw [List.contains_cons, i3, Bool.or_true], rfl⟩
/-- what of the text an exception class must have -/
structure XCls (K : Frag) (C : Addr) : Prop where
  cd : ∃ cd, clsIn K C = some cd ∧ ExcMro cd.mro ∧ cd.hasDict = true
  sa : findIn K (.ref C) "__setattr__" = some (some (.builtin "object.__setattr__"))
  ga : findIn K (.ref C) "__getattribute__" = some (some (.builtin "BaseException.__getattribute__"))
  gt : findIn K (.ref C) "__getattr__" = some none
  ca : findIn K (.ref C) "__class__" = some (some (.builtin "object.__class__"))
  hn : specialIn K (.builtin "object.__class__") "__get__" = some (some (.builtin "getset_descriptor.__get__"))
  tk : takesIn K (.builtin "object.__class__") = some true

section
variable {prog : Program} {w : World} {A : Around} {E : Value → Shared → Prop} {s : Shared} {K : Frag} {x C : Addr} {ox : Obj} {od : Option Obj} {R : Result → Shared → Prop}
theorem XCls.obj (c : XCls K C) (X : K.In s.heap) (I : InstAt s.heap x ox C od) (T : String) (hT : T = "object" ∨ T = "BaseException") : Looks (model prog w) s.heap (isInstance (.ref x) (.type T)) true := by
  obtain ⟨cd, hc, hm, _⟩ := c.cd
  obtain ⟨h1, h2, _, h4⟩ := hm.has
  refine I.type.andThen (looks_mroIn X ?_)
  unfold mroIn
  rw [hc, Option.bind_some, if_neg (by rw [h4]; decide)]
  rcases hT with rfl | rfl
  · rw [h1]
  · rw [h2]
theorem osa_exc {name : Str} {tk : Tok} {v : Value} (X : K.In s.heap) (I : InstAt s.heap x ox C od) (c : XCls K C) (ht : takerIn K C name = some none)
    (h : ∀ b, wpAny (model prog w) A.in1 (storeInOwnDict (.ref x) (.ref C) (.str name tk) name v b)
      (fun fin s' => match fin with | .done f => R (.ok f) s' | .again c' => c'.quiet = true ∧ codeAny (model prog w) A c' R s') (fun e s' => R (.error e) s') s) :
    codeAny (model prog w) A (.call (.builtin "object.__setattr__") ⟨[.ref x, .str name tk, v], []⟩) R s := by
  have SF := PySem.F.store_object
  obtain ⟨cd, hc, ho, _⟩ := id c.cd
  refine codeAny_call_builtin SF.slot.plain SF.entry (@check_slot (model prog w) _ _ s "object.__setattr__" "object" "__setattr__" (.ref x) [.str name tk, v] [] _ SF.kind SF.split (c.obj X I "object" (.inl rfl)) (SF.args (.ref x) (.str name tk) v) ?_)
  obtain ⟨attr, ha, hr⟩ := Option.bind_eq_some_iff.mp ht
  have hm : Looks (model prog w) s.heap (mroOf (.ref C)) cd.mro := (looks_clsIn X hc).andThen .now
  have L3 : Looks (model prog w) s.heap (storeTaker? attr) none := by
    cases attr with
    | none => exact .now
    | some a =>
      obtain ⟨b, hb, hz⟩ := Option.map_eq_some_iff.mp hr
      refine (looks_takesIn X hb).andThen ?_
      cases b with
      | false => exact .now
      | true => cases hz
  rw [osa_eq, refuse_eq]
  refine wpAny_bind (wpAny_bind (I.type.here (wpAny_bind (hm.here ?_))))
  rw [ho.passes]
  refine wpAny_pure (wpAny_bind (I.type.here (wpAny_bind ((looks_findIn X ha).here (wpAny_bind (L3.here ?_))))))
  exact h _
/-- x.f = v: the first field of the exception x: its dict is made -/
theorem exc_set_first {vs : Array Value} {sl : Array (Option Value)} {name : Str} {v : Value} {Q : Unit → Shared → Prop} (X : K.In s.heap) (c : XCls K C) (ht : takerIn K C name = some none) (hx : s.heap.get? x = some ⟨.ref C, none, .fields vs, sl⟩)
    (h : ∀ h' dx, s.heap.objs.size ≤ dx → h'.get? x = some ⟨.ref C, some dx, .fields vs, sl⟩ → h'.Ns1 dx (fun y => if y = name then some v else none) → (∀ b o, b ≠ x → s.heap.get? b = some o → h'.get? b = some o) → Q () { s with heap := h', toks := s.toks + 2 }) :
    wpAny (model prog w) A (setAttr (.ref x) name v) Q E s := by
  have I : InstAt s.heap x ⟨.ref C, none, .fields vs, sl⟩ C none := ⟨hx, rfl, rfl, True.intro⟩
  refine set_plain X I c.sa (osa_exc (s := { s with toks := s.toks + 1 }) X I c ht fun b => ?_)
  obtain ⟨cd, hc, _, hd'⟩ := c.cd
  refine wpAny_bind (wpAny_pure (wpAny_bind (wpAny_bind (wpAny_loadPart hx (wpAny_bind (Looks.here (s := { s with toks := s.toks + 1 }) (looks_clsIn X hc) ?_))))))
  rw [hd']
  have hne : s.heap.objs.size ≠ x := Nat.ne_of_gt (Heap.lt_size hx)
  have hx1 := Heap.get?_push_of_some (h := s.heap) ({ cls := .type "dict", data := .dict #[] } : Obj) hx
  have hx2 : ((s.heap.push { cls := .type "dict", data := .dict #[] }).update x fun o => { o with dict := some s.heap.objs.size }).get? x = some ⟨.ref C, some s.heap.objs.size, .fields vs, sl⟩ := by rw [Heap.get?_update_self _ hx1 rfl]
  have hd2 : ((s.heap.push { cls := .type "dict", data := .dict #[] }).update x fun o => { o with dict := some s.heap.objs.size }).get? s.heap.objs.size = some { cls := .type "dict", data := .dict #[] } := by
    rw [Heap.get?_update_other _ _ (Ne.symm hne)]
    exact Heap.get?_push_size _ rfl
  have n2 : ((s.heap.push { cls := .type "dict", data := .dict #[] }).update x fun o => { o with dict := some s.heap.objs.size }).Ns1 s.heap.objs.size (fun _ => none) :=
    Heap.Ns1.of_empty ⟨_, #[], _, hd2, rfl, (fun e he => absurd he (by simp)), fun _ => rfl⟩
  refine wpAny_bind (wpAny_alloc (wpAny_bind (wpAny_update hx1 (wpAny_pure (a := some s.heap.objs.size) (wpAny_bind (wpAny_pure (wpAny_bind ?_)))))))
  refine wpAny_nsSet1 (s := { s with toks := s.toks + 1, heap := (s.heap.push { cls := .type "dict", data := .dict #[] }).update x fun o => { o with dict := some s.heap.objs.size } }) n2 fun h' hn2 hs2 => ?_
  obtain ⟨oD, esD, epD, hoD, hdD, hcD⟩ := hn2.count (PySem.Within.cons (ns := []) name v (fun y hy => absurd rfl hy))
  refine wpAny_bind (wpAny_lookBehind hoD (by rw [hdD]; exact pastItsLine_dict (Nat.le_trans hcD (by show 1 ≤ sizeLine + 1; rw [sizeLine_eq]; omega))) ?_)
  refine wpAny_pure (h _ s.heap.objs.size (Nat.le_refl _) ((hs2.2 _ (Ne.symm hne)).trans hx2) hn2 fun b o hb q => ?_)
  have hbd : b ≠ s.heap.objs.size := Nat.ne_of_lt (Heap.lt_size q)
  rw [hs2.2 b hbd, Heap.get?_update_other _ _ (Ne.symm hb)]
  exact Heap.get?_push_of_some _ q
/-- .. a further field -/
theorem exc_set_more {vs : Array Value} {sl : Array (Option Value)} {dx : Addr} {mA : Str → Option Value} {ns : List Str} {name : Str} {v : Value} {Q : Unit → Shared → Prop} (X : K.In s.heap) (c : XCls K C) (ht : takerIn K C name = some none)
    (hx : s.heap.get? x = some ⟨.ref C, some dx, .fields vs, sl⟩) (hn : s.heap.Ns1 dx mA) (hw : PySem.Within mA ns) (hsz : ns.length ≤ 1000)
    (h : ∀ h', h'.Ns1 dx (fun y => if y = name then some v else mA y) → Heap.SameBut dx s.heap h' → Q () { s with heap := h', toks := s.toks + 2 }) :
    wpAny (model prog w) A (setAttr (.ref x) name v) Q E s := by
  obtain ⟨od, ho, _⟩ := lookIn_ns hn
  have I : InstAt s.heap x ⟨.ref C, some dx, .fields vs, sl⟩ C (some od) := ⟨hx, rfl, rfl, ho⟩
  refine set_plain X I c.sa (osa_exc (s := { s with toks := s.toks + 1 }) X I c ht fun b => ?_)
  obtain ⟨cd, hc, _, hd'⟩ := c.cd
  refine wpAny_bind (wpAny_pure (wpAny_bind (wpAny_bind (wpAny_loadPart hx (wpAny_bind (Looks.here (s := { s with toks := s.toks + 1 }) (looks_clsIn X hc) ?_))))))
  rw [hd']
  refine wpAny_pure (a := some dx) (wpAny_bind (wpAny_pure (wpAny_bind ?_)))
  refine wpAny_nsSet1 (s := { s with toks := s.toks + 1 }) hn fun h' hn2 hs2 => ?_
  obtain ⟨oD, esD, epD, hoD, hdD, hcD⟩ := hn2.count (PySem.Within.cons name v hw)
  refine wpAny_bind (wpAny_lookBehind hoD (by rw [hdD]; exact pastItsLine_dict (Nat.le_trans hcD (by rw [List.length_cons, sizeLine_eq]; omega))) ?_)
  exact wpAny_pure (h _ hn2 hs2)
/-- x.f -/
theorem exc_get {vs : Array Value} {sl : Array (Option Value)} {dx : Addr} {mA : Str → Option Value} {name : Str} {v : Value} {expr : Bool} {Q : Value → Shared → Prop} (X : K.In s.heap) (c : XCls K C) (hx : s.heap.get? x = some ⟨.ref C, some dx, .fields vs, sl⟩)
    (hn : s.heap.Ns1 dx mA) (ha : findIn K (.ref C) name = some none) (hv : mA name = some v) (hv' : handedIn v = true) (h : Q v { s with toks := s.toks + 1 }) :
    wpAny (model prog w) A (getAttr (.ref x) name expr) Q E s := by
  obtain ⟨od, ho, hl⟩ := lookIn_ns hn
  have I : InstAt s.heap x ⟨.ref C, some dx, .fields vs, sl⟩ C (some od) := ⟨hx, rfl, rfl, ho⟩
  obtain ⟨cd, hc, hm, hd'⟩ := id c.cd
  have hh : hasDictIn K C = true := by unfold hasDictIn; rw [hc]; exact hd'
  have hf : findObj K C (some od) name = some (.value v) := findObj_own hh ha rfl (by rw [hl, hv])
  have hi := c.obj (prog := prog) (w := w) X I "BaseException" (.inr rfl)
  obtain ⟨hp, g, d, t, os⟩ := s
  have L0 := I.type (M := model prog w)
  have L1 := looks_findIn (M := model prog w) X c.ga
  have L2 := looks_findIn (M := model prog w) X c.gt
  have L3 := looks_find (M := model prog w) X I hf
  have sl := PySem.F.excAttr_ValueError.ga
  unfold getAttr getAttrBy
  refine wpAny_bind (wpAny_mkText (wpAny_holding (wpAny_bind (L0.at (wpAny_bind (L1.at ?_))))))
  show wpAny _ _ (getAttrByItsOwn _ _ _ _ _ _) _ _ _
  unfold getAttrByItsOwn hookBefore
  refine wpAny_bind (L2.at ?_)
  have hcg : callGetattribute (.ref x) (.str name t) (.builtin "BaseException.__getattribute__") expr = boundAndCalled (.builtin "BaseException.__getattribute__") (.ref x) (.str name t) := by cases expr <;> rfl
  rw [hcg]
  refine wpAny_bind (wpAny_attempt (wpAny_holding ?_))
  unfold boundAndCalled
  rw [sl.bind]
  refine wpAny_bind (wpAny_pure (wpAny_call (codeAny_call_builtin sl.plain PySem.F.entry_bexc_ga ?_)))
  refine @check_slot (model prog w) _ _ ⟨hp, g, d, t + 1, os⟩ "BaseException.__getattribute__" "BaseException" "__getattribute__" (.ref x) [.str name t] [] _ (by decide +kernel) (by decide +kernel) hi (PySem.F.args_bexc_ga _ _) ?_
  unfold Builtin.«object.__getattribute__»
  refine wpAny_bind (wpAny_pure (wpAny_bind (wpAny_pure (wpAny_bind (L0.at (wpAny_bind (L3.at ?_)))))))
  refine wpAny_pure ?_
  show wpAny _ _ (handedOut v) _ _ _
  rw [handedOut_of hv']
  exact wpAny_pure h
end
end L2
namespace L2
open PySem PySem.Spec PyProof.Rows PySem.W

/-! ### an exception of an own class with an own __init__ is made -/
section
variable {prog : Program} {w : World} {A : Around} {E : Value → Shared → Prop} {h : Heap} {g : Array GenState} {d : Drawn} {t : Nat} {os : OsState} {nm q : Str} {C N fI : Addr} {bs bm bmB rest : List Value} {hdct : Bool} {sn : List Str} {sub : List Value}
  {ab : Bool} {col : Option Bool} {dd : Option Addr} {k0 k1 k2 k3 k5 : Option Value} {B newId initId : String}
abbrev exObj (C : Addr) (t : Addr) : Obj := { cls := .ref C, data := .fields #[.ref t, .none, .none, .none, .bool false, .none] }
abbrev argObj (rest : List Value) : Obj := { cls := .type "tuple", data := .seq rest.toArray }
/-- the heap with the new exception -/
abbrev exHeap (h : Heap) (C : Addr) (rest : List Value) : Heap := (h.push (argObj rest)).push (exObj C h.objs.size)
theorem exc_tc (F : ExcBaseFacts B newId initId bmB) (T : OwnTail h bmB bm) (hC : h.get? C = some (excClassObj nm q C N bs bm hdct sn sub ab col dd k0 k1 k2 k3 k5 newId)) (hi : Looks (model prog w) h (typeLookup (.ref C) "__init__") (some (.ref fI)))
    (hb : ∀ self, Looks (model prog w) h (bindSpecial (.ref fI) self) (.ref fI, [self])) (hz : rest.length ≤ sizeLine) {Q : Fin → Shared → Prop}
    (hq : wpAny (model prog w) A (call (.ref fI) (.ref (h.objs.size + 1) :: rest)) (fun r s' => r = .none ∧ Q (.done (.ret (.ref (h.objs.size + 1)))) s') E ⟨exHeap h C rest, g, d, t, os⟩) :
    wpAny (model prog w) A (Builtin.«type.__call__» ⟨.ref C :: rest, []⟩) Q E ⟨h, g, d, t, os⟩ := by
  repeat (first | (with_reducible refine wpAny_loadPart_at hC ?_) | (with_reducible refine wpAny_madeBy_exc hC ?_) | wp_step)
  refine codeAny_call_builtin_code (Code.quiet_builtin _ F.quiet) (wpAny_check_new_subT F T hC (codeAny_exc_new_subT F T hC ?_ hz))
  show wpAny _ _ _ _ _ _
  have kp : ∀ b o, h.get? b = some o → (exHeap h C rest).get? b = some o := fun b o e => Heap.get?_push_of_some _ (Heap.get?_push_of_some _ e)
  have c1 := kp C _ hC
  have x1 : (exHeap h C rest).get? (h.objs.size + 1) = some (exObj C h.objs.size) := by heap_get
  have hcC : (Value.ref C :: bm).contains (.ref C) = true := by simp
  have i1 := hi.keeps kp
  have b1 := (hb (.ref (h.objs.size + 1))).keeps kp
  unfold isInstance
  repeat (first | (with_reducible refine wpAny_loadPart_at x1 ?_) | ((with_reducible refine wpAny_isSubtype_exc c1 ?_); rw [hcC]) | wp_step)
  show wpAny _ _ (typeLookup (.ref C) _) _ _ _
  refine i1.at ?_
  refine wpAny_holding (wpAny_bind (b1.at ?_))
  refine wpAny_bind (wpAny_mono hq (fun r s' hr => ?_) fun _ _ x => x)
  obtain ⟨rfl, hQ⟩ := hr
  wp_walk
  exact hQ
theorem exc_call (F : ExcBaseFacts B newId initId bmB) (T : OwnTail h bmB bm) (hC : h.get? C = some (excClassObj nm q C N bs bm hdct sn sub ab col dd k0 k1 k2 k3 k5 newId)) (hi : Looks (model prog w) h (typeLookup (.ref C) "__init__") (some (.ref fI)))
    (hb : ∀ self, Looks (model prog w) h (bindSpecial (.ref fI) self) (.ref fI, [self])) (hz : rest.length ≤ sizeLine) {Q : Value → Shared → Prop}
    (hq : wpAny (model prog w) (A.under (.builtin "type.__call__" ⟨.ref C :: rest, []⟩)) (call (.ref fI) (.ref (h.objs.size + 1) :: rest)) (fun r s' => r = .none ∧ Q (.ref (h.objs.size + 1)) s') E ⟨exHeap h C rest, g, d, t, os⟩) :
    wpAny (model prog w) A (call (.ref C) rest) Q E ⟨h, g, d, t, os⟩ := by
  have tl := tc_lookup
  have tb := tc_bind (.ref C)
  have hT : (⟨h, g, d, t, os⟩ : Shared).TypeIs (.ref C) "type" := ⟨_, hC, rfl⟩
  refine wpAny_call <| codeAny_of_tree (?_ : wpAny _ _ (callAny (.ref C) _) _ _ _)
  repeat (any_goals (first | assumption | (with_reducible refine wpAny_loadPart_at hC ?_) | wp_step))
  refine ⟨rfl, codeAny_call_builtin_at (Code.quiet_builtin _ (by decide +kernel)) entry_typeCall (wpAny_check_type_call_sub hC ?_)⟩
  exact exc_tc F T hC hi hb hz hq
end
end L2
namespace L2
open PySem PySem.Spec PyProof.Rows PySem.W
section
variable {M : Model} {A : Around} {E : Value → Shared → Prop} {h : Heap} {g : Array GenState} {d : Drawn} {t : Nat} {os : OsState} {nm q : Str} {C N : Addr} {bs bm : List Value} {hdct : Bool} {sn : List Str} {sub : List Value}
  {ab : Bool} {col : Option Bool} {dd : Option Addr} {k0 k1 k2 k3 k5 : Option Value} {newId : String} {env : Env}
theorem raise_inst {s : Shared} {x : Sem Value} {Q : Flow → Shared → Prop} (hbase : bm.contains (.type "BaseException") = true) (hh : A.handled = none)
    (hx : wpAny M A x (fun v s1 => ∃ e dx vs sl, v = .ref e ∧ s1.heap.get? C = some (excClassObj nm q C N bs bm hdct sn sub ab col dd k0 k1 k2 k3 k5 newId) ∧
      s1.heap.get? e = some ⟨.ref C, dx, .fields vs, sl⟩ ∧ vs[1]? = some .none ∧ E (.ref e) s1) E s) : wpAny M A (raiseStmt env (some x) none) Q E s := by
  have hcB : (Value.ref C :: bm).contains (.type "BaseException") = true := by rw [List.contains_cons, hbase, Bool.or_true]
  unfold raiseStmt
  refine wpAny_bind (wpAny_mono hx (fun v s1 ⟨e, dx, vs, sl, ev, hC, he, h1, hE⟩ => ?_) fun _ _ z => z)
  subst ev
  obtain ⟨hp, g, d, tk, os⟩ := s1
  repeat (first | (with_reducible refine wpAny_loadPart_at he ?_) | (with_reducible refine wpAny_loadPart_at hC ?_) | ((with_reducible refine wpAny_isSubtype_exc hC ?_); rw [hcB]) | wp_step)
  rw [h1]
  refine wpAny_pure ?_
  rw [if_neg (by decide)]
  exact wpAny_pure (wpAny_raiseNew_none hh hE)
variable {nm2 q2 : Str} {D N2 : Addr} {bs2 bm2 : List Value} {hdct2 : Bool} {sn2 : List Str} {sub2 : List Value} {ab2 : Bool} {col2 : Option Bool} {dd2 : Option Addr} {j0 j1 j2 j3 j5 : Option Value} {newId2 : String}
/-- except D: the exception is of the class C -/
theorem exc_match {e : Addr} {oe : Obj} {r : Bool} {Q : Bool → Shared → Prop} (hC : h.get? C = some (excClassObj nm q C N bs bm hdct sn sub ab col dd k0 k1 k2 k3 k5 newId))
    (hD : h.get? D = some (excClassObj nm2 q2 D N2 bs2 bm2 hdct2 sn2 sub2 ab2 col2 dd2 j0 j1 j2 j3 j5 newId2)) (he : h.get? e = some oe) (hcls : oe.cls = .ref C) (hbase : bm2.contains (.type "BaseException") = true)
    (hr : (Value.ref C :: bm).contains (.ref D) = r) (hq : Q r ⟨h, g, d, t, os⟩) : wpAny M A (excMatches (.ref e) (.ref D)) Q E ⟨h, g, d, t, os⟩ := by
  have hcB : (Value.ref D :: bm2).contains (.type "BaseException") = true := by rw [List.contains_cons, hbase, Bool.or_true]
  have f := tc_notTuple
  unfold excMatches
  repeat (first | ((with_reducible refine wpAny_loadPart_at he ?_); rw [hcls]) | (with_reducible refine wpAny_loadPart_at hD ?_) | ((with_reducible refine wpAny_isSubtype_exc hD ?_); rw [hcB]) | ((with_reducible refine wpAny_isSubtype_exc hC ?_); rw [hr]) | wp_step)
  cases r <;> (wp_walk; exact hq)
end
end L2
namespace L2
open PySem PySem.Spec PyProof.Rows PySem.W

/-! ### exceptions in the abstract heap -/
/-- an exception that was made and not yet raised; one that has been raised; its dict -/
def FxO (e C : Addr) (dd : Option Addr) : HO := .ext fun h => ExAt h e C dd .none
def ExcO (e C : Addr) (dd : Option Addr) : HO := .ext fun h => ∃ tb, ExAt h e C dd tb
def XdO (dx : Addr) (fs : List (Str × V)) : HO := .ext fun h => ∃ mA, h.Ns1 dx mA ∧ (∀ f, RelO (fs.lookup f) (mA f)) ∧ PySem.Within mA (fs.map (·.1))
section
variable {P : Program} {w : World} {H : Hp} {h : Heap} {e C dx : Addr} {dd : Option Addr} {tb : Value} {fs : List (Str × V)}
theorem ExAt.some (x : ExAt h e C dd tb) : ∃ o, h.get? e = some o := let ⟨_, _, q, _⟩ := x; ⟨_, q⟩
theorem fx_ok (x : ExAt h e C dd .none) : ObjOk P w H h e (FxO e C dd) := ⟨x, x.some, fun _ _ y k => ExAt.keep y k⟩
theorem exc_ok (x : ExAt h e C dd tb) : ObjOk P w H h e (ExcO e C dd) := ⟨⟨tb, x⟩, x.some, fun _ _ ⟨t, y⟩ k => ⟨t, ExAt.keep y k⟩⟩
theorem xd_ok {mA : Str → Option Value} (n : h.Ns1 dx mA) (r : ∀ f, RelO (fs.lookup f) (mA f)) (q : PySem.Within mA (fs.map (·.1))) : ObjOk P w H h dx (XdO dx fs) :=
  ⟨⟨mA, n, r, q⟩, let ⟨o, _, _, z, _⟩ := n; ⟨o, z⟩, fun _ _ ⟨m, n, r, q⟩ k => ⟨m, n.at k, r, q⟩⟩
theorem fx_get (hok : HOk P w H h) (q : H e = some (FxO e C dd)) : ExAt h e C dd .none := (show ObjOk P w H h e (FxO e C dd) from hok e _ q).1
theorem exc_at (hok : HOk P w H h) (q : H e = some (ExcO e C dd)) : ∃ tb, ExAt h e C dd tb := (show ObjOk P w H h e (ExcO e C dd) from hok e _ q).1
theorem xd_get (hok : HOk P w H h) (q : H dx = some (XdO dx fs)) : ∃ mA, h.Ns1 dx mA ∧ (∀ f, RelO (fs.lookup f) (mA f)) ∧ PySem.Within mA (fs.map (·.1)) := (show ObjOk P w H h dx (XdO dx fs) from hok dx _ q).1
theorem upd_self {a : Addr} {o : HO} (q : H a = some o) : upd H a o = H := by
  funext b
  by_cases hb : b = a
  · subst hb; rw [upd_same, q]
  · rw [upd_ne hb]
end
/-- the traceback's head, behind a raise: none, or a record of ours that nothing else knows -/
def TbOk (X : Cx) (pins : List (Addr × Obj)) (H : Hp) (s : Shared) (tb : Value) : Prop :=
  tb = .none ∨ ∃ T, tb = .ref T ∧ H T = none ∧ X.s₀.heap.objs.size ≤ T ∧ (∀ p ∈ X.pn ++ pins, p.1 ≠ T) ∧ (TbAt s.heap T .none ∨ TbAt s.heap T (rawInt X.env.locals))
section
variable {X : Cx} {pins : List (Addr × Obj)} {σ : St} {H : Hp} {s : Shared} {h' : Heap} {ea C T : Addr} {dd : Option Addr} {tb : Value}
theorem Inv.locNe (I : Inv X pins σ H s) {a : Addr} {o : Obj} {vs : Array Value} (q : s.heap.get? a = some o) (d : o.data = .fields vs) : a ≠ X.env.locals ∧ ∀ x c, X.env.cells.lookup x = some c → c ≠ a := by
  refine ⟨fun z => ?_, fun x c e z => ?_⟩
  · obtain ⟨m, ⟨o', es, ep, ho', hd', _⟩, _⟩ := I.loc
    rw [z, ho'] at q; cases q; rw [hd'] at d; cases d
  · obtain ⟨v, o', ho', hd'⟩ := I.cell x c e
    rw [z, q] at ho'; cases ho'; rw [d] at hd'; cases hd'
theorem tb_new (I : Inv X pins σ H s) (ht : TbOk X pins H s tb) (N : tb = .ref T ∨ s.heap.objs.size ≤ T) : H T = none ∧ X.s₀.heap.objs.size ≤ T ∧ ∀ p ∈ X.pn ++ pins, p.1 ≠ T := by
  rcases N with rfl | N
  · rcases ht with z | ⟨T0, z, a, b, c, _⟩
    · cases z
    · cases z
      exact ⟨a, b, c⟩
  · refine ⟨I.hok.fresh N, Nat.le_trans I.sz N, fun p hp z => ?_⟩
    have := Heap.lt_size (I.pin p hp).1
    rw [z] at this
    exact absurd (Nat.lt_of_lt_of_le this N) (Nat.lt_irrefl _)
theorem Inv.noted {fl : Value} (I : Inv X pins σ H s) (hs : X.stack = X.env :: X.outer) (hf : X.env.frame = some X.env.locals) (mu : Mut (H ea)) (x : ExAt s.heap ea C dd tb) (ht : TbOk X pins H s tb)
    (N : Noted (X.env :: X.outer) ea C dd tb fl s.heap h' T) : Inv X pins σ (upd H ea (ExcO ea C dd)) { s with heap := h' } := by
  have nea : ∀ b, H b = none → b ≠ ea := fun b n z => by subst z; rw [n] at mu; exact mu
  have nmu : ∀ b u, H b = some u → ¬ Mut (some u) → b ≠ ea := fun b u q nm z => by subst z; rw [q] at mu; exact nm mu
  have mem : ∀ b, b ∈ frs (X.env :: X.outer) → b = X.env.locals ∨ b ∈ X.fs := fun b hb => by
    unfold frs at hb
    rw [List.filterMap_cons, hf] at hb
    exact List.mem_cons.mp hb
  have frn : ∀ b, b ∈ frs (X.env :: X.outer) → H b = none := fun b hb => I.stkFree b (by rw [hs]; exact hb)
  have step : ∀ ch : List Addr, (∀ b ∈ ch, (b ∈ X.ex ∨ X.s₀.heap.objs.size ≤ b) ∧ b ≠ X.env.locals ∧ (∀ x c, X.env.cells.lookup x = some c → c ≠ b) ∧ ∀ p ∈ X.pn ++ pins, p.1 ≠ b) → (∀ T0, tb = .ref T0 → T0 ∈ ch ∧ H T0 = none) →
      Inv X pins σ (upd H ea (ExcO ea C dd)) { s with heap := h' } := by
    intro ch hch hT
    have nT : ∀ b, b ∉ ch → ∀ T0, tb = .ref T0 → b ≠ T0 := fun b hb T0 e z => hb (z ▸ (hT T0 e).1)
    have nT' : ∀ b u, H b = some u → ∀ T0, tb = .ref T0 → b ≠ T0 := fun b u q T0 e z => by
      rw [z, (hT T0 e).2] at q; cases q
    refine I.step (g' := s.gens) (d' := s.drawn) (t' := s.toks) (ch := ch) hch (fun b o hL hb hc q n => ?_) (fun b o hL hb hc q n => N.slot b o (nea b n) (nT b hc) q) (fun b o _ _ n => by rw [upd_ne (nea b n)]; exact n)
      (fun b o hc q => ?_) (fun b xs q => by rw [upd_ne (nmu b _ q fun z => z)]; exact q) (fun b o u q => by rw [upd_ne (nmu b _ q fun z => z)]; exact q) (fun b ps q => ⟨#[], by rw [upd_ne (nmu b _ q fun z => z), q]; simp⟩) (fun m hm => ?_) (fun b u q => ?_) I.bare
    · exact N.keep b o (nea b n) (nT b hc) (fun z => (mem b z).elim hL hb) q
    · by_cases hb : b = ea
      · subst hb; exact N.ex.some
      · obtain ⟨sl, e⟩ := N.slot b o hb (nT b hc) q
        exact ⟨_, e⟩
    · obtain ⟨o, es, ep, ho, r⟩ := hm
      have hL : X.env.locals ∉ ch := fun z => (hch _ z).2.1 rfl
      obtain ⟨sl, e⟩ := N.slot _ o (nea _ I.free) (nT _ hL) ho
      exact ⟨_, es, ep, e, r⟩
    · by_cases hb : b = ea
      · subst hb
        rw [upd_same] at q
        cases q
        exact exc_ok N.ex
      · rw [upd_ne hb] at q
        have own : ∀ c, H c = some (.own b) → c ≠ ea := fun c r => nmu c _ r fun z => z
        have all : ∀ c v u, H c = some v → c ≠ ea → s.heap.get? c = some u → h'.get? c = some u := fun c v u e hc q' =>
          N.keep c u hc (nT' c v e) (fun z => by rw [frn c z] at e; cases e) q'
        refine (I.hok b u q).stay (fun c v hc r => ?_) (fun c r => by rw [upd_ne (own c r)]; exact r) fun c xs r => by rw [upd_ne (nmu c _ r fun z => z)]; exact r
        rcases hc with z | z
        · exact all c u v (by rw [z]; exact q) (by rw [z]; exact hb) r
        · exact all c _ v z (own c z) r
  rcases ht with rfl | ⟨T0, rfl, n0, b0, p0, t0⟩
  · exact step [] (fun _ z => nomatch z) fun _ z => by cases z
  · have t1 : ∃ oT ts, s.heap.get? T0 = some oT ∧ oT.data = .fields ts := by
      rcases t0 with ⟨oT, ts, qT, dT, _⟩ | ⟨oT, ts, qT, dT, _⟩ <;> exact ⟨oT, ts, qT, dT⟩
    obtain ⟨oT, ts, qT, dT⟩ := t1
    obtain ⟨l1, l2⟩ := I.locNe qT dT
    refine step [T0] (fun b hb => ?_) fun T1 z => by cases z; exact ⟨by simp, n0⟩
    obtain rfl : b = T0 := by simpa using hb
    exact ⟨.inr b0, l1, l2, p0⟩
end

/-! ### how an exception lies behind a call; within a body -/
def CXw (P : Program) (w : World) : CXT := fun outer H s E e s' => ∃ ea C dd T H', e = .ref ea ∧ s'.os = s.os ∧ AllBare s'.gens ∧ Un (frs outer) [] H H' s.heap s'.heap ∧ HOk P w H' s'.heap ∧ H' ea = some (ExcO ea C dd) ∧
  ExAt s'.heap ea C dd (.ref T) ∧ TbAt s'.heap T .none ∧ H' T = none ∧ s.heap.objs.size ≤ T ∧ E (.ref ea) dd H'
def XP (X : Cx) (pins : List (Addr × Obj)) (σ : St) (E : XK) (e : Value) (s' : Shared) : Prop := ∃ ea C dd tb H', e = .ref ea ∧ Inv X pins σ H' s' ∧ Mut (H' ea) ∧ ExAt s'.heap ea C dd tb ∧ TbOk X pins H' s' tb ∧ E (.ref ea) dd (upd H' ea (ExcO ea C dd))
/-- what leaves is as this body wants it -/
def Leaves (X : Cx) (E : XK) : Prop := ∀ (pins : List (Addr × Obj)) (σ : St) (e : Value) (s' : Shared), XP X pins σ E e s' → X.xe e s'
section
variable {X : Cx} {pins : List (Addr × Obj)} {σ : St} {H : Hp} {s s' : Shared} {E : XK} {e : Value}
theorem xp_call (I : Inv X pins σ H s) (h : CXw X.prog X.w X.stack H s E e s') : XP X pins σ E e s' := by
  obtain ⟨ea, C, dd, T, H', rfl, os, bare, un, hok, he, x, t, nT, hT, q⟩ := h
  refine ⟨ea, C, dd, .ref T, H', rfl, I.call' os un hok bare (fun _ z => nomatch z), by rw [he]; trivial, x, .inr ⟨T, rfl, nT, Nat.le_trans I.sz hT, fun p hp z => ?_, .inl t⟩, by rw [upd_self he]; exact q⟩
  have := Heap.lt_size (I.pin p hp).1
  rw [z] at this
  exact absurd (Nat.lt_of_lt_of_le this hT) (Nat.lt_irrefl _)
theorem passes_of (l : Leaves X E) : Passes (CXw X.prog X.w) X E := fun pins σ H s e s' I h => l pins σ e s' (xp_call I h)
/-- a def's own frame is left -/
theorem leaves_fn {P : Program} {w : World} {K : PySem.W.Frag} {mg : Str → Option Value} {base : Heap} {N : List Str} {qual : Str} {scope : Scope} {f : Addr} {cd : Value} {A : Around} {outer : List Env} {s : Shared} {H : Hp} {E : XK} :
    Leaves (cxOf (CXw P w) P w K mg base N qual scope f cd A outer s H E) E := by
  rintro pins σ e s' ⟨ea, C, dd, tb, H', rfl, I, mu, x, ht, q⟩
  show wpAny _ _ (leaving _ _) _ _ _
  unfold leaving
  have hfr := I.ok.frames
  have ne : ∀ T0, H' T0 = none → T0 ≠ ea := fun T0 n z => by subst z; rw [n] at mu; exact mu
  refine wpAny_bind (noted_ok (A := A.deeper (envOfC qual scope s.heap.objs.size f cd)) (base := base) (env := envOfC qual scope s.heap.objs.size f cd) (outer := outer) hfr I.stack rfl x ?_ fun h' T Nt => ?_)
  · rcases ht with z | ⟨T0, z, n0, _, _, t0⟩
    · exact .inl z
    · exact .inr ⟨T0, z, ne T0 n0, t0⟩
  · have J := I.noted rfl rfl mu x ht Nt
    obtain ⟨nT, hT, _⟩ := tb_new I ht Nt.new
    exact ⟨ea, C, dd, T, upd H' ea (ExcO ea C dd), rfl, J.os, J.bare, J.base, J.hok, upd_same, Nt.ex, Nt.tb, by rw [upd_ne (ne T nT)]; exact nT, hT, q⟩
end
end L2
namespace L2
open PySem PySem.Spec PyProof.Rows PySem.W

/-! ### an own class of exceptions, by the text -/
/-- the class object; its mro behind it -/
def XOb (K : Frag) (C : Addr) (bm : List Value) : Prop := ∃ nm q N bs hdct sn sub ab col dd k0 k1 k2 k3 k5, K.lookup C = some (excClassObj nm q C N bs bm hdct sn sub ab col dd k0 k1 k2 k3 k5 "ValueError.__new__")
structure XMk (K : Frag) (C : Addr) (bm : List Value) (f : Addr) : Prop where
  ob : XOb K C bm
  tl : tailIn K tailVE bm = true
  init : findIn K (.ref C) "__init__" = some (some (.ref f))
  fn : isFn K (.ref f) = true
  kp : keepIn K (.ref C) = true
/-- C(..), an own exception with an own __init__ -/
def tExc (C : Addr) (sp : Sp) (dvs : List V) (E : XK) (t : TA) : TE := fun σ H Q => t σ H fun vs H1 => ∀ x, H1 x = none →
  sp (.ref x :: (vs ++ dvs)) (upd H1 x (FxO x C none)) (fun v H2 => v = .non ∧ Q (.ref x) H2) E
section
variable {X : Cx} {CX : CXT} {k : Nat} {f C : Addr} {bm : List Value} {fd : FuncData} {ps : List Str} {sp : Sp} {dvs : List V} {ds : List Value} {E : XK} {x m : Str} {p pos apos : Pos} {e o : Expr} {es : List Expr} {ta : TE} {t : TA}
theorem run_exc {pins : List (Addr × Obj)} {σ : St} {H : Hp} {s : Shared} {Q : VK} {us : List Value} {vs : List V} (M : XMk X.K C bm f) {cc : Bool} (F : FnOk X.prog X.w X.K X.mg X.base CX k f fd ps sp cc) (hr : Room (k + 1) X.A cc) (hb : Binds X.K fd ps ds) (hd : Vals dvs ds)
    (hx : Passes CX X E) (hz : ps.length ≤ 1000) (I : Inv X pins σ H s) (r : Vals vs us)
    (h : ∀ x, H x = none → sp (.ref x :: (vs ++ dvs)) (upd H x (FxO x C none)) (fun v H2 => v = .non ∧ Q (.ref x) H2) E) :
    wpAny (model X.prog X.w) X.A (call (.ref C) us) (EP X pins σ Q) X.xe s := by
  have hq := h (s.heap.objs.size + 1) (I.hok.fresh (Nat.le_succ _))
  have I1 := I.kept (h' := s.heap.push (argObj us)) (t' := s.toks) (fun b u e => Heap.get?_push_of_some _ e)
  have hx1 : (exHeap s.heap C us).get? (s.heap.objs.size + 1) = some (exObj C s.heap.objs.size) := by heap_get
  have I2 : Inv X pins σ (upd H (s.heap.objs.size + 1) (FxO (s.heap.objs.size + 1) C none)) { s with heap := exHeap s.heap C us } :=
    I1.laid (a := s.heap.objs.size + 1) (o := FxO (s.heap.objs.size + 1) C none) (h' := exHeap s.heap C us) (t' := s.toks) (fun b u e => Heap.get?_push_of_some _ e) (by show (s.heap.push (argObj us)).objs.size ≤ _; rw [Heap.size_push]; exact Nat.le_refl _)
      (fx_ok ⟨_, _, hx1, rfl, rfl, rfl⟩)
  have r2 : Vals (V.ref (s.heap.objs.size + 1) :: (vs ++ dvs)) (Value.ref (s.heap.objs.size + 1) :: (us ++ ds)) := .cons rfl (r.append hd)
  have hl : (Value.ref (s.heap.objs.size + 1) :: us ++ ds).length = ps.length := by
    have e := r2.length
    rw [F.len _ _ _ _ hq] at e
    exact e.symm
  have hus : us.length ≤ sizeLine := by
    rw [sizeLine_eq]
    simp only [List.cons_append, List.length_cons, List.length_append] at hl
    omega
  obtain ⟨nm, q, N, bs, hdct, sn, sub, ab, col, dd, k0, k1, k2, k3, k5, ho⟩ := M.ob
  obtain ⟨hp, g, d, tk, os⟩ := s
  refine exc_call PySem.F.excBase_ValueError (tail_of_in I.kIn M.tl) (I.kIn _ _ ho) (looks_findIn I.kIn M.init) (fun self => bind_fn I.kIn self (beq_iff_eq.mp M.fn)) hus ?_
  refine wpAny_call (codeAny_mono (F.run _ X.stack _ _ ⟨Value.ref (hp.objs.size + 1) :: us, []⟩ (Value.ref (hp.objs.size + 1) :: (us ++ ds)) _ _ E (hr.make C us []) (I2.env0.make C us []) (hb _ (Value.ref (hp.objs.size + 1) :: us) I2.kIn hl) r2 hq) fun r s' hq' => ?_)
  cases r with
  | error e => exact hx pins σ _ _ e s' I2 hq'
  | ok fl =>
    cases fl with
    | ret u =>
      obtain ⟨v, H', I3, rv, ev, q3⟩ := I2.after hq'
      subst ev
      exact ⟨rv, ⟨V.ref (hp.objs.size + 1), H', I3, rfl, q3⟩⟩
    | next => exact False.elim hq'
    | brk => exact False.elim hq'
    | cont => exact False.elim hq'
theorem pe_exc (M : XMk X.K C bm f) {cc : Bool} (F : FnOk X.prog X.w X.K X.mg X.base CX k f fd ps sp cc) (hr : Room (k + 1) X.A cc) (hg : Gl X x) (hm : X.mg x = some (.ref C)) (hb : Binds X.K fd ps ds) (hd : Vals dvs ds) (hx : Passes CX X E)
    (ha : PA X (e :: es) t) (hz : ps.length ≤ 1000 := by decide) (hdb : (x == ("__debug__" : Str)) = false := by decide) (he : starEach (e :: es) X.env = (false, eval e X.env) :: starEach es X.env := by rfl) (hpl : (backTo pos (starEach es X.env)).any (·.1) = false := by rfl) :
    PE X (.Call (.Name x p) (e :: es) [] pos) (tExc C sp dvs E t) := by
  intro pins s σ H Q I h
  refine wpAny_Call_Name_kw (ld_glob I hg hm ?_ hdb)
  refine PySem.W.callWith_K (h₀ := X.base) I.ok.mod.kin M.kp (thn (ha pos pins s σ H _ I h) fun us s1 ⟨vs, H1, I1, r, q⟩ => ⟨I1.kIn, ?_⟩) he hpl
  exact run_exc M F hr hb hd hx hz I1 r q
/-- raise e -/
def tRaise (C : Addr) (te : TE) (E : XK) : TS := fun _ σ H => te σ H fun v H1 => ∃ ea dd, v = .ref ea ∧ H1 ea = some (FxO ea C dd) ∧ E (.ref ea) dd (upd H1 ea (ExcO ea C dd))
theorem ps_raise (ob : XOb X.K C bm) (hbm : bm.contains (.type "BaseException") = true) (hh : X.A.handled = none) (hl : Leaves X E) (he : PE X e ta) : PS X (.Raise (some e) none pos) (tRaise C ta E) := by
  intro pins s σ H D I h
  obtain ⟨nm, q, N, bs, hdct, sn, sub, ab, col, dd0, k0, k1, k2, k3, k5, ho⟩ := ob
  rw [arm_exec_Raise]
  refine wpAny_bind (wpAny_standAt (raise_inst (C := C) (nm := nm) (q := q) (N := N) (bs := bs) (bm := bm) (hdct := hdct) (sn := sn) (sub := sub) (ab := ab) (col := col) (dd := dd0) (k0 := k0) (k1 := k1) (k2 := k2) (k3 := k3) (k5 := k5) (newId := "ValueError.__new__") hbm hh ?_))
  refine wpAny_bind (thn (he pins s σ H _ I h) fun u s1 ⟨v, H1, I1, r, ea, dd, ev, hH, q⟩ => ?_)
  subst ev
  cases (show u = Value.ref ea from r)
  refine wpAny_bind (wpAny_standAt (wpAny_pure ?_))
  have x1 := fx_get I1.hok hH
  obtain ⟨vs, sl, q1, z, q2, _⟩ := id x1
  exact ⟨ea, dd, vs, sl, rfl, I1.kIn _ _ ho, q1, q2, hl pins σ _ _ ⟨ea, C, dd, .none, H1, rfl, I1, by rw [hH]; trivial, x1, .inl rfl, q⟩⟩
end

/-! ### its fields -/
section
variable {X : Cx} {pins : List (Addr × Obj)} {σ : St} {H : Hp} {s : Shared} {a C dx : Addr} {fs : List (Str × V)} {f : Str} {A : Around} {E : Value → Shared → Prop}
theorem xset1_ok {y : V} {u : Value} {Q : Unit → Shared → Prop} (I : Inv X pins σ H s) (e : H a = some (FxO a C none)) (c : XCls X.K C) (n : takerIn X.K C f = some none) (ry : RelV y u)
    (h : ∀ s' dx, H dx = none → Inv X pins σ (upd (upd H dx (XdO dx [(f, y)])) a (FxO a C (some dx))) s' → Q () s') : wpAny (model X.prog X.w) A (setAttr (.ref a) f u) Q E s := by
  obtain ⟨vs, sl, q, z, q1⟩ := fx_get I.hok e
  refine exc_set_first I.kIn c n q fun h' dx hdx hx hn k => ?_
  have nd := I.hok.fresh hdx
  have mu : Mut (H a) := by rw [e]; trivial
  have hda : dx ≠ a := Nat.ne_of_gt (Nat.lt_of_lt_of_le (Heap.lt_size q) hdx)
  have na : ∀ b, H b = none → b ≠ a := fun b n z => by subst z; rw [n] at mu; exact mu
  have nmu : ∀ b u, H b = some u → ¬ Mut (some u) → b ≠ a := fun b u qb nm z => by subst z; rw [qb] at mu; exact nm mu
  have nd' : ∀ b u, H b = some u → b ≠ dx := fun b u q z => by rw [z, nd] at q; cases q
  refine h _ dx nd (I.un (t' := s.toks + 2) (h' := h') ⟨fun b o q n _ _ => k b o (na b n) q, fun b o q n _ _ => ⟨o.slots, k b o (na b n) q⟩, fun b o q n _ => ?_, fun b o q _ => ?_, fun b xs q => ?_, fun b o u q => ?_, fun b ps q => ⟨#[], ?_⟩⟩ fun b u q => ?_)
  · rw [upd_ne (na b n), upd_ne (Nat.ne_of_lt (Nat.lt_of_lt_of_le (Heap.lt_size q) hdx))]; exact n
  · by_cases hb : b = a
    · subst hb; exact ⟨_, hx⟩
    · exact ⟨o, k b o hb q⟩
  · rw [upd_ne (nmu b _ q fun z => z), upd_ne (nd' b _ q)]; exact q
  · rw [upd_ne (nmu b _ q fun z => z), upd_ne (nd' b _ q)]; exact q
  · rw [upd_ne (nmu b _ q fun z => z), upd_ne (nd' b _ q), q]; simp
  · by_cases hb : b = a
    · subst hb
      rw [upd_same] at q
      cases q
      exact fx_ok ⟨vs, sl, hx, z, q1⟩
    · rw [upd_ne hb] at q
      by_cases hbd : b = dx
      · subst hbd
        rw [upd_same] at q
        cases q
        refine xd_ok hn (fun g => ?_) fun g hg => ?_
        · show RelO (List.lookup g [(f, y)]) (if g = f then some u else none)
          by_cases hgf : g = f
          · have hb : (g == f) = true := beq_iff_eq.mpr hgf
            simp only [List.lookup, hb, if_pos hgf]
            exact ry
          · have hb : (g == f) = false := beq_eq_false_iff_ne.mpr hgf
            simp only [List.lookup, hb, if_neg hgf]
            trivial
        · by_cases hgf : g = f
          · subst hgf; simp
          · exact absurd (if_neg hgf) hg
      · rw [upd_ne hbd] at q
        have own : ∀ c, H c = some (.own b) → c ≠ a := fun c r => nmu c _ r fun z => z
        refine (I.hok b u q).stay (fun c v hc r => k c v ?_ r) (fun c r => by rw [upd_ne (own c r), upd_ne (nd' c _ r)]; exact r) fun c xs r => by rw [upd_ne (nmu c _ r fun z => z), upd_ne (nd' c _ r)]; exact r
        rcases hc with z | z
        · rw [z]; exact hb
        · exact own c z
theorem xset2_ok {y : V} {u : Value} {Q : Unit → Shared → Prop} (I : Inv X pins σ H s) (e : H a = some (FxO a C (some dx))) (ed : H dx = some (XdO dx fs)) (c : XCls X.K C) (n : takerIn X.K C f = some none) (hl : fs.length ≤ 1000) (ry : RelV y u)
    (h : ∀ s', Inv X pins σ (upd H dx (XdO dx (putF f y fs))) s' → Q () s') : wpAny (model X.prog X.w) A (setAttr (.ref a) f u) Q E s := by
  obtain ⟨vs, sl, q, z, q1⟩ := fx_get I.hok e
  obtain ⟨mA, hn, r, wi⟩ := xd_get I.hok ed
  refine exc_set_more I.kIn c n q hn wi (by rw [List.length_map]; exact hl) fun h' hn' sb => h _ ?_
  have hd : ∃ o, h'.get? dx = some o := let ⟨o, _, _, e', _⟩ := hn'; ⟨o, e'⟩
  refine I.write (x := dx) (e := dx) (by rw [ed]; exact True.intro) (.inl rfl) (fun b q hb z => (sb.2 b hb).trans z) hd (xd_ok hn' (fun g => ?_) fun g hg => ?_)
  · show RelO ((putF f y fs).lookup g) (if g = f then some u else mA g)
    rw [lookup_putF]
    by_cases q : g = f
    · rw [if_pos q, if_pos q]; exact ry
    · rw [if_neg q, if_neg q]; exact r g
  · have kp := keys_putF f y fs
    by_cases q : g = f
    · subst q; exact kp.1
    · refine kp.2 g (wi g ?_)
      intro z
      exact hg (by show (if g = f then some u else mA g) = none; rw [if_neg q]; exact z)
theorem xget_ok {b : Bool} {v : V} {Q : Value → Shared → Prop} (I : Inv X pins σ H s) (e : H a = some (ExcO a C (some dx))) (ed : H dx = some (XdO dx fs)) (c : XCls X.K C) (n : NoAttr X.K C f) (l : fs.lookup f = some v)
    (h : ∀ u s', Inv X pins σ H s' → RelV v u → Q u s') : wpAny (model X.prog X.w) A (getAttr (.ref a) f b) Q E s := by
  obtain ⟨tb, vs, sl, q, z, q1⟩ := exc_at I.hok e
  obtain ⟨mA, hn, r, wi⟩ := xd_get I.hok ed
  obtain ⟨u, hu, ru⟩ := RelO.some_of (v := v) (o := mA f) (by rw [← l]; exact r f)
  exact exc_get I.kIn c q hn n hu (handed_of ru) (h u _ (I.tok _) ru)
end
/-- self.f = value, the exception's first field; a further one -/
def sXf1 (K : Frag) (ta tv : TE) (f : Str) : TS := fun D σ H => tv σ H fun y H1 => ta σ H1 fun x H2 => ∃ a C, x = .ref a ∧ H2 a = some (FxO a C none) ∧ XCls K C ∧ takerIn K C f = some none ∧
  ∀ dx, H2 dx = none → D.nx σ (upd (upd H2 dx (XdO dx [(f, y)])) a (FxO a C (some dx)))
def sXf2 (K : Frag) (ta tv : TE) (f : Str) : TS := fun D σ H => tv σ H fun y H1 => ta σ H1 fun x H2 => ∃ a C dx fs, x = .ref a ∧ H2 a = some (FxO a C (some dx)) ∧ H2 dx = some (XdO dx fs) ∧ XCls K C ∧ takerIn K C f = some none ∧ fs.length ≤ 1000 ∧
  D.nx σ (upd H2 dx (XdO dx (putF f y fs)))
/-- e.f of a raised exception -/
def tXf (K : Frag) (ta : TE) (f : Str) : TE := fun σ H Q => ta σ H fun x H1 => ∃ a C dx fs v, x = .ref a ∧ H1 a = some (ExcO a C (some dx)) ∧ H1 dx = some (XdO dx fs) ∧ XCls K C ∧ NoAttr K C f ∧ fs.lookup f = some v ∧ Q v H1
section
variable {X : Cx} {o e value : Expr} {f : Str} {pos pos' tpos : Pos} {ta tv : TE}
theorem ps_xf1 (ha : PE X o ta) (hv : PE X value tv) (hs : swapsWith value (some (.Attribute o f pos')) pos.line X.env = pure false) : PS X (.Assign [.Attribute o f pos'] value pos) (sXf1 X.K ta tv f) := by
  intro pins s σ H D I h
  refine plainObj_wpAny_Assign_Attribute (thn (hv pins s σ H _ I h) fun u s1 ⟨y, H1, I1, ry, q⟩ => thn (ha pins s1 σ H1 _ I1 q) fun ov s2 ⟨x, H2, I2, rx, a, C, ex, ea, c, n, q2⟩ => ?_) hs
  subst ex
  cases (show ov = Value.ref a from rx)
  exact xset1_ok I2 ea c n ry fun s3 dx hd I3 => ⟨σ, _, I3, q2 dx hd⟩
theorem ps_xf2 (ha : PE X o ta) (hv : PE X value tv) (hs : swapsWith value (some (.Attribute o f pos')) pos.line X.env = pure false) : PS X (.Assign [.Attribute o f pos'] value pos) (sXf2 X.K ta tv f) := by
  intro pins s σ H D I h
  refine plainObj_wpAny_Assign_Attribute (thn (hv pins s σ H _ I h) fun u s1 ⟨y, H1, I1, ry, q⟩ => thn (ha pins s1 σ H1 _ I1 q) fun ov s2 ⟨x, H2, I2, rx, a, C, dx, fs, ex, ea, ed, c, n, l, q2⟩ => ?_) hs
  subst ex
  cases (show ov = Value.ref a from rx)
  exact xset2_ok I2 ea ed c n l ry fun s3 I3 => ⟨σ, _, I3, q2⟩
theorem pe_xf (he : PE X e ta) (hb : attributeBase e f X.env (eval e X.env) = eval e X.env) : PE X (.Attribute e f pos) (tXf X.K ta f) := by
  intro pins s σ H Q I h
  refine attr_of hb (thn (he pins s σ H _ I h) fun u s1 ⟨x, H1, I1, rx, a, C, dx, fs, v, ex, ea, ed, c, n, l, q⟩ => ?_)
  subst ex
  cases (show u = Value.ref a from rx)
  exact xget_ok I1 ea ed c n l fun u' s2 I2 ru => ⟨v, H1, I2, ru, q⟩
end
/-! ### an own exception class without an __init__ of its own -/
theorem ObjOk.there {P : Program} {w : World} {H : Hp} {h : Heap} {a : Addr} {o : HO} (x : ObjOk P w H h a o) : ∃ u, h.get? a = some u := by
  cases o with
  | lst xs => obtain ⟨_, _, _, _, e⟩ := x; exact ⟨_, e⟩
  | tup xs => obtain ⟨_, _, _, ob, e, _⟩ := x; exact ⟨_, e⟩
  | dK kvs => obtain ⟨_, _, _, _, o, _, _, e, _⟩ := x; exact ⟨_, e⟩
  | dT kvs => obtain ⟨_, _, _, _, o, _, _, e, _⟩ := x; exact ⟨_, e⟩
  | set S n => obtain ⟨o, _, _, _, e, _⟩ := x; exact ⟨_, e⟩
  | ins C dx fs => obtain ⟨_, _, _, e, _⟩ := x; exact ⟨_, e⟩
  | own y => exact x
  | xd fs => obtain ⟨_, ⟨_, _, _, e, _⟩, _⟩ := x; exact ⟨_, e⟩
  | rng lo hi => obtain ⟨_, _, _, e⟩ := x; exact ⟨_, e⟩
  | frz ob u => exact ⟨_, x.1⟩
  | tbl ps => exact ⟨_, x⟩
  | met f y => exact ⟨_, x⟩
  | ext φ => exact x.2.1
section
variable {X : Cx} {C : Addr} {bm : List Value} {x : Str} {p pos : Pos}
structure XMk0 (K : Frag) (C : Addr) (bm : List Value) : Prop where
  ob : XOb K C bm
  tl : tailIn K tailVE (.ref C :: bm) = true
  kp : keepIn K (.ref C) = true
def tExc0 (C : Addr) : TE := fun _ H Q => ∀ x, H x = none → Q (.ref x) (upd H x (FxO x C none))
theorem run_exc0 {pins : List (Addr × Obj)} {σ : St} {H : Hp} {s : Shared} {Q : VK} (M : XMk0 X.K C bm) (I : Inv X pins σ H s) (h : ∀ x, H x = none → Q (.ref x) (upd H x (FxO x C none))) :
    wpAny (model X.prog X.w) X.A (call (.ref C) []) (EP X pins σ Q) X.xe s := by
  obtain ⟨nm, q, N, bs, hdct, sn, sub, ab, col, dd, k0, k1, k2, k3, k5, ho⟩ := M.ob
  have T := tail_of_in (h := s.heap) I.kIn M.tl
  have hC := I.kIn _ _ ho
  generalize hl : Value.ref C :: bm = l at T
  cases T with
  | base => unfold tailVE at hl; cases hl
  | own hA hn hi T' =>
    injection hl with e1 e2
    cases e1
    subst e2
    have e3 := hC.symm.trans hA
    injection e3 with e3
    injection e3 with _ _ e4 _
    injection e4 with e4
    subst e4
    obtain ⟨hp, g, d, tk, os⟩ := s
    refine wpAny_call_exc_subT PySem.F.excBase_ValueError T' hC hn hi fun h' e hm => ?_
    obtain ⟨tt, hx, _⟩ := hm.there
    have nH : H e = none := by
      cases q : H e with
      | none => rfl
      | some u =>
        obtain ⟨o, z⟩ := (I.hok e u q).there
        rw [hm.new] at z
        cases z
    have nd : ∀ b u, H b = some u → b ≠ e := fun b u q z => by rw [z, nH] at q; cases q
    refine ⟨.ref e, upd H e (FxO e C none), I.un (t' := tk) (h' := h') ⟨fun b o q n _ _ => hm.keeps b o q, fun b o q n _ _ => ⟨o.slots, hm.keeps b o q⟩, fun b o q n _ => ?_, fun b o q _ => ⟨o, hm.keeps b o q⟩, fun b xs q => ?_, fun b o u q => ?_, fun b ps q => ⟨#[], ?_⟩⟩ fun b u q => ?_, rfl, h e nH⟩
    · rw [upd_ne (fun z => by rw [z, hm.new] at q; cases q)]; exact n
    · rw [upd_ne (nd b _ q)]; exact q
    · rw [upd_ne (nd b _ q)]; exact q
    · rw [upd_ne (nd b _ q), q]; simp
    · by_cases hb : b = e
      · subst hb
        rw [upd_same] at q
        cases q
        exact fx_ok ⟨_, _, hx, rfl, rfl, rfl⟩
      · rw [upd_ne hb] at q
        exact (I.hok b u q).stay (fun c v _ r => hm.keeps c v r) (fun c r => by rw [upd_ne (nd c _ r)]; exact r) fun c xs r => by rw [upd_ne (nd c _ r)]; exact r
theorem pe_exc0 (M : XMk0 X.K C bm) (hg : Gl X x) (hm : X.mg x = some (.ref C)) (hdb : (x == ("__debug__" : Str)) = false := by decide) : PE X (.Call (.Name x p) [] [] pos) (tExc0 C) := by
  intro pins s σ H Q I h
  refine wpAny_Call_Name_kw (ld_glob I hg hm ?_ hdb)
  exact PySem.W.callWith_K0 I.kIn M.kp (run_exc0 M I h)
end
end L2
namespace L2
open PySem PySem.Spec PyProof.Rows PySem.W

/-! ### code whose exceptions are caught in the same body -/
/-- an expression's reading with the exception's end -/
abbrev TX := St → Hp → VK → XK → Prop
/-- a try's body: the ends, the wish of an exception at the names' values then -/
abbrev TB := Ends → (St → XK) → St → Hp → Prop
def PX (X : Cx) (e : Expr) (t : TX) : Prop :=
  ∀ (pins : List (Addr × Obj)) (s : Shared) (σ : St) (H : Hp) (Q : VK) (E : XK), Inv X pins σ H s → t σ H Q E → wpAny (model X.prog X.w) X.A (eval e X.env) (EP X pins σ Q) (XP X pins σ E) s
def BP (X : Cx) (pins : List (Addr × Obj)) (Ex : St → XK) (e : Value) (s' : Shared) : Prop := ∃ σ', XP X pins σ' (Ex σ') e s'
def PB (X : Cx) (sts : List Stmt) (t : TB) : Prop :=
  ∀ (pins : List (Addr × Obj)) (s : Shared) (σ : St) (H : Hp) (D : Ends) (Ex : St → XK), Inv X pins σ H s → t D Ex σ H → wpAny (model X.prog X.w) X.A (execs sts X.env) (SP X pins D) (BP X pins Ex) s
section
variable {X : Cx} {k : Nat} {f C : Addr} {fd : FuncData} {ps : List Str} {sp : Sp} {dvs : List V} {ds : List Value} {E : XK} {x m : Str} {p pos apos : Pos} {e o : Expr} {es : List Expr} {ta : TE} {t : TA}
def tCallX (sp : Sp) (dvs : List V) (t : TA) : TX := fun σ H Q E => t σ H fun vs H1 => sp (vs ++ dvs) H1 Q E
theorem run_fnX {pins : List (Addr × Obj)} {σ : St} {H : Hp} {s : Shared} {Q : VK} {us : List Value} {vs : List V} {cc : Bool} (F : FnOk X.prog X.w X.K X.mg X.base (CXw X.prog X.w) k f fd ps sp cc) (hr : Room k X.A cc) (hb : Binds X.K fd ps ds) (hd : Vals dvs ds)
    (I : Inv X pins σ H s) (r : Vals vs us) (h : sp (vs ++ dvs) H Q E) : wpAny (model X.prog X.w) X.A (call (.ref f) us) (EP X pins σ Q) (XP X pins σ E) s := by
  have r2 : Vals (vs ++ dvs) (us ++ ds) := r.append hd
  have hl : (us ++ ds).length = ps.length := by rw [← r2.length]; exact F.len _ _ _ _ h
  refine wpAny_call (codeAny_mono (F.run X.A X.stack s H ⟨us, []⟩ (us ++ ds) (vs ++ dvs) Q E hr I.env0 (hb s us I.kIn hl) r2 h) fun r s' hq => ?_)
  cases r with
  | error e => exact xp_call I hq
  | ok fl =>
    cases fl with
    | ret u => exact I.after hq
    | next => exact False.elim hq
    | brk => exact False.elim hq
    | cont => exact False.elim hq
theorem px_call {cc : Bool} (F : FnOk X.prog X.w X.K X.mg X.base (CXw X.prog X.w) k f fd ps sp cc) (hr : Room k X.A cc) (hg : Gl X x) (hm : X.mg x = some (.ref f)) (hk : PySem.W.keepIn X.K (.ref f) = true) (hb : Binds X.K fd ps ds) (hd : Vals dvs ds)
    (ha : PA X.nox (e :: es) t) (hdb : (x == ("__debug__" : Str)) = false := by decide) (he : starEach (e :: es) X.env = (false, eval e X.env) :: starEach es X.env := by rfl) (hpl : (backTo pos (starEach es X.env)).any (·.1) = false := by rfl) :
    PX X (.Call (.Name x p) (e :: es) [] pos) (tCallX sp dvs t) := by
  intro pins s σ H Q E I h
  refine wpAny_Call_Name_kw (ld_glob I hg hm ?_ hdb)
  refine PySem.W.callWith_K (h₀ := X.base) I.ok.mod.kin hk (wpAny_mono (ha pos pins s σ H _ (I.wish _) h) (fun us s1 ⟨vs, H1, I1, r, q⟩ => ⟨I1.unwish.kIn, ?_⟩) fun _ _ z => False.elim z) he hpl
  exact run_fnX F hr hb hd I1.unwish r q
/-- blocks -/
def bExpr (t : TX) : TB := fun D Ex σ H => t σ H (fun _ H1 => D.nx σ H1) (Ex σ)
/-- one statement of such a body -/
def PB1 (X : Cx) (st : Stmt) (t : TB) : Prop :=
  ∀ (pins : List (Addr × Obj)) (s : Shared) (σ : St) (H : Hp) (D : Ends) (Ex : St → XK), Inv X pins σ H s → t D Ex σ H → wpAny (model X.prog X.w) X.A (exec st X.env) (SP X pins D) (BP X pins Ex) s
theorem pb_expr {t : TX} (he : PX X e t) (hs : swapsWith e none pos.line X.env = pure false := by rfl) : PB1 X (.Expr e pos) (bExpr t) := by
  intro pins s σ H D Ex I h
  exact wpAny_Expr_any (wpAny_mono (he pins s σ H _ _ I h) (fun v s1 ⟨x, H1, I1, r1, q1⟩ => ⟨σ, H1, I1, q1⟩) fun _ _ z => ⟨σ, z⟩) I.quiet hs
theorem pb_one {st : Stmt} {t : TB} (h1 : PB1 X st t) : PB X [st] t := by
  intro pins s σ H D Ex I h
  refine wpAny_execs_cons (thn (h1 pins s σ H D Ex I h) fun f s1 q => ?_)
  cases f with
  | next => exact wpAny_execs_nil q
  | ret v => exact q
  | brk => exact q
  | cont => exact q
end

/-! ### try: .. except D as n: .. -/
/-- the context of an except suite -/
abbrev Cx.hand (X : Cx) (ea : Addr) : Cx := { X with A := X.A.mark (some (.ref ea)), calm := false, xe := fun _ _ => False }
section
variable {X : Cx} {pins : List (Addr × Obj)} {σ : St} {H : Hp} {s : Shared} {ea : Addr}
theorem Cx.Ok.hand (ok : X.Ok) : (X.hand ea).Ok :=
  ⟨ok.mod, ok.kind, ok.glob, ok.blt, ok.above, ok.inj, ok.has, ok.cab, (fun z => nomatch z), ok.frames, ok.stk, ok.exf, ok.bs, ok.bsz, ok.noex, ok.exfs, ok.funs, ok.frf⟩
theorem Inv.hand (I : Inv X pins σ H s) : Inv (X.hand ea) pins σ H s := ⟨I.ok.hand, I.os, I.bare, I.base, I.loc, I.cell, I.free, I.freeC, I.pin, I.hok, I.len⟩
theorem Inv.unhand (ok : X.Ok) (I : Inv (X.hand ea) pins σ H s) : Inv X pins σ H s := ⟨ok, I.os, I.bare, I.base, I.loc, I.cell, I.free, I.freeC, I.pin, I.hok, I.len⟩
/-- a local name is unbound -/
theorem Inv.gone {i : Nat} {x : Str} {M : Model} {A : Around} {E : Value → Shared → Prop} {pos : Pos} {Q : Unit → Shared → Prop} (I : Inv X pins σ H s) (hN : X.N.Nodup) (hi : X.N[i]? = some x) (hk : X.env.kindOf x = some .local)
    (h : ∀ s', Inv X pins (σ.set i none) H s' → Q () s') : wpAny M A (do bindName X.env x .none; unbindBehindTheSuite X.env x pos) Q E s := by
  obtain ⟨m, hn, hl⟩ := id I.loc
  have hcls : (X.env.scope.kind == .class || (X.env.scope.kind == .module && X.env.locals != X.env.globals)) = false := by rw [I.ok.kind]; rfl
  have hiσ : i < σ.length := by rw [I.len]; exact (List.getElem?_eq_some_iff.mp hi).1
  have cne := I.cne
  refine wpAny_nameGoes_keeps hk hn hcls fun h' v hn' hs => h _ ?_
  have neL : ∀ b o, X.s₀.heap.get? b = some o → b ≠ X.env.locals := fun b o e => Nat.ne_of_lt (Nat.lt_of_lt_of_le (Heap.lt_size e) I.ok.above)
  refine ⟨I.ok, I.os, I.bare, ⟨fun b o e n hb hx => (hs.2 b (neL b o e)).trans (I.base.keep b o e n hb hx), fun b o e n hb hx => ?_, I.base.free, fun b o e hx => ?_, I.base.tups, I.base.frzs, I.base.tbls⟩, ⟨_, hn', fun j y v' e1 e2 e3 => ?_⟩, fun y c e => ?_, I.free, I.freeC, fun p hp => ?_, fun b u q => ?_, by simpa using I.len⟩
  · obtain ⟨sl, e1⟩ := I.base.slot b o e n hb hx
    exact ⟨sl, (hs.2 b (neL b o e)).trans e1⟩
  · obtain ⟨o', e1⟩ := I.base.there b o e hx
    exact ⟨o', (hs.2 b (neL b o e)).trans e1⟩
  · have hj : j ≠ i := fun z => by
      subst z
      rw [List.getElem?_set_self hiσ] at e2
      cases e2
    rw [List.getElem?_set_ne (Ne.symm hj)] at e2
    obtain ⟨u', r', q⟩ := hl j y v' e1 e2 e3
    refine ⟨u', r', ?_⟩
    rcases q with ⟨k, e⟩ | ⟨k, c, e, z⟩
    · have ny : y ≠ x := fun e => hj (nodup_ix hN e1 (e ▸ hi))
      exact .inl ⟨k, by simp [ny, e]⟩
    · exact .inr ⟨k, c, e, z.sameBut hs (cne y c e)⟩
  · obtain ⟨w', z⟩ := I.cell y c e
    exact ⟨w', z.sameBut hs (cne y c e)⟩
  · obtain ⟨e, n, ne, nf, d⟩ := I.pin p hp
    exact ⟨(hs.2 p.1 ne).trans e, n, ne, nf, d⟩
  · refine (I.hok b u q).stay (fun c v hc r => (hs.2 c fun z => ?_).trans r) (fun _ q => q) fun _ _ q => q
    subst z
    rcases hc with z | z
    · rw [← z, I.free] at q; cases q
    · rw [I.free] at z; cases z
end
/-- the suite's ends: behind it the name is unbound -/
def Ends.gone (D : Ends) (i : Nat) : Ends := { nx := fun σ H => D.nx (σ.set i none) H, rt := D.rt, bk := fun σ H => D.bk (σ.set i none) H, ct := fun σ H => D.ct (σ.set i none) H }
section
variable {X : Cx} {body suite : List Stmt} {b₀ : Stmt} {tb : TB} {ts : Addr → TS} {wn n : Str} {D : Addr} {bmD : List Value} {i : Nat} {np hpos pos : Pos}
end
end L2
namespace L2
open PySem PySem.Spec PyProof.Rows PySem.W

/-! ### try with several clauses, with or without a name; with an else -/
abbrev THs := Addr → Addr → Option Addr → TS
/-- the clauses, at an exception that was raised in the body -/
def PHs (X : Cx) (hs : List ExceptHandler) (t : THs) : Prop :=
  ∀ (pins : List (Addr × Obj)) (s : Shared) (σ : St) (H : Hp) (D : Ends) (ea C T : Addr) (bm : List Value) (dd : Option Addr), Inv X pins σ H s → H ea = some (ExcO ea C dd) → XOb X.K C bm → ExAt s.heap ea C dd (.ref T) → TbAt s.heap T .none →
    H T = none → X.s₀.heap.objs.size ≤ T → (∀ p ∈ X.pn ++ pins, p.1 ≠ T) → t ea C dd D σ H → wpAny (model X.prog X.w) X.A (handleBy (.ref ea) X.env hs) (SP X pins D) X.xe s
def tHNo : THs := fun _ _ _ _ _ _ => False
theorem phs_nil {X : Cx} : PHs X [] tHNo := fun _ _ _ _ _ _ _ _ _ _ _ _ _ _ _ _ _ _ h => h.elim
/-- except D as the i-th name; except D -/
def tHAs (K : Frag) (D : Addr) (i : Nat) (ts : Addr → TS) (tr : THs) : THs := fun ea C dd Dn σ H => ∃ bm r, XOb K C bm ∧ (Value.ref C :: bm).contains (.ref D) = r ∧ if r = true then ts ea (Dn.gone i) (σ.set i (some (.ref ea))) H else tr ea C dd Dn σ H
def tHNone (K : Frag) (D : Addr) (ts : Addr → TS) (tr : THs) : THs := fun ea C dd Dn σ H => ∃ bm r, XOb K C bm ∧ (Value.ref C :: bm).contains (.ref D) = r ∧ if r = true then ts ea Dn σ H else tr ea C dd Dn σ H
section
variable {X : Cx} {rest : List ExceptHandler} {suite : List Stmt} {b₀ : Stmt} {ts : Addr → TS} {tr : THs} {wn n : Str} {D : Addr} {bmD : List Value} {i : Nat} {np hpos pos : Pos}
theorem phs_as (hs : ∀ ea, PSs (X.hand ea) (b₀ :: suite) (ts ea)) (hr : PHs X rest tr) (hg : Gl X wn) (hm : X.mg wn = some (.ref D)) (ob : XOb X.K D bmD) (hbm : bmD.contains (.type "BaseException") = true) (hN : X.N.Nodup) (hi : X.N[i]? = some n)
    (hk : X.env.scope.names.lookup n = some .local) (hdb : (wn == ("__debug__" : Str)) = false := by decide) : PHs X (.ExceptHandler (some (.Name wn np)) (some n) (b₀ :: suite) hpos :: rest) (tHAs X.K D i ts tr) := by
  intro pins s1 σ1 H1 Dn ea C T bm0 dd J hH obC0 x t nT hT pT ⟨bm, r, obC, hc, q⟩
  have xo := obC
  obtain ⟨nmC, qC, NC, bsC, hdC, snC, subC, abC, colC, ddC, a0, a1, a2, a3, a5, hoC⟩ := xo
  obtain ⟨nmD, qD, ND, bsD, hdD, snD, subD, abD, colD, ddD, d0, d1, d2, d3, d5, hoD⟩ := id ob
  obtain ⟨vs3, sl3, q3, z3, t3⟩ := id x
  have J' := J.hand (ea := ea)
  refine wpAny_handleBy_cons (codeAny_handlers_test (ld_glob (X := X.hand ea) J' hg hm ?_ hdb)) (by intro q; cases q)
  obtain ⟨hp1, g1, dr1, tk1, os1⟩ := s1
  cases r with
  | false =>
    refine exc_match (J.kIn _ _ hoC) (J.kIn _ _ hoD) q3 rfl hbm hc ?_
    exact hr pins _ σ1 H1 Dn ea C T bm dd J hH obC x t nT hT pT q
  | true =>
    refine exc_match (J.kIn _ _ hoC) (J.kIn _ _ hoD) q3 rfl hbm hc (codeAny_handlers_suite_as ?_)
    obtain ⟨oT, tsT, qT, dT, rT⟩ := id t
    obtain ⟨l1, l2⟩ := J.locNe qT dT
    refine setFlight_ok x t ?_
    have J2 := J'.turned (it := T) (t' := tk1) (h' := hp1.update T (Obj.mapFields (·.setIfInBounds 3 .none))) (fun b o hb e => (Heap.get?_update_other _ _ (Ne.symm hb)).trans e) nT l1 (.inr hT) l2 pT
    refine store_ok (X := X.hand ea) J2 hN hi (.inl hk) (show RelV (.ref ea) (.ref ea) from rfl) (fun s2 J3 => ?_) (.inr hk)
    refine wpAny_mono (hs ea pins s2 _ _ (Dn.gone i) J3 q) (fun f s3 hq => ?_) fun _ _ z => False.elim z
    have fin : ∀ {σ' : St} {H' : Hp} {Q : Unit → Shared → Prop} {E : Value → Shared → Prop}, Inv (X.hand ea) pins σ' H' s3 → (∀ s4, Inv X pins (σ'.set i none) H' s4 → Q () s4) → wpAny (model X.prog X.w) X.A (do bindName X.env n .none; unbindBehindTheSuite X.env n hpos) Q E s3 :=
      fun Z k => (Z.unhand J.ok).gone hN hi hk k
    cases f with
    | next =>
      obtain ⟨σ', H', Z, q⟩ := hq
      exact fin Z fun s4 Z4 => ⟨_, H', Z4, q⟩
    | ret v =>
      obtain ⟨v', σ', H', Z, r, q⟩ := hq
      exact fin Z fun s4 Z4 => ⟨v', _, H', Z4, r, q⟩
    | brk =>
      obtain ⟨σ', H', Z, q⟩ := hq
      exact fin Z fun s4 Z4 => ⟨_, H', Z4, q⟩
    | cont =>
      obtain ⟨σ', H', Z, q⟩ := hq
      exact fin Z fun s4 Z4 => ⟨_, H', Z4, q⟩
theorem phs_no (hs : ∀ ea, PSs (X.hand ea) (b₀ :: suite) (ts ea)) (hr : PHs X rest tr) (hg : Gl X wn) (hm : X.mg wn = some (.ref D)) (ob : XOb X.K D bmD) (hbm : bmD.contains (.type "BaseException") = true)
    (hdb : (wn == ("__debug__" : Str)) = false := by decide) : PHs X (.ExceptHandler (some (.Name wn np)) none (b₀ :: suite) hpos :: rest) (tHNone X.K D ts tr) := by
  intro pins s1 σ1 H1 Dn ea C T bm0 dd J hH obC0 x t nT hT pT ⟨bm, r, obC, hc, q⟩
  have xo := obC
  obtain ⟨nmC, qC, NC, bsC, hdC, snC, subC, abC, colC, ddC, a0, a1, a2, a3, a5, hoC⟩ := xo
  obtain ⟨nmD, qD, ND, bsD, hdD, snD, subD, abD, colD, ddD, d0, d1, d2, d3, d5, hoD⟩ := id ob
  obtain ⟨vs3, sl3, q3, z3, t3⟩ := id x
  have J' := J.hand (ea := ea)
  refine wpAny_handleBy_cons (codeAny_handlers_test (ld_glob (X := X.hand ea) J' hg hm ?_ hdb)) (by intro q; cases q)
  obtain ⟨hp1, g1, dr1, tk1, os1⟩ := s1
  cases r with
  | false =>
    refine exc_match (J.kIn _ _ hoC) (J.kIn _ _ hoD) q3 rfl hbm hc ?_
    exact hr pins _ σ1 H1 Dn ea C T bm dd J hH obC x t nT hT pT q
  | true =>
    refine exc_match (J.kIn _ _ hoC) (J.kIn _ _ hoD) q3 rfl hbm hc (codeAny_handlers_suite ?_)
    obtain ⟨oT, tsT, qT, dT, rT⟩ := id t
    obtain ⟨l1, l2⟩ := J.locNe qT dT
    refine setFlight_ok x t ?_
    have J2 := J'.turned (it := T) (t' := tk1) (h' := hp1.update T (Obj.mapFields (·.setIfInBounds 3 .none))) (fun b o hb e => (Heap.get?_update_other _ _ (Ne.symm hb)).trans e) nT l1 (.inr hT) l2 pT
    refine wpAny_mono (hs ea pins _ _ _ Dn J2 q) (fun f s3 hq => ?_) fun _ _ z => False.elim z
    cases f with
    | next =>
      obtain ⟨σ', H', Z, q⟩ := hq
      exact ⟨_, H', Z.unhand J.ok, q⟩
    | ret v =>
      obtain ⟨v', σ', H', Z, r, q⟩ := hq
      exact ⟨v', _, H', Z.unhand J.ok, r, q⟩
    | brk =>
      obtain ⟨σ', H', Z, q⟩ := hq
      exact ⟨_, H', Z.unhand J.ok, q⟩
    | cont =>
      obtain ⟨σ', H', Z, q⟩ := hq
      exact ⟨_, H', Z.unhand J.ok, q⟩
/-- the whole -/
def tTryH (K : Frag) (tb : TB) (th : THs) (to : TS) : TS := fun Dn σ H => tb { Dn with nx := to Dn } (fun σ' ev dd H' => ∃ ea C bm, ev = .ref ea ∧ H' ea = some (ExcO ea C dd) ∧ XOb K C bm ∧ th ea C dd Dn σ' H') σ H
theorem ps_tryH {body orelse : List Stmt} {h₀ : ExceptHandler} {hl : List ExceptHandler} {tb : TB} {th : THs} {to : TS} (hb : PB X body tb) (hh : PHs X (h₀ :: hl) th) (ho : PSs X orelse to) (hst : X.stack = X.env :: X.outer := by rfl) (hfr : X.env.frame = some X.env.locals := by rfl) :
    PS X (.Try body (h₀ :: hl) orelse [] pos) (tTryH X.K tb th to) := by
  intro pins s σ H Dn I h
  refine wpAny_Try_except (wpAny_mono (hb pins s σ H { Dn with nx := to Dn } _ I h) (fun f s1 q => ?_) ?_)
  · cases f with
    | next =>
      obtain ⟨σ', H', I', q⟩ := q
      exact ho pins s1 σ' H' Dn I' q
    | ret v => exact q
    | brk => exact q
    | cont => exact q
  rintro e s1 ⟨σ1, ea, C, dd, tb1, H1, rfl, I1, mu, x, ht, ea', C', bm, e1, hH, obC, q⟩
  cases e1
  have ne : ∀ T0, H1 T0 = none → T0 ≠ ea := fun T0 n z => by subst z; rw [n] at mu; exact mu
  refine noted_ok (base := X.base) (env := X.env) (outer := X.outer) (by rw [I1.ok.frames, hst]) (by rw [← hst]; exact I1.stack) hfr x ?_ fun h' T Nt => ?_
  · rcases ht with z | ⟨T0, z, n0, _, _, t0⟩
    · exact .inl z
    · exact .inr ⟨T0, z, ne T0 n0, t0⟩
  have J := I1.noted hst hfr mu x ht Nt
  obtain ⟨nT0, hT, pT⟩ := tb_new I1 ht Nt.new
  have nT : upd H1 ea (ExcO ea C dd) T = none := by
    rw [upd_ne (ne T nT0)]; exact nT0
  have eC : C' = C := by
    obtain ⟨tb2, vs2, sl2, q2, _⟩ := exc_at J.hok hH
    obtain ⟨vs3, sl3, q3, _⟩ := Nt.ex
    have q3' := q3.symm.trans q2
    cases q3'
    rfl
  subst eC
  exact hh pins _ σ1 _ Dn ea C' T bm dd J upd_same obC Nt.ex Nt.tb nT hT pT q
end
end L2
namespace L2
open PySem PySem.Spec PyProof.Rows PySem.W

/-! ### loops in a def that may raise -/
section
variable {X : Cx} {E : XK}
end

/-! ### methods and makings that raise, within a try's body -/
section
variable {X : Cx} {k : Nat} {f C : Addr} {fd : FuncData} {ps : List Str} {sp : Sp} {dvs : List V} {ds : List Value} {x m : Str} {p pos apos : Pos} {e o : Expr} {es : List Expr} {ta : TE} {t : TA}
end
end L2
namespace L2
open PySem PySem.Spec PyProof.Rows
section
variable {X : Cx}
theorem op_alt {f : Value → Value → Sem Value} {r r' : R2} (h : OpR X f r) (h' : OpR X f r') : OpR X f (fun x y H Q => r x y H Q ∨ r' x y H Q) := by
  intro pins s σ H x y v u Q I rx ry q
  rcases q with q | q
  · exact h pins s σ H x y v u Q I rx ry q
  · exact h' pins s σ H x y v u Q I rx ry q
/-- tuples compared, flat items -/
def rEqT (K : PySem.W.Frag) : R2 := fun x y H Q => ∃ a b xs ys, x = .ref a ∧ y = .ref b ∧ SqT K H a xs ∧ SqT K H b ys ∧ xs.all flatV = true ∧ ys.all flatV = true ∧ xs.length = ys.length ∧ Q (.bl (eqVs xs ys)) H
theorem op_eqT (hu : X.A.units < cLine) : OpR X (compareOp .Eq) (rEqT X.K) := by
  intro pins s σ H x y v u Q I rx ry h
  obtain ⟨a, b, xs, ys, rfl, rfl, ha, hb, fx, fy, hl, q⟩ := h
  cases rx
  cases ry
  obtain ⟨its, r1, p1, _⟩ := I.tuple ha
  obtain ⟨its2, r2, p2, _⟩ := I.tuple hb
  have l1 := r1.length
  have l2 := r2.length
  refine SeqAt.eq_tupleAt (e := eqAtN xs ys) (show s.heap.IsTuple a its.toArray from p1) (show s.heap.IsTuple b its2.toArray from p2) hu (fun j h1 h2 => items_eqAt r1 r2 fx fy j h1 h2) ⟨.bl _, H, I, rfl, ?_⟩
  have e1 : min its.toArray.size its2.toArray.size = xs.length := by simp; omega
  have e2 : (its.toArray.size == its2.toArray.size) = true := by simp; omega
  rw [e1, e2, Bool.and_true, all_eqAtN hl]
  exact q
/-- x.split(y) -/
def rSplit : V → List V → Hp → VK → Prop := fun x xs H Q => ∃ z y, x = .str z ∧ xs = [.str y] ∧ (y.length == 0) = false ∧ z.length + 2 ≤ sizeLine ∧ ∀ p, H p = none → Q (.ref p) (upd H p (.lst ((Txt.split z y).map V.str)))
theorem vals_strs : ∀ (l : List (Str × Tok)), Vals ((l.map (·.1)).map V.str) (strValues l)
  | [] => .nil
  | p :: l => .cons ⟨p.2, rfl⟩ (vals_strs l)
theorem split_len (z y : Str) : (Txt.split z y).length ≤ z.length + 2 := by
  unfold Txt.split
  split
  · simp
  · split
    · simp
    · rw [length_partsBetween]
      have := StrLaws.occ_length_le z y 0 z.length (z.length + 1)
      omega
theorem mt_split : MtR X "str.split" rSplit := by
  intro pins s σ H x xs v us Q I rx rs h
  obtain ⟨z, y, rfl, rfl, hy, hz, q⟩ := h
  obtain ⟨t, rfl⟩ := rx
  obtain ⟨u, rfl, ru⟩ := rs.one
  obtain ⟨t', rfl⟩ := ru
  have hn := split_len z y
  have hn2 : (Builtin.Str.partsBetween z (Builtin.Str.occurrences z y 0 z.length (z.length + 1)) y.length).length ≤ sizeLine := by
    rw [length_partsBetween]
    have := StrLaws.occ_length_le z y 0 z.length (z.length + 1)
    omega
  have fin : ∀ (l : List (Str × Tok)) (k : Nat), l.map (·.1) = Txt.split z y → EP X pins σ Q (.ref s.heap.objs.size) { s with heap := s.heap.push { cls := .type "list", data := .seq (strValues l).toArray }, toks := k } := fun l k e =>
    ⟨.ref s.heap.objs.size, _, I.lnew (its := strValues l) (ys := (Txt.split z y).map V.str) (t' := k) (by rw [← e]; exact vals_strs l) (by rw [List.length_map]; omega), rfl, q _ I.fresh⟩
  have tz := typeIs_str s z t
  have ag := F.args_str_split_2 (.str z t) (.str y t')
  cases c1 : (decide (z.length < y.length) || decide (Builtin.Str.strKind z < Builtin.Str.strKind y)) with
  | true => exact call_meets F.slot_str_split tz F.entry_str_split ag (meets_str_split_cannot_occur z y t t' c1) (fin [(z, t)] s.toks (by unfold Txt.split; rw [if_pos c1]; rfl))
  | false =>
    cases c2 : (Builtin.Str.occurrences z y 0 z.length (z.length + 1)).isEmpty with
    | true => exact call_meets F.slot_str_split tz F.entry_str_split ag (meets_str_split_not_found z y t t' c1 hy c2) (fin [(z, t)] s.toks (by unfold Txt.split; rw [if_neg (by rw [c1]; decide), if_pos c2]; rfl))
    | false =>
      refine call_meets F.slot_str_split tz F.entry_str_split ag (meets_str_split_sep z y t t' c1 hy c2 (by omega) hn2) ?_
      have e := fin (numbered s.toks (Builtin.Str.partsBetween z (Builtin.Str.occurrences z y 0 z.length (z.length + 1)) y.length)) (s.toks + (Builtin.Str.partsBetween z (Builtin.Str.occurrences z y 0 z.length (z.length + 1)) y.length).length)
        (by rw [numbered_texts]; unfold Txt.split; rw [if_neg (by rw [c1]; decide), if_neg (by rw [c2]; decide)])
      rw [← strsFrom_eq] at e
      exact e
/-- put together again -/
theorem split_join (z y : Str) : Txt.join y (Txt.split z y) = z := by
  unfold Txt.split
  split
  · rfl
  · split
    · rfl
    · exact StrLaws.glued_between_self z y (z.length + 1)
/-- all(xs) of a list of truths -/
theorem bools_items : ∀ {bs : List Bool} {us : List Value}, Vals (bs.map V.bl) us → us = bs.map Value.bool
  | [], us, r => by
    rw [List.map_nil] at r
    cases r
    rfl
  | b :: bs, us, r => by
    rw [List.map_cons] at r
    cases r with
    | cons r1 r2 =>
      cases (show _ = Value.bool b from r1)
      rw [bools_items r2, List.map_cons]
theorem call_all (hh : X.A.handled = none) : CallR X (.builtin "all") (fun vs H Q => ∃ (p : Addr) (bs : List Bool), vs = [.ref p] ∧ SqL X.K H p (bs.map V.bl) ∧ Q (.bl (bs.all id)) H) := by
  intro pins s σ H xs us Q I r h
  obtain ⟨p, bs, rfl, hq, q⟩ := h
  obtain ⟨u, rfl, ru⟩ := r.one
  cases ru
  obtain ⟨its, r1, p1, _⟩ := I.list hq
  cases bools_items r1
  have hl : s.heap.IsList p (bs.map Value.bool).toArray := p1.isList
  have hlt : p < s.heap.objs.size := by obtain ⟨_, e, _⟩ := hl; exact Heap.lt_size e
  refine call_all_walk (wpAny_pyIter_list hl ?_)
  refine ⟨_, _, _, _, _, _, fun i => bs.getD i true, rfl, Walks.list (A := X.A.in1) hh _ p (Nat.ne_of_lt hlt) (bs.map Value.bool).toArray, ⟨⟨_, Heap.get?_push_size _ rfl, rfl, rfl⟩, hl.push _⟩, ?_, fun h' tk hk => ?_⟩
  · intro i v s' Q' E' hi hq'
    have hi' : (bs.map Value.bool)[i]? = some v := by simpa using hi
    rw [List.getElem?_map] at hi'
    cases e : bs[i]? with
    | none => rw [e] at hi'; cases hi'
    | some b =>
      rw [e] at hi'
      cases hi'
      have eb : bs.getD i true = b := by simp [List.getD, e]
      have hq2 : Q' b s' := by rw [← eb]; exact hq'
      exact wpAny_truthy_bool hq2
  · have ea : (List.range (bs.map Value.bool).toArray.size).all (fun i => bs.getD i true) = bs.all id := by
      have : (List.range bs.length).map (fun i => bs.getD i true) = bs := by
        apply List.ext_getElem
        · simp
        · intro n h1 h2
          simp [List.getD, List.getElem?_eq_getElem h2]
      calc _ = ((List.range bs.length).map (fun i => bs.getD i true)).all id := by rw [List.all_map]; simp
        _ = bs.all id := by rw [this]
    rw [ea]
    exact ⟨.bl _, H, I.kept (h' := h') (t' := tk) (fun b o e => hk b o (by simp; exact Nat.ne_of_lt (Heap.lt_size e)) (Heap.get?_push_of_some _ e)), rfl, q⟩
end
end L2
/-! ### general words over the layer -/
namespace L2
open PySem PySem.Spec PyProof.Rows
section
variable {P : Program} {w : World} {K : PySem.W.Frag} {mg : Str → Option Value} {base : Heap}
/-- a def that may raise an own exception -/
theorem Fun.okX {x qual : Str} {st : Stmt} {f : Addr} {fd : FuncData} {N ps : List Str} {k : Nat} {sp : Sp} (F : Fun K x qual st f fd) (S : FnScope N ps (defScope st)) (len : ∀ vs H Q E, sp vs H Q E → vs.length = ps.length)
    (hbody : ∀ (cdv : Value) (A : Around) (outer : List Env) (s : Shared) (H : Hp) (vs : List V) (Q : VK) (E : XK), Room k (A.deeper (envOfC qual (defScope st) s.heap.objs.size f cdv)) → sp vs H Q E →
      ∃ t, PSs (cxOf (CXw P w) P w K mg base N qual (defScope st) f cdv A outer s H E) (defBody st) t ∧ t { nx := fun _ H' => Q .non H', rt := Q } (start N vs) H) : FnOk P w K mg base (CXw P w) (k + 1) f fd ps sp := by
  obtain ⟨oc, od, kV, doc, pm, an, cdv, ct, osl, rfl, lk, hcd⟩ := F.ex
  exact fn_of lk hcd S len fun A outer s H vs Q E hr hsp => hbody cdv A outer s H vs Q E hr hsp
theorem same_new {H : Hp} {p : Addr} (h : H p = none) (o : HO) : Same H (upd H p o) := fun b u q => by rw [upd_ne (ne_of_none q h)]; exact q
theorem same_over {H H' : Hp} {p : Addr} (s : Same H H') (h : H p = none) (o : HO) : Same H (upd H' p o) := fun b u q => by rw [upd_ne (ne_of_none q h)]; exact s b u q
theorem small {n : Nat} (h : n ≤ 100000) : n < sizeLine := Nat.lt_of_le_of_lt h (by decide)
theorem take_snoc {α β : Type} (f : α → β) {l : List α} {i : Nat} {c : α} (h : l[i]? = some c) : (l.take (i + 1)).map f = (l.take i).map f ++ [f c] := by
  rw [List.take_add_one, h, List.map_append]
  rfl
theorem codes_at {x : Str} {i c : Nat} (h : x.cps[i]? = some c) : x.cps.toList[i]? = some c := by simpa using h
theorem codes_len (x : Str) : x.cps.toList.length = x.length := by simp [Str.length]
/-- a comprehension over a list, by a word -/
theorem comp_list {a p : Addr} {xs : List V} {tt : TT} {te : TE} {cs : St} {Q : VK} {H1 : Hp} (Pv : Nat → List V → Hp → Prop) (h0 : Pv 0 [] (upd H1 p (.lst []))) (hl : ∀ i ys H, i ≤ xs.length → Pv i ys H → SqL K H a xs)
    (hs : ∀ i x ys H, xs[i]? = some x → Pv i ys H → tt (some x :: cs) H fun b H4 => if b = true then te (some x :: cs) H4 fun y H5 => H5 p = some (.lst ys) ∧ ys.length < sizeLine ∧ Pv (i + 1) (ys ++ [y]) (upd H5 p (.lst (ys ++ [y]))) else Pv (i + 1) ys H4)
    (hd : ∀ ys H, Pv xs.length ys H → Q (.ref p) H) : CompW (Itl K a) p tt te cs Q H1 :=
  comp_by xs.length Pv h0 (fun i ys H hi pv => ⟨⟨xs, xs[i], hl i ys H (Nat.le_of_lt hi) pv, by simp [hi]⟩, fun v H3 ⟨e, y⟩ => by
    subst e
    exact hs i v ys _ (y xs (hl i ys _ (Nat.le_of_lt hi) pv)) pv⟩) fun ys H pv => ⟨⟨xs, hl _ ys H (Nat.le_refl _) pv, Nat.le_refl _⟩, hd ys H pv⟩
/-- behind a raise -/
theorem raised_same {H : Hp} {e dx : Addr} {a b c d : HO} (he : H e = none) (hd : H dx = none) : Same H (upd (upd (upd (upd H e a) dx b) e c) e d) := fun x u q => by
  rw [upd_ne (ne_of_none q he), upd_ne (ne_of_none q he), upd_ne (ne_of_none q hd), upd_ne (ne_of_none q he)]
  exact q
theorem new_free {H : Hp} {p q : Addr} {o : HO} (h : upd H p o q = none) : q ≠ p ∧ H q = none := by
  have n : q ≠ p := fun z => by rw [z, upd_same] at h; cases h
  rw [upd_ne n] at h
  exact ⟨n, h⟩
/-- an own exception class with an own __init__, as a raiser wants it -/
structure XHas (K : PySem.W.Frag) (mg : Str → Option Value) (x : Str) (st : Stmt) (C : Addr) (bm : List Value) (f : Addr) (fd : FuncData) (ps : List Str) : Prop where
  xm : XMk K C bm f
  cl : XCls K C
  be : bm.contains (.type "BaseException") = true
  nm : mg x = some (.ref C)
  fn : Fun K "__init__" (x ++ Str.ofString ".__init__") st f fd
  bd : Binds K fd ps []
structure Has (K : PySem.W.Frag) (mg : Str → Option Value) (x : Str) (st : Stmt) (ps : List Str) (f : Addr) (fd : FuncData) : Prop where
  fn : Fun K x x st f fd
  bd : Binds K fd ps []
  nm : mg x = some (.ref f)
end
end L2
namespace L2
open PySem PyProof.Rows
theorem cut_mem {ns : List Int} {lo hi : Option Int} {i : Nat} {x : V} (h : (cutV (ns.map V.int) lo hi)[i]? = some x) : ∃ c, x = .int c := by
  have m := List.mem_of_getElem? h
  unfold cutV at m
  obtain ⟨c, _, e⟩ := List.mem_map.mp (List.mem_of_mem_drop (List.mem_of_mem_take m))
  exact ⟨c, e.symm⟩
/-! ### classes of exceptions by the text -/
abbrev wl (W : Addr) : List Value := .ref W :: tailVE
theorem tail_ve (K : PySem.W.Frag) : PySem.W.tailIn K tailVE tailVE = true := by
  unfold tailVE PySem.W.tailIn
  simp
theorem ns_ok {K : PySem.W.Frag} {N : Addr} {oc : Value} {od : Option Addr} {es : Array DictEntry} {ep : Nat} {sl : Array (Option Value)} (l : K.lookup N = some ⟨oc, od, .dict es ep, sl⟩) (h : (es.all fun e => match e.key with | .str _ _ => true | _ => false) = true) : PySem.W.nsOkIn K N = true := by
  unfold PySem.W.nsOkIn
  rw [l]
  exact h
theorem tail_own {K : PySem.W.Frag} {C N : Addr} {bm tl : List Value} {nm q : Str} {bs : List Value} {hdct : Bool} {sn : List Str} {sub : List Value} {ab : Bool} {col : Option Bool} {dd : Option Addr} {k0 k1 k2 k3 k5 : Option Value}
    (l : K.lookup C = some (excClassObj nm q C N bs bm hdct sn sub ab col dd k0 k1 k2 k3 k5 "ValueError.__new__")) (n1 : PySem.W.nsOkIn K N = true) (n2 : PySem.W.nsIn K N "__init__" = some none) (t : PySem.W.tailIn K tailVE tl = true) : PySem.W.tailIn K tailVE (.ref C :: tl) = true := by
  unfold PySem.W.tailIn
  dsimp only
  rw [l]
  simp [n1, n2, t]
end L2
namespace L2
open PySem PySem.Spec PyProof.Rows
/-! ### lists of pairs as tables -/
section
variable {κ : Type} [DecidableEq κ]
def valV (kvs : List (κ × V)) (k : κ) : Option V := (kvs.find? fun kv => decide (kv.1 = k)).map (·.2)
/-- in its place, or at the end -/
def putK (kvs : List (κ × V)) (k : κ) (v : V) : List (κ × V) :=
  if (kvs.any fun kv => decide (kv.1 = k)) = true then kvs.map (fun kv => if kv.1 = k then (kv.1, v) else kv) else kvs ++ [(k, v)]
theorem valV_pos {p : κ × V} {r : List (κ × V)} {k : κ} (e : p.1 = k) : valV (p :: r) k = some p.2 := by simp [valV, List.find?_cons, e]
theorem valV_neg {p : κ × V} {r : List (κ × V)} {k : κ} (e : ¬ p.1 = k) : valV (p :: r) k = valV r k := by simp [valV, List.find?_cons, e]
theorem length_putK (kvs : List (κ × V)) (k : κ) (v : V) : (putK kvs k v).length ≤ kvs.length + 1 := by
  unfold putK
  split
  · rw [List.length_map]; omega
  · rw [List.length_append, List.length_cons, List.length_nil]; omega
theorem RelO.isSome_eq {o : Option V} {u : Option Value} (r : RelO o u) : o.isSome = u.isSome := by
  cases o with
  | none => cases u with
    | none => rfl
    | some _ => exact (show False from r).elim
  | some _ => cases u with
    | none => exact (show False from r).elim
    | some _ => rfl
/-- raw tables of the same keys -/
theorem KV.val {kvs : List (κ × V)} {vs : List (κ × Value)} (r : KV kvs vs) (k : κ) : RelO (valV kvs k) (valueAt vs k) := by
  unfold KV at r
  induction r with
  | nil => exact True.intro
  | @cons p q ps qs h t ih =>
    obtain ⟨h1, h2⟩ := h
    by_cases e : p.1 = k
    · have e' : q.1 = k := h1.symm.trans e
      have b : valueAt (q :: qs) k = some q.2 := by simp [valueAt, List.find?_cons, e']
      rw [valV_pos e, b]; exact h2
    · have e' : ¬ q.1 = k := fun z => e (h1.trans z)
      have b : valueAt (q :: qs) k = valueAt qs k := by simp [valueAt, List.find?_cons, e']
      rw [valV_neg e, b]; exact ih
theorem KV.any {kvs : List (κ × V)} {vs : List (κ × Value)} (r : KV kvs vs) (k : κ) : (kvs.any fun kv => decide (kv.1 = k)) = vs.any fun kv => decide (kv.1 = k) := by
  unfold KV at r
  induction r with
  | nil => rfl
  | cons h t ih => rw [List.any_cons, List.any_cons, ih, h.1]
theorem KV.repl {kvs : List (κ × V)} {vs : List (κ × Value)} (r : KV kvs vs) (k : κ) {y : V} {u : Value} (ry : RelV y u) :
    KV (kvs.map fun kv => if kv.1 = k then (kv.1, y) else kv) (vs.map fun kv => if kv.1 = k then (kv.1, u) else kv) := by
  unfold KV at r ⊢
  induction r with
  | nil => exact .nil
  | @cons p q ps qs h t ih =>
    rw [List.map_cons, List.map_cons]
    refine .cons ?_ ih
    obtain ⟨h1, h2⟩ := h
    by_cases e : p.1 = k
    · rw [if_pos e, if_pos (h1.symm.trans e)]; exact ⟨h1, ry⟩
    · rw [if_neg e, if_neg (fun z => e (h1.trans z))]; exact ⟨h1, h2⟩
theorem KV.put {kvs : List (κ × V)} {vs : List (κ × Value)} (r : KV kvs vs) (k : κ) {y : V} {u : Value} (ry : RelV y u) : KV (putK kvs k y) (stored vs k u) := by
  unfold putK stored
  rw [r.any k]
  by_cases e : (vs.any fun kv => decide (kv.1 = k)) = true
  · rw [if_pos e, if_pos e]; exact r.repl k ry
  · rw [if_neg e, if_neg e]; exact Paired.snoc r ⟨rfl, ry⟩
theorem KV.length {kvs : List (κ × V)} {vs : List (κ × Value)} (r : KV kvs vs) : kvs.length = vs.length := Paired.length r
end


/-! ### a tracked dict, its keys ints and texts or tuples of these -/
theorem kV_is {P : Program} {w : World} {k : Key} {u : Value} (r : RelV (kV k) u) : (mixKind P w).is k u = true := by
  cases k with
  | inl i => obtain ⟨t, e⟩ := (show ∃ t, u = Value.int i t from r); subst e; exact mixKind_int P w i t
  | inr x => obtain ⟨t, e⟩ := (show ∃ t, u = Value.str x t from r); subst e; exact mixKind_str P w x t
theorem items_are {P : Program} {w : World} : ∀ {ks : List Key} {us : List Value}, Vals (ks.map kV) us → ItemsAre (mixKind P w) ks us
  | [], _, r => by rw [List.map_nil] at r; cases r; exact .nil
  | k :: ks, _, r => by
    rw [List.map_cons] at r
    cases r with
    | cons h t => exact .cons (kV_is h) (items_are t)

/-- raw entries of a dict with tuple keys -/
abbrev KT (H : Hp) : List (List Key × V) → List (List Key × Addr × Value) → Prop := Paired fun p q => p.1 = q.1 ∧ H q.2.1 = some (.tup (p.1.map kV)) ∧ RelV p.2 q.2.2
theorem KT.val {H : Hp} {kvs : List (List Key × V)} {xs : List (List Key × Addr × Value)} (r : KT H kvs xs) (k : List Key) : RelO (valV kvs k) ((atKey xs k).map (·.2)) := by
  induction r with
  | nil => exact True.intro
  | @cons p q ps qs h t ih =>
    obtain ⟨h1, _, h2⟩ := h
    by_cases e : p.1 = k
    · have e' : q.1 = k := h1.symm.trans e
      have b : atKey (q :: qs) k = some q.2 := by simp [atKey, List.find?_cons, e']
      rw [valV_pos e, b]; exact h2
    · have e' : ¬ q.1 = k := fun z => e (h1.trans z)
      have b : atKey (q :: qs) k = atKey qs k := by simp [atKey, List.find?_cons, e']
      rw [valV_neg e, b]; exact ih
section
variable {P : Program} {w : World} {H : Hp} {h : Heap} {a : Addr}
theorem rd_of {u : HO} (ok : HOk P w H h) (e : Rd H a u) : ObjOk P w H h a u := e.ok ok
theorem dk_rd {kvs : List (Key × V)} (ok : HOk P w H h) (e : Rd H a (.dK kvs)) : kvs.length ≤ sizeLine ∧ (a == sysModules) = false ∧ ∃ vs, KV kvs vs ∧ h.DictOf (mixKind P w) a vs :=
  show ObjOk P w H h a (.dK kvs) from rd_of ok e
theorem dk_of {kvs : List (Key × V)} (ok : HOk P w H h) (e : H a = some (.dK kvs)) : kvs.length ≤ sizeLine ∧ (a == sysModules) = false ∧ ∃ vs, KV kvs vs ∧ h.DictOf (mixKind P w) a vs := dk_rd ok (.inl e)
/-- a tracked tuple of ints and texts is a key -/
theorem key_of {ks : List Key} (ok : HOk P w H h) (e : H a = some (.tup (ks.map kV))) : (tupleKind (mixKind P w)).is h ks a := by
  obtain ⟨_, its, r, o, h1, h2, n, h3⟩ := (show ObjOk P w H h a (.tup (ks.map kV)) from ok a _ e)
  exact ⟨o, its.toArray, n, h1, h2, h3, by simpa using items_are r⟩
theorem dt_rd {kvs : List (List Key × V)} (ok : HOk P w H h) (e : Rd H a (.dT kvs)) : kvs.length ≤ sizeLine ∧ (a == sysModules) = false ∧
    ∃ xs, KT H kvs xs ∧ h.DictOfH (tupleKind (mixKind P w)) a xs := by
  obtain ⟨z, y, xs, r, o, es, ep, h1, h2, h3, h4, h5⟩ := (show ObjOk P w H h a (.dT kvs) from rd_of ok e)
  refine ⟨z, y, xs, r, o, es, ep, h1, h2, h3, h4, fun x hx => ?_, h5⟩
  have all : ∀ {l : List (List Key × V)} {m : List (List Key × Addr × Value)}, KT H l m → ∀ x ∈ m, (tupleKind (mixKind P w)).is h x.1 x.2.1 := by
    intro l m q
    induction q with
    | nil => intro x hx; exact nomatch hx
    | @cons p q ps qs hq t ih =>
      intro x hx
      rcases List.mem_cons.mp hx with e | hx
      · subst e
        exact key_of ok (by rw [← hq.1]; exact hq.2.1)
      · exact ih x hx
  exact all r x hx
end

/-- what the dict at a holds at the key y -/
def DGet (H : Hp) (a : Addr) (y : V) (r : Option V) : Prop :=
  (∃ kvs k, Rd H a (.dK kvs) ∧ y = kV k ∧ r = valV kvs k) ∨ ∃ kvs k b, Rd H a (.dT kvs) ∧ y = .ref b ∧ H b = some (.tup (k.map kV)) ∧ r = valV kvs k
theorem DGet.k {H : Hp} {a : Addr} {kvs : List (Key × V)} {k : Key} (e : H a = some (.dK kvs)) : DGet H a (kV k) (valV kvs k) := .inl ⟨kvs, k, .inl e, rfl, rfl⟩
section
variable {X : Cx} {pins : List (Addr × Obj)} {σ : St} {H : Hp} {s : Shared} {a : Addr} {y v : V} {u r : Value} {o : Option V} {A : Around} {E : Value → Shared → Prop}

theorem Inv.big (I : Inv X pins σ H s) : sysModules < s.heap.objs.size := by
  have h : mainGlobals < s.heap.objs.size := (I.mod.glob.keeps I.bk).lt
  exact Nat.lt_trans (by decide) h

/-- d[y], there -/
theorem d_getItem {Q : Value → Shared → Prop} (hu : A.units + 1 < cLine) (I : Inv X pins σ H s) (g : DGet H a y (some v)) (ry : RelV y u) (h : ∀ w' s', Inv X pins σ H s' → RelV v w' → Q w' s') :
    wpAny (model X.prog X.w) A (getItem (.ref a) u) Q E s := by
  rcases g with ⟨kvs, k, e, ey, l⟩ | ⟨kvs, k, b, e, ey, eb, l⟩
  · subst ey
    obtain ⟨z, hd, vs, rel, dd⟩ := dk_rd I.hok e
    obtain ⟨w', hw, rw'⟩ := RelO.some_of (v := v) (o := valueAt vs k) (by rw [l]; exact rel.val k)
    exact wpAny_getItem_of (kV_is ry) dd.mapOf hw (h w' _ (I.tok _) rw')
  · subst ey
    cases (show u = Value.ref b from ry)
    obtain ⟨z, hd, xs, rel, dd⟩ := dt_rd I.hok e
    obtain ⟨w', hw, rw'⟩ := RelO.some_of (v := v) (o := (atKey xs k).map (·.2)) (by rw [l]; exact rel.val k)
    obtain ⟨p, hp, hp2⟩ := Option.map_eq_some_iff.mp hw
    refine wpAny_getItem_heap (tupleKind_room_in1 hu) (key_of I.hok eb) dd hp ?_
    rw [hp2]
    exact h w' _ (I.tok _) rw'
/-- y in d -/
theorem d_in {Q : Value → Shared → Prop} (hu : A.units + 1 < cLine) (I : Inv X pins σ H s) (g : DGet H a y o) (ry : RelV y u) (h : ∀ s', Inv X pins σ H s' → Q (.bool o.isSome) s') :
    wpAny (model X.prog X.w) A (compareOp .In u (.ref a)) Q E s := by
  rcases g with ⟨kvs, k, e, ey, l⟩ | ⟨kvs, k, b, e, ey, eb, l⟩
  · subst ey
    obtain ⟨z, hd, vs, rel, dd⟩ := dk_rd I.hok e
    refine wpAny_in_of (kV_is ry) hd dd.mapOf ?_
    rw [← (rel.val k).isSome_eq, ← l]
    exact h _ (I.tok _)
  · subst ey
    cases (show u = Value.ref b from ry)
    obtain ⟨z, hd, xs, rel, dd⟩ := dt_rd I.hok e
    refine wpAny_in_heap (tupleKind_room_in1 hu) (key_of I.hok eb) hd dd ?_
    have q := (rel.val k).isSome_eq
    rw [Option.isSome_map] at q
    rw [← q, ← l]
    exact h _ (I.tok _)
/-- a dict's object is replaced -/
theorem d_write {h' : Heap} {t' : Nat} {ob : HO} (I : Inv X pins σ H s) (mu : Mut (H a)) (hs : Heap.SameBut a s.heap h') (he : ∃ q, h'.get? a = some q) (new : ObjOk X.prog X.w (upd H a ob) h' a ob) :
    Inv X pins σ (upd H a ob) { s with heap := h', toks := t' } :=
  I.write (x := a) (e := a) mu (.inl rfl) (fun b q hb z => (hs.2 b hb).trans z) he new
theorem dk_new {P : Program} {w : World} {H' : Hp} {h' : Heap} {kvs : List (Key × V)} {vs : List (Key × Value)} (z : kvs.length ≤ sizeLine) (hd : (a == sysModules) = false) (rel : KV kvs vs) (dd : h'.DictOf (mixKind P w) a vs) :
    ObjOk P w H' h' a (.dK kvs) := ⟨z, hd, vs, rel, dd⟩
end

section
variable {X : Cx} {pins : List (Addr × Obj)} {σ : St} {H : Hp} {s : Shared} {a : Addr} {kvs : List (Key × V)} {k : Key} {u : Value} {A : Around} {E : Value → Shared → Prop}
end


/-! ### readings and rules -/
/-- the element of a subscription, not a slice -/
def NoSl (i : Expr) : Prop := ∀ ov iv, subscripted i false ov iv = operate [ov, iv] (getItem ov iv)
theorem subD_of {prog : Program} {w : World} {A : Around} {E : Value → Shared → Prop} {s : Shared} {env : Env} {value slice : Expr} {pos : Pos} {T id : String} {Q : Value → Shared → Prop}
    (hl : typeLookup (.type T) "__getitem__" = pure (some (.builtin id))) (hs : NoSl slice)
    (h : wpAny (model prog w) A (eval value env) (fun o s₁ => wpAny (model prog w) A (eval slice env) (fun i s₂ => s₂.TypeIs o T ∧ wpAny (model prog w) A (getItem o i) Q E s₂) E s₁) E s) :
    wpAny (model prog w) A (eval (.Subscript value slice pos) env) Q E s := by
  refine Subscript_ (wpAny_mono h (fun o s₁ h₁ => wpAny_mono h₁ (fun i s₂ h₂ => ?_) fun _ _ x => x) fun _ _ x => x)
  obtain ⟨hT, h₂⟩ := h₂
  unfold subscriptTail
  refine wpAny_bind ?_
  rw [getitemInPython_of_ne hT.not_modules]
  refine wpAny_bind (wpAny_specialOf hT hl ?_)
  have fin : wpAny (model prog w) A (subscripted slice false o i) (fun r s₃ => wpAny (model prog w) A (letTemporaryGo value o r >>= fun _ => pure r) Q E s₃) E s₂ := by
    rw [hs o i]
    exact wpAny_operating (wpAny_mono h₂ (fun r s₃ h₃ => wpAny_bind (wpAny_letTemporaryGo (wpAny_pure h₃))) fun _ _ x => x)
  first
    | exact wpAny_pure (wpAny_bind fin)
    | exact wpAny_bind (wpAny_pure (wpAny_bind fin))
    | exact wpAny_bind fin

theorem dict_typeIs {X : Cx} {pins : List (Addr × Obj)} {σ : St} {H : Hp} {s : Shared} {a : Addr} {y : V} {o : Option V} (I : Inv X pins σ H s) (g : DGet H a y o) : s.TypeIs (.ref a) "dict" := by
  rcases g with ⟨kvs, k, e, _, _⟩ | ⟨kvs, k, b, e, _, _, _⟩
  · obtain ⟨_, _, vs, _, dd⟩ := dk_rd I.hok e
    exact dd.typeIs
  · obtain ⟨_, _, xs, _, dd⟩ := dt_rd I.hok e
    exact dd.typeIs
/-- y in d, y not in d -/
def tDIn (ty td : TE) : TE := fun σ H Q => ty σ H fun y H1 => td σ H1 fun x H2 => ∃ a o, x = .ref a ∧ DGet H2 a y o ∧ Q (.bl o.isSome) H2
section
variable {X : Cx} {o i e value : Expr} {pos pos' tpos : Pos} {td ty tv : TE}
theorem pc_din (hu : X.A.units + 1 < cLine) (hi : PE X i ty) (ho : PE X o td) : PC X .In i o (tDIn ty td) := by
  intro pins s σ H Q I h
  refine thn (hi pins s σ H _ I h) fun iv s1 ⟨y, H1, I1, ry, q1⟩ => thn (ho pins s1 σ H1 _ I1 q1) fun u s2 ⟨x, H2, I2, rx, a, ov, ex, g, q2⟩ => ?_
  subst ex
  obtain rfl : u = Value.ref a := rx
  exact d_in hu I2 g ry fun s3 I3 => ⟨.bl ov.isSome, H2, I3, rfl, q2⟩
end


/-! ### displays -/
theorem dk_empty {P : Program} {w : World} {H : Hp} (h : Heap) (hb : sysModules < h.objs.size) : ObjOk P w H (h.push { cls := .type "dict", data := .dict #[] }) h.objs.size (.dK []) :=
  ⟨Nat.zero_le _, beq_eq_false_iff_ne.mpr (Ne.symm (Nat.ne_of_lt hb)), [], .nil, Heap.DictOf.new h⟩
/-- {}, to be a dict of the kind that is wanted -/
def tDNewK : TE := fun _ H Q => ∀ p, H p = none → Q (.ref p) (upd H p (.dK []))
section
variable {X : Cx} {pos : Pos}
theorem pe_dnewK : PE X (.Dict [] [] pos) tDNewK := fun pins s σ H Q I h =>
  wpAny_Dict_empty ⟨.ref s.heap.objs.size, _, I.laid (a := s.heap.objs.size) (o := .dK []) (t' := s.toks) (fun _ _ q => Heap.get?_push_of_some _ q) (Nat.le_refl _) (dk_empty s.heap I.big), rfl, h _ (I.hok.fresh (Nat.le_refl _))⟩
end

/-- the pairs of a display, from the left -/
def tPairs : List (TE × TE) → St → Hp → (List (V × V) → Hp → Prop) → Prop
  | [], _, H, Q => Q [] H
  | (tk, tv) :: r, σ, H, Q => tk σ H fun x H1 => tv σ H1 fun y H2 => tPairs r σ H2 fun ps H3 => Q ((x, y) :: ps) H3
abbrev VV : List (V × V) → List (Value × Value) → Prop := Paired fun p q => RelV p.1 q.1 ∧ RelV p.2 q.2
def PPs (X : Cx) (pos : Pos) (keys : List (Option Expr)) (values : List Expr) (trs : List (TE × TE)) : Prop :=
  ∀ (pins : List (Addr × Obj)) (s : Shared) (σ : St) (H : Hp) (Q : List (V × V) → Hp → Prop), Inv X pins σ H s → tPairs trs σ H Q →
    wpAny (model X.prog X.w) X.A (evalPairs (pairTrees keys values X.env pos)) (fun vs s' => ∃ ps H', Inv X pins σ H' s' ∧ VV ps vs ∧ Q ps H') X.xe s
theorem pps_nil {X : Cx} {pos : Pos} : PPs X pos [] [] [] := fun pins s σ H Q I h => pairTrees_nil_walk ⟨[], H, I, .nil, h⟩
theorem pps_cons {X : Cx} {pos : Pos} {k v : Expr} {ks : List (Option Expr)} {vs : List Expr} {tk tv : TE} {trs : List (TE × TE)} (hk : PE X k tk) (hv : PE X v tv) (hr : PPs X pos ks vs trs) :
    PPs X pos (some k :: ks) (v :: vs) ((tk, tv) :: trs) := fun pins s σ H Q I h =>
  pairTrees_cons_walk (thn (hk pins s σ H _ I h) fun u s1 ⟨x, H1, I1, rx, q1⟩ => thn (hv pins s1 σ H1 _ I1 q1) fun w2 s2 ⟨y, H2, I2, ry, q2⟩ =>
    thn (hr pins s2 σ H2 _ I2 q2) fun ws s3 ⟨ps, H3, I3, rel, q3⟩ => ⟨(x, y) :: ps, H3, I3, .cons ⟨rx, ry⟩ rel, q3⟩)

def mergeK (kvs more : List (Key × V)) : List (Key × V) := more.foldl (fun acc kv => putK acc kv.1 kv.2) kvs
theorem KV.merge : ∀ {more : List (Key × V)} {rs : List (Key × Value)} {kvs : List (Key × V)} {vs : List (Key × Value)}, KV more rs → KV kvs vs → KV (mergeK kvs more) (merged vs rs) := by
  intro more rs kvs vs r
  unfold KV at r
  induction r generalizing kvs vs with
  | nil => intro q; exact q
  | @cons p q ps qs h t ih =>
    intro r0
    have e : KV (putK kvs p.1 p.2) (stored vs q.1 q.2) := by
      have := r0.put p.1 h.2
      rw [← h.1]; exact this
    exact ih e
theorem length_mergeK : ∀ (more kvs : List (Key × V)), (mergeK kvs more).length ≤ kvs.length + more.length
  | [], kvs => by show kvs.length ≤ kvs.length + 0; omega
  | p :: r, kvs => by
    have h1 := length_mergeK r (putK kvs p.1 p.2)
    have h2 := length_putK kvs p.1 p.2
    show (mergeK (putK kvs p.1 p.2) r).length ≤ _
    rw [List.length_cons]; omega
theorem carries_of {P : Program} {w : World} : ∀ {kvs : List (Key × V)} {ws : List (Value × Value)}, VV (kvs.map fun kv => (kV kv.1, kv.2)) ws → ∃ rs, Carries (mixKind P w) ws rs ∧ KV kvs rs
  | [], _, r => by rw [List.map_nil] at r; cases r; exact ⟨[], True.intro, .nil⟩
  | p :: kvs, _, r => by
    rw [List.map_cons] at r
    cases r with
    | @cons a b as bs h t =>
      obtain ⟨rs, c, q⟩ := carries_of (P := P) (w := w) t
      obtain ⟨b1, b2⟩ := b
      exact ⟨(p.1, b2) :: rs, ⟨kV_is h.1, rfl, c⟩, .cons ⟨rfl, h.2⟩ q⟩
/-- {k: v, ..} with keys ints and texts; the new dict stands empty while the pairs are made -/
def tDisp (trs : List (TE × TE)) : TE := fun σ H Q => ∀ p, H p = none → tPairs trs σ (upd H p (.dK [])) fun ps H2 => H2 p = some (.dK []) ∧ ∃ kvs : List (Key × V), ps = kvs.map (fun kv => (kV kv.1, kv.2)) ∧ kvs.length ≤ 15 ∧ Q (.ref p) (upd H2 p (.dK (mergeK [] kvs)))
theorem pe_disp {X : Cx} {pos : Pos} {keys : List (Option Expr)} {values : List Expr} {trs : List (TE × TE)} (h : PPs X pos keys values trs) (hall : keys.all (·.isSome) = true) (hl : keys.length = values.length) (h0 : keys ≠ [])
    (h15 : keys.length ≤ 15) : PE X (.Dict keys values pos) (tDisp trs) := by
  intro pins s σ H Q I q
  have hn := I.hok.fresh (Nat.le_refl s.heap.objs.size)
  have I1 := I.laid (a := s.heap.objs.size) (o := .dK []) (h' := s.heap.push { cls := .type "dict", data := .dict #[] }) (t' := s.toks) (fun _ _ q => Heap.get?_push_of_some _ q) (Nat.le_refl _) (dk_empty s.heap I.big)
  refine wpAny_Dict_walk (knd := mixKind X.prog X.w) hall hl h0 h15 (thn (h pins _ σ _ _ I1 (q _ hn)) fun ws s2 ⟨ps, H2, I2, rel, e, kvs, ep, lk, q2⟩ => ?_)
  subst ep
  obtain ⟨rs, c, rk⟩ := carries_of (P := X.prog) (w := X.w) rel
  obtain ⟨z, hd, vs0, r0, dd⟩ := dk_of I2.hok e
  cases r0
  refine ⟨rs, c, dd, fun h' dd' hs => ⟨.ref s.heap.objs.size, _, ?_, rfl, q2⟩⟩
  have hz : (mergeK [] kvs).length ≤ sizeLine := by
    have h1 := length_mergeK kvs []
    rw [List.length_nil] at h1
    rw [sizeLine_eq]; omega
  have he : ∃ q, h'.get? s.heap.objs.size = some q := let ⟨q, _, _, hq, _⟩ := dd'; ⟨q, hq⟩
  exact d_write I2 (by rw [e]; exact True.intro) hs he (dk_new hz hd (rk.merge .nil) dd')


/-! ### methods -/
/-- a method call o.m(e) of a built-in, with one argument: what must be seen of the text -/
structure M1 (X : Cx) (o : Expr) (m : Str) (apos : Pos) (e : Expr) (cpos : Pos) : Prop where
  base : attributeBase o m X.env (eval o X.env) = eval o X.env
  few : ((backTo cpos (starEach [e] X.env)).all (fun x => !x.1) && (backToKw cpos (keywordEach [] X.env)).all (fun x => x.1.isSome)
    && decide (([e] : List Expr).length + ([] : List Keyword).length + (if ([] : List Keyword).isEmpty then 0 else 1) < 30)) = true
  line : (apos.endLine == cpos.line) = true
  trees : backTo cpos (starEach [e] X.env) = [(false, eval e X.env)]
/-- a is a dict, whatever its keys -/
def IsD (H : Hp) (a : Addr) : Prop := (∃ kvs, Rd H a (.dK kvs)) ∨ ∃ kvs, Rd H a (.dT kvs)
theorem isD_at {X : Cx} {pins : List (Addr × Obj)} {σ : St} {H : Hp} {s : Shared} {a : Addr} (I : Inv X pins σ H s) (d : IsD H a) :
    s.TypeIs (.ref a) "dict" ∧ (∀ b, Value.ref a = .ref b → ∃ ob, s.heap.get? b = some ob ∧ ob.dict = none) ∧ (a == sysModules) = false := by
  rcases d with ⟨kvs, e⟩ | ⟨kvs, e⟩
  · obtain ⟨_, hd, vs, _, dd⟩ := dk_rd I.hok e
    refine ⟨dd.typeIs, fun b q => ?_, hd⟩
    cases q
    obtain ⟨ob, _, _, h1, h2, _⟩ := dd
    exact ⟨ob, h1, h2.2.1⟩
  · obtain ⟨_, hd, xs, _, dd⟩ := dt_rd I.hok e
    refine ⟨dd.typeIs, fun b q => ?_, hd⟩
    cases q
    obtain ⟨ob, _, _, h1, h2, _⟩ := dd
    exact ⟨ob, h1, h2.2.1⟩

section
variable {X : Cx} {pins : List (Addr × Obj)} {σ : St} {H : Hp} {s : Shared} {a : Addr} {y d : V} {u r : Value} {o : Option V} {A : Around} {E : Value → Shared → Prop}
end

section
variable {X : Cx} {o e f : Expr} {apos cpos : Pos} {td ty tx : TE}
end

/-! ### dict(d): a copy -/
section
variable {X : Cx} {pins : List (Addr × Obj)} {σ : St} {H : Hp} {s : Shared} {a : Addr} {kvs : List (Key × V)} {A : Around} {E : Value → Shared → Prop}
end


section
variable {X : Cx} {pins : List (Addr × Obj)} {σ : St} {H : Hp} {s : Shared} {a : Addr} {y : V} {u : Value} {A : Around} {E : Value → Shared → Prop}
end
section
variable {X : Cx}
end
/-! ### a dict's pairs: keys that differ -/
section
variable {κ : Type} [DecidableEq κ]
end
end L2
/-! ### things of any kind; is_whole, is_within -/
namespace L2
open PySem PySem.Spec PyProof.Rows
def Ty0 (H : Hp) (x : V) : Prop := (∃ n, x = .int n) ∨ (∃ z, x = .str z) ∨ (∃ b, x = .bl b) ∨ x = .non ∨ (∃ a xs, x = .ref a ∧ H a = some (.lst xs)) ∨ (∃ a xs, x = .ref a ∧ H a = some (.tup xs)) ∨ (∃ a kvs, x = .ref a ∧ H a = some (.dK kvs))
def isI0 : V → Bool
  | .int _ => true
  | .bl _ => true
  | _ => false
def isB0 : V → Bool
  | .bl _ => true
  | _ => false
section
variable (K : PySem.W.Frag)
theorem k0_ii : PySem.W.kitOne K (.type "int") (.type "int") = some true := by kernel_rfl
theorem k0_ib : PySem.W.kitOne K (.type "int") (.type "bool") = some false := by kernel_rfl
theorem k0_si : PySem.W.kitOne K (.type "str") (.type "int") = some false := by kernel_rfl
theorem k0_sb : PySem.W.kitOne K (.type "str") (.type "bool") = some false := by kernel_rfl
theorem k0_bi : PySem.W.kitOne K (.type "bool") (.type "int") = some true := by kernel_rfl
theorem k0_bb : PySem.W.kitOne K (.type "bool") (.type "bool") = some true := by kernel_rfl
theorem k0_ni : PySem.W.kitOne K (.type "NoneType") (.type "int") = some false := by kernel_rfl
theorem k0_nb : PySem.W.kitOne K (.type "NoneType") (.type "bool") = some false := by kernel_rfl
theorem k0_li : PySem.W.kitOne K (.type "list") (.type "int") = some false := by kernel_rfl
theorem k0_lb : PySem.W.kitOne K (.type "list") (.type "bool") = some false := by kernel_rfl
theorem k0_ti : PySem.W.kitOne K (.type "tuple") (.type "int") = some false := by kernel_rfl
theorem k0_tb : PySem.W.kitOne K (.type "tuple") (.type "bool") = some false := by kernel_rfl
theorem k0_di : PySem.W.kitOne K (.type "dict") (.type "int") = some false := by kernel_rfl
theorem k0_db : PySem.W.kitOne K (.type "dict") (.type "bool") = some false := by kernel_rfl
end
theorem Ty0.ty {K : PySem.W.Frag} {H : Hp} {x : V} (h : Ty0 H x) : ∃ t, TyOf K H x t ∧ PySem.W.kitOne K t (.type "int") = some (isI0 x) ∧ PySem.W.kitOne K t (.type "bool") = some (isB0 x) := by
  rcases h with ⟨n, rfl⟩ | ⟨z, rfl⟩ | ⟨b, rfl⟩ | rfl | ⟨a, z, rfl, q⟩ | ⟨a, z, rfl, q⟩ | ⟨a, z, rfl, q⟩
  · exact ⟨_, .int n, k0_ii K, k0_ib K⟩
  · exact ⟨_, .str z, k0_si K, k0_sb K⟩
  · exact ⟨_, .bl b, k0_bi K, k0_bb K⟩
  · exact ⟨_, .non, k0_ni K, k0_nb K⟩
  · exact ⟨_, .lst q, k0_li K, k0_lb K⟩
  · exact ⟨_, .tup q, k0_ti K, k0_tb K⟩
  · exact ⟨_, .dK q, k0_di K, k0_db K⟩
def who0 (x : V) : Bool := isI0 x && !isB0 x
def wth0 (x : V) (l h : Int) : Bool := match x with
  | .int n => decide (l ≤ n) && decide (n ≤ h)
  | _ => false
def spWho0 : Sp := fun vs H Q _ => ∃ x, vs = [x] ∧ Ty0 H x ∧ Q (.bl (who0 x)) H
def spWth0 : Sp := fun vs H Q _ => ∃ x l h, vs = [x, .int l, .int h] ∧ Ty0 H x ∧ Q (.bl (wth0 x l h)) H
theorem hu40 {A : Around} {k : Nat} {c : Bool} (hr : Room k A c) : A.units + 40 < cLine := Nat.lt_of_le_of_lt (Nat.add_le_add_left (by decide : 40 ≤ 64) _) hr.units
theorem nx_in {D : Ends} {σ : St} {H : Hp} (h : D.nx σ H) : tNext D σ H := h
/-! ### methods; classes of exceptions -/
structure MHas (K : PySem.W.Frag) (C : Addr) (m qual : Str) (st : Stmt) (ps : List Str) (f : Addr) (fd : FuncData) : Prop where
  fn : Fun K m qual st f fd
  bd : Binds K fd ps []
  me : Meth K C m f
structure X0Has (K : PySem.W.Frag) (mg : Str → Option Value) (x : Str) (C : Addr) (bm : List Value) : Prop where
  xm : XMk0 K C bm
  ob : XOb K C bm
  be : bm.contains (.type "BaseException") = true
  nm : mg x = some (.ref C)
def spX (C : Addr) (f : Str) : Sp := fun vs H Q _ => ∃ e x, vs = [.ref e, x] ∧ H e = some (FxO e C none) ∧ ∀ dx, H dx = none → Q .non (upd (upd H dx (XdO dx [(f, x)])) e (FxO e C (some dx)))
theorem raise1 {C : Addr} {f : Str} {x : V} {E : XK} {H : Hp} (h : ∀ (ea dx : Addr) (H' : Hp), Same H H' → H' ea = some (ExcO ea C (some dx)) → H' dx = some (XdO dx [(f, x)]) → E (.ref ea) (some dx) H') (e : Addr) (he : H e = none) :
    spX C f (.ref e :: ([x] ++ [])) (upd H e (FxO e C none)) (fun v H2 => v = .non ∧ ∃ ea dd, V.ref e = .ref ea ∧ H2 ea = some (FxO ea C dd) ∧ E (.ref ea) dd (upd H2 ea (ExcO ea C dd))) E0 := by
  refine ⟨e, x, rfl, upd_same, fun dx hdx => ⟨rfl, e, some dx, rfl, upd_same, ?_⟩⟩
  obtain ⟨n1, n2⟩ := new_free hdx
  refine h e dx _ (raised_same he n2) upd_same ?_
  rw [upd_ne n1, upd_ne n1, upd_same]
theorem raise0 {C : Addr} {E : XK} {H : Hp} (h : ∀ (ea : Addr) (H' : Hp), Same H H' → H' ea = some (ExcO ea C none) → E (.ref ea) none H') (e : Addr) (he : H e = none) :
    ∃ ea dd, V.ref e = .ref ea ∧ (upd H e (FxO e C none)) ea = some (FxO ea C dd) ∧ E (.ref ea) dd (upd (upd H e (FxO e C none)) ea (ExcO ea C dd)) := by
  refine ⟨e, none, rfl, upd_same, ?_⟩
  rw [upd_upd]
  exact h e _ (same_new he _) upd_same
end L2
/-! ### a floor -/
namespace FL
open PySem L2 PyProof.Rows
structure FS where
  n : Int
  kp : List (Key × V)
  ks : List (Key × V)
  ws : List V
  d : Bool
  l : V
section
variable {C p pc sp wr : Addr} {H H' : Hp} {st st' : FS}
end
structure Cl where
  F : Addr
  W : Addr
  PG : Addr
  NF : Addr
  NP : Addr
  NI : Addr
  SO : Addr
/-! ### what each of its methods promises -/
end FL
namespace L2
open PySem PySem.Spec PyProof.Rows
/-! ### lists and tuples within one another that are equal -/
mutual
/-- equal things, n deep -/
def Eqv (K : PySem.W.Frag) (H : Hp) : Nat → V → V → Prop
  | 0, x, y => (flatV x = true ∧ flatV y = true ∧ eqV x y = true) ∨ ∃ a, x = .ref a ∧ y = .ref a
  | n + 1, x, y => (flatV x = true ∧ flatV y = true ∧ eqV x y = true) ∨ (∃ a, x = .ref a ∧ y = .ref a) ∨ EqvS K H n x y
/-- two tuples or two lists, item by item -/
def EqvS (K : PySem.W.Frag) (H : Hp) : Nat → V → V → Prop
  | n, x, y => ∃ a b xs ys, x = .ref a ∧ y = .ref b ∧ ((SqT K H a xs ∧ SqT K H b ys) ∨ (SqL K H a xs ∧ SqL K H b ys)) ∧ xs.length = ys.length ∧ ∀ (i : Nat) u v, xs[i]? = some u → ys[i]? = some v → Eqv K H n u v
end
section
variable {X : Cx} {pins : List (Addr × Obj)} {σ : St} {H : Hp} {s : Shared}
theorem all_true (n : Nat) : (List.range n).all (fun _ => true) = true := List.all_eq_true.mpr fun _ _ => rfl
/-- what item by item gives -/
theorem items_D {A : Around} {n : Nat} {xs ys : List V} {us vs : List Value} (r : Vals xs us) (q : Vals ys vs) (h : ∀ (i : Nat) u v, xs[i]? = some u → ys[i]? = some v → Eqv X.K H n u v)
    (ih : ∀ {x y : V} {u v : Value}, Eqv X.K H n x y → RelV x u → RelV y v → SeqAt.EqAt A s u v true) (j : Nat) (h1 : j < us.toArray.size) (h2 : j < vs.toArray.size) : SeqAt.EqAt A s us.toArray[j] vs.toArray[j] true := by
  have l1 := r.length
  have l2 := q.length
  have h1' : j < xs.length := by rw [l1]; simpa using h1
  have h2' : j < ys.length := by rw [l2]; simpa using h2
  obtain ⟨u, eu, ru⟩ := r.get (i := j) (x := xs[j]) (by simp [h1'])
  obtain ⟨v, ev, rv⟩ := q.get (i := j) (x := ys[j]) (by simp [h2'])
  have e1 : us.toArray[j] = u := by
    obtain ⟨_, e⟩ := List.getElem?_eq_some_iff.mp eu
    simpa using e
  have e2 : vs.toArray[j] = v := by
    obtain ⟨_, e⟩ := List.getElem?_eq_some_iff.mp ev
    simpa using e
  rw [e1, e2]
  exact ih (h j _ _ (by simp [h1']) (by simp [h2'])) ru rv
theorem rc_D {A : Around} {n : Nat} {x y : V} {u v : Value} (I : Inv X pins σ H s) (h : EqvS X.K H n x y) (rx : RelV x u) (ry : RelV y v) (hu : A.units < cLine)
    (ih : ∀ {x y : V} {u v : Value}, Eqv X.K H n x y → RelV x u → RelV y v → SeqAt.EqAt A.in1 s u v true) : ∃ a b, u = .ref a ∧ v = .ref b ∧ SeqAt.RcAt A s (.ref a) (.ref b) true ∧ SeqAt.RcNeAt A s (.ref a) (.ref b) false := by
  unfold EqvS at h
  obtain ⟨a, b, xs, ys, rfl, rfl, hq, hl, hi⟩ := h
  cases rx
  cases ry
  refine ⟨a, b, rfl, rfl, ?_⟩
  rcases hq with ⟨ha, hb⟩ | ⟨ha, hb⟩
  · obtain ⟨its, r1, p1, _⟩ := I.tuple ha
    obtain ⟨its2, r2, p2, _⟩ := I.tuple hb
    have l1 := r1.length
    have l2 := r2.length
    have e : ((List.range (min its.toArray.size its2.toArray.size)).all (fun _ => true) && its.toArray.size == its2.toArray.size) = true := by
      rw [all_true]; simp; omega
    have A1 := SeqAt.RcAt.tuples (A := A) (e := fun _ => true) (show s.heap.IsTuple a its.toArray from p1) (show s.heap.IsTuple b its2.toArray from p2) hu (fun j h1 h2 => items_D r1 r2 hi ih j h1 h2)
    have A2 := SeqAt.RcNeAt.tuples (A := A) (e := fun _ => true) (show s.heap.IsTuple a its.toArray from p1) (show s.heap.IsTuple b its2.toArray from p2) hu (fun j h1 h2 => items_D r1 r2 hi ih j h1 h2)
    rw [e] at A1 A2
    exact ⟨A1, A2⟩
  · obtain ⟨its, r1, p1, _⟩ := I.list ha
    obtain ⟨its2, r2, p2, _⟩ := I.list hb
    have l1 := r1.length
    have l2 := r2.length
    have A1 := SeqAt.RcAt.lists (A := A) (e := fun _ => true) p1.isList p2.isList (by simp; omega) hu (fun j h1 h2 => items_D r1 r2 hi ih j h1 h2)
    have A2 := SeqAt.RcNeAt.lists (A := A) (e := fun _ => true) p1.isList p2.isList (by simp; omega) hu (fun j h1 h2 => items_D r1 r2 hi ih j h1 h2)
    rw [all_true] at A1 A2
    exact ⟨A1, A2⟩
theorem eqAt_D (I : Inv X pins σ H s) : ∀ (n : Nat) {A : Around} {x y : V} {u v : Value}, Eqv X.K H n x y → RelV x u → RelV y v → A.units + n < cLine → SeqAt.EqAt A s u v true := by
  intro n
  induction n with
  | zero =>
    intro A x y u v h rx ry hu
    unfold Eqv at h
    rcases h with ⟨f1, f2, e⟩ | ⟨a, rfl, rfl⟩
    · have z := eqAt_V (A := A) (s := s) rx ry f1 f2
      rw [e] at z
      exact z
    · cases rx
      cases ry
      exact SeqAt.EqAt.same _
  | succ n ih =>
    intro A x y u v h rx ry hu
    unfold Eqv at h
    rcases h with ⟨f1, f2, e⟩ | ⟨a, rfl, rfl⟩ | h
    · have z := eqAt_V (A := A) (s := s) rx ry f1 f2
      rw [e] at z
      exact z
    · cases rx
      cases ry
      exact SeqAt.EqAt.same _
    · obtain ⟨a, b, rfl, rfl, z, _⟩ := rc_D (A := A) I h rx ry (by omega) (fun h rx ry => ih (A := A.in1) h rx ry (by show A.units + 1 + n < _; omega))
      by_cases hne : a = b
      · subst hne
        exact SeqAt.EqAt.same _
      · exact SeqAt.EqAt.of_refs hne z
/-- == and != of such -/
theorem op_eqD (hu : X.A.units + 40 < cLine) : OpR X (compareOp .Eq) (fun x y H Q => ∃ n, EqvS X.K H n x y ∧ n ≤ 20 ∧ Q (.bl true) H) := by
  intro pins s σ H x y v u Q I rx ry h
  obtain ⟨n, h, hn, q⟩ := h
  obtain ⟨a, b, rfl, rfl, z, _⟩ := rc_D (A := X.A) I h rx ry (by omega) (fun h rx ry => eqAt_D I n h rx ry (by show X.A.units + 1 + n < _; omega))
  exact z _ _ _ _ ⟨.bl true, H, I, rfl, q⟩
theorem op_neD (hu : X.A.units + 40 < cLine) : OpR X (compareOp .NotEq) (fun x y H Q => ∃ n, EqvS X.K H n x y ∧ n ≤ 20 ∧ Q (.bl false) H) := by
  intro pins s σ H x y v u Q I rx ry h
  obtain ⟨n, h, hn, q⟩ := h
  obtain ⟨a, b, rfl, rfl, _, z⟩ := rc_D (A := X.A) I h rx ry (by omega) (fun h rx ry => eqAt_D I n h rx ry (by show X.A.units + 1 + n < _; omega))
  exact z _ _ _ _ ⟨.bl false, H, I, rfl, q⟩
end
end L2
namespace L2
open PySem PySem.Spec PyProof.Rows
section
variable {X : Cx}
end
end L2
namespace FL
open PySem L2 PyProof.Rows
/-! ### what the law keeps beside a floor -/
structure LS where
  bn : List (Key × V)
  bd : List (Key × V)
  dn : List V
  lf : Int
  dk : Bool
section
variable {H H' : Hp} {q b a d : Addr} {ls : LS}
end
section
variable {H : Hp} {q b a d : Addr} {ls : LS}
end
/-! ### both tell the same -/
section
variable {st : FS} {ls : LS} {m : Nat} {i : Int} {v : V}
/-! ### a floor and what is kept beside it -/
structure AD where
  p : Addr
  pc : Addr
  sp : Addr
  wr : Addr
  q : Addr
  b : Addr
  a : Addr
  d : Addr
section
variable {R R' : FS → LS → Prop} {c : Cl} {H H' : Hp} {A B : AD} {n : Int}
end
end
end FL
namespace L2
open PySem PySem.Spec PyProof.Rows
/-! ### comprehensions whose target is any: a tuple of names -/
def CompWT (Gs : Hp → Prop) (g : TG) (k : Nat) (J : It) (p : Addr) (tt : TT) (te : TE) (cs : St) (Q : VK) (H1 : Hp) : Prop := ∃ W : Nat → Nat → List V → Hp → Prop, (∃ m, W 0 m [] (upd H1 p (.lst []))) ∧ ∀ i m ys H2, W i m ys H2 →
  (J.stop i H2 ∧ Gs H2 ∧ Q (.ref p) H2) ∨ (J.go i H2 ∧ Gs H2 ∧ ∃ N : List V → Hp → Prop, (∀ ys' H', N ys' H' → ∃ m', m' < m ∧ W (i + 1) m' ys' H') ∧
    ∀ v H3, J.yld i H2 v H3 → ∀ vs0 : St, vs0.length = k → g v (vs0 ++ cs) H3 fun σ' H' => (∃ vs' : St, σ' = vs' ++ cs ∧ vs'.length = k) ∧ tt σ' H' fun b H4 => if b = true then te σ' H4 fun y H5 => H5 p = some (.lst ys) ∧ ys.length < sizeLine ∧ N (ys ++ [y]) (upd H5 p (.lst (ys ++ [y]))) else N ys H4)
theorem comp_goT {X : Cx} {use : Option (Value → Sem Unit)} {Post : Value → Shared → Prop} {pins : List (Addr × Obj)} {s : Shared} {σ : St} {H : Hp} {Q : VK} {Gs : Hp → Prop} {hb : Bool} {CW : It → Addr → St → VK → Hp → Prop} {elt iter : Expr} {ifs : List Expr} {tg : Expr} {xs : List Str} {g : TG} {pos : Pos} {sc : Scope} {wi : TI} {tt : TT} {te : TE} (caps : List Nat) (capsN : List Str)
    (hi : PI X tg iter wi hb)
    (hg : ∀ cl C s H ex pn, PG (cxComp X (xs ++ capsN) sc cl C s H ex pn) tg g)
    (ht : ∀ cl C s H ex pn, PTs (cxComp X (xs ++ capsN) sc cl C s H ex pn) ifs tt)
    (he : ∀ cl C s H ex pn, PE (cxComp X (xs ++ capsN) sc cl C s H ex pn) elt te)
    (hkind : sc.kind = .function) (hcell : ∀ y ∈ sc.names, y.2 ≠ .cell) (hnames : ∀ y ∈ sc.names, y.2 = .local → sc.names.lookup y.1 = some .local)
    (hfr : ∀ y ∈ sc.names, y.2 = .free → y.1 ∈ capsN)
    (hcap : ∀ (j : Nat) (y : Str), capsN[j]? = some y → ∃ i : Nat, caps[j]? = some i ∧ X.N[i]? = some y ∧ sc.names.lookup y = some .free ∧ (X.env.kindOf y = some .cell ∨ X.env.kindOf y = some .free)) (hlen : caps.length = capsN.length)
    (hc : X.calm = true ∨ (hb = true ∧ ∀ s H, HOk X.prog X.w H s.heap → Gs H → HandQ X s)) (kW : ∀ J p cs Q H1, CW J p cs Q H1 → CompWT Gs g xs.length J p tt te cs Q H1)
    (hs : ∀ x, foldedSetIterable iter X.env x = pure x) (I : Inv X pins σ H s) (h : tCompC CW wi caps σ H Q)
    (fin : ∀ (C p : Addr) (H5 : Hp) (s5 : Shared), (∃ m, s5.heap.Ns C m) → Inv X pins σ H5 s5 → FpOk X pins H5 C → Q (.ref p) H5 → compPost (model X.prog X.w) X.A X.xe use Post (.ref p) C (.ok .next) s5) :
    wpAny (model X.prog X.w) X.A (comprehension (.ListComp elt [⟨tg, iter, ifs, 0⟩] sc pos) sc X.env (firstIterPos [⟨tg, iter, ifs, 0⟩] pos) (newList []) (firstAsync [⟨tg, iter, ifs, 0⟩]) (firstIter [⟨tg, iter, ifs, 0⟩] X.env) use) Post X.xe s := by
  have hEnd : ∀ s H, HOk X.prog X.w H s.heap → Gs H → EndQ hb X s := by
    rcases hc with hc | ⟨e, k⟩
    · exact fun _ _ _ _ => .inl (I.ok.hd hc)
    · exact fun s H o g => .inr ⟨e, k s H o g⟩
  obtain ⟨cl, hclos, hq2, hq3⟩ := closure_ok (env := X.env) (sc := sc) (fun y hy hf => by
    obtain ⟨j, hj⟩ := List.mem_iff_getElem?.mp (hfr y hy hf)
    obtain ⟨_, _, _, _, k⟩ := hcap j y.1 hj
    exact I.ok.has y.1 k)
  refine wpAny_comprehension_free (use := use) rfl hs hclos hkind hnames (thn (hi pins s σ H _ I h) fun v s1 h1 => thn h1 fun itv s2 h2 => ?_)
  obtain ⟨it, fp, tn, J, H2, e, I2, T, st2, f2, q⟩ := h2
  subst e
  refine wpAny_newObj_type (wpAny_newFunctionEnv hcell (by intro y hy; simp at hy) (fun h1 hns hsb => ?_) hkind)
  dsimp only at hns hsb ⊢
  obtain ⟨W, ⟨m0, w0⟩, turn⟩ := kW _ _ _ _ _ (q s2.heap.objs.size (I2.hok.fresh (Nat.le_refl _)))
  have I3 : Inv X pins σ (upd H2 s2.heap.objs.size (.lst [])) { s2 with heap := s2.heap.push { cls := .type "list", dict := none, data := .seq ([] : List Value).toArray }, toks := s2.toks } := I2.lnew (its := []) (ys := []) (t' := s2.toks) .nil (Nat.zero_le _)
  generalize hH3 : s2.heap.push { cls := .type "list", dict := none, data := .seq ([] : List Value).toArray } = g3 at hns hsb I3 ⊢
  have hsz3 : g3.objs.size = s2.heap.objs.size + 1 := by rw [← hH3, Heap.size_push]
  generalize hHp : upd H2 s2.heap.objs.size (.lst []) = Hp3 at w0 I3
  have hlt : ∀ b o, g3.get? b = some o → b ≠ g3.objs.size := fun b o e => Nat.ne_of_lt (Heap.lt_size e)
  have old : ∀ b o, g3.get? b = some o → h1.get? b = some o := fun b o e => hsb.extBut b o (hlt b o e) (Heap.get?_push_of_some _ e)
  have fpo : ∀ b ∈ fp, ∃ o, g3.get? b = some o := fun b hb => by
    obtain ⟨o, e, _⟩ := T.obj 0 s2.heap st2 b hb
    exact ⟨o, by rw [← hH3]; exact Heap.get?_push_of_some _ e⟩
  have fpC : ∀ b ∈ fp, b ≠ g3.objs.size := fun b hb => by obtain ⟨o, e⟩ := fpo b hb; exact hlt b o e
  have fpH : ∀ b ∈ fp, Hp3 b = none := fun b hb => by
    obtain ⟨o, e, _⟩ := T.obj 0 s2.heap st2 b hb
    rw [← hHp, upd_ne (Nat.ne_of_lt (Heap.lt_size e))]
    exact (f2 b hb).1
  have fsSub : ∀ b, b ≠ X.env.locals → b ∉ X.fs → b ∉ frs X.stack := fun b h1 h2 z => by
    rcases List.mem_cons.mp (I2.stkSub b z) with z | z
    · exact h1 z
    · exact h2 z
  -- the block's context
  have okc : (cxComp X (xs ++ capsN) sc cl g3.objs.size { s2 with heap := g3, toks := s2.toks } Hp3 fp (X.pn ++ pins)).Ok := by
    refine ⟨I3.ok.mod, hkind, I3.ok.glob, I3.ok.blt, Nat.le_refl _, fun y z c e1 e2 => I3.ok.inj y z c (hq2 y c e1) (hq2 z c e2), fun y hy => ?_, fun y c z => absurd z Bool.false_ne_true, I3.ok.hd, I3.ok.frames, .inl rfl, fun b hb => ⟨fpC b hb, fun y c e => (f2 b hb).2.2.2.2.1 y c (hq2 y c e)⟩,
      I3.bs, Nat.le_trans I3.ok.bsz I3.sz, fun b o e hb => ?_, fun b hb => fsSub b (f2 b hb).2.1 (f2 b hb).2.2.1, I3.stack, I3.stkFree⟩
    · have hy' : ∃ k, (relabel sc X.env).names.lookup y = some k ∧ (k = .cell ∨ k = .free) := by
        rcases hy with hy | hy
        · exact ⟨_, hy, .inl rfl⟩
        · exact ⟨_, hy, .inr rfl⟩
      obtain ⟨k, e, hk⟩ := hy'
      obtain ⟨k0, e0, hk0⟩ := relabel_look e
      have em := PySem.mem_of_lookup e0
      rcases hk0 with rfl | ⟨rfl, _⟩
      · rcases hk with rfl | rfl
        · exact absurd rfl (hcell _ em)
        · exact hq3 _ em rfl
      · exact hq3 _ em rfl
    · rcases (f2 b hb).2.2.2.1 with z | z
      · exact I3.ok.noex b o e z
      · have h1 : b < X.base.objs.size := Heap.lt_size e
        have h2 := I3.ok.bsz
        exact absurd (Nat.lt_of_lt_of_le h1 (Nat.le_trans h2 z)) (Nat.lt_irrefl _)
  have Ic : Inv (cxComp X (xs ++ capsN) sc cl g3.objs.size { s2 with heap := g3, toks := s2.toks } Hp3 fp (X.pn ++ pins)) [] (List.replicate xs.length none ++ capV σ caps) Hp3 { s2 with heap := h1, toks := s2.toks + ([] : List (Str × Value)).length } := by
    refine ⟨okc, rfl, I3.bare, Un.kept old, ⟨_, hns, fun i y v e1 e2 e3 => ?_⟩, fun y c e => ?_, I3.hok.fresh (Nat.le_refl _), fun y c e => I3.freeC y c (hq2 y c e), fun p hp => ?_, I3.hok.kept old, ?_⟩
    · by_cases hlt0 : i < xs.length
      · have e2 : (List.replicate xs.length (none : Option V) ++ capV σ caps)[i]? = some (some v) := e2
        rw [List.getElem?_append_left (by rw [List.length_replicate]; exact hlt0), List.getElem?_replicate, if_pos hlt0] at e2
        cases e2
      · have e1 : (xs ++ capsN)[i]? = some y := e1
        have e2 : (List.replicate xs.length (none : Option V) ++ capV σ caps)[i]? = some (some v) := e2
        rw [List.getElem?_append_right (Nat.le_of_not_lt hlt0)] at e1
        rw [List.getElem?_append_right (by rw [List.length_replicate]; exact Nat.le_of_not_lt hlt0), List.length_replicate] at e2
        generalize i - xs.length = j at e1 e2
        have e1' : capsN[j]? = some y := e1
        obtain ⟨i, c1, c2, c3, c4⟩ := hcap j y e1'
        have e2' : (capV σ caps)[j]? = some (some v) := e2
        have hv : σ[i]? = some (some v) := by
          unfold capV at e2'
          rw [List.getElem?_map, c1] at e2'
          have e4 : (σ[i]?).getD none = some v := Option.some.inj e2'
          cases e5 : σ[i]? with
          | none => rw [e5] at e4; cases e4
          | some w => rw [e5] at e4; exact congrArg some e4
        obtain ⟨m, _, hl⟩ := I3.loc
        have vis : Vis X.env.scope y := by
          rcases c4 with z | z
          · exact .inr (.inl z)
          · exact .inr (.inr z)
        obtain ⟨u, r, l⟩ := hl i y v c2 hv vis
        refine ⟨u, r, .inr ⟨relabel_free c3, ?_⟩⟩
        rcases l with ⟨lk, _⟩ | ⟨_, c, ec, o, ho, hd⟩
        · rcases c4 with z | z <;> (rw [lk] at z; cases z)
        · obtain ⟨c', e'⟩ := hq3 _ (PySem.mem_of_lookup c3) rfl
          have e'' := hq2 _ _ e'
          have e3' : (some c' : Option Addr) = some c := e''.symm.trans ec
          cases e3'
          exact ⟨c, e', o, old _ _ ho, hd⟩
    · obtain ⟨v, o, ho, hd⟩ := I3.cell y c (hq2 y c e)
      exact ⟨v, o, old _ _ ho, hd⟩
    · have hp' : p ∈ X.pn ++ pins := by simpa using hp
      obtain ⟨e1, e2, e3, e4, e5⟩ := I3.pin p hp'
      exact ⟨old _ _ e1, e2, hlt _ _ e1, fsSub _ e3 e4, e5⟩
    · show (List.replicate xs.length (none : Option V) ++ capV σ caps).length = (xs ++ capsN).length
      unfold capV
      rw [List.length_append, List.length_append, List.length_replicate, List.length_map, hlen]
  have stat : ∀ {H' : Hp}, (∀ b ∈ fp, H' b = none) → ∀ b ∈ fp, FpOk (cxComp X (xs ++ capsN) sc cl g3.objs.size { s2 with heap := g3, toks := s2.toks } Hp3 fp (X.pn ++ pins)) [] H' b := fun hn b hb =>
    ⟨hn b hb, fpC b hb, fsSub b (f2 b hb).2.1 (f2 b hb).2.2.1, .inl hb, fun y c e => (f2 b hb).2.2.2.2.1 y c (hq2 y c e), fun p hp => (f2 b hb).2.2.2.2.2 p (by simpa using hp)⟩
  -- behind the block
  have back : ∀ {pins5 : List (Addr × Obj)} {σ5 : St} {H5 : Hp} {s5 : Shared} {h' : Heap}, Inv (cxComp X (xs ++ capsN) sc cl g3.objs.size { s2 with heap := g3, toks := s2.toks } Hp3 fp (X.pn ++ pins)) pins5 σ5 H5 s5 → Heap.SameBut g3.objs.size s5.heap h' → Inv X pins σ H5 { s5 with heap := h' } := by
    intro pins5 σ5 H5 s5 h' I5 sb
    have un : Un (frs X.stack) fp Hp3 H5 g3 s5.heap := I5.base
    have fr : H5 g3.objs.size = none := I5.free
    have un' : Un (frs X.stack) fp Hp3 H5 g3 h' := ⟨fun b o e n hb hx => (sb.2 b (hlt b o e)).trans (un.keep b o e n hb hx),
      fun b o e n hb hx => by obtain ⟨sl, z⟩ := un.slot b o e n hb hx; exact ⟨sl, (sb.2 b (hlt b o e)).trans z⟩, un.free,
      fun b o e hx => by obtain ⟨o', z⟩ := un.there b o e hx; exact ⟨o', (sb.2 b (hlt b o e)).trans z⟩, un.tups, un.frzs, un.tbls⟩
    have hok : HOk X.prog X.w H5 h' := fun b u e => (I5.hok b u e).stay (fun c v hc' z => (sb.2 c (by
      rintro rfl
      rcases hc' with hc' | hc'
      · rw [hc', e] at fr; cases fr
      · rw [fr] at hc'; cases hc')).trans z) (fun _ z => z) (fun _ _ z => z)
    obtain ⟨hh, g, d, t, os⟩ := s5
    have eo : os = s2.os := I5.os
    subst eo
    have z := I3.call (h' := h') (g' := g) (d' := d) (t' := t) (ch := fp) un' hok I5.bare fun b hb => ⟨(f2 b hb).2.2.2.1, (f2 b hb).2.1, (f2 b hb).2.2.2.2.1, (f2 b hb).2.2.2.2.2⟩
    exact z
  have st4 : tn 0 h1 := T.keep 0 s2.heap h1 st2 fun b hb o e => old b o (by rw [← hH3]; exact Heap.get?_push_of_some _ e)
  have loop : codeAny (model X.prog X.w) X.A (.compLoop (.ListComp elt [⟨tg, iter, ifs, 0⟩] sc pos) 0 (.ref it) (.ref s2.heap.objs.size) (compEnvC sc cl g3.objs.size X.env))
      (compPost (model X.prog X.w) X.A X.xe use Post (.ref s2.heap.objs.size) g3.objs.size) { s2 with heap := h1, toks := s2.toks + ([] : List (Str × Value)).length } := by
    refine comp_loop (fun n s' => ∃ i ys v0 H', v0.length = xs.length ∧ Inv (cxComp X (xs ++ capsN) sc cl g3.objs.size { s2 with heap := g3, toks := s2.toks } Hp3 fp (X.pn ++ pins)) [] (v0 ++ capV σ caps) H' s' ∧ tn i s'.heap ∧ (∀ b ∈ fp, H' b = none) ∧ W i n ys H') ?_ m0 ⟨0, [], List.replicate xs.length none, Hp3, List.length_replicate, Ic, st4, fpH, w0⟩
    rintro n s' ⟨i, ys, v0, H', hv0, I', st', fr', w'⟩
    rcases turn i n ys H' w' with ⟨stop, gs, qn⟩ | ⟨go, gs, N, hN, step⟩
    · refine thn (T.done (cxComp X (xs ++ capsN) sc cl g3.objs.size { s2 with heap := g3, toks := s2.toks } Hp3 fp (X.pn ++ pins)) rfl rfl rfl s' (hEnd s' H' I'.hok gs) i [] _ H' NoX I' (stat fr') st' stop) fun r s5 ⟨hr, I5⟩ => ?_
      subst hr
      obtain ⟨m, hn, _⟩ := id I5.loc
      exact fin g3.objs.size s2.heap.objs.size H' s5 ⟨m, hn⟩ (back (h' := s5.heap) I5 ⟨rfl, fun _ _ => rfl⟩) (I3.fpOk (Nat.le_refl _) I5.free) qn
    · refine thn (T.item (cxComp X (xs ++ capsN) sc cl g3.objs.size { s2 with heap := g3, toks := s2.toks } Hp3 fp (X.pn ++ pins)) rfl rfl rfl s' (hEnd s' H' I'.hok gs) i [] _ H' NoX I' (stat fr') st' go) fun r s5 ⟨u, hr, h5⟩ => ?_
      subst hr
      refine thn h5 fun _ s6 ⟨v, H6, I6, r6, y6, st6, fr6⟩ => ?_
      have I6' := I6.pinned (stat fr6) (T.obj _ _ st6)
      have again : ∀ {σ7 v7 : St} {H7 : Hp} {s7 : Shared} {ys' : List V}, σ7 = v7 ++ capV σ caps → v7.length = xs.length → Inv (cxComp X (xs ++ capsN) sc cl g3.objs.size { s2 with heap := g3, toks := s2.toks } Hp3 fp (X.pn ++ pins)) ([] ++ pinsAt fp s6.heap) σ7 H7 s7 → N ys' H7 →
          ∃ m, m < n ∧ ∃ i ys v0 H', v0.length = xs.length ∧ Inv (cxComp X (xs ++ capsN) sc cl g3.objs.size { s2 with heap := g3, toks := s2.toks } Hp3 fp (X.pn ++ pins)) [] (v0 ++ capV σ caps) H' s7 ∧ tn i s7.heap ∧ (∀ b ∈ fp, H' b = none) ∧ W i m ys H' := by
        intro σ7 v7 H7 s7 ys' eσ hv7 I7 n7
        subst eσ
        obtain ⟨m', hm, w7⟩ := hN ys' H7 n7
        refine ⟨m', hm, i + 1, ys', v7, H7, hv7, I7.unpinned, T.keep _ _ _ st6 fun b hb o e => (I7.pin (b, o) (List.mem_append_right _ (List.mem_append_right _ (mem_pinsAt hb e)))).1, fun b hb => ?_, w7⟩
        obtain ⟨o, e, d⟩ := T.obj _ _ st6 b hb
        exact (I7.pin (b, o) (List.mem_append_right _ (List.mem_append_right _ (mem_pinsAt hb e)))).2.1
      refine thn (hg _ _ _ _ _ _ _ s6 _ H6 v u _ I6' r6 (step v H6 y6 v0 hv0)) fun _ s7 ⟨σ7, H7, I7, ⟨v7, e7, hv7⟩, q7⟩ => ?_
      refine thn (ht _ _ _ _ _ _ _ s7 _ H7 _ I7 q7) fun ok s8 ⟨H8, I8, q8⟩ => ?_
      cases ok with
      | false => exact again e7 hv7 I8 q8
      | true =>
        refine thn (he _ _ _ _ _ _ _ s8 _ H8 _ I8 q8) fun y s9 ⟨yv, H9, I9, r9, hp9, hz9, n9⟩ => ?_
        refine thn (mt_append (X := cxComp X (xs ++ capsN) sc cl g3.objs.size { s2 with heap := g3, toks := s2.toks } Hp3 fp (X.pn ++ pins)) _ s9 _ H9 (.ref s2.heap.objs.size) [yv] (.ref s2.heap.objs.size) [y] (fun _ H' => H' = upd H9 s2.heap.objs.size (.lst (ys ++ [yv]))) I9 rfl (.cons r9 .nil)
          ⟨s2.heap.objs.size, ys, yv, rfl, rfl, hp9, hz9, rfl⟩) fun _ s10 ⟨_, H10, I10, _, e10⟩ => ?_
        subst e10
        exact again e7 hv7 I10 n9
  exact codeAny_compStart_list loop (T.self X.A 0 _ _ _ st4 loop)

theorem pe_compT {X : Cx} {Gs : Hp → Prop} {hb : Bool} {CW : It → Addr → St → VK → Hp → Prop} {elt iter : Expr} {ifs : List Expr} {tg : Expr} {xs : List Str} {g : TG} {pos : Pos} {sc : Scope} {wi : TI} {tt : TT} {te : TE} (caps : List Nat) (capsN : List Str)
    (hi : PI X tg iter wi hb)
    (hg : ∀ cl C s H ex pn, PG (cxComp X (xs ++ capsN) sc cl C s H ex pn) tg g)
    (ht : ∀ cl C s H ex pn, PTs (cxComp X (xs ++ capsN) sc cl C s H ex pn) ifs tt)
    (he : ∀ cl C s H ex pn, PE (cxComp X (xs ++ capsN) sc cl C s H ex pn) elt te)
    (hkind : sc.kind = .function) (hcell : ∀ y ∈ sc.names, y.2 ≠ .cell) (hnames : ∀ y ∈ sc.names, y.2 = .local → sc.names.lookup y.1 = some .local)
    (hfr : ∀ y ∈ sc.names, y.2 = .free → y.1 ∈ capsN)
    (hcap : ∀ (j : Nat) (y : Str), capsN[j]? = some y → ∃ i : Nat, caps[j]? = some i ∧ X.N[i]? = some y ∧ sc.names.lookup y = some .free ∧ (X.env.kindOf y = some .cell ∨ X.env.kindOf y = some .free)) (hlen : caps.length = capsN.length)
    (hc : X.calm = true ∨ (hb = true ∧ ∀ s H, HOk X.prog X.w H s.heap → Gs H → HandQ X s)) (kW : ∀ J p cs Q H1, CW J p cs Q H1 → CompWT Gs g xs.length J p tt te cs Q H1)
    (hs : ∀ x, foldedSetIterable iter X.env x = pure x := by intro _; rfl) :
    PE X (.ListComp elt [⟨tg, iter, ifs, 0⟩] sc pos) (tCompC CW wi caps) := by
  intro pins s σ H Q I h
  rw [eval_ListComp]
  exact comp_goT (use := none) caps capsN hi hg ht he hkind hcell hnames hfr hcap hlen hc kW hs I h fun C p H5 s5 ⟨m, hn⟩ I5 f q => ⟨m, hn, fun h' sb => ⟨.ref p, H5, I5.turned (t' := s5.toks) (fun b o hb e => (sb.2 b hb).trans e) f.1 f.2.1 f.2.2.2.1 f.2.2.2.2.1 f.2.2.2.2.2, rfl, q⟩⟩
end L2
/-! ### sorted, min and max of lists, min of three -/
namespace L2
open PySem PySem.Spec PyProof.Rows
section
variable {X : Cx}
end
end L2
/-! ### a dict's keys as a list, sorted -/
namespace L2
open PySem PySem.Spec PyProof.Rows PySem.W
theorem is_kV {P : Program} {w : World} {k : Key} {u : Value} (h : (mixKind P w).is k u = true) : RelV (kV k) u := by
  rcases keyIs_shape (k := k) (v := u) h with ⟨i, t, rfl, rfl⟩ | ⟨x, t, rfl, rfl⟩
  · exact ⟨t, rfl⟩
  · exact ⟨t, rfl⟩
theorem vals_keys {P : Program} {w : World} {kvs : List (Key × V)} {vs : List (Key × Value)} {us : List Value} (rel : KV kvs vs) (hl : us.length = vs.length)
    (h : ∀ (j : Nat) (v : Value), us[j]? = some v → ∃ k x, vs[j]? = some (k, x) ∧ (mixKind P w).is k v = true) : Vals (kvs.map fun p => kV p.1) us := by
  unfold KV at rel
  induction rel generalizing us with
  | nil =>
    cases us with
    | nil => exact .nil
    | cons a r => cases hl
  | @cons p q ps qs hr r ih =>
    cases us with
    | nil => cases hl
    | cons u us =>
      obtain ⟨kk, x, e, hk⟩ := h 0 u rfl
      have e' : q = (kk, x) := Option.some.inj e
      refine .cons ?_ (ih (Nat.succ.inj hl) fun j v hj => h (j + 1) v hj)
      show RelV (kV p.1) u
      rw [hr.1, e']
      exact is_kV hk
section
variable {X : Cx}
/-- list(d) -/
theorem call_listK (hc : X.calm = true) : CallR X (.type "list") (fun xs H Q => ∃ a kvs, xs = [V.ref a] ∧ H a = some (.dK kvs) ∧ ∀ l, H l = none → Q (.ref l) (upd H l (.lst (kvs.map fun p => kV p.1)))) := by
  intro pins s σ H xs us Q I r h
  obtain ⟨a, kvs, rfl, ha, q⟩ := h
  obtain ⟨u, rfl, ru⟩ := vals1 r
  cases ru
  obtain ⟨z, hd, vs, rel, dd⟩ := dk_of I.hok ha
  obtain ⟨ep, da⟩ : ∃ ep, s.heap.DictAt (mixKind X.prog X.w) a vs ep := by
    obtain ⟨o, es, ep, h1, h2, h3, h4⟩ := dd
    exact ⟨ep, o, es, h1, h2, h3, h4⟩
  have hz : vs.length ≤ sizeLine := by rw [← rel.length]; exact z
  refine kdl_call (kdl_dict hd) (I.ok.hd hc) da hz fun h' tk acc c kp hS it => ?_
  have nn := I.hok.fresh (Nat.le_refl s.heap.objs.size)
  refine ⟨.ref s.heap.objs.size, _, I.laid (a := s.heap.objs.size) (o := .lst (kvs.map fun p => kV p.1)) (t' := tk) kp (Nat.le_refl _) ?_, rfl, q _ nn⟩
  refine ⟨by rw [List.length_map]; exact z, acc.toList, c, vals_keys (P := X.prog) (w := X.w) rel (by rw [← it.1]; simp) (fun j v hj => ?_), hS⟩
  exact it.2 j v (by simpa using hj)
end
end L2
/-! ### a set's table: its places rise -/
namespace L2
open PySem
end L2
/-! ### adding to a set keeps its places rising, and no dummies -/
namespace L2
open PySem
end L2
/-! ### a set by the list of its members, in the order of its table -/
namespace L2
open PySem PyProof.Rows
section
variable {prog : Program} {w : World} {K : Type} [DecidableEq K] (knd : KeyKind prog w K)
variable {knd}
variable {A : Around} {E : Value → Shared → Prop} {s : Shared}
end
end L2
/-! ### set(a list) -/
namespace L2
open PySem PyProof.Rows
section
variable {prog : Program} {w : World} {K : Type} [DecidableEq K] {knd : KeyKind prog w K}
variable {A : Around} {E : Value → Shared → Prop}
variable {s : Shared}
end
end L2
/-! ### a set walked -/
namespace L2
open PySem PyProof.Rows
section
variable {prog : Program} {w : World} {A : Around} {E : Value → Shared → Prop} {s : Shared}
end
end L2
namespace L2
open PySem PyProof.Rows
section
variable {prog : Program} {w : World} {A : Around} {E : Value → Shared → Prop} {s : Shared}
end
end L2
namespace L2
open PySem PyProof.Rows
section
variable {prog : Program} {w : World} {A : Around} {E : Value → Shared → Prop} {s : Shared}
end
end L2
namespace L2
open PySem PyProof.Rows
section
variable {prog : Program} {w : World} {A : Around} {E : Value → Shared → Prop} {s : Shared}
variable {K : Type} [DecidableEq K] {knd : KeyKind prog w K}
end
end L2
namespace L2
open PySem PyProof.Rows
section
variable {prog : Program} {w : World} {A : Around} {E : Value → Shared → Prop} {s : Shared} {K : Type} [DecidableEq K] {knd : KeyKind prog w K}
end
end L2
namespace L2
open PySem PyProof.Rows
section
variable {prog : Program} {w : World} {A : Around} {E : Value → Shared → Prop} {s : Shared}
variable {K : Type} [DecidableEq K] {knd : KeyKind prog w K}
end
end L2
/-! ### sorted(set(a list of ints)) -/
namespace L2
open PySem PySem.Spec PyProof.Rows
section
variable {X : Cx} {e : Expr} {te : TE}
end
end L2
/-! ### sorted(set(a list of texts)) -/
namespace L2
open PySem PySem.Spec PyProof.Rows
section
variable {X : Cx} {e : Expr} {te : TE}
end
end L2
/-! ### sorted(a list of tuples whose first parts are texts that rise) -/
namespace L2
open PySem PySem.Spec PyProof.Rows PySem.W
theorem KatTups_keep {h h' : Heap} (k : ∀ b o, h.get? b = some o → o.cls = .type "tuple" → h'.get? b = some o) : ∀ {vs fs : List Value}, KatTups h vs fs → KatTups h' vs fs
  | [], [], _ => trivial
  | [], _ :: _, t => t.elim
  | _ :: _, [], t => t.elim
  | v :: vs, f :: fs, ⟨⟨a, o, xs, n, e, ho, hc, hd, hf⟩, t⟩ => ⟨⟨a, o, xs, n, e, k a o ho hc, hc, hd, hf⟩, KatTups_keep k t⟩
theorem KatTups_at {h : Heap} {fs : List Value} {ss : List Str} (hS : StrsAre fs ss) : ∀ {vs : List Value} {i : Nat} {z : Str}, KatTups h vs fs → ss[i]? = some z → ∃ a o xs n t, vs.getD i Value.none = .ref a ∧ h.get? a = some o ∧ o.data = .seq xs n ∧ xs[0]? = some (.str z t) := by
  induction hS with
  | nil =>
    intro vs i z _ e
    simp at e
  | cons y tk r ih =>
    intro vs i z t e'
    cases vs with
    | nil => exact t.elim
    | cons v vs =>
      obtain ⟨⟨a, o, xs, n, e, ho, hc, hd, hf⟩, t⟩ := t
      cases i with
      | zero =>
        cases e'
        exact ⟨a, o, xs, n, tk, e, ho, hd, hf⟩
      | succ i =>
        obtain ⟨a, o, xs, n, t', h1, h2, h3, h4⟩ := ih t (i := i) (z := z) (by simpa using e')
        exact ⟨a, o, xs, n, t', by simpa using h1, h2, h3, h4⟩
theorem KatTups_len {h : Heap} : ∀ {vs fs : List Value}, KatTups h vs fs → fs.length = vs.length
  | [], [], _ => rfl
  | [], _ :: _, t => t.elim
  | _ :: _, [], t => t.elim
  | _ :: _, _ :: _, ⟨_, t⟩ => congrArg Nat.succ (KatTups_len t)
theorem strs_len : ∀ {fs : List Value} {ss : List Str}, StrsAre fs ss → fs.length = ss.length
  | _, _, .nil => rfl
  | _, _, .cons _ _ h => congrArg Nat.succ (strs_len h)
section
variable {prog : Program} {w : World} {A : Around} {E : Value → Shared → Prop} {s : Shared}
end
section
variable {X : Cx}
theorem tups_of {P : Program} {w : World} {pins : List (Addr × Obj)} {σ : St} {H : Hp} {s : Shared} (I : Inv X pins σ H s) : ∀ {vs : List V} {its : List Value} {ss : List Str}, Vals vs its → vs.length = ss.length → (∀ (i : Nat) v z, vs[i]? = some v → ss[i]? = some z → ∃ b ws, v = .ref b ∧ H b = some (.tup (.str z :: ws))) → ∃ fs, KatTups s.heap its fs ∧ StrsAre fs ss
  | _, _, [], .nil, _, _ => ⟨[], trivial, .nil⟩
  | _, _, _ :: _, .nil, h, _ => by cases h
  | _, _, [], .cons _ _, h, _ => by cases h
  | v :: vs, u :: its, z :: ss, .cons r rs, h, k => by
    obtain ⟨fs, t, hS⟩ := tups_of (P := P) (w := w) I rs (Nat.succ.inj h) fun i v z hv hz => k (i + 1) v z hv hz
    obtain ⟨b, ws, rfl, hb⟩ := k 0 _ z rfl rfl
    cases r
    obtain ⟨js, rj, ⟨o, ho, hc, n, hd⟩, _⟩ := I.tuple (SqT.of (K := X.K) hb)
    cases rj with
    | cons r0 _ =>
      obtain ⟨tk, rfl⟩ := r0
      exact ⟨_, KatTups.cons ho hc hd (by simp) t, .cons z tk hS⟩
end
end L2
namespace L2
open PySem PySem.Spec PyProof.Rows
/-! ### what is a list or a tuple -/
def sqO (tu : Bool) (xs : List V) : HO := match tu with
  | false => .lst xs
  | true => .tup xs
def Sq (K : PySem.W.Frag) (tu : Bool) (H : Hp) (a : Addr) (xs : List V) : Prop := match tu with
  | false => SqL K H a xs
  | true => SqT K H a xs
/-! ### l != [] -/
section
variable {X : Cx}
def rNeE (K : PySem.W.Frag) : R2 := fun x y H Q => ∃ a b xs, x = .ref a ∧ y = .ref b ∧ SqL K H a xs ∧ SqL K H b [] ∧ Q (.bl (decide (xs ≠ []))) H
theorem op_neE (hu : X.A.units < cLine) : OpR X (compareOp .NotEq) (rNeE X.K) := by
  intro pins s σ H x y v u Q I rx ry h
  obtain ⟨a, b, xs, rfl, rfl, ha, hb, q⟩ := h
  cases hx : xs with
  | nil =>
    subst hx
    exact op_neL hu pins s σ H _ _ v u Q I rx ry ⟨a, b, _, _, rfl, rfl, ha, hb, rfl, rfl, q⟩
  | cons z zs =>
    cases rx
    cases ry
    obtain ⟨its, r1, p1, _⟩ := I.list ha
    obtain ⟨its2, r2, p2, _⟩ := I.list hb
    have l1 := r1.length
    have l2 := r2.length
    have lx : xs.length = zs.length + 1 := by rw [hx]; rfl
    have l0 : ([] : List V).length = 0 := rfl
    refine SeqAt.RcNeAt.lists_lengths p1.isList p2.isList (by simp; omega) hu _ _ _ _ ⟨.bl true, H, I, rfl, ?_⟩
    have e : decide (xs ≠ []) = true := decide_eq_true (by rw [hx]; exact List.cons_ne_nil _ _)
    rw [e] at q
    exact q
end
/-! ### rules within a comprehension, K told -/
section
variable {X : Cx} {K : PySem.W.Frag}
end
/-! ### tuples of flat things in a list -/
end L2
namespace L2
open PySem PySem.Spec PyProof.Rows
/-! ### rows of stretches, as numbers -/
/-! ### whole numbers from b on -/
/-! ### gaps -/
/-! ### rows in the heap -/
end L2
/-! ### d.update(e), both dicts of ints and texts -/
namespace L2
open PySem PySem.Spec PyProof.Rows
section
variable {X : Cx} {pins : List (Addr × Obj)} {σ : St} {H : Hp} {s : Shared} {a b : Addr} {A : Around} {E : Value → Shared → Prop}
theorem d_update {kvs more : List (Key × V)} {Q : Value → Shared → Prop} (I : Inv X pins σ H s) (e : H a = some (.dK kvs)) (e2 : H b = some (.dK more)) (ne : a ≠ b) (z : kvs.length + more.length ≤ sizeLine) (h : ∀ s', Inv X pins σ (upd H a (.dK (mergeK kvs more))) s' → Q .none s') :
    wpAny (model X.prog X.w) A (call (.builtin "dict.update") [.ref a, .ref b]) Q E s := by
  obtain ⟨_, hd, vs, rel, dd⟩ := dk_of I.hok e
  obtain ⟨_, hd2, ws, rel2, dd2⟩ := dk_of I.hok e2
  refine call_meetsIn PySem.F.slot_dict_update dd.typeIs PySem.F.entry_dict_update (PySem.F.args_dict_update_2 _ _) (meets_dict_update (mixKind X.prog X.w) a b ne hd2) ⟨vs, ws, dd, dd2, by rw [← rel.length, ← rel2.length]; exact z, fun h' dd' _ hs => h _ ?_⟩
  have he : ∃ q, h'.get? a = some q := let ⟨q, _, _, hq, _⟩ := dd'; ⟨q, hq⟩
  have hl := length_mergeK more kvs
  exact d_write (t' := s.toks) I (by rw [e]; exact True.intro) hs he (dk_new (by omega) hd (rel2.merge rel) dd')
end
section
variable {X : Cx} {o e : Expr} {apos cpos : Pos} {td ty : TE}
def tDUpd (td ty : TE) : TE := fun σ H Q => td σ H fun x H1 => ∃ a, x = .ref a ∧ IsD H1 a ∧ ty σ H1 fun y H2 => ∃ b kvs more, y = .ref b ∧ H2 a = some (.dK kvs) ∧ H2 b = some (.dK more) ∧ a ≠ b ∧ kvs.length + more.length ≤ sizeLine ∧ Q .non (upd H2 a (.dK (mergeK kvs more)))
theorem pe_dupd (ho : PE X o td) (he : PE X e ty) (m : M1 X o "update" apos e cpos) : PE X (.Call (.Attribute o "update" apos) [e] [] cpos) (tDUpd td ty) := by
  intro pins s σ H Q I h
  refine wpAny_Call_method m.base m.few m.line PySem.F.plainAttrs_dict PySem.F.slot_dict_update PySem.F.type_dict_update (thn (ho pins s σ H _ I h) fun u s1 ⟨x, H1, I1, rx, a, ex, d, q1⟩ => ?_)
  subst ex
  obtain rfl : u = Value.ref a := rx
  obtain ⟨t1, t2, _⟩ := isD_at I1 d
  refine ⟨t1, t2, ?_⟩
  rw [m.trees]
  refine Calls.callWith_builtin rfl (Calls.evalArgs_plain (Calls.spliced_cons (thn (he pins s1 σ H1 _ I1 q1) fun iv s2 ⟨y, H2, I2, ry, b, kvs, more, ey, ea, eb, ne, z, q2⟩ => Calls.spliced_nil ?_)))
  subst ey
  obtain rfl : iv = Value.ref b := ry
  exact d_update I2 ea eb ne z fun s3 I3 => ⟨.non, _, I3, rfl, q2⟩
end
end L2
/-! ### several records of ours turn; zip of two lists, its pairs taken apart at once -/
namespace L2
open PySem PySem.Spec PyProof.Rows
section
variable {X : Cx} {pins : List (Addr × Obj)} {σ : St} {H : Hp} {s : Shared} {h' : Heap}
/-- untracked records of ours have turned -/
theorem Inv.turns {t' : Nat} {W : List Addr} (I : Inv X pins σ H s) (hW : ∀ b ∈ W, FpOk X pins H b) (k : ∀ b o, b ∉ W → s.heap.get? b = some o → h'.get? b = some o) : Inv X pins σ H { s with heap := h', toks := t' } := by
  have nit : ∀ b u, H b = some u → b ∉ W := fun b u e z => by
    have q := (hW b z).1
    rw [q] at e
    cases e
  have lW : X.env.locals ∉ W := fun z => (hW _ z).2.1 rfl
  refine I.step (g' := s.gens) (d' := s.drawn) (ch := W) (fun b hb => ?_) (fun b o _ _ hc e _ => k b o hc e) (fun b o _ _ hc e _ => ⟨o.slots, k b o hc e⟩) (fun _ _ _ _ n => n) (fun b o hc e => ⟨o, k b o hc e⟩) (fun _ _ e => e) (fun _ _ _ e => e)
    (fun b ps e => ⟨#[], by rw [e]; simp⟩) (fun m hm => ?_) (fun b u e => ?_) I.bare
  · obtain ⟨_, a2, _, a4, a5, a6⟩ := hW b hb
    exact ⟨a4, a2, a5, a6⟩
  · obtain ⟨o, es, ep, ho, r⟩ := hm
    exact ⟨o, es, ep, k _ o lW ho, r⟩
  · refine (I.hok b u e).stay (fun c v hc q => k c v ?_ q) (fun _ q => q) fun _ _ q => q
    rcases hc with z | z
    · exact z ▸ nit b u e
    · exact nit c _ z
/-- the same, and a new object is tracked -/
theorem Inv.turnsLaid {t' : Nat} {W : List Addr} {T : Addr} {o : HO} (I : Inv X pins σ H s) (hW : ∀ b ∈ W, FpOk X pins H b) (k : ∀ b u, b ∉ W → s.heap.get? b = some u → h'.get? b = some u) (hT : s.heap.objs.size ≤ T)
    (new : ObjOk X.prog X.w (upd H T o) h' T o) : Inv X pins σ (upd H T o) { s with heap := h', toks := t' } := by
  have nT := I.hok.fresh hT
  have nit : ∀ b u, H b = some u → b ∉ W := fun b u e z => by
    have q := (hW b z).1
    rw [q] at e
    cases e
  have lW : X.env.locals ∉ W := fun z => (hW _ z).2.1 rfl
  refine I.step (g' := s.gens) (d' := s.drawn) (ch := W) (fun b hb => ?_) (fun b o _ _ hc e _ => k b o hc e) (fun b o _ _ hc e _ => ⟨o.slots, k b o hc e⟩)
    (fun b o _ e n => by rw [upd_ne (Nat.ne_of_lt (Nat.lt_of_lt_of_le (Heap.lt_size e) hT))]; exact n) (fun b o hc e => ⟨o, k b o hc e⟩)
    (fun b xs e => by rw [upd_ne (ne_of_none e nT)]; exact e) (fun b _ _ e => by rw [upd_ne (ne_of_none e nT)]; exact e)
    (fun b ps e => ⟨#[], by rw [upd_ne (ne_of_none e nT), e]; simp⟩) (fun m hm => ?_) (fun b u e => ?_) I.bare
  · obtain ⟨_, a2, _, a4, a5, a6⟩ := hW b hb
    exact ⟨a4, a2, a5, a6⟩
  · obtain ⟨o, es, ep, ho, r⟩ := hm
    exact ⟨o, es, ep, k _ o lW ho, r⟩
  · by_cases hb : b = T
    · subst hb
      rw [upd_same] at e
      cases e
      exact new
    · rw [upd_ne hb] at e
      refine (I.hok b u e).stay (fun c v hc q => k c v ?_ q) (fun c q => by rw [upd_ne (ne_of_none q nT)]; exact q) fun c xs q => by rw [upd_ne (ne_of_none q nT)]; exact q
      rcases hc with z | z
      · exact z ▸ nit b u e
      · exact nit c _ z
end
end L2
/-! ### zip of two tuples, its pairs taken apart at once -/
namespace L2
open PySem PySem.Spec PyProof.Rows
section
variable {prog : Program} {w : World} {A : Around} {E : Value → Shared → Prop} {s : Shared}
/-- one turn of a tuple's iterator, as zip draws it -/
theorem drawT {j c : Addr} {k : Nat} {us : Array Value} {u : Value} {Q : Value → Shared → Prop} (hj : s.heap.IsTupleIter j c k) (hc : s.heap.IsTuple c us) (hu : us[k]? = some u)
    (q : ∀ g, g.IsTupleIter j c (k + 1) → Heap.SameBut j s.heap g → Q u { s with heap := g }) : wpAny (model prog w) A (Builtin.SmallTypes.nextOf (.ref j)) Q E s := by
  obtain ⟨oj, ej, kj, dj⟩ := id hj
  obtain ⟨oc, ec, _, nc, dc⟩ := hc
  unfold Builtin.SmallTypes.nextOf
  have T := hj.typeIs
  refine wpAny_bind (wpAny_callSpecial?_slot (name := Str.ofString "__next__") T F.slot_tuple_iterator_next (wpAny_call_entry F.slot_tuple_iterator_next T F.entry_tuple_iterator_next ?_ (F.args_tuple_iterator_next_1 _)))
  show wpAny (model prog w) _ (field (.ref j) 0 >>= _) _ _ s
  refine wpAny_bind (wpAny_field ej dj (x := .ref c) rfl ?_)
  show wpAny (model prog w) _ (if (Value.ref c == Value.none) = true then _ else _) _ _ s
  rw [if_neg (show ¬ ((Value.ref c == Value.none) = true) by simp)]
  show wpAny (model prog w) _ (field (.ref j) 1 >>= _) _ _ s
  refine wpAny_bind (wpAny_field ej dj (x := .int k 0) rfl ?_)
  show wpAny (model prog w) _ (seqItems? (.ref c) >>= _) _ _ s
  refine wpAny_bind (wpAny_seqItems ec dc ?_)
  simp only [Int.toNat_natCast, hu]
  refine wpAny_bind (wpAny_setField ej dj (by simp) (wpAny_pure ⟨u, rfl, wpAny_pure (q _ ⟨_, Heap.get?_update_self _ ej (Obj.isFreed_of_fields (Obj.data_mapFields dj _)), (Obj.cls_mapFields ..).trans kj, ?_⟩ (Heap.SameBut.update ..))⟩))
  rw [Obj.data_mapFields dj]
  simp [rawInt]
theorem drawT_end {j c : Addr} {k : Nat} {us : Array Value} {Q : Value → Shared → Prop} (hh : A.handled = none) (hj : s.heap.IsTupleIter j c k) (hc : s.heap.IsTuple c us) (hu : us[k]? = none)
    (q : ∀ g e, Heap.ExtBut j s.heap g → (∃ o, g.get? e = some o ∧ o.cls = .type "StopIteration") → E (.ref e) { s with heap := g }) : wpAny (model prog w) A (Builtin.SmallTypes.nextOf (.ref j)) Q E s := by
  obtain ⟨oj, ej, kj, dj⟩ := id hj
  obtain ⟨oc, ec, _, nc, dc⟩ := hc
  unfold Builtin.SmallTypes.nextOf
  have T := hj.typeIs
  refine wpAny_bind (wpAny_callSpecial?_slot (name := Str.ofString "__next__") T F.slot_tuple_iterator_next (wpAny_call_entry F.slot_tuple_iterator_next T F.entry_tuple_iterator_next ?_ (F.args_tuple_iterator_next_1 _)))
  show wpAny (model prog w) _ (field (.ref j) 0 >>= _) _ _ s
  refine wpAny_bind (wpAny_field ej dj (x := .ref c) rfl ?_)
  show wpAny (model prog w) _ (if (Value.ref c == Value.none) = true then _ else _) _ _ s
  rw [if_neg (show ¬ ((Value.ref c == Value.none) = true) by simp)]
  show wpAny (model prog w) _ (field (.ref j) 1 >>= _) _ _ s
  refine wpAny_bind (wpAny_field ej dj (x := .int k 0) rfl ?_)
  show wpAny (model prog w) _ (seqItems? (.ref c) >>= _) _ _ s
  refine wpAny_bind (wpAny_seqItems ec dc ?_)
  simp only [Int.toNat_natCast, hu]
  refine wpAny_bind (wpAny_rule (wpAny_bind (wpAny_setField ej dj (by simp) ?_)))
  show wpAny (model prog w) _ (newExc (.type "StopIteration") [] >>= _) _ _ _
  refine wpAny_bind ?_
  simp only [newExc, newTuple]
  refine wpAny_bind (wpAny_newObj_type ?_ (by size_fits))
  refine wpAny_bind (m := firstArgMember _ _) (wpAny_of_eq (a := Value.none) (by simp only [firstArgMember]; rfl) ?_)
  refine wpAny_newObj_type ?_ (by size_fits)
  simp only [raiseNew]
  refine wpAny_bind (wpAny_handled ?_)
  rw [show A.in1.handled = none from hh]
  exact wpAny_bind (wpAny_pure (wpAny_throw (q _ _ (((Heap.SameBut.update ..).extBut.push _).push _) ⟨_, Heap.get?_push_size _ rfl, rfl⟩)))
/-- zip's step, both have one more -/
theorem zipT_item {z p o i1 i2 c1 c2 : Addr} {k : Nat} {us vs : Array Value} {u v a b : Value} {Q : Value → Shared → Prop} (D : ZipApart z p o i1 i2 c1 c2) (hz : IsZip s.heap z p o .none) (hp : IsPair s.heap p (.ref i1) (.ref i2)) (ho : IsPair s.heap o a b)
    (j1 : s.heap.IsTupleIter i1 c1 k) (j2 : s.heap.IsTupleIter i2 c2 k) (t1 : s.heap.IsTuple c1 us) (t2 : s.heap.IsTuple c2 vs) (hu : us[k]? = some u) (hv : vs[k]? = some v)
    (q : ∀ g, IsZip g z p o (rawInt s.heap.objs.size) → IsPair g o u v → g.IsTupleIter i1 c1 (k + 1) → g.IsTupleIter i2 c2 (k + 1) → IsPair g s.heap.objs.size u v →
      (∀ c x, c ≠ z → c ≠ o → c ≠ i1 → c ≠ i2 → s.heap.get? c = some x → g.get? c = some x) → Q (.ref s.heap.objs.size) { s with heap := g }) :
    wpAny (model prog w) A (Builtin.«zip.__next__» ⟨[.ref z], []⟩) (fun f s' => ∃ r, f = .done (.ret r) ∧ Q r s') E s := by
  show wpAny (model prog w) _ (field (.ref z) 2 >>= _) _ _ _
  refine wpAny_bind (wpAny_field hz rfl (x := .bool false) rfl ?_)
  show wpAny (model prog w) _ (field (.ref z) 3 >>= _) _ _ _
  refine wpAny_bind (wpAny_field hz rfl (x := .ref p) rfl (wpAny_bind (wpAny_seqItems hp rfl ?_)))
  show wpAny (model prog w) _ (Builtin.SmallTypes.ownedTupleIsFree (.ref z) >>= _) _ _ _
  refine wpAny_bind ?_
  unfold Builtin.SmallTypes.ownedTupleIsFree
  refine wpAny_bind (wpAny_field hz rfl (x := .none) rfl (wpAny_pure ?_))
  simp only [if_true]
  refine wpAny_bind (wpAny_rule (wpAny_bind (wpAny_field hz rfl (x := .ref o) rfl (wpAny_bind (wpAny_setField_rec hz (by simp) fun g1 z1 s1 => ?_)))))
  refine wpAny_bind ?_
  simp only [List.zipIdx_cons, List.zipIdx_nil, List.forIn_cons, List.forIn_nil]
  refine wpAny_bind (wpAny_bind (wpAny_onRaise ?_))
  show wpAny (model prog w) _ (Builtin.SmallTypes.nextOf (.ref i1) >>= _) _ _ _
  refine wpAny_bind (drawT (j1.extBut s1.extBut D.i1z) (t1.extBut s1.extBut D.l1z) hu fun g2 j12 s2 => wpAny_pure ?_)
  have o2 : IsPair g2 o a b := s2.extBut _ _ D.TOi1 (s1.extBut _ _ D.TOz ho)
  refine wpAny_bind (wpAny_seqItems o2 rfl (wpAny_bind (wpAny_updateSeq_pair o2 fun g3 o3 s3 => ?_)))
  replace o3 : IsPair g3 o u b := o3
  refine wpAny_bind (wpAny_letGo (wpAny_pure (wpAny_bind (wpAny_bind (wpAny_onRaise ?_)))))
  show wpAny (model prog w) _ (Builtin.SmallTypes.nextOf (.ref i2) >>= _) _ _ _
  refine wpAny_bind (drawT (((j2.extBut s1.extBut D.i2z).extBut s2.extBut D.i12.symm).extBut s3.extBut D.TOi2.symm) (((t2.extBut s1.extBut D.l2z).extBut s2.extBut D.l2i1).extBut s3.extBut D.l2TO) hv fun g4 j24 s4 => wpAny_pure ?_)
  have o4 : IsPair g4 o u b := s4.extBut _ _ D.TOi2 o3
  refine wpAny_bind (wpAny_seqItems o4 rfl (wpAny_bind (wpAny_updateSeq_pair o4 fun g5 o5 s5 => ?_)))
  replace o5 : IsPair g5 o u v := o5
  refine wpAny_bind (wpAny_letGo (wpAny_pure (wpAny_pure (wpAny_bind (wpAny_seqItems o5 rfl (wpAny_bind (wpAny_newTuple ?_)))))))
  have sz : g5.objs.size = s.heap.objs.size := by rw [s5.1, s4.1, s3.1, s2.1, s1.1]
  have z5 : IsZip g5 z p o .ellipsis := s5.extBut _ _ D.TOz.symm (s4.extBut _ _ D.i2z.symm (s3.extBut _ _ D.TOz.symm (s2.extBut _ _ D.i1z.symm z1)))
  have k5 : ∀ c x, c ≠ z → c ≠ o → c ≠ i1 → c ≠ i2 → s.heap.get? c = some x → g5.get? c = some x := fun c x n1 n2 n3 n4 e => s5.extBut _ _ n2 (s4.extBut _ _ n4 (s3.extBut _ _ n2 (s2.extBut _ _ n3 (s1.extBut _ _ n1 e))))
  have j15 : g5.IsTupleIter i1 c1 (k + 1) := ((j12.extBut s3.extBut D.TOi1.symm).extBut s4.extBut D.i12).extBut s5.extBut D.TOi1.symm
  have j25 : g5.IsTupleIter i2 c2 (k + 1) := j24.extBut s5.extBut D.TOi2.symm
  have lz : z < g5.objs.size := Heap.lt_size z5
  show wpAny (model prog w) _ (Builtin.SmallTypes.ownedTupleHandOut (.ref z) (.ref g5.objs.size) >>= _) _ _ _
  refine wpAny_bind ?_
  unfold Builtin.SmallTypes.ownedTupleHandOut
  have z6 : IsZip (g5.push { cls := .type "tuple", data := .seq #[u, v] }) z p o .ellipsis := Heap.get?_push_of_some _ z5
  refine wpAny_bind (wpAny_setField_rec z6 (by simp) fun g7 z7 s7 => ?_)
  replace z7 : IsZip g7 z p o (rawInt g5.objs.size) := z7
  refine wpAny_setField_rec z7 (by simp) fun g8 z8 s8 => ?_
  replace z8 : IsZip g8 z p o (rawInt g5.objs.size) := z8
  have up : ∀ c x, c ≠ z → g5.get? c = some x → g8.get? c = some x := fun c x n1 e => s8.extBut _ _ n1 (s7.extBut _ _ n1 (Heap.get?_push_of_some _ e))
  have n8 : IsPair g8 g5.objs.size u v := s8.extBut _ _ (Nat.ne_of_gt lz) (s7.extBut _ _ (Nat.ne_of_gt lz) (Heap.get?_push_size _ rfl))
  rw [sz] at z8 n8
  refine wpAny_pure ⟨_, rfl, ?_⟩
  show Q (.ref g5.objs.size) _
  rw [sz]
  obtain ⟨x1, e1, r1⟩ := j15
  obtain ⟨x2, e2, r2⟩ := j25
  exact q g8 z8 (up _ _ D.TOz o5) ⟨x1, up _ _ D.i1z e1, r1⟩ ⟨x2, up _ _ D.i2z e2, r2⟩ n8 fun c x n1 n2 n3 n4 e => up c x n1 (k5 c x n1 n2 n3 n4 e)
/-- zip's step, one of them has no more -/
theorem zipT_end {z p o i1 i2 c1 c2 : Addr} {k : Nat} {us vs : Array Value} {a b : Value} {Q : Fin → Shared → Prop} (hh : A.handled = none) (D : ZipApart z p o i1 i2 c1 c2) (hz : IsZip s.heap z p o .none) (hp : IsPair s.heap p (.ref i1) (.ref i2)) (ho : IsPair s.heap o a b)
    (j1 : s.heap.IsTupleIter i1 c1 k) (j2 : s.heap.IsTupleIter i2 c2 k) (t1 : s.heap.IsTuple c1 us) (t2 : s.heap.IsTuple c2 vs) (hn : us[k]? = none ∨ vs[k]? = none)
    (q : ∀ g e, (∀ c x, c ≠ z → c ≠ o → c ≠ i1 → c ≠ i2 → s.heap.get? c = some x → g.get? c = some x) → (∃ x, g.get? e = some x ∧ x.cls = .type "StopIteration") → E (.ref e) { s with heap := g }) :
    wpAny (model prog w) A (Builtin.«zip.__next__» ⟨[.ref z], []⟩) Q E s := by
  show wpAny (model prog w) _ (field (.ref z) 2 >>= _) _ _ _
  refine wpAny_bind (wpAny_field hz rfl (x := .bool false) rfl ?_)
  show wpAny (model prog w) _ (field (.ref z) 3 >>= _) _ _ _
  refine wpAny_bind (wpAny_field hz rfl (x := .ref p) rfl (wpAny_bind (wpAny_seqItems hp rfl ?_)))
  show wpAny (model prog w) _ (Builtin.SmallTypes.ownedTupleIsFree (.ref z) >>= _) _ _ _
  refine wpAny_bind ?_
  unfold Builtin.SmallTypes.ownedTupleIsFree
  refine wpAny_bind (wpAny_field hz rfl (x := .none) rfl (wpAny_pure ?_))
  simp only [if_true]
  refine wpAny_bind (wpAny_rule (wpAny_bind (wpAny_field hz rfl (x := .ref o) rfl (wpAny_bind (wpAny_setField_rec hz (by simp) fun g1 z1 s1 => ?_)))))
  replace z1 : IsZip g1 z p o .ellipsis := z1
  refine wpAny_bind ?_
  simp only [List.zipIdx_cons, List.zipIdx_nil, List.forIn_cons, List.forIn_nil]
  refine wpAny_bind (wpAny_bind (wpAny_onRaise ?_))
  show wpAny (model prog w) _ (Builtin.SmallTypes.nextOf (.ref i1) >>= _) _ _ _
  have apart : ∀ {g : Heap} {e : Addr} {x : Obj}, IsZip g z p o .ellipsis → g.get? e = some x → x.cls = .type "StopIteration" → e ≠ z := fun hz' he hc n => by
    subst n
    rw [hz'] at he
    cases he
    simp at hc
  cases hu : us[k]? with
  | none =>
    refine wpAny_bind (drawT_end hh (j1.extBut s1.extBut D.i1z) (t1.extBut s1.extBut D.l1z) hu fun g2 e s2 he => ?_)
    obtain ⟨x, ex, cx⟩ := he
    have z2 : IsZip g2 z p o .ellipsis := s2 _ _ D.i1z.symm z1
    exact wpAny_setField_rec z2 (by simp) fun g3 _ s3 => q g3 e (fun c y n1 _ n3 _ h => s3.extBut _ _ n1 (s2 _ _ n3 (s1.extBut _ _ n1 h))) ⟨x, s3.extBut _ _ (apart z2 ex cx) ex, cx⟩
  | some u =>
    have hv : vs[k]? = none := hn.resolve_left fun h => by rw [hu] at h; cases h
    refine wpAny_bind (drawT (j1.extBut s1.extBut D.i1z) (t1.extBut s1.extBut D.l1z) hu fun g2 j12 s2 => wpAny_pure ?_)
    have o2 : IsPair g2 o a b := s2.extBut _ _ D.TOi1 (s1.extBut _ _ D.TOz ho)
    refine wpAny_bind (wpAny_seqItems o2 rfl (wpAny_bind (wpAny_updateSeq_pair o2 fun g3 o3 s3 => ?_)))
    refine wpAny_bind (wpAny_letGo (wpAny_pure (wpAny_bind (wpAny_bind (wpAny_onRaise ?_)))))
    show wpAny (model prog w) _ (Builtin.SmallTypes.nextOf (.ref i2) >>= _) _ _ _
    refine wpAny_bind (drawT_end hh (((j2.extBut s1.extBut D.i2z).extBut s2.extBut D.i12.symm).extBut s3.extBut D.TOi2.symm) (((t2.extBut s1.extBut D.l2z).extBut s2.extBut D.l2i1).extBut s3.extBut D.l2TO) hv fun g4 e s4 he => ?_)
    obtain ⟨x, ex, cx⟩ := he
    have z4 : IsZip g4 z p o .ellipsis := s4 _ _ D.i2z.symm (s3.extBut _ _ D.TOz.symm (s2.extBut _ _ D.i1z.symm z1))
    exact wpAny_setField_rec z4 (by simp) fun g5 _ s5 => q g5 e (fun c y n1 n2 n3 n4 h => s5.extBut _ _ n1 (s4 _ _ n4 (s3.extBut _ _ n2 (s2.extBut _ _ n3 (s1.extBut _ _ n1 h))))) ⟨x, s5.extBut _ _ (apart z4 ex cx) ex, cx⟩
theorem nextT_item {z p o i1 i2 c1 c2 : Addr} {k : Nat} {us vs : Array Value} {u v a b : Value} {Q : Option Value → Shared → Prop} (D : ZipApart z p o i1 i2 c1 c2) (hz : IsZip s.heap z p o .none) (hp : IsPair s.heap p (.ref i1) (.ref i2)) (ho : IsPair s.heap o a b)
    (j1 : s.heap.IsTupleIter i1 c1 k) (j2 : s.heap.IsTupleIter i2 c2 k) (t1 : s.heap.IsTuple c1 us) (t2 : s.heap.IsTuple c2 vs) (hu : us[k]? = some u) (hv : vs[k]? = some v)
    (q : ∀ g, IsZip g z p o (rawInt s.heap.objs.size) → IsPair g o u v → g.IsTupleIter i1 c1 (k + 1) → g.IsTupleIter i2 c2 (k + 1) → IsPair g s.heap.objs.size u v →
      (∀ c x, c ≠ z → c ≠ o → c ≠ i1 → c ≠ i2 → s.heap.get? c = some x → g.get? c = some x) → Q (some (.ref s.heap.objs.size)) { s with heap := g }) : wpAny (model prog w) A (pyNext (.ref z)) Q E s := by
  have T : s.TypeIs (.ref z) "zip" := ⟨_, hz, rfl⟩
  unfold pyNext
  exact wpAny_bind (wpAny_attempt (wpAny_callSpecial?_slot (name := Str.ofString "__next__") T F.slot_zip_next (wpAny_call_entry F.slot_zip_next T F.entry_zip_next
      (zipT_item D hz hp ho j1 j2 t1 t2 hu hv fun g b1 b2 b3 b4 b5 b6 => wpAny_pure (q g b1 b2 b3 b4 b5 b6)) (F.args_zip_next_1 _))))
theorem nextT_end {z p o i1 i2 c1 c2 : Addr} {k : Nat} {us vs : Array Value} {a b : Value} {Q : Option Value → Shared → Prop} (hh : A.handled = none) (D : ZipApart z p o i1 i2 c1 c2) (hz : IsZip s.heap z p o .none) (hp : IsPair s.heap p (.ref i1) (.ref i2)) (ho : IsPair s.heap o a b)
    (j1 : s.heap.IsTupleIter i1 c1 k) (j2 : s.heap.IsTupleIter i2 c2 k) (t1 : s.heap.IsTuple c1 us) (t2 : s.heap.IsTuple c2 vs) (hn : us[k]? = none ∨ vs[k]? = none)
    (q : ∀ g, (∀ c x, c ≠ z → c ≠ o → c ≠ i1 → c ≠ i2 → s.heap.get? c = some x → g.get? c = some x) → Q none { s with heap := g }) : wpAny (model prog w) A (pyNext (.ref z)) Q E s := by
  have T : s.TypeIs (.ref z) "zip" := ⟨_, hz, rfl⟩
  unfold pyNext
  refine wpAny_bind (wpAny_attempt (wpAny_callSpecial?_slot (name := Str.ofString "__next__") T F.slot_zip_next (wpAny_call_entry F.slot_zip_next T F.entry_zip_next (zipT_end hh D hz hp ho j1 j2 t1 t2 hn fun g e kp he => ?_) (F.args_zip_next_1 _))))
  obtain ⟨x, ex, cx⟩ := he
  exact wpAny_bind (wpAny_isInstance (T := "StopIteration") (b := true) ⟨x, ex, cx⟩ isSubtype_stop (wpAny_pure (q _ kp)))
end
end L2

namespace L2
open PySem PySem.Spec PyProof.Rows
abbrev zt1 (h : Heap) (c : Addr) : Heap := h.push { cls := .type "tuple_iterator", data := .fields #[.ref c, .int 0 0] }
abbrev zt2 (h : Heap) (c d : Addr) : Heap := (zt1 h c).push { cls := .type "tuple_iterator", data := .fields #[.ref d, .int 0 0] }
abbrev zt3 (h : Heap) (c d : Addr) : Heap := (zt2 h c d).push { cls := .type "tuple", data := .seq #[.ref h.objs.size, .ref (zt1 h c).objs.size] }
abbrev zt4 (h : Heap) (c d : Addr) : Heap := (zt3 h c d).push { cls := .type "tuple", data := .seq #[.none, .none] }
abbrev zt5 (h : Heap) (c d : Addr) : Heap := (zt4 h c d).push { cls := .type "zip", data := .fields #[.none, .bool false, .bool false, .ref (zt2 h c d).objs.size, .ref (zt3 h c d).objs.size] }
theorem newT_zip (c d : Addr) (us vs : Array Value) : Meets (Builtin.«zip.__new__» ⟨[.type "zip", .ref c, .ref d], []⟩) (fun _ R s => s.heap.IsTuple c us ∧ s.heap.IsTuple d vs ∧ R (.ok (.ret (.ref (zt4 s.heap c d).objs.size))) { s with heap := zt5 s.heap c d }) :=
  .of_wp fun prog w A R s q => by
    obtain ⟨hp, g, dr, tk, os⟩ := s
    obtain ⟨e1, e2, q⟩ := q
    have hsub := sub_zip
    have t1 : Heap.IsTuple (Shared.heap ⟨hp, g, dr, tk, os⟩) c us := e1
    have t2 : Heap.IsTuple (Shared.heap ⟨hp.push { cls := .type "tuple_iterator", data := .fields #[.ref c, .int 0 0] }, g, dr, tk, os⟩) d vs := Heap.IsTuple.push e2 _
    wp_walk using wpAny_pyIter_tuple t1, wpAny_pyIter_tuple t2
    exact ⟨_, rfl, q⟩
section
variable {prog : Program} {w : World} {A : Around} {E : Value → Shared → Prop} {s : Shared}
theorem callT_zip {c d : Addr} {us vs : Array Value} {Q : Value → Shared → Prop} (e1 : s.heap.IsTuple c us) (e2 : s.heap.IsTuple d vs)
    (q : ∀ g, IsZip g (s.heap.objs.size + 4) (s.heap.objs.size + 2) (s.heap.objs.size + 3) .none → IsPair g (s.heap.objs.size + 2) (.ref s.heap.objs.size) (.ref (s.heap.objs.size + 1)) → IsPair g (s.heap.objs.size + 3) .none .none →
      g.IsTupleIter s.heap.objs.size c 0 → g.IsTupleIter (s.heap.objs.size + 1) d 0 → (∀ b o, s.heap.get? b = some o → g.get? b = some o) → Q (.ref (s.heap.objs.size + 4)) { s with heap := g }) : wpAny (model prog w) A (call (.type "zip") [.ref c, .ref d]) Q E s := by
  refine callType_new F.called_zip (by decide) (F.typeCall_zip_2 _ _) (F.newCall_zip_2 _ _) (fun ob => F.args_object_init_3 ob _ _) F.entry_zip_new (newT_zip c d us vs) ⟨e1, e2, ?_⟩
  have n1 : (zt1 s.heap c).objs.size = s.heap.objs.size + 1 := Heap.size_push ..
  have n2 : (zt2 s.heap c d).objs.size = s.heap.objs.size + 2 := by rw [Heap.size_push, n1]
  have n3 : (zt3 s.heap c d).objs.size = s.heap.objs.size + 3 := by rw [Heap.size_push, n2]
  have n4 : (zt4 s.heap c d).objs.size = s.heap.objs.size + 4 := by rw [Heap.size_push, n3]
  have a5 : (zt5 s.heap c d).get? (zt4 s.heap c d).objs.size = some _ := Heap.get?_push_size _ rfl
  have a4 : (zt5 s.heap c d).get? (zt3 s.heap c d).objs.size = some _ := Heap.get?_push_of_some _ (Heap.get?_push_size _ rfl)
  have a3 : (zt5 s.heap c d).get? (zt2 s.heap c d).objs.size = some _ := Heap.get?_push_of_some _ (Heap.get?_push_of_some _ (Heap.get?_push_size _ rfl))
  have a2 : (zt5 s.heap c d).get? (zt1 s.heap c).objs.size = some _ := Heap.get?_push_of_some _ (Heap.get?_push_of_some _ (Heap.get?_push_of_some _ (Heap.get?_push_size _ rfl)))
  have a1 : (zt5 s.heap c d).get? s.heap.objs.size = some _ := Heap.get?_push_of_some _ (Heap.get?_push_of_some _ (Heap.get?_push_of_some _ (Heap.get?_push_of_some _ (Heap.get?_push_size _ rfl))))
  show _ ∧ _
  rw [n2, n3, n4] at a5
  rw [n3] at a4
  rw [n1, n2] at a3
  rw [n1] at a2
  rw [n4]
  exact ⟨⟨_, a5, rfl⟩, q _ a5 a3 a4 ⟨_, a1, rfl, rfl⟩ ⟨_, a2, rfl, rfl⟩ fun b o e => Heap.get?_push_of_some _ (Heap.get?_push_of_some _ (Heap.get?_push_of_some _ (Heap.get?_push_of_some _ (Heap.get?_push_of_some _ e))))⟩
end
/-- the tuples at a and b side by side -/
def ItzT (K : PySem.W.Frag) (a b : Addr) : It :=
  ⟨fun i H => ∃ xs ys x y, SqT K H a xs ∧ SqT K H b ys ∧ xs[i]? = some x ∧ ys[i]? = some y,
   fun i H v H' => ∃ t x y, v = .ref t ∧ H t = none ∧ H' = upd H t (.tup [x, y]) ∧ (∀ xs, SqT K H a xs → xs[i]? = some x) ∧ ∀ ys, SqT K H b ys → ys[i]? = some y,
   fun i H => ∃ xs ys, SqT K H a xs ∧ SqT K H b ys ∧ (xs.length ≤ i ∨ ys.length ≤ i)⟩
structure ZipTAt (z TI TO i1 i2 a b : Addr) (i : Nat) (h : Heap) : Prop where
  zip : IsZip h z TI TO .none
  its : IsPair h TI (.ref i1) (.ref i2)
  own : ∃ u v, IsPair h TO u v
  it1 : h.IsTupleIter i1 a i
  it2 : h.IsTupleIter i2 b i
/-- here the tuples' own addresses are not told apart from zip's tuple by their class: TO ≠ a, b are asked for -/
theorem ZipTAt.apart {z TI TO i1 i2 a b : Addr} {i : Nat} {h : Heap} {p q : Array Value} (Z : ZipTAt z TI TO i1 i2 a b i h) (ha : h.IsTuple a p) (hb : h.IsTuple b q) (t : TI ≠ TO) (n : i1 ≠ i2) (na : a ≠ TO) (nb : b ≠ TO) : ZipApart z TI TO i1 i2 a b := by
  obtain ⟨hz, hI, ⟨u, v, hO⟩, ⟨o1, e1, c1, _⟩, ⟨o2, e2, c2, _⟩⟩ := Z
  obtain ⟨oa, ea, ca, _⟩ := ha
  obtain ⟨ob, eb, cb, _⟩ := hb
  have ne : ∀ {x y : Addr} {o o' : Obj}, h.get? x = some o → h.get? y = some o' → o.cls ≠ o'.cls → x ≠ y := fun e e' hc z => by
    subst z
    rw [e] at e'
    cases e'
    exact hc rfl
  refine ⟨ne hI hz ?_, ne hO hz ?_, ne e1 hz ?_, ne e2 hz ?_, t, ne hI e1 ?_, ne hI e2 ?_, ne hO e1 ?_, ne hO e2 ?_, n, ne ea hz ?_, na, ne ea e1 ?_, ne ea e2 ?_, ne eb hz ?_, nb, ne eb e1 ?_, ne eb e2 ?_⟩ <;> simp [c1, c2, ca, cb]
theorem turn_zipT {P : Program} {w : World} {K : PySem.W.Frag} {elts : List Expr} {x1} {tp : Pos} {z TI TO i1 i2 a b : Addr} (t : TI ≠ TO) (n : i1 ≠ i2) (na : a ≠ TO) (nb : b ≠ TO) :
    Turn P w K (.Tuple elts x1 tp) (ItzT K a b) [z, TI, TO, i1, i2] z (ZipTAt z TI TO i1 i2 a b) where
  mem := by simp
  obj := fun i h Z c hc => by
    obtain ⟨hz, hI, ⟨u, v, hO⟩, ⟨o1, e1, _, d1⟩, ⟨o2, e2, _, d2⟩⟩ := Z
    simp only [List.mem_cons, List.not_mem_nil, or_false] at hc
    rcases hc with rfl | rfl | rfl | rfl | rfl
    · exact ⟨_, hz, fun v q => by cases q⟩
    · exact ⟨_, hI, fun v q => by cases q⟩
    · exact ⟨_, hO, fun v q => by cases q⟩
    · exact ⟨_, e1, fun v q => by rw [d1] at q; cases q⟩
    · exact ⟨_, e2, fun v q => by rw [d2] at q; cases q⟩
  keep := fun i h h' Z k => by
    obtain ⟨hz, hI, ⟨u, v, hO⟩, ⟨o1, f1, r1⟩, ⟨o2, f2, r2⟩⟩ := Z
    exact ⟨k z (by simp) _ hz, k TI (by simp) _ hI, ⟨u, v, k TO (by simp) _ hO⟩, ⟨o1, k i1 (by simp) _ f1, r1⟩, ⟨o2, k i2 (by simp) _ f2, r2⟩⟩
  item := by
    intro X hP hw hK s hc i pins σ H E I hf Z hg
    subst hP hw hK
    obtain ⟨xs, ys, x, y, qa, qb, gx, gy⟩ := hg
    obtain ⟨its, rv, p, _⟩ := I.tuple qa
    obtain ⟨jts, rw', p', _⟩ := I.tuple qb
    obtain ⟨u, hu, ru⟩ := rv.get gx
    obtain ⟨v, hv, rv'⟩ := rw'.get gy
    have D := Z.apart (show s.heap.IsTuple a its.toArray from p) (show s.heap.IsTuple b jts.toArray from p') t n na nb
    obtain ⟨hz, hI, ⟨e1, e2, hO⟩, j1, j2⟩ := Z
    refine nextT_item D hz hI hO j1 j2 (show s.heap.IsTuple a its.toArray from p) (show s.heap.IsTuple b jts.toArray from p') (u := u) (v := v) (by simpa using hu) (by simpa using hv) fun h1 a1 a2 a3 a4 a5 kp => ?_
    refine ⟨_, rfl, wpAny_letOwnedTupleGo_zip a1 fun h2 b1 sb => ?_⟩
    have lz := Heap.lt_size hz
    have T2 : IsPair h2 s.heap.objs.size u v := sb.extBut _ _ (Nat.ne_of_gt lz) a5
    have nT := I.hok.fresh (Nat.le_refl s.heap.objs.size)
    have I1 : Inv X pins σ (upd H s.heap.objs.size (.tup [x, y])) { s with heap := h2 } := I.turnsLaid (W := [z, TI, TO, i1, i2]) (t' := s.toks) (T := s.heap.objs.size) (o := .tup [x, y]) hf
      (fun c o hc e => by
        simp only [List.mem_cons, List.not_mem_nil, or_false, not_or] at hc
        exact sb.extBut _ _ hc.1 (kp c o hc.1 hc.2.2.1 hc.2.2.2.1 hc.2.2.2.2 e)) (Nat.le_refl _) ⟨by show 2 ≤ sizeLine; decide, [u, v], .cons ru (.cons rv' .nil), ⟨_, T2, rfl, _, rfl⟩⟩
    refine ⟨.ref s.heap.objs.size, _, I1, rfl, ⟨_, x, y, rfl, nT, rfl, fun zs hq => by rw [I.tuple_inj hq qa]; exact gx, fun zs hq => by rw [I.tuple_inj hq qb]; exact gy⟩, ?_, fun c hc => ?_⟩
    · exact ⟨b1, sb.extBut _ _ D.TIz (kp _ _ D.TIz D.TITO D.TIi1 D.TIi2 hI), ⟨_, _, sb.extBut _ _ D.TOz a2⟩, a3.extBut sb.extBut D.i1z, a4.extBut sb.extBut D.i2z⟩
    · have lt : c < s.heap.objs.size := by
        simp only [List.mem_cons, List.not_mem_nil, or_false] at hc
        obtain ⟨o1, f1, _⟩ := j1
        obtain ⟨o2, f2, _⟩ := j2
        rcases hc with rfl | rfl | rfl | rfl | rfl
        · exact lz
        · exact Heap.lt_size hI
        · exact Heap.lt_size hO
        · exact Heap.lt_size f1
        · exact Heap.lt_size f2
      rw [upd_ne (Nat.ne_of_lt lt)]
      exact (hf c hc).1
  done := by
    intro X hP hw hK s hc i pins σ H E I hf Z hg
    subst hP hw hK
    obtain ⟨xs, ys, qa, qb, hx⟩ := hg
    obtain ⟨its, rv, p, _⟩ := I.tuple qa
    obtain ⟨jts, rw', p', _⟩ := I.tuple qb
    have D := Z.apart (show s.heap.IsTuple a its.toArray from p) (show s.heap.IsTuple b jts.toArray from p') t n na nb
    obtain ⟨hz, hI, ⟨e1, e2, hO⟩, j1, j2⟩ := Z
    have l1 := rv.length
    have l2 := rw'.length
    refine nextT_end hc.none D hz hI hO j1 j2 (show s.heap.IsTuple a its.toArray from p) (show s.heap.IsTuple b jts.toArray from p') (hx.imp (fun q => by simp; omega) fun q => by simp; omega) fun h' kp => ⟨rfl, I.turns (t' := s.toks) (W := [z, TI, TO, i1, i2]) hf fun c o hc e => ?_⟩
    simp only [List.mem_cons, List.not_mem_nil, or_false, not_or] at hc
    exact kp c o hc.1 hc.2.2.1 hc.2.2.2.1 hc.2.2.2.2 e
  self := fun _ _ _ _ _ st h => wpAny_pyIter_zip st.zip h
def iZipT (K : PySem.W.Frag) (ta : TA) : TI := fun σ H R => ta σ H fun vs H1 => ∃ a b xs ys, vs = [.ref a, .ref b] ∧ SqT K H1 a xs ∧ SqT K H1 b ys ∧ R (ItzT K a b) H1
theorem pi_zipT {X : Cx} {elts : List Expr} {x1} {tp : Pos} {a b : Expr} {ta : TA} {p pos : Pos} (hg : Gl X "zip") (hm : X.mg "zip" = none) (ha : PA X [a, b] ta) (hs : starEach [a, b] X.env = [(false, eval a X.env), (false, eval b X.env)] := by rfl) (hs2 : starEach [b] X.env = [(false, eval b X.env)] := by rfl) :
    PI X (.Tuple elts x1 tp) (.Call (.Name "zip" p) [a, b] [] pos) (iZipT X.K ta) := by
  intro pins s σ H R I h
  refine Call_ (ld_blt I hg hm boot_zip (PyProof.Rows.callWith_type1 (thn (ha pos pins s σ H _ I h) fun us s1 ⟨vs, H1, I1, r1, q1⟩ => ?_) (by rw [hs, hs2]) (by rw [hs2]; rfl)))
  obtain ⟨a, b, xs, ys, e, qa, qb, q⟩ := q1
  subst e
  cases r1 with
  | cons r rr =>
    cases rr with
    | cons r' rr =>
      cases rr
      cases r
      cases r'
      obtain ⟨its, rv, p, _⟩ := I1.tuple qa
      obtain ⟨jts, rw', p', _⟩ := I1.tuple qb
      have la : a < s1.heap.objs.size := by obtain ⟨o, e, _⟩ := p; exact Heap.lt_size e
      have lb : b < s1.heap.objs.size := by obtain ⟨o, e, _⟩ := p'; exact Heap.lt_size e
      refine callT_zip (show s1.heap.IsTuple a its.toArray from p) (show s1.heap.IsTuple b jts.toArray from p') fun h' z1 z2 z3 z4 z5 kp => wpAny_pyIter_zip z1 ?_
      refine ⟨_, [_, s1.heap.objs.size + 2, s1.heap.objs.size + 3, s1.heap.objs.size, s1.heap.objs.size + 1], _, _, H1, rfl, I1.kept (t' := s1.toks) kp, turn_zipT (by simp) (by simp) (Nat.ne_of_lt (Nat.lt_of_lt_of_le la (Nat.le_add_right _ _))) (Nat.ne_of_lt (Nat.lt_of_lt_of_le lb (Nat.le_add_right _ _))), ⟨z1, z2, ⟨_, _, z3⟩, z4, z5⟩, fun c hc => ?_, q⟩
      have le : s1.heap.objs.size ≤ c := by
        simp only [List.mem_cons, List.not_mem_nil, or_false] at hc
        rcases hc with rfl | rfl | rfl | rfl | rfl <;> omega
      exact I1.fpOk le (I1.hok.fresh le)
end L2
namespace L2
open PySem PySem.Spec PyProof.Rows
/-! ### rows by cells, and joined -/
/-! ### lists of rows compared -/
section
variable {X : Cx} {pins : List (Addr × Obj)} {σ : St} {H : Hp} {s : Shared}
end
/-! ### a slice of a tuple, perhaps the whole -/
end L2
namespace L2
open PySem PySem.Spec PyProof.Rows
/-! ### things that are no tuples -/
section
variable (K : PySem.W.Frag)
theorem k0_it : PySem.W.kitOne K (.type "int") (.type "tuple") = some false := by kernel_rfl
theorem k0_st : PySem.W.kitOne K (.type "str") (.type "tuple") = some false := by kernel_rfl
theorem k0_bt : PySem.W.kitOne K (.type "bool") (.type "tuple") = some false := by kernel_rfl
theorem k0_nt : PySem.W.kitOne K (.type "NoneType") (.type "tuple") = some false := by kernel_rfl
theorem k0_lt : PySem.W.kitOne K (.type "list") (.type "tuple") = some false := by kernel_rfl
theorem k0_dt : PySem.W.kitOne K (.type "dict") (.type "tuple") = some false := by kernel_rfl
theorem k0_tt : PySem.W.kitOne K (.type "tuple") (.type "tuple") = some true := by kernel_rfl
end
/-! ### a stretch, or what is none -/
/-! ### loops over two tuples at once, comprehensions over a tuple -/
theorem for_zipT {K : PySem.W.Frag} {a b : Addr} {xs ys : List V} {g : TG} {tb : TS} {D : Ends} {σ : St} {H : Hp} (Pv : Nat → St → Hp → Prop) (h0 : Pv 0 σ H) (hl : ∀ i σ H, Pv i σ H → SqT K H a xs ∧ SqT K H b ys)
    (hs : ∀ i x y t σ H, xs[i]? = some x → ys[i]? = some y → Pv i σ H → H t = none → g (.ref t) σ (upd H t (.tup [x, y])) fun σ2 H2 => tb { D with nx := Pv (i + 1), ct := Pv (i + 1), bk := D.nx } σ2 H2) (hd : ∀ i σ H, min xs.length ys.length ≤ i → Pv i σ H → D.nx σ H) :
    ∃ W : Nat → Nat → St → Hp → Prop, (∃ m, W 0 m σ H) ∧ ∀ i m σ H, W i m σ H →
      ((ItzT K a b).stop i H ∧ D.nx σ H) ∨ ((ItzT K a b).go i H ∧ ∃ N : St → Hp → Prop, (∀ σ' H', N σ' H' → ∃ m', m' < m ∧ W (i + 1) m' σ' H') ∧ ∀ x H', (ItzT K a b).yld i H x H' → g x σ H' fun σ2 H2 => tb { D with nx := N, ct := N, bk := D.nx } σ2 H2) := by
  refine ⟨fun i m σ H => m = xs.length - i ∧ Pv i σ H, ⟨xs.length, by simp, h0⟩, ?_⟩
  rintro i m σ H ⟨rfl, p⟩
  obtain ⟨q1, q2⟩ := hl i σ H p
  by_cases hlt : i < xs.length ∧ i < ys.length
  · refine .inr ⟨⟨xs, ys, xs[i]'hlt.1, ys[i]'hlt.2, q1, q2, by simp [hlt.1], by simp [hlt.2]⟩, Pv (i + 1), fun σ' H' p' => ⟨xs.length - (i + 1), by omega, rfl, p'⟩, fun x H' y => ?_⟩
    obtain ⟨t, u, v, rfl, ht, rfl, hx, hy⟩ := y
    exact hs i u v t σ H (hx xs q1) (hy ys q2) p ht
  · refine .inl ⟨⟨xs, ys, q1, q2, by omega⟩, hd i σ H (by omega) p⟩
end L2
namespace HT
open PySem PySem.Spec PyProof.Rows
section
variable {prog : Program} {w : World} {A : Around} {E : Value → Shared → Prop} {s : Shared}
end
end HT
namespace L2
open PySem PySem.Spec PyProof.Rows
section
variable {X : Cx}
end
end L2
namespace L2
open PySem PySem.Spec PyProof.Rows
/-! ### a dict of cells -/
/-! ### a row's cells rise -/
/-! ### the law's loop over a thing -/
end L2
namespace L2
open PySem PySem.Spec PyProof.Rows
/-! ### a tidied row is a tidy row -/
end L2
namespace L2
open PySem PySem.Spec PyProof.Rows
/-! ### a row laid over a row -/
/-! ### cells -/
/-! ### a dict of cells, in whatever order -/
end L2
namespace L2
open PySem PySem.Spec PyProof.Rows
/-! ### things of any kind, to any depth -/
inductive Tr : Type
  | int (n : Int) | str (s : Str) | bl (b : Bool) | non | dct | tup (l : List Tr) | lst (l : List Tr)
mutual
def At (H : Hp) : Tr → V → Prop
  | .int n, v => v = .int n
  | .str s, v => v = .str s
  | .bl b, v => v = .bl b
  | .non, v => v = .non
  | .dct, v => ∃ a kvs, v = .ref a ∧ H a = some (.dK kvs)
  | .tup l, v => ∃ a vs, v = .ref a ∧ H a = some (.tup vs) ∧ Ats H l vs
  | .lst l, v => ∃ a vs, v = .ref a ∧ H a = some (.lst vs) ∧ Ats H l vs
def Ats (H : Hp) : List Tr → List V → Prop
  | [], vs => vs = []
  | t :: ts, vs => ∃ v ws, vs = v :: ws ∧ At H t v ∧ Ats H ts ws
end
mutual
def dep : Tr → Nat
  | .tup l => deps l + 1
  | .lst l => deps l + 1
  | _ => 0
def deps : List Tr → Nat
  | [] => 0
  | t :: ts => max (dep t) (deps ts)
end
mutual
theorem At.mono {H H' : Hp} (s : Same H H') : ∀ {t : Tr} {v : V}, At H t v → At H' t v
  | .int n, v, h => by unfold At at *; exact h
  | .str n, v, h => by unfold At at *; exact h
  | .bl n, v, h => by unfold At at *; exact h
  | .non, v, h => by unfold At at *; exact h
  | .dct, v, h => by
    unfold At at *
    obtain ⟨a, kvs, e, h⟩ := h
    exact ⟨a, kvs, e, s _ _ h⟩
  | .tup l, v, h => by
    unfold At at *
    obtain ⟨a, vs, e, h, k⟩ := h
    exact ⟨a, vs, e, s _ _ h, Ats.mono s k⟩
  | .lst l, v, h => by
    unfold At at *
    obtain ⟨a, vs, e, h, k⟩ := h
    exact ⟨a, vs, e, s _ _ h, Ats.mono s k⟩
theorem Ats.mono {H H' : Hp} (s : Same H H') : ∀ {l : List Tr} {vs : List V}, Ats H l vs → Ats H' l vs
  | [], vs, h => by unfold Ats at *; exact h
  | t :: ts, vs, h => by
    unfold Ats at *
    obtain ⟨v, ws, e, h, k⟩ := h
    exact ⟨v, ws, e, At.mono s h, Ats.mono s k⟩
end
theorem Ats.len {H : Hp} : ∀ {l : List Tr} {vs : List V}, Ats H l vs → vs.length = l.length
  | [], vs, h => by
    unfold Ats at h
    rw [h]
    rfl
  | t :: ts, vs, h => by
    unfold Ats at h
    obtain ⟨v, ws, rfl, _, k⟩ := h
    rw [List.length_cons, List.length_cons, Ats.len k]
theorem Ats.get {H : Hp} : ∀ {l : List Tr} {vs : List V} {i : Nat} {v : V}, Ats H l vs → vs[i]? = some v → ∃ t, l[i]? = some t ∧ At H t v
  | [], vs, i, v, h, e => by
    unfold Ats at h
    subst h
    cases e
  | t :: ts, vs, i, v, h, e => by
    unfold Ats at h
    obtain ⟨w, ws, rfl, h, k⟩ := h
    cases i with
    | zero => cases e; exact ⟨t, rfl, h⟩
    | succ i =>
      obtain ⟨t', h1, h2⟩ := Ats.get k (show ws[i]? = some v from e)
      exact ⟨t', h1, h2⟩
theorem Ats.at {H : Hp} : ∀ {l : List Tr} {vs : List V} {i : Nat} {t : Tr}, Ats H l vs → l[i]? = some t → ∃ v, vs[i]? = some v ∧ At H t v
  | [], vs, i, t, h, e => by cases e
  | u :: ts, vs, i, t, h, e => by
    unfold Ats at h
    obtain ⟨w, ws, rfl, h, k⟩ := h
    cases i with
    | zero => cases e; exact ⟨w, rfl, h⟩
    | succ i =>
      obtain ⟨v', h1, h2⟩ := Ats.at k (show ts[i]? = some t from e)
      exact ⟨v', h1, h2⟩
theorem Ats.nil (H : Hp) : Ats H [] [] := by unfold Ats; rfl
theorem Ats.cons {H : Hp} {t : Tr} {ts : List Tr} {v : V} {vs : List V} (h : At H t v) (k : Ats H ts vs) : Ats H (t :: ts) (v :: vs) := by
  unfold Ats
  exact ⟨v, vs, rfl, h, k⟩
theorem Ats.app {H : Hp} {us : List Tr} {ws : List V} (k : Ats H us ws) : ∀ {l : List Tr} {vs : List V}, Ats H l vs → Ats H (l ++ us) (vs ++ ws)
  | [], vs, h => by
    unfold Ats at h
    subst h
    exact k
  | t :: ts, vs, h => by
    unfold Ats at h
    obtain ⟨v, vs, rfl, h, k2⟩ := h
    exact Ats.cons h (Ats.app k k2)
/-- what a thing is -/
theorem At.ty0 {H : Hp} {t : Tr} {v : V} (h : At H t v) : Ty0 H v := by
  cases t with
  | int n => unfold At at h; exact .inl ⟨n, h⟩
  | str n => unfold At at h; exact .inr (.inl ⟨n, h⟩)
  | bl n => unfold At at h; exact .inr (.inr (.inl ⟨n, h⟩))
  | non => unfold At at h; exact .inr (.inr (.inr (.inl h)))
  | dct =>
    unfold At at h
    obtain ⟨a, kvs, e, h⟩ := h
    exact .inr (.inr (.inr (.inr (.inr (.inr ⟨a, kvs, e, h⟩)))))
  | tup l =>
    unfold At at h
    obtain ⟨a, vs, e, h, _⟩ := h
    exact .inr (.inr (.inr (.inr (.inr (.inl ⟨a, vs, e, h⟩)))))
  | lst l =>
    unfold At at h
    obtain ⟨a, vs, e, h, _⟩ := h
    exact .inr (.inr (.inr (.inr (.inl ⟨a, vs, e, h⟩))))
def isTup : Tr → Bool
  | .tup _ => true
  | _ => false
theorem At.tup {H : Hp} {l : List Tr} {v : V} (h : At H (.tup l) v) : ∃ a vs, v = .ref a ∧ H a = some (.tup vs) ∧ Ats H l vs := by
  unfold At at h
  exact h
theorem At.lst {H : Hp} {l : List Tr} {v : V} (h : At H (.lst l) v) : ∃ a vs, v = .ref a ∧ H a = some (.lst vs) ∧ Ats H l vs := by
  unfold At at h
  exact h
theorem At.mkT {H : Hp} {l : List Tr} {a : Addr} {vs : List V} (h : H a = some (.tup vs)) (k : Ats H l vs) : At H (.tup l) (.ref a) := by
  unfold At
  exact ⟨a, vs, rfl, h, k⟩
theorem At.mkL {H : Hp} {l : List Tr} {a : Addr} {vs : List V} (h : H a = some (.lst vs)) (k : Ats H l vs) : At H (.lst l) (.ref a) := by
  unfold At
  exact ⟨a, vs, rfl, h, k⟩
theorem At.int {H : Hp} (n : Int) : At H (.int n) (.int n) := by unfold At; rfl
theorem At.str {H : Hp} (n : Str) : At H (.str n) (.str n) := by unfold At; rfl
theorem At.bl {H : Hp} (n : Bool) : At H (.bl n) (.bl n) := by unfold At; rfl
theorem At.non {H : Hp} : At H .non .non := by unfold At; rfl
def wthT (t : Tr) (l h : Int) : Bool := match t with
  | .int n => decide (l ≤ n) && decide (n ≤ h)
  | _ => false
theorem At.wth {H : Hp} {t : Tr} {v : V} (h : At H t v) (l k : Int) : wth0 v l k = wthT t l k := by
  cases t with
  | int n => unfold At at h; subst h; rfl
  | str n => unfold At at h; subst h; rfl
  | bl n => unfold At at h; subst h; rfl
  | non => unfold At at h; subst h; rfl
  | dct =>
    unfold At at h
    obtain ⟨a, kvs, rfl, h⟩ := h
    rfl
  | tup l =>
    obtain ⟨a, vs, rfl, _⟩ := h.tup
    rfl
  | lst l =>
    obtain ⟨a, vs, rfl, _⟩ := h.lst
    rfl
/-! ### stretches out of trees -/
end L2
namespace L2
open PySem PySem.Spec PyProof.Rows
/-! ### words among the trees; what kind a tree is of -/
def sigS : Str := Str.ofString "abcdefghijklmnopqrstuvwxyz0123456789"
def okc (c : Nat) : Bool := (decide (97 ≤ c) && decide (c ≤ 122)) || (decide (48 ≤ c) && decide (c ≤ 57))
def isw (x : Str) : Bool := decide (1 ≤ x.length) && decide (x.length ≤ 8) && x.cps.toList.all okc
theorem sig_codes : sigS.cps.toList = [97, 98, 99, 100, 101, 102, 103, 104, 105, 106, 107, 108, 109, 110, 111, 112, 113, 114, 115, 116, 117, 118, 119, 120, 121, 122, 48, 49, 50, 51, 52, 53, 54, 55, 56, 57] := by decide +kernel
theorem in_sig (c : Nat) : (!(Builtin.Str.occurrences sigS ⟨#[c]⟩ 0 sigS.length 1).isEmpty) = okc c := by
  rw [StrLaws.found_one, sig_codes]
  unfold okc
  rw [← Bool.decide_and, ← Bool.decide_and, ← Bool.decide_or]
  refine decide_eq_decide.mpr ?_
  simp only [List.mem_cons, List.not_mem_nil, or_false]
  omega
theorem isw_len {x : Str} (h : ¬ (1 ≤ x.length ∧ x.length ≤ 8)) : isw x = false := by
  unfold isw
  rw [← Bool.decide_and, decide_eq_false h, Bool.false_and]
theorem isw_all {x : Str} (h : 1 ≤ x.length ∧ x.length ≤ 8) : isw x = x.cps.toList.all okc := by
  unfold isw
  rw [← Bool.decide_and, decide_eq_true h, Bool.true_and]
def wordT : Tr → Bool
  | .str z => isw z
  | _ => false
def isStrT : Tr → Bool
  | .str _ => true
  | _ => false
def isLstT : Tr → Bool
  | .lst _ => true
  | _ => false
section
variable (K : PySem.W.Frag)
theorem kt_is : PySem.W.kitOne K (.type "int") (.type "str") = some false := by kernel_rfl
theorem kt_ss : PySem.W.kitOne K (.type "str") (.type "str") = some true := by kernel_rfl
theorem kt_bs : PySem.W.kitOne K (.type "bool") (.type "str") = some false := by kernel_rfl
theorem kt_ns : PySem.W.kitOne K (.type "NoneType") (.type "str") = some false := by kernel_rfl
theorem kt_ls : PySem.W.kitOne K (.type "list") (.type "str") = some false := by kernel_rfl
theorem kt_ts : PySem.W.kitOne K (.type "tuple") (.type "str") = some false := by kernel_rfl
theorem kt_ds : PySem.W.kitOne K (.type "dict") (.type "str") = some false := by kernel_rfl
theorem kt_il : PySem.W.kitOne K (.type "int") (.type "list") = some false := by kernel_rfl
theorem kt_sl : PySem.W.kitOne K (.type "str") (.type "list") = some false := by kernel_rfl
theorem kt_bl : PySem.W.kitOne K (.type "bool") (.type "list") = some false := by kernel_rfl
theorem kt_nl : PySem.W.kitOne K (.type "NoneType") (.type "list") = some false := by kernel_rfl
theorem kt_ll : PySem.W.kitOne K (.type "list") (.type "list") = some true := by kernel_rfl
theorem kt_tl : PySem.W.kitOne K (.type "tuple") (.type "list") = some false := by kernel_rfl
theorem kt_dl : PySem.W.kitOne K (.type "dict") (.type "list") = some false := by kernel_rfl
end
theorem At.ty {K : PySem.W.Frag} {H : Hp} {t : Tr} {v : V} (h : At H t v) : ∃ ty, TyOf K H v ty ∧ PySem.W.kitOne K ty (.type "tuple") = some (isTup t) ∧ PySem.W.kitOne K ty (.type "str") = some (isStrT t) ∧ PySem.W.kitOne K ty (.type "list") = some (isLstT t) := by
  cases t with
  | int n => unfold At at h; subst h; exact ⟨_, .int n, k0_it K, kt_is K, kt_il K⟩
  | str n => unfold At at h; subst h; exact ⟨_, .str n, k0_st K, kt_ss K, kt_sl K⟩
  | bl n => unfold At at h; subst h; exact ⟨_, .bl n, k0_bt K, kt_bs K, kt_bl K⟩
  | non => unfold At at h; subst h; exact ⟨_, .non, k0_nt K, kt_ns K, kt_nl K⟩
  | dct =>
    unfold At at h
    obtain ⟨a, kvs, rfl, e⟩ := h
    exact ⟨_, .dK e, k0_dt K, kt_ds K, kt_dl K⟩
  | tup l =>
    obtain ⟨a, vs, rfl, e, _⟩ := h.tup
    exact ⟨_, .tup e, k0_tt K, kt_ts K, kt_tl K⟩
  | lst l =>
    obtain ⟨a, vs, rfl, e, _⟩ := h.lst
    exact ⟨_, .lst e, k0_lt K, kt_ls K, kt_ll K⟩
/-- things that can be told apart from a text by what they are -/
def flatT : Tr → Bool
  | .int _ => true
  | .str _ => true
  | .bl _ => true
  | .non => true
  | _ => false
def vT : Tr → V
  | .int n => .int n
  | .str s => .str s
  | .bl b => .bl b
  | _ => .non
theorem At.flat {H : Hp} {t : Tr} {v : V} (h : At H t v) (hf : flatT t = true) : v = vT t := by
  cases t with
  | int n => unfold At at h; exact h
  | str n => unfold At at h; exact h
  | bl n => unfold At at h; exact h
  | non => unfold At at h; exact h
  | dct => cases hf
  | tup l => cases hf
  | lst l => cases hf
end L2
/-! ### trees compared with texts, is True, numbers or texts rising -/
namespace L2
open PySem PySem.Spec PyProof.Rows
section
variable {X : Cx}
end
end L2
/-! ### parts of a display or of a call: no star -/
namespace L2
open PySem PySem.Spec PyProof.Rows
def noStar : Expr → Bool
  | .Starred .. => false
  | _ => true
theorem star_cons {e : Expr} (h : noStar e = true) (es : List Expr) (env : Env) : starEach (e :: es) env = (false, eval e env) :: starEach es env := by
  cases e with
  | Starred => cases h
  | _ => rfl
section
variable {X : Cx} {e : Expr} {es : List Expr} {te : TE} {t : TA}
theorem pc (ha : PE X e te) (hr : PA X es t) (hs : noStar e = true := by rfl) : PA X (e :: es) (tCons te t) := pa_cons ha hr (star_cons hs es X.env)
end
end L2
namespace L2
open PySem PySem.Spec PyProof.Rows
end L2
namespace L2
open PySem PySem.Spec PyProof.Rows
/-! ### trees of tuples only; lists frozen -/
mutual
def nl : Tr → Bool
  | .lst _ => false
  | .dct => false
  | .tup l => nls l
  | _ => true
def nls : List Tr → Bool
  | [] => true
  | t :: ts => nl t && nls ts
end
mutual
theorem At.keepT {H H' : Hp} (k : ∀ q u, H q = some (.tup u) → H' q = some (.tup u)) : ∀ {t : Tr} {v : V}, nl t = true → At H t v → At H' t v
  | .int n, v, _, h => by unfold At at *; exact h
  | .str n, v, _, h => by unfold At at *; exact h
  | .bl n, v, _, h => by unfold At at *; exact h
  | .non, v, _, h => by unfold At at *; exact h
  | .dct, v, n, h => by unfold nl at n; cases n
  | .lst l, v, n, h => by unfold nl at n; cases n
  | .tup l, v, n, h => by
    unfold nl at n
    unfold At at *
    obtain ⟨a, vs, e, h, z⟩ := h
    exact ⟨a, vs, e, k _ _ h, Ats.keepT k n z⟩
theorem Ats.keepT {H H' : Hp} (k : ∀ q u, H q = some (.tup u) → H' q = some (.tup u)) : ∀ {l : List Tr} {vs : List V}, nls l = true → Ats H l vs → Ats H' l vs
  | [], vs, _, h => by unfold Ats at *; exact h
  | t :: ts, vs, n, h => by
    unfold nls at n
    rw [Bool.and_eq_true] at n
    unfold Ats at *
    obtain ⟨v, ws, e, h, z⟩ := h
    exact ⟨v, ws, e, At.keepT k n.1 h, Ats.keepT k n.2 z⟩
end
theorem nls_of : ∀ {l : List Tr}, (∀ t ∈ l, nl t = true) → nls l = true
  | [], _ => rfl
  | t :: ts, h => by
    unfold nls
    rw [h t (List.mem_cons_self ..), nls_of fun u hu => h u (List.mem_cons_of_mem _ hu)]
    rfl
end L2
namespace L2
open PySem PySem.Spec PyProof.Rows
/-! ### C.m(e, ..): a def read off its own class -/
structure CMeth (K : PySem.W.Frag) (C : Addr) (m : Str) (f : Addr) : Prop where
  ga : PySem.W.specialIn K (.ref C) "__getattribute__" = some (some (.builtin "type.__getattribute__"))
  rd : PySem.W.readsIn K C (.type "type") = true
  fc : PySem.W.findCls K (.ref C) (.type "type") m = some (.val (.ref f))
  kp : PySem.W.keepIn K (.ref f) = true
def tCMeth (C : Addr) (sp : Sp) (dvs : List V) (E : XK) (ta : TE) (t : TA) : TE := fun σ H Q => ta σ H fun x H1 => x = .ref C ∧ t σ H1 fun vs H2 => sp (vs ++ dvs) H2 Q E
section
variable {X : Cx} {CX : CXT} {k : Nat} {f C : Addr} {fd : FuncData} {ps : List Str} {sp : Sp} {dvs : List V} {ds : List Value} {E : XK} {x m : Str} {p pos apos : Pos} {e o : Expr} {es : List Expr} {ta : TE} {t : TA}
theorem pe_cmeth {pl : Sem Bool} (he : PE X o ta) (hm : CMeth X.K C m f) {cc : Bool} (F : FnOk X.prog X.w X.K X.mg X.base CX k f fd ps sp cc) (hr : Room k X.A cc) (hb : Binds X.K fd ps ds) (hd : Vals dvs ds) (hx : Passes CX X E) (ha : PA X (e :: es) t)
    (hst : starEach (e :: es) X.env = (false, eval e X.env) :: starEach es X.env := by rfl) (hpl : (backTo pos (starEach es X.env)).any (·.1) = false := by rfl)
    (ht : eval (.Call (.Attribute o m apos) (e :: es) [] pos) X.env = (do
      let ov ← eval o X.env
      standAt apos.atName
      let (f, first) ← holding [ov] (getMethod ov m pl)
      callWith pos f first (backTo pos (starEach (e :: es) X.env)) (backToKw pos (keywordEach [] X.env))) := by rfl) :
    PE X (.Call (.Attribute o m apos) (e :: es) [] pos) (tCMeth C sp dvs E ta t) := by
  intro pins s σ H Q I h
  refine PySem.W.methodCall_KW (pl := pl) (thn (he pins s σ H _ I h) fun u s1 ⟨x, H1, I1, rx, ex, q⟩ => ?_) ht
  subst ex
  obtain rfl : u = Value.ref C := rx
  refine PySem.W.method_cls I1.kIn hm.ga (PySem.W.cls_value I1.kIn hm.rd hm.fc rfl ?_)
  have I1' : Inv X pins σ H1 { s1 with toks := s1.toks + 1 } := I1.tok _
  refine PySem.W.callWith_K (first := []) (h₀ := X.base) I.ok.mod.kin hm.kp (thn (ha pos pins _ σ H1 _ I1' q) fun us s2 ⟨vs, H2, I2, r, q2⟩ => ⟨I2.kIn, ?_⟩) hst hpl
  exact run_fn (us := us) (vs := vs) F hr hb hd hx I2 r q2
end
/-! ### a dict != another one that is the same -/
section
variable {X : Cx}
end
end L2
/-! ### sorted(tuples whose first parts are unlike texts): what it does depends on these texts alone -/
namespace L2
open PySem PySem.Spec PyProof.Rows PySem.W
/-- the tree of asks, answered -/
def kev {α : Type} (lt : Nat → Nat → Bool) : KasT α → α
  | .ret a => a
  | .ask i j k => kev lt (k (lt i j))
/-- all that is asked is asked of two unlike places of n -/
def KOk {α : Type} (n : Nat) (P : α → Prop) : KasT α → Prop
  | .ret a => P a
  | .ask i j k => i < n ∧ j < n ∧ i ≠ j ∧ ∀ b, KOk n P (k b)
theorem KOk.bind {α β : Type} {n : Nat} {P : α → Prop} {P' : β → Prop} {f : α → KasT β} (hf : ∀ a, P a → KOk n P' (f a)) : ∀ {t : KasT α}, KOk n P t → KOk n P' (t.bind f)
  | .ret a, h => hf a h
  | .ask i j k, h => ⟨h.1, h.2.1, h.2.2.1, fun b => KOk.bind hf (h.2.2.2 b)⟩
theorem KOk.ev {α : Type} {n : Nat} {P : α → Prop} (lt : Nat → Nat → Bool) : ∀ (t : KasT α), KOk n P t → P (kev lt t)
  | .ret a, h => h
  | .ask i j k, h => KOk.ev lt (k (lt i j)) (h.2.2.2 (lt i j))
theorem kev_wp {α : Type} {n : Nat} {P : α → Prop} {lt : Nat → Nat → Bool} {cmp : Nat → Nat → (Bool → Shared → Prop) → Shared → Prop} {s : Shared} (hc : ∀ i j, i < n → j < n → i ≠ j → ∀ C : Bool → Shared → Prop, C (lt i j) s → cmp i j C s) {Q : α → Shared → Prop} : ∀ {t : KasT α}, KOk n P t → Q (kev lt t) s → t.kasWp cmp Q s
  | .ret a, _, q => q
  | .ask i j k, h, q => hc i j h.1 h.2.1 h.2.2.1 _ (kev_wp hc (h.2.2.2 (lt i j)) q)
def PermN (n : Nat) (p : Array Nat) : Prop := p.toList.Perm (List.range n)
theorem PermN.size {n : Nat} {p : Array Nat} (h : PermN n p) : p.size = n := by
  have := h.length_eq
  simpa using this
theorem PermN.two {n : Nat} {p : Array Nat} (h : PermN n p) {a b : Nat} (ha : a < n) (hb : b < n) (hab : a ≠ b) : p.getD a 0 < n ∧ p.getD b 0 < n ∧ p.getD a 0 ≠ p.getD b 0 := by
  have sz := h.size
  have e : ∀ c (hc : c < n), p.getD c 0 = p.toList[c]'(by simp; omega) := fun c hc => by
    simp [Array.getD, show c < p.size by omega]
  have nd : p.toList.Nodup := h.nodup_iff.mpr List.nodup_range
  have m : ∀ c (hc : c < n), p.toList[c]'(by simp; omega) < n := fun c hc => List.mem_range.mp (h.mem_iff.mp (List.getElem_mem _))
  rw [e a ha, e b hb]
  refine ⟨m a ha, m b hb, fun z => hab ?_⟩
  exact (List.getElem_inj nd).mp z
theorem PermN.of {n : Nat} {p q : Array Nat} (h : PermN n p) (hq : q.Perm p) : PermN n q := (Array.perm_iff_toList_perm.mp hq).trans h
theorem ok_asc {n : Nat} {p : Array Nat} (hp : PermN n p) : ∀ (f m : Nat), 1 ≤ m → m + f ≤ n → KOk n (fun r => m ≤ r ∧ r ≤ m + f) (kas_asc p f m)
  | 0, m, _, _ => ⟨Nat.le_refl _, Nat.le_refl _⟩
  | f + 1, m, h1, h2 => by
    obtain ⟨a, b, c⟩ := hp.two (a := m) (b := m - 1) (by omega) (by omega) (by omega)
    refine ⟨a, b, c, fun d => ?_⟩
    cases d with
    | true => exact ⟨Nat.le_refl _, by omega⟩
    | false =>
      show KOk n _ (kas_asc p f (m + 1))
      have k := ok_asc hp f (m + 1) (by omega) (by omega)
      have := KOk.bind (f := fun r => KasT.ret r) (P' := fun r => m ≤ r ∧ r ≤ m + (f + 1)) (fun r hr => (⟨by omega, by omega⟩ : m ≤ r ∧ r ≤ m + (f + 1))) k
      have e : ∀ t : KasT Nat, t.bind (fun r => KasT.ret r) = t := fun t => by
        induction t with
        | ret a => rfl
        | ask i j k ih =>
          show KasT.ask i j (fun b => (k b).bind fun r => .ret r) = _
          congr 1
          funext b
          exact ih b
      rw [e] at this
      exact this
theorem ok_desc {n : Nat} : ∀ (f : Nat) (p : Array Nat) (m q : Nat), PermN n p → 1 ≤ m → m + f ≤ n → KOk n (fun r => PermN n r.1 ∧ 1 ≤ r.2.1 ∧ r.2.1 ≤ n) (kas_desc f p m q)
  | 0, p, m, q, hp, h1, h2 => ⟨hp, h1, h2⟩
  | f + 1, p, m, q, hp, h1, h2 => by
    obtain ⟨a, b, c⟩ := hp.two (a := m) (b := m - 1) (by omega) (by omega) (by omega)
    refine ⟨a, b, c, fun d => ?_⟩
    cases d with
    | true =>
      show KOk n _ (if q > 0 then kas_desc f (kas_rev p (m - (q + 1)) m) (m + 1) 0 else kas_desc f p (m + 1) 0)
      split
      · exact ok_desc f _ (m + 1) 0 (hp.of (mirror_perm _ _ _ _)) (by omega) (by omega)
      · exact ok_desc f p (m + 1) 0 hp (by omega) (by omega)
    | false =>
      refine ⟨b, a, c.symm, fun d => ?_⟩
      cases d with
      | true => exact ⟨hp, h1, (by omega : m ≤ n)⟩
      | false => exact ok_desc f p (m + 1) (q + 1) hp (by omega) (by omega)
theorem ok_tail3 {n m : Nat} {p : Array Nat} (hp : PermN n p) (h1 : 1 ≤ m) (h2 : m ≤ n) : KOk n (fun r => PermN n r.2 ∧ r.1 ≤ n) (kas_tail3 m n p) :=
by
  unfold kas_tail3
  refine KOk.bind (P := fun r => m ≤ r ∧ r ≤ m + (n - m)) (fun r hr => ?_) (ok_asc (hp.of (mirror_perm _ _ _ _)) (n - m) m h1 (by omega))
  exact ⟨hp.of (mirror_perm _ _ _ _), (by omega : r ≤ n)⟩
theorem ok_descPart {n m : Nat} {p : Array Nat} (hp : PermN n p) (h1 : 1 ≤ m) (h2 : m + 1 ≤ n) : KOk n (fun r => PermN n r.2 ∧ r.1 ≤ n) (kas_descPart m n p) := by
  refine KOk.bind (fun r hr => ?_) (ok_desc (n - (m + 1)) p (m + 1) 0 hp (by omega) (by omega))
  obtain ⟨a, b, c⟩ := hr
  split
  · exact ok_tail3 (a.of (mirror_perm _ _ _ _)) b c
  · exact ok_tail3 a b c
theorem ok_count {n : Nat} {p : Array Nat} (hp : PermN n p) (h1 : 1 ≤ n) : KOk n (fun r => PermN n r.2 ∧ r.1 ≤ n) (kas_count n p) := by
  refine KOk.bind (fun m hm => ?_) (ok_asc hp (n - 1) 1 (Nat.le_refl _) (by omega))
  split
  · exact ⟨hp, by omega⟩
  · next hne =>
    have hne' : m ≠ n := fun z => hne (by simpa using z)
    split
    · obtain ⟨a, b, c⟩ := hp.two (a := 0) (b := m - 1) (by omega) (by omega) (by omega)
      refine ⟨a, b, c, fun d => ?_⟩
      cases d with
      | true => exact ⟨hp, by omega⟩
      | false => exact ok_descPart (hp.of (mirror_perm _ _ _ _)) (by omega) (by omega)
    · exact ok_descPart hp (by omega) (by omega)
theorem ok_place {n k : Nat} {p : Array Nat} (hp : PermN n p) (hk : k < n) : ∀ (f l r : Nat), r ≤ k → l ≤ r → KOk n (fun _ => True) (kas_place p k f l r)
  | 0, l, r, _, _ => trivial
  | f + 1, l, r, h1, h2 => by
    unfold kas_place
    split
    · trivial
    · next hlr =>
      obtain ⟨a, b, c⟩ := hp.two (a := k) (b := (l + r) / 2) hk (by omega) (by omega)
      refine ⟨a, b, c, fun d => ?_⟩
      cases d with
      | true => exact ok_place hp hk f l _ (by omega) (by omega)
      | false => exact ok_place hp hk f _ r h1 (by omega)
theorem ok_bin {n : Nat} : ∀ (f : Nat) (p : Array Nat) (k : Nat), PermN n p → k + f ≤ n → KOk n (PermN n) (kas_bin f p k)
  | 0, p, k, hp, _ => hp
  | f + 1, p, k, hp, h => KOk.bind (fun l _ => ok_bin f _ (k + 1) (hp.of (bubble_perm _ _ _)) (by omega)) (ok_place hp (by omega) k 0 k (Nat.le_refl _) (Nat.zero_le _))
theorem ok_sort {n : Nat} (h1 : 1 ≤ n) : KOk n (PermN n) (kas_sort n) := by
  refine KOk.bind (fun r hr => ?_) (ok_count (p := List.toArray (List.range n)) (by unfold PermN; simp) h1)
  obtain ⟨a, b⟩ := hr
  split
  · exact ok_bin _ _ _ a (by omega)
  · exact a
/-- the order in which unlike texts are told -/
def ltS (ss : List Str) (i j : Nat) : Bool := decide ((ss.getD i Str.empty).cps.toList < (ss.getD j Str.empty).cps.toList)
def ordS (ss : List Str) : List Nat := if ss.length < 2 then List.range ss.length else (kev (ltS ss) (kas_sort ss.length)).toList
theorem ordS_perm (ss : List Str) : (ordS ss).Perm (List.range ss.length) := by
  unfold ordS
  split
  · exact List.Perm.refl _
  · exact KOk.ev (ltS ss) _ (ok_sort (n := ss.length) (by omega))
end L2
namespace L2
open PySem PySem.Spec PyProof.Rows PySem.W
theorem range_getD (vs : List Value) : ((List.range vs.length).map fun i => vs.getD i Value.none) = vs := by
  apply List.ext_getElem?
  intro i
  by_cases hi : i < vs.length
  · rw [List.getElem?_map]
    simp [hi]
  · rw [List.getElem?_eq_none (by simpa using hi), List.getElem?_eq_none (by omega)]
section
variable {prog : Program} {w : World} {A : Around} {E : Value → Shared → Prop} {s : Shared}
theorem collect_tupl {l : Addr} {vs : List Value} {Q : List Value → Shared → Prop} (hl : s.heap.IsTuple l vs.toArray)
    (h : Q vs { s with heap := (s.heap.push (seqObj "list" #[] 0)).update s.heap.objs.size (Obj.mapSeq (· ++ vs.toArray)) }) (hsz : vs.length ≤ sizeLine := by size_fits) :
    wpAny (model prog w) A (collect (.ref l)) Q E s := by
  obtain ⟨ob, hob, cob, m, dob⟩ := id hl
  have hob2 := Heap.get?_push_of_some (seqObj "list" #[] 0) hob
  have en : (s.heap.push (seqObj "list" #[] 0)).get? s.heap.objs.size = some (seqObj "list" #[] 0) := Heap.get?_push_size _ rfl
  have el : ((#[] : Array Value) ++ vs.toArray).toList = vs := by simp
  unfold collect
  refine wpAny_bind (wpAny_runValue (codeAny_builtin entry_proto_collect' (wpAny_bind (wpAny_newList (wpAny_pure ⟨Code.quiet_builtin _ (by decide +kernel), codeAny_builtin entry_list_iadd' ?go⟩)))))
  case go =>
    show wpAny _ _ (Builtin.List.listExtendWith (.ref s.heap.objs.size) (.ref l) (.ref s.heap.objs.size)) _ _ { s with heap := s.heap.push (seqObj "list" #[] 0) }
    unfold Builtin.List.listExtendWith
    refine wpAny_bind (wpAny_typeOf (T := "tuple") ⟨ob, hob2, cob⟩ ?_)
    have tt : (Value.type "tuple" == Value.type "tuple") = true := rfl
    rw [if_pos (by rw [tt, Bool.or_true])]
    refine wpAny_bind (listItems_at hob2 dob (wpAny_bind (listItems_at en rfl ?_)))
    rw [if_neg (by simp)]
    refine wpAny_bind (listUpdate_at en rfl (wpAny_pure ?_) (Nat.zero_le _) (by simp only [Array.size_append, List.size_toArray, List.length_nil, Array.size_empty]; omega))
    refine wpAny_bind (wpAny_load (get?_update_seq en _) ?_)
    show wpAny _ _ (pure ((#[] : Array Value) ++ vs.toArray).toList) Q E _
    rw [el]
    exact wpAny_pure h
theorem list_sort_tupsP {a : Addr} {vs fs : List Value} {ss : List Str} {n : Nat} {P : PySem.Fin → Shared → Prop} (ho : s.heap.get? a = some (seqObj "list" vs.toArray n)) (t : KatTups s.heap vs fs) (hS : StrsAre fs ss)
    (ne : ∀ (i j : Nat) x y, ss[i]? = some x → ss[j]? = some y → i ≠ j → x ≠ y) (h64 : vs.length < 64)
    (h : P (.done (.ret .none)) { s with heap := sortedHeap s.heap a vs ((ordS ss).map fun i => vs.getD i Value.none).toArray }) :
    wpAny (model prog w) A (Builtin.«list.sort» ⟨[.ref a], []⟩) P E s := by
  rw [list_sort_plain]
  have ha : a < s.heap.objs.size := Heap.lt_size ho
  have lss' : vs.length = ss.length := by rw [← strs_len hS, KatTups_len t]
  refine wpAny_bind (listItems_at ho rfl ?_)
  refine wpAny_bind (listUpdate_at ho rfl ?_ (by rw [List.size_toArray, sizeLine_eq]; omega) (Nat.zero_le _))
  obtain ⟨e1, ho1⟩ : ∃ e1, (s.heap.update a (Obj.mapSeq fun _ => #[])).get? a = some (seqObj "list" #[] e1) := ⟨_, get?_update_seq ho (fun _ => #[])⟩
  refine wpAny_bind (seqEpoch_at ho1 rfl ?_)
  refine wpAny_bind (wpAny_newTuple ?_ (by show vs.length ≤ _; rw [sizeLine_eq]; omega))
  refine wpAny_bind (wpAny_newList ?_ (Nat.zero_le _))
  refine wpAny_holding ?_
  have ho6 : (((s.heap.update a (Obj.mapSeq fun _ => #[])).push (seqObj "tuple" vs.toArray 0)).push (seqObj "list" #[] 0)).get? a = some (seqObj "list" #[] e1) := by
    rw [Heap.get?_push_ne _ _ _ (by rw [size_push', Heap.size_update]; exact Nat.ne_of_lt (Nat.lt_succ_of_lt ha)), Heap.get?_push_ne _ _ _ (by rw [Heap.size_update]; exact Nat.ne_of_lt ha)]
    exact ho1
  have t6 : KatTups (((s.heap.update a (Obj.mapSeq fun _ => #[])).push (seqObj "tuple" vs.toArray 0)).push (seqObj "list" #[] 0)) vs fs := KatTups_keep (fun b o e hc => by
    have nb : b ≠ a := fun z => by
      subst z
      rw [ho] at e
      cases e
      exact absurd hc (by show ¬ Value.type "list" = Value.type "tuple"; decide)
    exact Heap.get?_push_of_some _ (Heap.get?_push_of_some _ ((Heap.get?_update_other _ _ (Ne.symm nb)).trans e))) t
  show wpAny (model prog w) A _ P E { s with heap := ((s.heap.update a (Obj.mapSeq fun _ => #[])).push (seqObj "tuple" vs.toArray 0)).push (seqObj "list" #[] 0) }
  dsimp only
  by_cases h2 : vs.toArray.size < 2
  · rw [if_pos h2, if_pos h2]
    refine wpAny_bind (wpAny_pure ?_)
    rw [StateT.run_pure]
    refine wpAny_bind (wpAny_pure ?_)
    dsimp only
    refine wpAny_bind (seqEpoch_at ho6 rfl ?_)
    have es : (arrOf (SortSt.mk' general' (vs.toArray.zip vs.toArray) #[] 7 none)).map (·.2) = vs.toArray := by
      show (vs.toArray.zip vs.toArray).map (·.2) = vs.toArray
      apply Array.toList_inj.mp
      simp [List.map_snd_zip]
    rw [es]
    refine wpAny_bind (listUpdate_at ho6 rfl ?_ (Nat.zero_le _) (by rw [List.size_toArray, sizeLine_eq]; omega))
    simp only [bne_self_eq_false, Bool.false_eq_true, if_false]
    have eo : ((ordS ss).map fun i => vs.getD i Value.none) = vs := by
      unfold ordS
      rw [List.size_toArray] at h2
      rw [← lss', if_pos h2]
      exact range_getD vs
    rw [eo] at h
    exact wpAny_pure h
  · rw [if_neg h2, if_neg h2]
    have h2' : 2 ≤ vs.length := by rw [List.size_toArray] at h2; omega
    have lf := KatTups_len t
    refine wpAny_bind (kat_kind (T := .type "str") t6 (by omega) (fun v hv => ?_) rfl ?_)
    · obtain ⟨x, tk, rfl⟩ := hS.all v hv
      exact .now
    refine wpAny_bind (wpAny_mono (kat_run (ks := vs) (vs := vs) (Q := fun st' s' => arrOf st' = (kev (ltS ss) (kas_sort vs.length)).map (kas_item (vs.toArray.zip vs.toArray)) ∧ failedOf st' = none ∧ s' = { s with heap := ((s.heap.update a (Obj.mapSeq fun _ => #[])).push (seqObj "tuple" vs.toArray 0)).push (seqObj "list" #[] 0) }) (G := fun p s' => p = kev (ltS ss) (kas_sort vs.length) ∧ s' = { s with heap := ((s.heap.update a (Obj.mapSeq fun _ => #[])).push (seqObj "tuple" vs.toArray 0)).push (seqObj "list" #[] 0) })
      rfl h2' h64 (fun p' st' s' a1 a2 a3 a4 => ⟨by rw [a2, a4.1], a3, a4.2⟩) (kev_wp (lt := ltS ss) (fun j i jn in' nij C c => ?_) (ok_sort (by omega)) ⟨rfl, rfl⟩)) ?_ fun _ _ e => e)
    · obtain ⟨x, hx⟩ : ∃ x, ss[i]? = some x := ⟨_, List.getElem?_eq_getElem (by omega)⟩
      obtain ⟨y, hy⟩ : ∃ y, ss[j]? = some y := ⟨_, List.getElem?_eq_getElem (by omega)⟩
      have nxy : y ≠ x := ne j i y x hy hx nij
      obtain ⟨b, o, xs, k, tk, e1', o1, d1, f1⟩ := KatTups_at hS t6 hy
      obtain ⟨b', o', xs', k', tk', e2', o2, d2, f2⟩ := KatTups_at hS t6 hx
      unfold kas_ask
      rw [e1', e2']
      refine kat_lt o1 d1 o2 d2 ?_
      obtain ⟨r1, er1⟩ : ∃ r1, xs.toList = .str y tk :: r1 := by
        have : xs.toList[0]? = some (.str y tk) := by simpa using f1
        cases hh : xs.toList with
        | nil => rw [hh] at this; cases this
        | cons p r => rw [hh] at this; cases this; exact ⟨r, rfl⟩
      obtain ⟨r2, er2⟩ : ∃ r2, xs'.toList = .str x tk' :: r2 := by
        have : xs'.toList[0]? = some (.str x tk') := by simpa using f2
        cases hh : xs'.toList with
        | nil => rw [hh] at this; cases this
        | cons p r => rw [hh] at this; cases this; exact ⟨r, rfl⟩
      rw [er1, er2, List.zip_cons_cons]
      refine kat_cons (wpAny_eqBool_str ?_)
      rw [decide_eq_false nxy]
      refine kat_no ?_
      show wpAny _ _ (oneLt' true (.str y tk) (.str x tk')) _ _ _
      refine oneLt_str ?_
      have el : ltS ss j i = decide (y.cps.toList < x.cps.toList) := by
        unfold ltS
        rw [List.getD_eq_getElem?_getD, List.getD_eq_getElem?_getD, hx, hy]
        rfl
      rw [el] at c
      exact c
    · rintro ⟨⟨⟩, st'⟩ s' ⟨har, hf, rfl⟩
      dsimp only
      have hout := kat_snds (ks := vs) (vs := vs) rfl har
      have ev : ordS ss = (kev (ltS ss) (kas_sort vs.length)).toList := by
        unfold ordS
        rw [← lss', if_neg (by omega)]
      rw [← ev] at hout
      rw [hout]
      refine wpAny_bind (seqEpoch_at ho6 rfl ?_)
      refine wpAny_bind (listUpdate_at ho6 rfl ?_ (Nat.zero_le _) (by rw [List.size_toArray, List.length_map, (ordS_perm ss).length_eq, List.length_range, sizeLine_eq]; omega))
      rw [hf]
      simp only [bne_self_eq_false, Bool.false_eq_true, if_false]
      exact wpAny_pure h
theorem sorted_tupsP {l : Addr} {vs fs : List Value} {ss : List Str} {Q : Value → Shared → Prop} (hl : s.heap.IsList l vs.toArray) (t : KatTups s.heap vs fs) (hS : StrsAre fs ss)
    (ne : ∀ (i j : Nat) x y, ss[i]? = some x → ss[j]? = some y → i ≠ j → x ≠ y) (h64 : vs.length < 64)
    (h : Q (.ref (s.heap.objs.size + 1)) { s with heap := sortedAll s.heap vs ((ordS ss).map fun i => vs.getD i Value.none).toArray }) :
    wpAny (model prog w) A (call (.builtin "sorted") [.ref l]) Q E s := by
  refine Calls.call_function_entry kind_sorted plain_sorted entry_sorted (args_sorted1 _) ?_
  unfold Builtin.«sorted»
  refine wpAny_bind (m := checkCount "sorted" 1 1 _) (wpAny_pure ?_)
  refine wpAny_bind (collect_list hl ?_ (by rw [sizeLine_eq]; omega))
  refine wpAny_bind (wpAny_newList ?_ (by rw [sizeLine_eq]; omega))
  have hsz : ((s.heap.push (seqObj "list" #[] 0)).update s.heap.objs.size (Obj.mapSeq (· ++ vs.toArray))).objs.size = s.heap.objs.size + 1 := by
    rw [Heap.size_update, size_push']
  have hoL : (((s.heap.push (seqObj "list" #[] 0)).update s.heap.objs.size (Obj.mapSeq (· ++ vs.toArray))).push (seqObj "list" vs.toArray 0)).get? (s.heap.objs.size + 1) = some (seqObj "list" vs.toArray 0) := by
    rw [← hsz]; exact Heap.get?_push_size _ rfl
  have keep : ∀ b o, s.heap.get? b = some o → (((s.heap.push (seqObj "list" #[] 0)).update s.heap.objs.size (Obj.mapSeq (· ++ vs.toArray))).push (seqObj "list" vs.toArray 0)).get? b = some o := fun b o q => by
    have hlt : b < s.heap.objs.size := Heap.lt_size q
    rw [Heap.get?_push_ne _ _ _ (by rw [hsz]; exact Nat.ne_of_lt (Nat.lt_succ_of_lt hlt)), Heap.get?_update_ne _ _ _ _ (Nat.ne_of_lt hlt), Heap.get?_push_ne _ _ _ (Nat.ne_of_lt hlt)]
    exact q
  show wpAny _ _ _ _ _ { s with heap := ((s.heap.push (seqObj "list" #[] 0)).update s.heap.objs.size (Obj.mapSeq (· ++ vs.toArray))).push (seqObj "list" vs.toArray 0) }
  rw [hsz]
  refine wpAny_bind (wpAny_holding (wpAny_call_entry slot_list_sort ⟨_, hoL, rfl⟩ entry_list_sort (list_sort_tupsP (s := { s with heap := ((s.heap.push (seqObj "list" #[] 0)).update s.heap.objs.size (Obj.mapSeq (· ++ vs.toArray))).push (seqObj "list" vs.toArray 0) }) hoL (KatTups_keep (fun b o q _ => keep b o q) t) hS ne h64 ⟨_, rfl, ?_⟩) (args_list_sort _)))
  exact wpAny_pure ⟨_, rfl, h⟩
theorem sorted_tupsPT {l : Addr} {vs fs : List Value} {ss : List Str} {Q : Value → Shared → Prop} (hl : s.heap.IsTuple l vs.toArray) (t : KatTups s.heap vs fs) (hS : StrsAre fs ss)
    (ne : ∀ (i j : Nat) x y, ss[i]? = some x → ss[j]? = some y → i ≠ j → x ≠ y) (h64 : vs.length < 64)
    (h : Q (.ref (s.heap.objs.size + 1)) { s with heap := sortedAll s.heap vs ((ordS ss).map fun i => vs.getD i Value.none).toArray }) :
    wpAny (model prog w) A (call (.builtin "sorted") [.ref l]) Q E s := by
  refine Calls.call_function_entry kind_sorted plain_sorted entry_sorted (args_sorted1 _) ?_
  unfold Builtin.«sorted»
  refine wpAny_bind (m := checkCount "sorted" 1 1 _) (wpAny_pure ?_)
  refine wpAny_bind (collect_tupl hl ?_ (by rw [sizeLine_eq]; omega))
  refine wpAny_bind (wpAny_newList ?_ (by rw [sizeLine_eq]; omega))
  have hsz : ((s.heap.push (seqObj "list" #[] 0)).update s.heap.objs.size (Obj.mapSeq (· ++ vs.toArray))).objs.size = s.heap.objs.size + 1 := by
    rw [Heap.size_update, size_push']
  have hoL : (((s.heap.push (seqObj "list" #[] 0)).update s.heap.objs.size (Obj.mapSeq (· ++ vs.toArray))).push (seqObj "list" vs.toArray 0)).get? (s.heap.objs.size + 1) = some (seqObj "list" vs.toArray 0) := by
    rw [← hsz]; exact Heap.get?_push_size _ rfl
  have keep : ∀ b o, s.heap.get? b = some o → (((s.heap.push (seqObj "list" #[] 0)).update s.heap.objs.size (Obj.mapSeq (· ++ vs.toArray))).push (seqObj "list" vs.toArray 0)).get? b = some o := fun b o q => by
    have hlt : b < s.heap.objs.size := Heap.lt_size q
    rw [Heap.get?_push_ne _ _ _ (by rw [hsz]; exact Nat.ne_of_lt (Nat.lt_succ_of_lt hlt)), Heap.get?_update_ne _ _ _ _ (Nat.ne_of_lt hlt), Heap.get?_push_ne _ _ _ (Nat.ne_of_lt hlt)]
    exact q
  show wpAny _ _ _ _ _ { s with heap := ((s.heap.push (seqObj "list" #[] 0)).update s.heap.objs.size (Obj.mapSeq (· ++ vs.toArray))).push (seqObj "list" vs.toArray 0) }
  rw [hsz]
  refine wpAny_bind (wpAny_holding (wpAny_call_entry slot_list_sort ⟨_, hoL, rfl⟩ entry_list_sort (list_sort_tupsP (s := { s with heap := ((s.heap.push (seqObj "list" #[] 0)).update s.heap.objs.size (Obj.mapSeq (· ++ vs.toArray))).push (seqObj "list" vs.toArray 0) }) hoL (KatTups_keep (fun b o q _ => keep b o q) t) hS ne h64 ⟨_, rfl, ?_⟩) (args_list_sort _)))
  exact wpAny_pure ⟨_, rfl, h⟩
end
/-! ### .. as rules -/
def ordV (ss : List Str) (vs : List V) : List V := (ordS ss).map fun i => vs.getD i V.non
theorem ord_vals {ss : List Str} {vs : List V} {its : List Value} (r : Vals vs its) : ∀ l : List Nat, Vals (l.map fun i => vs.getD i V.non) (l.map fun i => its.getD i Value.none)
  | [] => .nil
  | i :: l => by
    refine .cons ?_ (ord_vals (ss := ss) r l)
    dsimp only
    rw [List.getD_eq_getElem?_getD, List.getD_eq_getElem?_getD]
    cases e : vs[i]? with
    | none =>
      have : its[i]? = none := List.getElem?_eq_none (by rw [← r.length]; exact List.getElem?_eq_none_iff.mp e)
      rw [this]
      rfl
    | some v =>
      obtain ⟨u, eu, ru⟩ := r.get e
      rw [eu]
      exact ru
section
variable {X : Cx}
def rSortP (K : PySem.W.Frag) (tu : Bool) (xs : List V) (H : Hp) (Q : VK) : Prop := ∃ (a : Addr) (vs : List V) (ss : List Str), xs = [V.ref a] ∧ Sq K tu H a vs ∧ vs.length < 64 ∧ vs.length = ss.length ∧ (∀ (i : Nat) v z, vs[i]? = some v → ss[i]? = some z → ∃ b ws, v = .ref b ∧ H b = some (.tup (.str z :: ws))) ∧
    ss.Nodup ∧ ∀ l, H l = none → Q (.ref l) (upd H l (.lst (ordV ss vs)))
theorem nodup_ne {ss : List Str} (h : ss.Nodup) (i j : Nat) (x y : Str) (hi : ss[i]? = some x) (hj : ss[j]? = some y) (n : i ≠ j) : x ≠ y := fun e => by
  subst e
  obtain ⟨a, ea⟩ := List.getElem?_eq_some_iff.mp hi
  obtain ⟨b, eb⟩ := List.getElem?_eq_some_iff.mp hj
  exact n ((List.getElem_inj h).mp (ea.trans eb.symm))
theorem call_sortedP {tu : Bool} : CallR X (.builtin "sorted") (rSortP X.K tu) := by
  intro pins s σ H xs us Q I r h
  obtain ⟨a, vs, ss, rfl, ha, h64, hl, ht, nd, q⟩ := h
  obtain ⟨u, rfl, ru⟩ := vals1 r
  cases ru
  have lo : (ordV ss vs).length = vs.length := by
    unfold ordV
    rw [List.length_map, (ordS_perm ss).length_eq, List.length_range, hl]
  have fin : ∀ its : List Value, Vals vs its → EP X pins σ Q (.ref (s.heap.objs.size + 1)) { s with heap := sortedAll s.heap its ((ordS ss).map fun i => its.getD i Value.none).toArray } := fun its rv => by
    obtain ⟨e, he⟩ := sortedAll_at s.heap its ((ordS ss).map fun i => its.getD i Value.none).toArray
    refine ⟨.ref (s.heap.objs.size + 1), _, I.laid (a := s.heap.objs.size + 1) (o := .lst (ordV ss vs)) (t' := s.toks) (fun b o z => sortedAll_old z) (Nat.le_succ _) ?_, rfl, q _ (I.hok.fresh (Nat.le_succ _))⟩
    exact ⟨by rw [lo, sizeLine_eq]; omega, _, e, ord_vals (ss := ss) rv (ordS ss), he⟩
  cases tu with
  | false =>
    obtain ⟨its, rv, pl, hz⟩ := I.list ha
    have li : its.length = vs.length := rv.length.symm
    obtain ⟨fs, t, hS⟩ := tups_of (P := X.prog) (w := X.w) I rv hl ht
    exact sorted_tupsP pl.isList t hS (nodup_ne nd) (by omega) (fin its rv)
  | true =>
    obtain ⟨its, rv, pl, hz⟩ := I.tuple ha
    have li : its.length = vs.length := rv.length.symm
    obtain ⟨fs, t, hS⟩ := tups_of (P := X.prog) (w := X.w) I rv hl ht
    exact sorted_tupsPT pl t hS (nodup_ne nd) (by omega) (fin its rv)
end
end L2
namespace L2
open PySem PySem.Spec PyProof.Rows PySem.W
section
variable {X : Cx}
end
/-! ### three names -/
/-! ### deep equality of the same tree -/
theorem eqv_flat {K : PySem.W.Frag} {H : Hp} {x y : V} (n : Nat) (h1 : flatV x = true) (h2 : flatV y = true) (h3 : eqV x y = true) : Eqv K H n x y := by
  cases n with
  | zero =>
    unfold Eqv
    exact .inl ⟨h1, h2, h3⟩
  | succ n =>
    unfold Eqv
    exact .inl ⟨h1, h2, h3⟩
theorem eqv_tup {K : PySem.W.Frag} {H : Hp} {a b : Addr} {xs ys : List V} {n : Nat} (ha : H a = some (.tup xs)) (hb : H b = some (.tup ys)) (hl : xs.length = ys.length) (h : ∀ (i : Nat) u v, xs[i]? = some u → ys[i]? = some v → Eqv K H n u v) : EqvS K H n (.ref a) (.ref b) := by
  unfold EqvS
  exact ⟨a, b, xs, ys, rfl, rfl, .inl ⟨SqT.of ha, SqT.of hb⟩, hl, h⟩
theorem eqv_deep {K : PySem.W.Frag} {H : Hp} {x y : V} {n : Nat} (h : EqvS K H n x y) : Eqv K H (n + 1) x y := by
  unfold Eqv
  exact .inr (.inr h)
mutual
theorem At.eqv {K : PySem.W.Frag} {H : Hp} : ∀ {t : Tr} {x y : V} {n : Nat}, nl t = true → dep t ≤ n → At H t x → At H t y → Eqv K H n x y
  | .int n, x, y, m, _, _, hx, hy => by
    unfold At at hx hy
    subst hx hy
    exact eqv_flat m rfl rfl (by show (n == n) = true; simp)
  | .str n, x, y, m, _, _, hx, hy => by
    unfold At at hx hy
    subst hx hy
    exact eqv_flat m rfl rfl (by show (n == n) = true; simp)
  | .bl n, x, y, m, _, _, hx, hy => by
    unfold At at hx hy
    subst hx hy
    exact eqv_flat m rfl rfl (by cases n <;> rfl)
  | .non, x, y, m, _, _, hx, hy => by
    unfold At at hx hy
    subst hx hy
    exact eqv_flat m rfl rfl rfl
  | .dct, x, y, m, h, _, _, _ => by
    unfold nl at h
    cases h
  | .lst l, x, y, m, h, _, _, _ => by
    unfold nl at h
    cases h
  | .tup l, x, y, m, h, hd, hx, hy => by
    unfold dep at hd
    obtain ⟨k, rfl⟩ : ∃ k, m = k + 1 := ⟨m - 1, by omega⟩
    unfold nl at h
    obtain ⟨a, vs, rfl, ea, ka⟩ := hx.tup
    obtain ⟨b, ws, rfl, eb, kb⟩ := hy.tup
    exact eqv_deep (eqv_tup ea eb (by rw [ka.len, kb.len]) (Ats.eqv h (by omega) ka kb))
theorem Ats.eqv {K : PySem.W.Frag} {H : Hp} : ∀ {l : List Tr} {vs ws : List V} {n : Nat}, nls l = true → deps l ≤ n → Ats H l vs → Ats H l ws → ∀ (i : Nat) u v, vs[i]? = some u → ws[i]? = some v → Eqv K H n u v
  | [], vs, ws, n, _, _, ha, hb, i, u, v, hu, hv => by
    unfold Ats at ha
    subst ha
    cases hu
  | t :: ts, vs, ws, n, h, hd, ha, hb, i, u, v, hu, hv => by
    unfold nls at h
    rw [Bool.and_eq_true] at h
    unfold deps at hd
    unfold Ats at ha hb
    obtain ⟨v0, vs, rfl, h1, k1⟩ := ha
    obtain ⟨w0, ws, rfl, h2, k2⟩ := hb
    cases i with
    | zero =>
      cases hu
      cases hv
      exact At.eqv h.1 (by omega) h1 h2
    | succ i => exact Ats.eqv h.2 (by omega) k1 k2 i u v hu hv
end
theorem At.eqvS {K : PySem.W.Frag} {H : Hp} {l : List Tr} {x y : V} {n : Nat} (h : nls l = true) (hd : deps l ≤ n) (hx : At H (.tup l) x) (hy : At H (.tup l) y) : EqvS K H n x y := by
  obtain ⟨a, vs, rfl, ea, ka⟩ := hx.tup
  obtain ⟨b, ws, rfl, eb, kb⟩ := hy.tup
  exact eqv_tup ea eb (by rw [ka.len, kb.len]) (Ats.eqv h hd ka kb)
/-! ### isinstance(x, an own class) -/
section
variable {X : Cx}
end
end L2
namespace L2
open PySem PySem.Spec PyProof.Rows
end L2
/-! ### a comprehension with one name as one with a tuple of names: E's comp_go is not needed then -/
namespace L2
open PySem PySem.Spec PyProof.Rows
theorem CompW.t {J : It} {p : Addr} {tt : TT} {te : TE} {cs : St} {Q : VK} {H1 : Hp} (h : CompW J p tt te cs Q H1) : CompWT (fun _ => True) (gName 0) 1 J p tt te cs Q H1 := by
  obtain ⟨W, h0, hs⟩ := h
  refine ⟨W, h0, fun i m ys H2 hw => (hs i m ys H2 hw).imp (fun ⟨a, b⟩ => ⟨a, trivial, b⟩) fun ⟨a, N, hN, hv⟩ => ⟨a, trivial, N, hN, fun v H3 y vs0 hl => ?_⟩⟩
  match vs0, hl with
  | [w0], _ => exact ⟨⟨[some v], rfl, rfl⟩, hv v H3 y⟩
theorem pe_comp1 {X : Cx} {elt iter : Expr} {ifs : List Expr} {x : Str} {px pos : Pos} {sc : Scope} {wi : TI} {tt : TT} {te : TE} (caps : List Nat) (capsN : List Str)
    (hi : PI X (.Name x px) iter wi)
    (ht : ∀ cl C s H ex pn, PTs (cxComp X (x :: capsN) sc cl C s H ex pn) ifs tt)
    (he : ∀ cl C s H ex pn, PE (cxComp X (x :: capsN) sc cl C s H ex pn) elt te)
    (hkind : sc.kind = .function) (hcell : ∀ y ∈ sc.names, y.2 ≠ .cell) (hnames : ∀ y ∈ sc.names, y.2 = .local → sc.names.lookup y.1 = some .local) (hx : sc.names.lookup x = some .local)
    (hfr : ∀ y ∈ sc.names, y.2 = .free → y.1 ∈ capsN)
    (hcap : ∀ (j : Nat) (y : Str), capsN[j]? = some y → ∃ i : Nat, caps[j]? = some i ∧ X.N[i]? = some y ∧ sc.names.lookup y = some .free ∧ (X.env.kindOf y = some .cell ∨ X.env.kindOf y = some .free)) (hlen : caps.length = capsN.length)
    (hnd : (x :: capsN).Nodup) (hc : X.calm = true)
    (hs : ∀ x, foldedSetIterable iter X.env x = pure x := by intro _; rfl) :
    PE X (.ListComp elt [⟨.Name x px, iter, ifs, 0⟩] sc pos) (tComp wi tt te caps) :=
  pe_compT (Gs := fun _ => True) (hb := false) (CW := fun J p cs Q H1 => CompW J p tt te cs Q H1) (xs := [x]) (g := gName 0) caps capsN hi (fun _ _ _ _ _ _ => pg_name hnd rfl (.inl (lookup_relabel_local hx)) (.inr (lookup_relabel_local hx))) ht he hkind hcell hnames hfr hcap hlen (.inl hc) (fun _ _ _ _ _ h => h.t) hs
theorem ps_setC2 {X : Cx} {elt iter : Expr} {ifs : List Expr} {x y : Str} {px pos pos' pos2 : Pos} {sc : Scope} {wi : TI} {tt : TT} {te : TE} {i : Nat} (hN : X.N.Nodup) (hiN : X.N[i]? = some y) (hy : X.env.scope.names.lookup y = some .local) (caps : List Nat) (capsN : List Str)
    (hi : PI X (.Name x px) iter wi)
    (ht : ∀ cl C s H ex pn, PTs (cxComp X (x :: capsN) sc cl C s H ex pn) ifs tt)
    (he : ∀ cl C s H ex pn, PE (cxComp X (x :: capsN) sc cl C s H ex pn) elt te)
    (hkind : sc.kind = .function) (hcell : ∀ y ∈ sc.names, y.2 ≠ .cell) (hnames : ∀ y ∈ sc.names, y.2 = .local → sc.names.lookup y.1 = some .local) (hx : sc.names.lookup x = some .local)
    (hfr : ∀ y ∈ sc.names, y.2 = .free → y.1 ∈ capsN)
    (hcap : ∀ (j : Nat) (y : Str), capsN[j]? = some y → ∃ i : Nat, caps[j]? = some i ∧ X.N[i]? = some y ∧ sc.names.lookup y = some .free ∧ (X.env.kindOf y = some .cell ∨ X.env.kindOf y = some .free)) (hlen : caps.length = capsN.length)
    (hnd : (x :: capsN).Nodup) (hc : X.calm = true)
    (hsw : swapsWith (.ListComp elt [⟨.Name x px, iter, ifs, 0⟩] sc pos) (some (.Name y pos')) pos2.line X.env = pure true := by rfl)
    (hs : ∀ x, foldedSetIterable iter X.env x = pure x := by intro _; rfl) :
    PS X (.Assign [.Name y pos'] (.ListComp elt [⟨.Name x px, iter, ifs, 0⟩] sc pos) pos2) (tAsg (tComp wi tt te caps) (gName i)) := by
  intro pins s σ H D I h
  rw [exec_Assign_Name_used _ _ _ _ hsw, arm_evalThenUse_ListComp]
  refine wpAny_bind (wpAny_standAt (wpAny_bind (wpAny_bind (comp_goT (Gs := fun _ => True) (hb := false) (CW := fun J p cs Q H1 => CompW J p tt te cs Q H1) (xs := [x]) (g := gName 0) (use := some (assign (.Name y pos') X.env)) caps capsN hi (fun _ _ _ _ _ _ => pg_name hnd rfl (.inl (lookup_relabel_local hx)) (.inr (lookup_relabel_local hx))) ht he hkind hcell hnames hfr hcap hlen (.inl hc) (fun _ _ _ _ _ h => h.t) hs I h fun C p H5 s5 ⟨m, hn⟩ I5 f q => ?_))))
  refine wpAny_assign_Name (store_ok2 I5 hN hiN (.inl hy) (show RelV (.ref p) (.ref p) from rfl) (fun s6 I6 ⟨a, sb, ha⟩ => ?_) (.inr hy))
  have nC : C ≠ a := by
    rcases ha with ha | ha
    · rw [ha]; exact f.2.1
    · exact fun z => f.2.2.2.2.1 y a ha z.symm
  obtain ⟨o, es, ep, ho, r⟩ := hn
  refine ⟨m, ⟨o, es, ep, (sb.2 C nC).trans ho, r⟩, fun h' sb' => ?_⟩
  have I7 := I6.turned (t' := s6.toks) (h' := h') (fun b o hb e => (sb'.2 b hb).trans e) f.1 f.2.1 f.2.2.2.1 f.2.2.2.2.1 f.2.2.2.2.2
  exact wpAny_pure (wpAny_pure ⟨_, H5, I7, q⟩)
end L2
set_option maxHeartbeats 1000000
/-! ### a lambda x: x[G], called -/
namespace L2
open PySem PySem.Spec PySem.Calls PySem.W PyProof.Rows
section
variable {prog : Program} {w : World} {A : Around} {E : Value → Shared → Prop} {s : Shared}
/-- the scope of lambda x: .. G .. -/
structure LamSc (scope : Scope) (x : Str) : Prop where
  co : scope.isCoroutine = false
  gen : scope.isGenerator = false
  fn : scope.kind = .function
  nocell : ∀ y ∈ scope.names, y.2 ≠ .cell
  loc : scope.names.lookup x = some .local
end
end L2
set_option maxHeartbeats 1000000
/-! ### sorted by a key -/
namespace L2
open PySem PySem.Spec PySem.Calls PySem.W PyProof.Rows
section
variable {X : Cx} {pins : List (Addr × Obj)} {σ : St} {H : Hp} {s : Shared}
end
end L2
/-! ### min and max of a list of ints, with default= -/
namespace L2
open PySem PySem.Spec PyProof.Rows
section
variable {prog : Program} {w : World} {A : Around} {I : Addr} {fp wr : List Addr} {n : Nat} {P : Nat → Value → Prop} {St : Nat → Heap → Prop} {R : Result → Shared → Prop}
end
end L2
/-! ### min(l, default=d), max(l, default=d), l a list of ints -/
namespace L2
open PySem PySem.Spec PyProof.Rows
section
variable {prog : Program} {w : World} {A : Around} {E : Value → Shared → Prop} {s : Shared}
end
section
variable {prog : Program} {w : World} {A : Around} {E : Value → Shared → Prop} {s : Shared}
end
section
variable {prog : Program} {w : World} {A : Around} {E : Value → Shared → Prop} {s : Shared}
end
end L2
namespace L2
open PySem PySem.Spec PyProof.Rows
section
variable {X : Cx} {e v : Expr} {te tv : TE}
end
end L2
set_option maxHeartbeats 1000000
/-! ### sorted(e, key=lambda x: x[G]) -/
namespace L2
open PySem PySem.Spec PySem.Calls PySem.W PyProof.Rows
/-- the table of a code object, as it stands -/
def tabφ (P : Addr) (ps : Array Value) : Heap → Prop := fun h => h.get? P = some (tabObj ps)
def codφ (c : Addr) (qual : Str) : Heap → Prop := fun h => h.CodeRec (.ref c) qual
def TabS (H : Hp) (P : Addr) (pos : Pos) (qual : Str) : Prop := ∃ ps, H P = some (.ext (tabφ P ps)) ∧ TriplesOk ps.toList ∧ (codeAmong pos ps.toList = none ∨ ∃ c', codeAmong pos ps.toList = some (.ref c') ∧ H c' = some (.ext (codφ c' qual)))
/-- all but at P as it was -/
def SxP (P : Addr) (H H' : Hp) : Prop := ∀ b o, b ≠ P → H b = some o → H' b = some o
structure BltIn (base : Heap) (mg : Str → Option Value) : Prop where
  ex : ∃ bm o, mg "__builtins__" = some (.ref bm) ∧ bm ≠ builtinsNs ∧ bm ≠ mainGlobals ∧ base.get? bm = some o ∧ o.cls = .type "module" ∧ o.dict = some builtinsNs ∧ o.data = .plain
section
variable {X : Cx} {pins : List (Addr × Obj)} {σ : St} {H : Hp} {s : Shared}
theorem ext_ok {P : Program} {w : World} {H : Hp} {h : Heap} {a : Addr} {φ : Heap → Prop} (x : ObjOk P w H h a (.ext φ)) : φ h := x.1
theorem triples_snoc : ∀ {l : List Value} {a b : Int} {t u : Tok} {c : Value}, TriplesOk l → TriplesOk (l ++ [.int a t, .int b u, c])
  | [], _, _, _, _, _, _ => trivial
  | .int _ _ :: .int _ _ :: _ :: rest, _, _, _, _, _, h => triples_snoc (l := rest) h
end
section
variable {X : Cx} {e : Expr} {te : TE}
end
end L2
set_option maxHeartbeats 1000000
/-! ### the head, where defs make lambdas: their tables tracked -/
namespace L2
open PySem PySem.Spec PySem.Calls PySem.W PyProof.Rows
theorem law_callT {P : Program} {w : World} {K : PySem.W.Frag} {mg mb : Str → Option Value} {CX : CXT} {k : Nat} {fa a : Addr} {fd : FuncData} {x : Str} {sp : Sp} {s₁ : Shared} {vs : List Value} {ns : List Int} {tabs : List (Addr × Addr)}
    (KX : K.In s₁.heap) (hns : s₁.heap.Ns mainGlobals mg) (hb : s₁.heap.Ns builtinsNs mb) (hbb : ∀ x : Str, x ≠ "__name__" → mb x = bootBuiltins x) (hlim : s₁.heap.NoLimit) (hg : s₁.gens = #[])
    (ha : s₁.heap.get? a = some { cls := .type "list", data := .seq vs.toArray }) (hi : IntsAre vs ns) (hl : ns.length ≤ sizeLine) (hr : Room k callerA)
    (hbm : ∃ bm ob, mg "__builtins__" = some (.ref bm) ∧ bm ≠ builtinsNs ∧ s₁.heap.get? bm = some ob ∧ ob.cls = .type "module" ∧ ob.dict = some builtinsNs ∧ ob.data = .plain)
    (hT : TabsAt tabs s₁.heap) (hTK : ∀ t ∈ tabs, K.lookup t.2 = none)
    (F : ∀ base : Heap, K.In base → base.Ns mainGlobals mg → (∀ t ∈ tabs, CodeHd base t.1 t.2) → BltIn base mg → FnOk P w K mg base CX k fa fd [x] sp) (hbind : ∀ (s : Shared) (u : Value), BindsTo s fd ⟨[u], []⟩ [(x, u)])
    (hsp : ∀ H : Hp, SqL K H a (ns.map V.int) → (∀ t ∈ tabs, H t.2 = some (.ext (tabφ t.2 #[]))) → sp [.ref a] H (fun v H' => v = .bl true ∧ ∀ t ∈ tabs, ∃ ps, H' t.2 = some (.ext (tabφ t.2 ps))) fun _ _ _ => False)
    (hCX : ∀ H e s', CX [] H s₁ (fun _ _ _ => False) e s' → False) :
    codeAny (model P w) callerA (.call (.ref fa) ⟨[.ref a], []⟩) (fun r s' => r = .ok (.ret (.bool true)) ∧ OldK s₁.heap s'.heap ∧ s'.os = s₁.os ∧ AllBare s'.gens) s₁ := by
  have rv := vals_ints hi
  have lenV := hi.length
  have aT : ∀ t ∈ tabs, t.2 ≠ a := fun t ht z => by
    have := (hT t ht).2
    rw [z, ha] at this
    cases this
  have core : ∀ H : Hp, SqL K H a (ns.map V.int) → HOk P w H s₁.heap → (∀ b, H b = none ∨ (b = a ∧ ∃ xs, H b = some (.frz { cls := .type "list", data := .seq vs.toArray } (.lst xs))) ∨ (∃ t ∈ tabs, b = t.2 ∧ H b = some (.ext (tabφ b #[])))) → (∀ t ∈ tabs, H t.2 = some (.ext (tabφ t.2 #[]))) → (H a ≠ none → K.lookup a = none) →
      codeAny (model P w) callerA (.call (.ref fa) ⟨[.ref a], []⟩) (fun r s' => r = .ok (.ret (.bool true)) ∧ OldK s₁.heap s'.heap ∧ s'.os = s₁.os ∧ AllBare s'.gens) s₁ := by
    intro H hS hok hA hTH hK
    have base_of : ∀ {b : Addr} {o : Obj}, s₁.heap.get? b = some o → H b = none → (hidT s₁.heap H).get? b = some o := fun e n => hidT_get e n
    have noA : ∀ {b : Addr} {o : Obj}, s₁.heap.get? b = some o → o ≠ { cls := .type "list", data := .seq vs.toArray } → o ≠ tabObj #[] → H b = none := fun {b o} e n1 n2 => by
      rcases hA b with z | ⟨z, _⟩ | ⟨t, ht, z, _⟩
      · exact z
      · rw [z, ha] at e
        exact absurd (Option.some.inj e).symm n1
      · rw [z, (hT t ht).2] at e
        exact absurd (Option.some.inj e).symm n2
    have nsK : ∀ {b : Addr} {m : Str → Option Value}, s₁.heap.Ns b m → (hidT s₁.heap H).Ns b m := fun {b m} ⟨o, es, ep, e, d, r⟩ => ⟨o, es, ep, base_of e (noA e (fun z => by rw [z] at d; cases d) (fun z => by rw [z] at d; cases d)), d, r⟩
    have hKb : K.In (hidT s₁.heap H) := fun b o e => base_of (KX b o e) (by
      rcases hA b with z | ⟨z, xs, e2⟩ | ⟨t, ht, z, _⟩
      · exact z
      · subst z
        rw [hK (by rw [e2]; simp)] at e
        cases e
      · rw [z, hTK t ht] at e
        cases e)
    have hM : Mod K mg (hidT s₁.heap H) := ⟨hKb, nsK hns, ⟨mb, nsK hb, hbb⟩, let ⟨mc, h1, h2⟩ := hlim; ⟨mc, nsK h1, h2⟩⟩
    have hC : ∀ t ∈ tabs, CodeHd (hidT s₁.heap H) t.1 t.2 := fun t ht => by
      obtain ⟨o, vs2, file, tf, flags, tg, inF, text, tt, e, c1, r⟩ := (hT t ht).1
      exact ⟨o, vs2, file, tf, flags, tg, inF, text, tt, base_of e (noA e (fun z => by rw [z] at c1; injection c1 with c1; exact absurd c1 (by decide)) (fun z => by rw [z] at c1; cases c1)), c1, r⟩
    have hBl : BltIn (hidT s₁.heap H) mg := by
      obtain ⟨bm, ob, b1, b2, b3, b4, b5, b6⟩ := hbm
      refine ⟨bm, ob, b1, b2, fun z => ?_, base_of b3 (noA b3 (fun z => by rw [z] at b6; cases b6) (fun z => by rw [z] at b6; cases b6)), b4, b5, b6⟩
      obtain ⟨o, es, ep, e, d, r⟩ := hns
      rw [z, e] at b3
      cases b3
      rw [d] at b6
      cases b6
    have e0 : Env0 P w K mg (hidT s₁.heap H) callerA [] s₁ H := ⟨rfl, hM, fun b o e => of_hidT e, Nat.le_of_eq (hidT_size _ _), trivial, fun b hb => absurd (show b ∈ ([] : List Addr) from hb) (by simp), hok, .of_eq hg⟩
    refine codeAny_mono ((F _ hKb (nsK hns) hC hBl).run callerA [] s₁ H ⟨[.ref a], []⟩ [.ref a] [.ref a] _ _ hr e0 (hbind s₁ (.ref a)) (.cons rfl .nil) (hsp H hS hTH)) fun r s' h => ?_
    cases r with
    | error e => exact (hCX H e s' h).elim
    | ok fl =>
      cases fl with
      | next => exact False.elim h
      | brk => exact False.elim h
      | cont => exact False.elim h
      | ret u =>
        obtain ⟨v, H', os, bare, un, hok', r', q⟩ := h
        have q' : v = .bl true ∧ ∀ t ∈ tabs, ∃ ps, H' t.2 = some (.ext (tabφ t.2 ps)) := q
        obtain ⟨rfl, q'⟩ := q'
        obtain rfl : u = Value.bool true := r'
        refine ⟨rfl, ⟨fun b o e => ?_, fun b o e => un.there b o e (by simp)⟩, os, bare⟩
        rcases hA b with z | ⟨z, xs, e2⟩ | ⟨t, ht, z, _⟩
        · exact .inl (un.keep b o e z (by intro y; exact absurd (show b ∈ ([] : List Addr) from y) (by simp)) (by simp))
        · have z2 := un.frzs b _ _ e2
          obtain ⟨e1, _⟩ := hok b _ e2
          obtain ⟨e3, _⟩ := hok' b _ z2
          rw [e] at e1; cases e1
          exact .inl e3
        · subst z
          obtain ⟨ps, hp⟩ := q' t ht
          have e3 : s'.heap.get? t.2 = some (tabObj ps) := ext_ok (hok' _ _ hp)
          have e4 := (hT t ht).2
          rw [e] at e4
          cases e4
          obtain ⟨o, vs2, file, tf, flags, tg, inF, text, tt, e5, c1, d1, v1, _⟩ := (hT t ht).1
          refine .inr (.inl ⟨⟨t.1, o, vs2, e5, c1, d1, v1⟩, rfl, #[], ps, rfl, ?_⟩)
          rw [e3]
          simp
  have tabO : ∀ t ∈ tabs, ∀ H : Hp, ObjOk P w H s₁.heap t.2 (.ext (tabφ t.2 #[])) := fun t ht H => ⟨(hT t ht).2, ⟨_, (hT t ht).2⟩, fun h1 h2 x1 k2 => k2 _ x1⟩
  cases hk : K.lookup a with
  | some o =>
    have e := KX a o hk
    rw [ha] at e
    cases e
    refine core (fun b => if b ∈ tabs.map (·.2) then some (.ext (tabφ b #[])) else none) (.inr ⟨_, vs.toArray, _, hk, rfl, rfl, rfl, by rw [List.size_toArray, lenV]; exact hl, by simpa using rv⟩) (fun b u z => ?_) (fun b => ?_) (fun t ht => if_pos (List.mem_map_of_mem ht)) (fun z => absurd (if_neg fun m => ?_) z)
    · by_cases hm : b ∈ tabs.map (·.2)
      · have z' := (if_pos hm).symm.trans z
        cases z'
        obtain ⟨t, ht, rfl⟩ := List.mem_map.mp hm
        exact tabO t ht _
      · have z' := (if_neg hm).symm.trans z
        cases z'
    · by_cases hm : b ∈ tabs.map (·.2)
      · obtain ⟨t, ht, rfl⟩ := List.mem_map.mp hm
        exact .inr (.inr ⟨t, ht, rfl, if_pos hm⟩)
      · exact .inl (if_neg hm)
    · obtain ⟨t, ht, z⟩ := List.mem_map.mp m
      exact aT t ht z
  | none =>
    refine core (fun b => if b = a then some (.frz { cls := .type "list", data := .seq vs.toArray } (.lst (ns.map V.int))) else if b ∈ tabs.map (·.2) then some (.ext (tabφ b #[])) else none) (.inl (.inr ⟨{ cls := .type "list", data := .seq vs.toArray }, if_pos rfl⟩)) (fun b u z => ?_) (fun b => ?_) (fun t ht => ?_) fun _ => hk
    · by_cases hb : b = a
      · have z' := (if_pos hb).symm.trans z
        cases z'
        subst hb
        exact ⟨ha, by rw [List.length_map]; exact hl, vs, _, rv, ha⟩
      · have z' := (if_neg hb).symm.trans z
        by_cases hm : b ∈ tabs.map (·.2)
        · have z2 := (if_pos hm).symm.trans z'
          cases z2
          obtain ⟨t, ht, rfl⟩ := List.mem_map.mp hm
          exact tabO t ht _
        · have z2 := (if_neg hm).symm.trans z'
          cases z2
    · by_cases hb : b = a
      · exact .inr (.inl ⟨hb, _, if_pos hb⟩)
      · by_cases hm : b ∈ tabs.map (·.2)
        · obtain ⟨t, ht, rfl⟩ := List.mem_map.mp hm
          exact .inr (.inr ⟨t, ht, rfl, (if_neg hb).trans (if_pos hm)⟩)
        · exact .inl ((if_neg hb).trans (if_neg hm))
    · exact (if_neg (aT t ht)).trans (if_pos (List.mem_map_of_mem ht))
theorem walk_tab {l : PySem.W.OpenLaw} {n k : Nat} {q : Program} {loose : List Str} {XP : (Str → Option Value) → Heap → Prop} {YP : World → Heap → Prop} {d : DefRec} {K : Params → PySem.W.Frag} {CX : World → CXT} {sp : World → Sp} {x : Str} {tabs : List (Addr × Addr)}
    (hn : l.most = some n) (hn2 : n ≤ sizeLine) (hdf : d.params.defaults = []) (hr : Room k callerA)
    (hY : ∀ (w : World) (h : Heap), YP w h → (K w.params).In h ∧ TabsAt tabs h) (hTK : ∀ (w : World), ∀ t ∈ tabs, (K w.params).lookup t.2 = none)
    (F : ∀ (w : World) (mg : Str → Option Value) (fa : Addr) (h : Heap), (K w.params).In h → h.Ns mainGlobals mg → mg d.name = some (.ref fa) →
      ∃ fd : FuncData, (∀ (s : Shared) (u : Value), BindsTo s fd ⟨[u], []⟩ [(x, u)]) ∧
        ∀ base : Heap, (K w.params).In base → base.Ns mainGlobals mg → (∀ t ∈ tabs, CodeHd base t.1 t.2) → BltIn base mg → FnOk l.prog w (K w.params) mg base (CX w) k fa fd [x] (sp w))
    (hsp : ∀ (w : World) (H : Hp) (a : Addr) (ns : List Int), ns.length ≤ n → SqL (K w.params) H a (ns.map V.int) → (∀ t ∈ tabs, H t.2 = some (.ext (tabφ t.2 #[]))) → sp w [.ref a] H (fun v H' => v = .bl true ∧ ∀ t ∈ tabs, ∃ ps, H' t.2 = some (.ext (tabφ t.2 ps))) fun _ _ _ => False)
    (hCX : ∀ (w : World) (H : Hp) (s : Shared) (e : Value) (s' : Shared), CX w [] H s (fun _ _ _ => False) e s' → False) :
    PySem.W.WalkO q loose XP YP l.row.toRowW d [] (fun f vs => PySem.call f vs) := by
  refine Att.attach_call hn hdf fun w s₀ s₁ mg mb fa o pm cd doc a vs ns G Y ho hd hcd hmg hobj hints hlen hg => ?_
  have KX := (hY w _ Y).1
  obtain ⟨fd, hb, hF⟩ := F w mg fa _ KX G.T.g hmg
  exact law_callT KX G.T.g G.T.b G.T.builtins G.T.nolimit hg hobj hints (Nat.le_trans hlen hn2) hr G.T.bmain (hY w _ Y).2 (hTK w) hF hb (fun H hS hT => hsp w H a ns hlen hS hT) fun H e s' => hCX w H s₁ e s'
end L2
set_option maxHeartbeats 1000000
/-! ### a lambda x: d[x], d a name of the frame that made it, called by a local name -/
namespace L2
open PySem PySem.Spec PySem.Calls PySem.W PyProof.Rows
def objφ (a : Addr) (o : Obj) : Heap → Prop := fun h => h.get? a = some o
section
variable {X : Cx} {pins : List (Addr × Obj)} {σ : St} {H : Hp} {s : Shared} {A : Around} {E : Value → Shared → Prop}
end
section
variable {X : Cx} {e : Expr} {te : TE}
end
end L2
set_option maxHeartbeats 1000000
/-! ### a call that is handed a lambda over a name of this frame -/
namespace L2
open PySem PySem.Spec PySem.Calls PySem.W PyProof.Rows
def del (H : Hp) (c : Addr) : Hp := fun b => if b = c then none else H b
theorem del_ne {H : Hp} {c b : Addr} (h : b ≠ c) : del H c b = H b := if_neg h
theorem del_same {H : Hp} {c : Addr} : del H c c = none := if_pos rfl
theorem same_del {H H' : Hp} {c : Addr} {o : HO} (h : H c = none) (s : Same (upd H c o) H') : Same H (del H' c) := fun b u e => by
  have z : b ≠ c := fun z => by rw [z, h] at e; cases e
  rw [del_ne z]
  exact s b u (by rw [upd_ne z]; exact e)
section
variable {X : Cx} {pins : List (Addr × Obj)} {σ : St} {H : Hp} {s : Shared} {y : Str} {c : Addr} {oc : Obj}
theorem Inv.cellApart (I : Inv X pins σ H s) (hfn : X.fn y = true) (hcl : X.env.cells.lookup y = some c) : X.base.get? c = none ∧ c ∉ frs X.stack := by
  have ge := I.ok.cab y c hfn hcl
  refine ⟨Heap.get?_none_of_le (Nat.le_trans I.ok.bsz ge), fun z => ?_⟩
  rcases List.mem_cons.mp (I.stkSub c z) with z | z
  · obtain ⟨m, ⟨o, es, ep, ho, hd, _⟩, _⟩ := I.loc
    obtain ⟨v, o2, ho2, hd2⟩ := I.cell y c hcl
    rw [z, ho] at ho2
    cases ho2
    rw [hd] at hd2
    cases hd2
  · obtain ⟨_, o, ho, _⟩ := I.ok.funs.mem z
    exact absurd (Heap.lt_size ho) (Nat.not_lt.mpr ge)
theorem HOk.extra {P : Program} {w : World} {h : Heap} (k : HOk P w H h) (hn : H c = none) (ec : h.get? c = some oc) : HOk P w (upd H c (.ext (objφ c oc))) h := fun b u e => by
  by_cases z : b = c
  · subst z
    rw [upd_same] at e
    cases e
    exact ⟨ec, ⟨_, ec⟩, fun h1 h2 x1 k2 => k2 _ x1⟩
  · rw [upd_ne z] at e
    exact (k b u e).stay (fun _ _ _ q => q) (fun b2 e2 => by rw [upd_ne (fun z2 => by rw [z2, hn] at e2; cases e2)]; exact e2) fun b2 xs e2 => by rw [upd_ne (fun z2 => by rw [z2, hn] at e2; cases e2)]; exact e2
theorem HOk.del {P : Program} {w : World} {h : Heap} {φ : Heap → Prop} (k : HOk P w H h) (hc : H c = some (.ext φ)) : HOk P w (del H c) h := fun b u e => by
  have z : b ≠ c := fun z => by rw [z, del_same] at e; cases e
  rw [del_ne z] at e
  exact (k b u e).stay (fun _ _ _ q => q) (fun b2 e2 => by rw [del_ne (fun z2 => by rw [z2, hc] at e2; cases e2)]; exact e2) fun b2 xs e2 => by rw [del_ne (fun z2 => by rw [z2, hc] at e2; cases e2)]; exact e2
theorem run_fnC {k : Nat} {f : Addr} {fd : FuncData} {ps : List Str} {sp : Sp} {dvs : List V} {ds : List Value} {Q : VK} {us : List Value} {vs : List V} {cc : Bool} (F : FnOk X.prog X.w X.K X.mg X.base CX0 k f fd ps sp cc) (hr : Room k X.A cc) (hb : Binds X.K fd ps ds) (hd : Vals dvs ds)
    (I : Inv X pins σ H s) (r : Vals vs us) (hfn : X.fn y = true) (hcl : X.env.cells.lookup y = some c) (ec : s.heap.get? c = some oc)
    (h : sp (vs ++ dvs) (upd H c (.ext (objφ c oc))) (fun v H' => H' c = some (.ext (objφ c oc)) ∧ Q v (L2.del H' c)) E0) : wpAny (model X.prog X.w) X.A (call (.ref f) us) (EP X pins σ Q) X.xe s := by
  have r2 : Vals (vs ++ dvs) (us ++ ds) := r.append hd
  have hl : (us ++ ds).length = ps.length := by rw [← r2.length]; exact F.len _ _ _ _ h
  have hn := I.freeC y c hcl
  obtain ⟨nb, nf⟩ := I.cellApart hfn hcl
  have e0 : Env0 X.prog X.w X.K X.mg X.base X.A X.stack s (upd H c (.ext (objφ c oc))) := ⟨I.ok.frames, I.ok.mod, fun b o e => ⟨(I.bs b o e).1, by rw [upd_ne (fun z => by rw [z, nb] at e; cases e)]; exact (I.bs b o e).2⟩, Nat.le_trans I.ok.bsz I.sz, I.stack,
    fun b hb => by
      have z : b ≠ c := fun z => nf (by rw [← z]; exact hb)
      rw [upd_ne z]; exact I.stkFree b hb, I.hok.extra hn ec, I.bare⟩
  refine wpAny_call (codeAny_mono (F.run X.A X.stack s _ ⟨us, []⟩ (us ++ ds) (vs ++ dvs) _ E0 hr e0 (hb s us I.kIn hl) r2 h) fun r s' hq => ?_)
  cases r with
  | error e => exact False.elim hq
  | ok fl =>
    cases fl with
    | ret u =>
      obtain ⟨v, H', os, bare, un, hok, rv, hc', q⟩ := hq
      have ec' : s'.heap.get? c = some oc := ext_ok (hok c _ hc')
      have nc : ∀ b u, H b = some u → b ≠ c := fun b u e z => by rw [z, hn] at e; cases e
      refine I.after ⟨v, L2.del H' c, os, bare, ⟨fun b o e n hb hx => ?_, fun b o e n hb hx => ?_, fun b o e n hx => ?_, un.there, fun b xs e => ?_, fun b o u e => ?_, fun b ps e => ?_⟩, hok.del hc', rv, q⟩
      · by_cases z : b = c
        · subst z
          rw [ec] at e
          cases e
          exact ec'
        · exact un.keep b o e (by rw [upd_ne z]; exact n) hb hx
      · have z : b ≠ c := fun z => nf (by rw [← z]; exact hb)
        exact un.slot b o e (by rw [upd_ne z]; exact n) hb hx
      · by_cases z : b = c
        · rw [z, del_same]
        · rw [del_ne z]
          exact un.free b o e (by rw [upd_ne z]; exact n) hx
      · rw [del_ne (nc b _ e)]
        exact un.tups b xs (by rw [upd_ne (nc b _ e)]; exact e)
      · rw [del_ne (nc b _ e)]
        exact un.frzs b o u (by rw [upd_ne (nc b _ e)]; exact e)
      · rw [del_ne (nc b _ e)]
        exact un.tbls b ps (by rw [upd_ne (nc b _ e)]; exact e)
    | next => exact False.elim hq
    | brk => exact False.elim hq
    | cont => exact False.elim hq
theorem codeAmong_snoc_ne {pos pos2 : Pos} {c : Value} (hne : ¬ (pos.line = pos2.line ∧ pos.col = pos2.col)) (l : List Value) (h : TriplesOk l) : codeAmong pos2 (l ++ [rawInt pos.line, rawInt pos.col, c]) = codeAmong pos2 l := by
  fun_induction TriplesOk l with
  | case1 =>
    simp only [List.nil_append, codeAmong, rawInt]
    rw [if_neg]
    intro z
    simp only [Bool.and_eq_true, beq_iff_eq] at z
    apply hne
    omega
  | case2 a t b u x rest ih =>
    simp only [List.cons_append, codeAmong]
    rw [ih h]
  | case3 => exact h.elim
theorem triple_1 : ∀ {l : List Value} {q : Str} {t : Tok}, TriplesOk l → ¬ l[1]? = some (.str q t)
  | [], _, _, _ => by simp
  | .int _ _ :: .int _ _ :: _ :: _, _, _, _ => by simp
/-- the lambda made: it and its code tracked -/
theorem mk_lamC {cd P : Addr} {qual : Str} {params : Arguments} {body : Expr} {scope : Scope} {pos : Pos} {clos : List (Str × Addr)} {Q : Value → Shared → Prop} (I : Inv X pins σ H s) (hcode : X.env.code = .ref cd) (C : CodeHd X.base cd P) (B : BltIn X.base X.mg) (t : TabS H P pos qual)
    (hcl : closureFor scope X.env = pure clos)
    (h : ∀ f c' pm ctv s' H', Inv X pins σ H' s' → SxP P H H' → TabS H' P pos qual → (∀ pos2 q2, ¬ (pos.line = pos2.line ∧ pos.col = pos2.col) → TabS H P pos2 q2 → TabS H' P pos2 q2) → H f = none → H' f = some (.ext (objφ f (kla_obj "<lambda>" qual params body scope clos pm c' ctv))) → H' c' = some (.ext (codφ c' qual)) → Q (.ref f) s') :
    wpAny (model X.prog X.w) X.A (makeFunction "<lambda>" qual params (.expr body) scope X.env [] [] [] pos pos.line) Q X.xe s := by
  obtain ⟨ps, hP, tr, hc⟩ := t
  have eP : s.heap.get? P = some (tabObj ps) := ext_ok (I.hok P _ hP)
  have nB : ∀ b o, X.base.get? b = some o → b ≠ P := fun b o e z => by
    have := (I.bs b o e).2
    rw [z, hP] at this
    cases this
  have hgs := I.mod.glob.keeps I.bk
  have gP : mainGlobals ≠ P := by
    obtain ⟨o, _, _, e, _⟩ := I.mod.glob
    exact nB _ o e
  have BA : s.heap.BuiltinsAt X.mg P := by
    obtain ⟨bm, o, b1, b2, b3, b4, b5, b6, b7⟩ := B.ex
    exact ⟨bm, o, b1, b2, b3, nB bm o b4, I.bk _ _ b4, b5, b6, b7⟩
  have nL : ∀ b u, H b = some u → b ≠ X.env.locals := fun b u e z => by
    have := I.free
    rw [← z, e] at this
    cases this
  have lay : ∀ (h' : Heap) (tk : Tok) (H1 : Hp) (pm : Value) (c' : Addr) (ctv : Value), Inv X pins σ H1 { s with heap := h', toks := tk } →
      Inv X pins σ (upd H1 h'.objs.size (.ext (objφ h'.objs.size (kla_obj "<lambda>" qual params body scope clos pm c' ctv)))) { s with heap := h'.push (kla_obj "<lambda>" qual params body scope clos pm c' ctv), toks := tk } := fun h' tk H1 pm c' ctv I1 =>
    I1.laid (a := h'.objs.size) (t' := tk) (fun b o e => Heap.get?_push_of_some _ e) (Nat.le_refl _) ⟨Heap.get?_push_size _ rfl, ⟨_, Heap.get?_push_size _ rfl⟩, fun h1 h2 x1 k2 => k2 _ x1⟩
  rcases hc with hc | ⟨c', hc, hc'⟩
  · refine kla_makeFunction (mg := X.mg) hcl I.ok.glob hgs hcode (C.keeps I.bk) eP tr hc gP BA fun c' ctv h' tk hx hge hlt hrec htb => ?_
    have nc : ∀ b o, s.heap.get? b = some o → b ≠ c' := fun b o e z => absurd (Nat.lt_of_lt_of_le (Heap.lt_size e) (z ▸ hge)) (Nat.lt_irrefl _)
    have Hc : H c' = none := I.hok.fresh hge
    have ncP : c' ≠ P := fun z => nc P _ eP z.symm
    have lt := I.lt
    have up : ∀ b u, b ≠ P → H b = some u → upd (upd H P (.ext (tabφ P (ps ++ #[rawInt pos.line, rawInt pos.col, .ref c'])))) c' (.ext (codφ c' qual)) b = some u := fun b u hb e => by
      have : b ≠ c' := fun z => by rw [z, Hc] at e; cases e
      rw [upd_ne this, upd_ne hb]
      exact e
    have nPt : ∀ b u, H b = some u → (∀ φ, u ≠ .ext φ) → b ≠ P := fun b u e ne z => by
      rw [z, hP] at e
      cases e
      exact ne _ rfl
    have I1 : Inv X pins σ (upd (upd H P (.ext (tabφ P (ps ++ #[rawInt pos.line, rawInt pos.col, .ref c'])))) c' (.ext (codφ c' qual))) { s with heap := h', toks := tk } := by
      refine I.step (g' := s.gens) (d' := s.drawn) (t' := tk) (ch := []) (fun b hb => nomatch hb) (fun b o hL _ _ e n => hx b o (fun z => by rw [z, hP] at n; cases n) e) (fun b o hL _ _ e n => ⟨o.slots, hx b o (fun z => by rw [z, hP] at n; cases n) e⟩)
        (fun b o _ e n => ?_) (fun b o _ e => ?_) (fun b xs e => up b _ (nPt b _ e fun φ z => by cases z) e) (fun b o u e => up b _ (nPt b _ e fun φ z => by cases z) e) (fun b ps e => ⟨#[], by rw [up b _ (nPt b _ e fun φ z => by cases z) e]; simp⟩) (fun m hm => hm.at fun o e => hx _ o (fun z => nL P _ hP z.symm) e) (fun b u e => ?_) I.bare
      · rw [upd_ne (nc b o e), upd_ne (fun z => by rw [z, hP] at n; cases n)]
        exact n
      · by_cases hb : b = P
        · subst hb
          exact ⟨_, htb⟩
        · exact ⟨o, hx b o hb e⟩
      · by_cases hb : b = c'
        · subst hb
          rw [upd_same] at e
          cases e
          obtain ⟨c2, oc, vs2, t2, e2, g2, d2⟩ := id hrec
          cases e2
          refine ⟨hrec, ⟨oc, g2⟩, fun h1 h2 x1 k2 => ?_⟩
          obtain ⟨c3, oc3, vs3, t3, e3, g3, d3⟩ := x1
          cases e3
          exact ⟨_, oc3, vs3, t3, rfl, k2 _ g3, d3⟩
        · by_cases hbP : b = P
          · subst hbP
            rw [upd_ne hb, upd_same] at e
            cases e
            exact ⟨htb, ⟨_, htb⟩, fun h1 h2 x1 k2 => k2 _ x1⟩
          · rw [upd_ne hb, upd_ne hbP] at e
            refine (I.hok b u e).stay (fun c v hc qc => hx c v ?_ qc) (fun c qc => up c _ (nPt c _ qc fun φ z => by cases z) qc) fun c xs qc => up c _ (nPt c _ qc fun φ z => by cases z) qc
            rcases hc with z | z
            · rw [z]; exact hbP
            · exact nPt c _ z fun φ z => by cases z
    have fne : ∀ b, b < h'.objs.size → b ≠ h'.objs.size := fun b hb => Nat.ne_of_lt hb
    have Plt : P < h'.objs.size := Heap.lt_size htb
    refine h h'.objs.size c' _ ctv _ _ (lay h' tk _ _ c' ctv I1) (fun b o hb e => ?_) ?_ (fun pos2 q2 hne ⟨ps2, hP2, tr2, hc2⟩ => ?_) ?_ upd_same ?_
    · have lb := I.hok.lt e
      rw [upd_ne (Nat.ne_of_lt (Nat.lt_of_lt_of_le lb (Nat.le_trans hge (Nat.le_of_lt hlt))))]
      exact up b o hb e
    · refine ⟨_, by rw [upd_ne (fne _ Plt), upd_ne (Ne.symm ncP), upd_same], ?_, .inr ⟨c', ?_, by rw [upd_ne (fne _ hlt), upd_same]⟩⟩
      · rw [Array.toList_append]
        exact triples_snoc tr
      · rw [Array.toList_append]
        exact codeAmong_snoc _ tr hc
    · have eP2 : s.heap.get? P = some (tabObj ps2) := ext_ok (I.hok P _ hP2)
      obtain rfl : ps2 = ps := by
        rw [eP] at eP2
        injection eP2 with z
        injection z with _ _ z
        injection z with z
        exact z.symm
      refine ⟨_, by rw [upd_ne (fne _ Plt), upd_ne (Ne.symm ncP), upd_same], ?_, ?_⟩
      · rw [Array.toList_append]
        exact triples_snoc tr
      · rw [Array.toList_append]
        have e2 := codeAmong_snoc_ne (c := .ref c') hne ps2.toList tr
        rcases hc2 with z | ⟨c2, z1, z2⟩
        · exact .inl (e2.trans z)
        · refine .inr ⟨c2, e2.trans z1, ?_⟩
          have lb := I.hok.lt z2
          have n1 : c2 ≠ h'.objs.size := Nat.ne_of_lt (Nat.lt_of_lt_of_le lb (Nat.le_trans hge (Nat.le_of_lt hlt)))
          have n2 : c2 ≠ c' := Nat.ne_of_lt (Nat.lt_of_lt_of_le lb hge)
          by_cases z3 : c2 = P
          · exfalso
            obtain ⟨_, oc, vs2, t2, e3, g2, d2⟩ := id (ext_ok (I.hok c2 _ z2) : s.heap.CodeRec (.ref c2) q2)
            cases e3
            rw [z3, eP] at g2
            cases g2
            obtain ⟨d2, d3⟩ := d2
            have d4 : Data.fields ps2 = Data.fields vs2 := d2
            injection d4 with d4
            subst d4
            exact triple_1 tr (by rw [Array.getElem?_toList]; exact d3)
          · rw [upd_ne n1]
            exact up c2 _ z3 z2
    · exact I.hok.fresh (Nat.le_trans hge (Nat.le_of_lt hlt))
    · rw [upd_ne (fne _ hlt), upd_same]
  · refine kla_makeFunctionHit (mg := X.mg) hcl I.ok.glob hgs hcode (C.keeps I.bk) eP tr hc BA fun ctv h' tk hk hsz => ?_
    have I1 : Inv X pins σ H { s with heap := h', toks := tk } := I.kept hk
    have ne : ∀ b u, H b = some u → b ≠ h'.objs.size := fun b u e => Nat.ne_of_lt (Nat.lt_of_lt_of_le (I.hok.lt e) hsz)
    refine h h'.objs.size c' _ ctv _ _ (lay h' tk _ _ c' ctv I1) (fun b o hb e => by rw [upd_ne (ne b o e)]; exact e) ⟨ps, by rw [upd_ne (ne _ _ hP)]; exact hP, tr, .inr ⟨c', hc, by rw [upd_ne (ne _ _ hc')]; exact hc'⟩⟩ (fun pos2 q2 _ ⟨ps2, hP2, tr2, hc2⟩ => ⟨ps2, by rw [upd_ne (ne _ _ hP2)]; exact hP2, tr2, hc2.imp id fun ⟨c2, a1, a2⟩ => ⟨c2, a1, by rw [upd_ne (ne _ _ a2)]; exact a2⟩⟩) (I.hok.fresh hsz) upd_same (by rw [upd_ne (ne _ _ hc')]; exact hc')
end
end L2
set_option maxHeartbeats 1000000
namespace L2
open PySem PySem.Spec PySem.Calls PySem.W PyProof.Rows
section
variable {X : Cx} {y : Str} {c : Addr}
end
/-- a def whose code object is told -/
theorem okC {P : Program} {w : World} {K : PySem.W.Frag} {mg : Str → Option Value} {base : Heap} {x qual : Str} {st : Stmt} {f : Addr} {fd : FuncData} {N ps : List Str} {k : Nat} {sp : Sp} (F : Fun K x qual st f fd) (S : FnScope N ps (defScope st)) (len : ∀ vs H Q E, sp vs H Q E → vs.length = ps.length)
    (hbody : ∀ (cdv : Value) (A : Around) (outer : List Env) (s : Shared) (H : Hp) (vs : List V) (Q : VK) (E : XK), cdv = fd.code → Room k (A.deeper (PyProof.Rows.envOfC qual (defScope st) s.heap.objs.size f cdv)) → sp vs H Q E →
      ∃ t, PSs (cxOf CX0 P w K mg base N qual (defScope st) f cdv A outer s H E).nox (defBody st) t ∧ t { nx := fun _ H' => Q .non H', rt := Q } (start N vs) H) : FnOk P w K mg base CX0 (k + 1) f fd ps sp := by
  obtain ⟨oc, od, kV, doc, pm, an, cdv, ct, osl, rfl, lk, hcd⟩ := F.ex
  refine fn_of lk hcd S len fun A outer s H vs Q E hr hsp => ?_
  obtain ⟨t, h, q⟩ := hbody cdv A outer s H vs Q E rfl hr hsp
  exact ⟨t, h.nox, q⟩
end L2
set_option maxHeartbeats 1000000
/-! ### a lambda x: g(d[x]), d a name of the frame that made it, g a def, called by a local name -/
namespace L2
open PySem PySem.Spec PySem.Calls PySem.W PyProof.Rows
section
variable {X : Cx} {pins : List (Addr × Obj)} {σ : St} {H : Hp} {s : Shared} {E : Value → Shared → Prop}
/-- frames that stand above ours (lambdas'), with their records -/
abbrev Fs := List (Env × Addr × Obj)
structure FsOk (X : Cx) (pins : List (Addr × Obj)) (es : Fs) : Prop where
  kd : ∀ t ∈ es, t.1.scope.kind ≠ .module
  fr : ∀ t ∈ es, t.1.frame = some t.2.1
  ge : ∀ t ∈ es, X.s₀.heap.objs.size ≤ t.2.1
  lo : ∀ t ∈ es, t.2.1 ≠ X.env.locals
  cl : ∀ t ∈ es, ∀ x c, X.env.cells.lookup x = some c → c ≠ t.2.1
  pn : ∀ t ∈ es, ∀ p ∈ X.pn ++ pins, p.1 ≠ t.2.1
  nf : ∀ t ∈ es, ∀ vs, t.2.2.data ≠ .fields vs
theorem FsOk.more {X : Cx} {pins : List (Addr × Obj)} {es : Fs} {env : Env} {L : Addr} {oL : Obj} (h : FsOk X pins es) (kd : env.scope.kind ≠ .module) (fr : env.frame = some L) (ge : X.s₀.heap.objs.size ≤ L) (lo : L ≠ X.env.locals) (cl : ∀ x c, X.env.cells.lookup x = some c → c ≠ L)
    (pn : ∀ p ∈ X.pn ++ pins, p.1 ≠ L) (nf : ∀ vs, oL.data ≠ .fields vs) : FsOk X pins ((env, L, oL) :: es) :=
  ⟨fun t ht => (List.mem_cons.mp ht).elim (fun e => e ▸ kd) (h.kd t), fun t ht => (List.mem_cons.mp ht).elim (fun e => e ▸ fr) (h.fr t), fun t ht => (List.mem_cons.mp ht).elim (fun e => e ▸ ge) (h.ge t), fun t ht => (List.mem_cons.mp ht).elim (fun e => e ▸ lo) (h.lo t),
    fun t ht => (List.mem_cons.mp ht).elim (fun e => e ▸ cl) (h.cl t), fun t ht => (List.mem_cons.mp ht).elim (fun e => e ▸ pn) (h.pn t), fun t ht => (List.mem_cons.mp ht).elim (fun e => e ▸ nf) (h.nf t)⟩
theorem FsOk.nil {X : Cx} {pins : List (Addr × Obj)} : FsOk X pins [] := by constructor <;> intro t ht <;> cases ht
theorem frs_es (X : Cx) : ∀ (es : Fs), (∀ t ∈ es, t.1.frame = some t.2.1) → ∀ b, b ∈ frs (es.map (·.1) ++ X.stack) ↔ b ∈ es.map (·.2.1) ∨ b ∈ frs X.stack
  | [], _, b => by simp
  | t :: r, h, b => by
    have ih := frs_es X r (fun u hu => h u (List.mem_cons_of_mem _ hu)) b
    unfold frs at ih ⊢
    rw [List.map_cons, List.cons_append, List.filterMap_cons, h t List.mem_cons_self, List.map_cons]
    show b ∈ t.2.1 :: _ ↔ _
    rw [List.mem_cons, List.mem_cons, ih, or_assoc]
theorem fun_es {X : Cx} {pins : List (Addr × Obj)} {σ : St} {H : Hp} {s : Shared} (I : Inv X pins σ H s) : ∀ (es : Fs), FsOk X [] es → (∀ t ∈ es, s.heap.get? t.2.1 = some t.2.2) → s.heap.FunFrames X.base (es.map (·.1) ++ X.stack)
  | [], _, _ => I.stack
  | t :: r, h, g => ⟨h.kd t List.mem_cons_self, ⟨t.2.1, t.2.2, h.fr t List.mem_cons_self, Heap.get?_none_of_le (Nat.le_trans I.ok.bsz (h.ge t List.mem_cons_self)), g t List.mem_cons_self, h.nf t List.mem_cons_self⟩,
    fun_es I r ⟨fun u hu => h.kd u (List.mem_cons_of_mem _ hu), fun u hu => h.fr u (List.mem_cons_of_mem _ hu), fun u hu => h.ge u (List.mem_cons_of_mem _ hu), fun u hu => h.lo u (List.mem_cons_of_mem _ hu), fun u hu => h.cl u (List.mem_cons_of_mem _ hu), fun u hu => h.pn u (List.mem_cons_of_mem _ hu), fun u hu => h.nf u (List.mem_cons_of_mem _ hu)⟩ fun u hu => g u (List.mem_cons_of_mem _ hu)⟩
/-- a def called out of frames that stand above ours -/
theorem run_under {k : Nat} {f : Addr} {fd : FuncData} {ps : List Str} {sp : Sp} {cc : Bool} {Q : VK} {us : List Value} {vs : List V} (F : FnOk X.prog X.w X.K X.mg X.base CX0 k f fd ps sp cc) (hb : Binds X.K fd ps []) {es : Fs} {A : Around} (hA : A.frames = some (es.map (·.1) ++ X.stack))
    (I : Inv X (pins ++ es.map (·.2)) σ H s) (fo : FsOk X pins es) (hr : Room k A cc) (r : Vals vs us) (h : sp vs H Q E0) : wpAny (model X.prog X.w) A (call (.ref f) us) (EP X pins σ Q) E s := by
  have pin : ∀ t ∈ es, s.heap.get? t.2.1 = some t.2.2 ∧ H t.2.1 = none := fun t ht => by
    obtain ⟨p1, p2, _⟩ := I.pin t.2 (List.mem_append_right _ (List.mem_append_right _ (List.mem_map_of_mem ht)))
    exact ⟨p1, p2⟩
  have hl : (us ++ []).length = ps.length := by rw [List.append_nil, ← r.length]; exact F.len _ _ _ _ h
  have e0 : Env0 X.prog X.w X.K X.mg X.base A (es.map (·.1) ++ X.stack) s H := by
    refine ⟨hA, I.ok.mod, I.bs, Nat.le_trans I.ok.bsz I.sz, fun_es I es ⟨fo.kd, fo.fr, fo.ge, fo.lo, fo.cl, fun t ht p hp => fo.pn t ht p (by rw [List.append_nil] at hp; exact List.mem_append_left _ hp), fo.nf⟩ fun t ht => (pin t ht).1, fun b hb => ?_, I.hok, I.bare⟩
    rcases (frs_es X es fo.fr b).mp hb with hb | hb
    · obtain ⟨t, ht, rfl⟩ := List.mem_map.mp hb
      exact (pin t ht).2
    · exact I.stkFree b hb
  have hb' := hb s us I.kIn hl
  rw [List.append_nil] at hb'
  refine wpAny_call (codeAny_mono (F.run A (es.map (·.1) ++ X.stack) s H ⟨us, []⟩ us vs Q E0 hr e0 hb' r h) fun r s' hq => ?_)
  cases r with
  | error e => exact False.elim hq
  | ok fl =>
    cases fl with
    | ret u =>
      obtain ⟨v, H', os, bare, un, hok, rv, q⟩ := hq
      obtain ⟨hh, g, d, t, os'⟩ := s'
      obtain rfl : os' = s.os := os
      have J : Inv X pins σ H s := I.unpinned
      refine ⟨v, H', J.call (h' := hh) (g' := g) (d' := d) (t' := t) (ch := es.map (·.2.1)) ⟨fun b o e n hb hx => ?_, fun b o e n hb hx => ?_, fun b o e n hx => un.free b o e n (by simp), fun b o e hx => un.there b o e (by simp), un.tups, un.frzs, un.tbls⟩ hok bare (fun b z => ?_), rv, q⟩
      · exact un.keep b o e n (fun z => ((frs_es X es fo.fr b).mp z).elim hx hb) (by simp)
      · exact un.slot b o e n ((frs_es X es fo.fr b).mpr (.inr hb)) (by simp)
      · obtain ⟨t, ht, rfl⟩ := List.mem_map.mp z
        exact ⟨.inr (fo.ge t ht), fo.lo t ht, fo.cl t ht, fo.pn t ht⟩
    | next => exact False.elim hq
    | brk => exact False.elim hq
    | cont => exact False.elim hq
end
/-- what is written of it -/
structure LkT where
  qual : Str
  params : Arguments
  x : Str
  y : Str
  g : Str
  p0 : Pos
  p1 : Pos
  p2 : Pos
  p3 : Pos
  p4 : Pos
  scope : Scope
def LkT.arg (t : LkT) : Expr := .Subscript (.Name t.y t.p1) (.Name t.x t.p2) t.p3
def LkT.body (t : LkT) : Expr := .Call (.Name t.g t.p0) [t.arg] [] t.p4
structure LkT.Ok (t : LkT) : Prop where
  sc : LamSc t.scope t.x
  hx : ∀ L a cd c, (envX t.qual t.scope L a cd [(t.y, c)]).kindOf t.x = some .local
  hy : ∀ L a cd c, (envX t.qual t.scope L a cd [(t.y, c)]).kindOf t.y = some .free
  hg : ∀ L a cd c, (envX t.qual t.scope L a cd [(t.y, c)]).kindOf t.g = some .globalImplicit
  bind : ∀ u pm c' ctv c, bindArgs (kla_fn "<lambda>" t.qual t.params t.body t.scope [(t.y, c)] pm (.ref c') ctv) ⟨[u], []⟩ = pure [(t.x, u)]
  dx : (t.x == ("__debug__" : Str)) = false
  dy : (t.y == ("__debug__" : Str)) = false
  dg : (t.g == ("__debug__" : Str)) = false
  cy : (t.y == ("__classdict__" : Str)) = false
  sl : NoSl (.Name t.x t.p2)
/-- f hands d's values to the def G -/
def LooksOf (G : Str) (H : Hp) (f d : Addr) : Prop := ∃ (t : LkT) (c : Addr) (pm : Value) (c' : Addr) (ctv : Value) (oc : Obj), t.Ok ∧ t.g = G ∧
  H f = some (.ext (objφ f (kla_obj "<lambda>" t.qual t.params t.body t.scope [(t.y, c)] pm c' ctv))) ∧ H c' = some (.ext (codφ c' t.qual)) ∧ H c = some (.ext (objφ c oc)) ∧ oc.data = .cell (some (.ref d))
section
variable {X : Cx} {pins : List (Addr × Obj)} {σ : St} {H : Hp} {s : Shared} {E : Value → Shared → Prop}
theorem lam_look {k : Nat} {fk : Addr} {fd : FuncData} {ps : List Str} {sp : Sp} {cc : Bool} {G : Str} {f d : Addr} {u : Value} {y v : V} {Q : VK} {es : Fs} {A : Around} (F : FnOk X.prog X.w X.K X.mg X.base CX0 k fk fd ps sp cc) (hb : Binds X.K fd ps []) (hm : X.mg G = some (.ref fk)) (hk : PySem.W.keepIn X.K (.ref fk) = true)
    (hA : A.frames = some (es.map (·.1) ++ X.stack)) (I : Inv X (pins ++ es.map (·.2)) σ H s) (fo : FsOk X pins es) (hr : Room (k + 1) A cc) (g : LooksOf G H f d) (dg : DGet H d y (some v)) (ry : RelV y u) (h : sp [v] H Q E0) : wpAny (model X.prog X.w) A (call (.ref f) [u]) (EP X pins σ Q) E s := by
  obtain ⟨t, c, pm, c', ctv, oc, ok, rfl, h2, h3, h4, h5⟩ := g
  have ef : s.heap.get? f = some _ := ext_ok (I.hok f _ h2)
  have ec : s.heap.get? c = some oc := ext_ok (I.hok c _ h4)
  have er : s.heap.CodeRec (.ref c') t.qual := ext_ok (I.hok c' _ h3)
  refine wpAny_call ?_
  refine kla_callFunE (by have := hr.dp; omega) ef rfl ok.sc.co ok.sc.gen rfl er ?_
  rw [ok.bind]
  refine wpAny_pure (wpAny_newFunctionEnv ok.sc.nocell (fun y hy => by
    obtain rfl : y = (t.x, u) := by simpa using hy
    exact ok.sc.loc) (fun h₁ hns hsb => ⟨I.nolimit.fresh _ hsb, ?_⟩) ok.sc.fn)
  show codeAny _ _ (.expr t.body (envX t.qual t.scope s.heap.objs.size f (.ref c') [(t.y, c)])) _ _
  have hk₁ : ∀ b o, s.heap.get? b = some o → h₁.get? b = some o := fun b o e => hsb.extBut b o (Nat.ne_of_lt (Heap.lt_size e)) (Heap.get?_push_of_some _ e)
  refine kla_codeExpr ?_
  have I1 : Inv X (pins ++ es.map (·.2)) σ H { s with heap := h₁, toks := s.toks + 1 } := I.kept hk₁
  obtain ⟨oL, en, ep, ho, hd, hrest⟩ := id hns
  have lt : ∀ b o, s.heap.get? b = some o → b ≠ s.heap.objs.size := fun b o e => Nat.ne_of_lt (Heap.lt_size e)
  have I2 : Inv X (pins ++ ((envX t.qual t.scope s.heap.objs.size f (.ref c') [(t.y, c)], s.heap.objs.size, oL) :: es).map (·.2)) σ H { s with heap := h₁, toks := s.toks + 1 } := by
    refine I1.pins_of fun p hp => ?_
    rcases List.mem_append.mp hp with hp | hp
    · exact I1.pin p (List.mem_append_right _ (List.mem_append_left _ hp))
    · rcases List.mem_cons.mp hp with rfl | hp
      · exact ⟨ho, I.hok.fresh (Nat.le_refl _), Nat.ne_of_gt I.lt, I.nofs (Nat.le_refl _), fun v z => by rw [hd] at z; cases z⟩
      · exact I1.pin p (List.mem_append_right _ (List.mem_append_right _ hp))
  refine wpAny_Call_Name_kw (Calls.Name_function_global ok.sc.fn (ok.hg _ _ _ _) (Calls.loadGlobal_global (by exact I1.mod.glob.keeps I1.bk) hm ?_) ok.dg)
  refine PySem.W.callWith_K (h₀ := X.base) I1.ok.mod.kin hk ?_ rfl rfl
  refine Calls.spliced_cons ?_
  refine subD_of PySem.F.slot_dict_getitem.lookup ok.sl ?_
  refine wpAny_Name (wpAny_loadName_free (v := .ref d) ok.sc.fn (ok.hy _ _ _ _) (by show (((t.y, c) :: []).lookup t.y) = some c; simp) ⟨oc, hk₁ _ _ ec, h5⟩ ?_ ok.cy) ok.dy
  refine wpAny_Name (wpAny_loadName_local (v := u) ok.sc.fn (ok.hx _ _ _ _) hns (by simp) ?_) ok.dx
  refine ⟨dict_typeIs I2 dg, d_getItem (by have := hr.un; show A.units + 3 + 1 < cLine; omega) I2 dg ry fun w' s' I' r' => Calls.spliced_nil ⟨I'.kIn, ?_⟩⟩
  refine run_under (es := (envX t.qual t.scope s.heap.objs.size f (.ref c') [(t.y, c)], s.heap.objs.size, oL) :: es) F hb ?_ I' (fo.more (by show t.scope.kind ≠ _; rw [ok.sc.fn]; decide) rfl I.sz (Nat.ne_of_gt I.lt) (fun x c hc => by
    obtain ⟨v, o, ho, _⟩ := I.cell x c hc
    exact lt _ _ ho) (fun p hp => lt _ _ (I.pin p (by rcases List.mem_append.mp hp with hp | hp; exact List.mem_append_left _ hp; exact List.mem_append_right _ (List.mem_append_left _ hp))).1) (fun vs z => by rw [hd] at z; cases z)) (hr.deeper _) (.cons r' .nil) h
  show A.frames.map _ = _
  rw [hA]; rfl
end
section
variable {X : Cx} {e : Expr} {te : TE}
def tLook (G : Str) (sp : Sp) (i : Nat) (te : TE) : TE := fun σ H Q => ∃ f, σ[i]? = some (some (.ref f)) ∧ (∃ d, LooksOf G H f d) ∧ te σ H fun y H1 => ∃ d v, LooksOf G H1 f d ∧ DGet H1 d y (some v) ∧ sp [v] H1 Q E0
theorem LooksOf.fn {pins : List (Addr × Obj)} {σ : St} {H : Hp} {s : Shared} {f d : Addr} {G : Str} (I : Inv X pins σ H s) (g : LooksOf G H f d) : FnAt f s.heap := by
  obtain ⟨t, c, pm, c', ctv, oc, ok, _, h2, _⟩ := g
  exact ⟨_, _, _, _, ext_ok (I.hok f _ h2)⟩
theorem pe_look {k : Nat} {fk : Addr} {fd : FuncData} {ps : List Str} {sp : Sp} {cc : Bool} {G : Str} {i : Nat} {x : Str} {p pos : Pos} (F : FnOk X.prog X.w X.K X.mg X.base CX0 k fk fd ps sp cc) (hb : Binds X.K fd ps []) (hm : X.mg G = some (.ref fk)) (hk : PySem.W.keepIn X.K (.ref fk) = true) (hr : Room (k + 1) X.A cc) (hv : ∀ {ps : Pos}, PE X (.Name x ps) (tVar i)) (he : PE X e te) (h1 : starEach [e] X.env = [(false, eval e X.env)] := by rfl) :
    PE X (.Call (.Name x p) [e] [] pos) (tLook G sp i te) := by
  intro pins s σ H Q I h
  obtain ⟨f, hf, ⟨d, g⟩, h⟩ := h
  refine wpAny_Call_Name_kw (thn (hv pins s σ H (fun v H' => v = .ref f ∧ H' = H) I ⟨_, hf, rfl, rfl⟩) fun u s1 ⟨v, H1, I1, rv, ev, eH⟩ => ?_)
  subst ev eH
  cases rv
  refine callWith_F (g.fn I1) ?_ h1 rfl
  rw [h1]
  show wpAny (model X.prog X.w) _ (spliced ((false, eval e X.env) :: backTo pos (starEach [] X.env))) _ _ s1
  exact Calls.spliced_cons (thn (he pins s1 σ _ _ I1 h) fun u s2 ⟨y, H2, I2, ry, d2, v, g2, dg, q⟩ => Calls.spliced_nil ⟨g2.fn I2, lam_look (es := []) F hb hm hk I2.ok.frames (by rw [List.map_nil, List.append_nil]; exact I2) .nil hr g2 dg ry q⟩)
end
end L2
set_option maxHeartbeats 1000000
/-! ### a lambda x: look(x).m, look a name of the frame that made it that holds such a lambda, called by a local name -/
namespace L2
open PySem PySem.Spec PySem.Calls PySem.W PyProof.Rows
section
variable {X : Cx} {pins : List (Addr × Obj)} {σ : St} {H : Hp} {s : Shared} {E : Value → Shared → Prop}
end
section
variable {X : Cx} {e : Expr} {te : TE}
end
end L2
set_option maxHeartbeats 1000000
/-! ### such lambdas made -/
namespace L2
open PySem PySem.Spec PySem.Calls PySem.W PyProof.Rows
section
variable {X : Cx} {y : Str} {c : Addr}
def tLamG (P : Addr) (lpos : Pos) (qual : Str) (params : Arguments) (body : Expr) (scope : Scope) (y : Str) (c : Addr) : TE := fun σ H Q => TabS H P lpos qual ∧ ∀ f c' pm ctv H', SxP P H H' → TabS H' P lpos qual → (∀ pos2 q2, ¬ (lpos.line = pos2.line ∧ lpos.col = pos2.col) → TabS H P pos2 q2 → TabS H' P pos2 q2) → H f = none →
  H' f = some (.ext (objφ f (kla_obj "<lambda>" qual params body scope [(y, c)] pm c' ctv))) → H' c' = some (.ext (codφ c' qual)) → Q (.ref f) H'
theorem pe_lamG {cd P : Addr} {lpos : Pos} {qual : Str} {params : Arguments} {body : Expr} {scope : Scope} (hcode : X.env.code = .ref cd) (C : CodeHd X.base cd P) (B : BltIn X.base X.mg) (hqual : X.env.qual ++ Str.ofString "<lambda>" = qual) (hdef : defaultsOf params X.env = ([], []))
    (hcl : closureFor scope X.env = pure [(y, c)]) : PE X (.Lambda params body scope lpos) (tLamG P lpos qual params body scope y c) := by
  intro pins s σ H Q I h
  obtain ⟨tb, h⟩ := h
  refine kla_eval hdef ?_
  have e : X.env.qual ++ Str.ofString "<lambda>" = qual := hqual
  rw [e]
  exact mk_lamC I hcode C B tb hcl fun f c' pm ctv s' H' I' sx tb' ot hf hf' hc' => ⟨.ref f, H', I', rfl, h f c' pm ctv H' sx tb' ot hf hf' hc'⟩
theorem LooksOf.mk {G : Str} {H : Hp} {t : LkT} {f c c' d : Addr} {pm ctv : Value} {oc : Obj} (ok : t.Ok) (eg : t.g = G) (hc : H c = none) (hf : H f = some (.ext (objφ f (kla_obj "<lambda>" t.qual t.params t.body t.scope [(t.y, c)] pm c' ctv)))) (hc' : H c' = some (.ext (codφ c' t.qual))) (dc : oc.data = .cell (some (.ref d))) :
    LooksOf G (upd H c (.ext (objφ c oc))) f d := by
  have ne : ∀ b u, H b = some u → b ≠ c := fun b u e z => by rw [z, hc] at e; cases e
  exact ⟨t, c, pm, c', ctv, oc, ok, eg, by rw [upd_ne (ne _ _ hf)]; exact hf, by rw [upd_ne (ne _ _ hc')]; exact hc', upd_same, dc⟩
end
end L2
namespace L2
open PySem PySem.Spec PyProof.Rows
/-! ### a, b, .. = a list -/
end L2
namespace K43
open PySem L2 PyProof.Rows
def top (i : Nat) : Stmt := PySem.Challenge.pw_clonewood_k43_odd_arguments.main.body.getD i (.Pass ⟨0, 0, 0, 0⟩)
abbrev sNPi : Stmt := inClass (top 4) 0
abbrev sNSi : Stmt := inClass (top 12) 0
abbrev sWho : Stmt := top 17
abbrev sWth : Stmt := top 18
abbrev sWrd : Stmt := top 19
abbrev sNof : Stmt := top 20
abbrev sKIn : Stmt := inClass (top 44) 0
abbrev sDIn : Stmt := inClass (top 47) 0
abbrev sDSt : Stmt := inClass (top 47) 2
abbrev sCll : Stmt := top 48
abbrev sKof : Stmt := top 49
abbrev sNbt : Stmt := top 56
abbrev sNsp : Stmt := top 57
abbrev sNcl : Stmt := top 58
abbrev sEIn : Stmt := inClass (top 60) 0
abbrev sEfo : Stmt := inClass (top 60) 1
abbrev sEdr : Stmt := inClass (top 60) 3
abbrev sEpu : Stmt := inClass (top 60) 4
abbrev sEtr : Stmt := inClass (top 60) 5
abbrev sEho : Stmt := inClass (top 60) 6
abbrev sEsh : Stmt := inClass (top 60) 7
abbrev sEtw : Stmt := inClass (top 60) 8
abbrev sEmo : Stmt := inClass (top 60) 9
abbrev sEli : Stmt := inClass (top 60) 10
abbrev sEvi : Stmt := inClass (top 60) 12
abbrev sEne : Stmt := inClass (top 60) 13
abbrev sEte : Stmt := inClass (top 60) 15
abbrev sCel : Stmt := top 62
abbrev sMix : Stmt := top 63
abbrev sWds : Stmt := top 64
abbrev sOdp : Stmt := top 65
abbrev sPth : Stmt := top 66
abbrev sGpa : Stmt := top 67
abbrev sRow : Stmt := top 68
abbrev sGro : Stmt := top 69
abbrev sNum : Stmt := top 70
abbrev sLwi : Stmt := top 71
abbrev sGsp : Stmt := top 72
abbrev sAsk : Stmt := top 73
abbrev sDue : Stmt := top 74
abbrev sDoo : Stmt := top 75
abbrev sTol : Stmt := top 76
abbrev sKnd : Stmt := top 77
abbrev sSam : Stmt := top 78
abbrev sAli : Stmt := top 79
abbrev sLaw : Stmt := top 80
/-- what the top has of names -/
structure Txt (mg : Str → Option Value) : Prop where
  isi : mg "isinstance" = none
  int : mg "int" = none
  bol : mg "bool" = none
  str : mg "str" = none
  len : mg "len" = none
  rng : mg "range" = none
  tup : mg "tuple" = none
  lst : mg "list" = none
  srt : mg "sorted" = none
  all : mg "all" = none
  zip : mg "zip" = none
  sig : ∃ t, mg "SIGNS" = some (.str sigS t)
  mos : ∃ t, mg "MOST_SIGNS" = some (.int 8 t)
  mon : ∃ t, mg "MOST_NAMES" = some (.int 6 t)
  moc : ∃ t, mg "MOST_CELLS" = some (.int 40 t)
  mol : ∃ t, mg "MOST_CELL" = some (.int 999999 t)
  mot : ∃ t, mg "MOST_LIMIT" = some (.int 999 t)
end K43
set_option maxHeartbeats 4000000
namespace K43
open PySem L2
mutual
def sm : Tr → Bool
  | .str z => decide (z.length ≤ 100)
  | .tup l => decide (l.length ≤ 100) && sms l
  | .lst l => decide (l.length ≤ 100) && sms l
  | _ => true
def sms : List Tr → Bool
  | [] => true
  | t :: ts => sm t && sms ts
end
theorem cut_to (xs : List V) (n : Nat) : cutV xs none (some (n : Int)) = xs.take n := by
  unfold cutV
  rw [HT.sIx_none, HT.sIx_nat, Nat.sub_zero, List.drop_zero, ← List.take_eq_take_min]
section
variable {P : Program} {w : World} {K : PySem.W.Frag} {mg : Str → Option Value} {base : Heap} {f fWho fWth fMix : Addr} {fd dWho dWth dMix : FuncData}
theorem scWho : FnScope ["thing"] ["thing"] (defScope sWho) := ⟨rfl, rfl, rfl, by decide +kernel, rfl, by decide +kernel, by decide +kernel⟩
theorem ok_Who (F : Fun K "is_whole" "is_whole" sWho f fd) (T : Txt mg) : FnOk P w K mg base CX0 1 f fd ["thing"] spWho0 := by
  refine F.ok scWho (fun vs H Q E h => ?_) (fun cdv A outer s H vs Q E hr h => ?_)
  · obtain ⟨x, rfl, _⟩ := h
    rfl
  obtain ⟨x, rfl, hT, q⟩ := h
  obtain ⟨t, ty, k1, k2⟩ := hT.ty (K := K)
  refine ⟨_, (pss_one (ps_ret (pe_and (pe_callB call_isinst rfl T.isi PyProof.Rows.boot_isinstance (pc (pv 0) (pc (pe_bltn (v := .ty "int") rfl T.int PyProof.Rows.boot_int rfl) pa_nil))) (pe_one (pe_not (pe_callB call_isinst rfl T.isi PyProof.Rows.boot_isinstance (pc (pv 0) (pc (pe_bltn (v := .ty "bool") rfl T.bol PyProof.Rows.boot_bool rfl) pa_nil)))))))), ?_⟩
  refine ⟨_, rfl, x, "int", t, isI0 x, rfl, ty, k1, _, rfl, ?_⟩
  unfold who0 at q
  refine ite2 (fun c => ?_) (fun c => ?_)
  · refine ⟨_, rfl, x, "bool", t, isB0 x, rfl, ty, k2, _, rfl, ?_⟩
    rw [c] at q
    exact q
  · rw [Bool.not_eq_true] at c
    rw [c] at q
    exact q
theorem scWth : FnScope ["thing", "low", "high"] ["thing", "low", "high"] (defScope sWth) := ⟨rfl, rfl, rfl, by decide +kernel, rfl, by decide +kernel, by decide +kernel⟩
theorem ok_Wth (F : Fun K "is_within" "is_within" sWth f fd) {fW : Addr} {dW : FuncData} (hWho : Has K mg "is_whole" sWho ["thing"] fW dW) (GWho : FnOk P w K mg base CX0 1 fW dW ["thing"] spWho0) : FnOk P w K mg base CX0 2 f fd ["thing", "low", "high"] spWth0 := by
  refine F.ok scWth (fun vs H Q E h => ?_) (fun cdv A outer s H vs Q E hr h => ?_)
  · obtain ⟨x, l, h, rfl, _⟩ := h
    rfl
  obtain ⟨x, l, h, rfl, hT, q⟩ := h
  refine ⟨_, (pss_one (ps_ret (pe_and (pe_call GWho (hr.mono (by decide)) rfl hWho.nm hWho.fn.kp hWho.bd .nil pass0 (pc (pv 0) pa_nil)) (pe_one (pe_chain op_le op_le (pv 1) (pv 0) (pv 2)))))), ?_⟩
  refine ⟨_, rfl, x, rfl, hT, _, rfl, ?_⟩
  rcases hT with ⟨n, rfl⟩ | ⟨z, rfl⟩ | ⟨b, rfl⟩ | rfl | ⟨a, z, rfl, _⟩ | ⟨a, z, rfl, _⟩ | ⟨a, z, rfl, _⟩
  · refine iteT ?_
    refine ⟨_, rfl, _, rfl, _, _, rfl, rfl, _, rfl, ?_⟩
    have q' : Q (.bl (decide (l ≤ n) && decide (n ≤ h))) H := q
    refine ite2 (fun c => ?_) (fun c => ?_)
    · rw [c] at q'
      exact ⟨_, rfl, _, _, rfl, rfl, q'⟩
    · rw [Bool.not_eq_true] at c
      rw [c] at q'
      exact q'
  all_goals exact iteF q
def spWrd : Sp := fun vs H Q _ => ∃ x t, vs = [x] ∧ At H t x ∧ sm t = true ∧ ∀ H', Same H H' → Q (.bl (wordT t)) H'
theorem scWrd : FnScope ["thing"] ["thing"] (defScope sWrd) := ⟨rfl, rfl, rfl, by decide +kernel, rfl, by decide +kernel, by decide +kernel⟩
theorem ok_Wrd (F : Fun K "is_word" "is_word" sWrd f fd) (T : Txt mg) : FnOk P w K mg base CX0 1 f fd ["thing"] spWrd := by
  refine F.ok scWrd (fun vs H Q E h => ?_) (fun cdv A outer s H vs Q E hr h => ?_)
  · obtain ⟨x, t, rfl, _⟩ := h
    rfl
  obtain ⟨x, t, rfl, hx, hs, q⟩ := h
  obtain ⟨ty, ht, _, k3, _⟩ := hx.ty (K := K)
  obtain ⟨t1, sig⟩ := T.sig
  obtain ⟨t2, mos⟩ := T.mos
  refine ⟨_, (pss_cons (ps_if (PW.pt (pw_or (pt_not (pt_val (pe_callB call_isinst rfl T.isi PyProof.Rows.boot_isinstance (pc (pv 0) (pc (pe_bltn (v := .ty "str") rfl T.str PyProof.Rows.boot_str rfl) pa_nil))))) (pw_or1 (pt_not (pt_chain op_le op_le pe_int (pe_callB call_len_str rfl T.len PySem.boot_len (pc (pv 0) pa_nil)) (pe_glob (v := .int 8) rfl mos ⟨_, rfl⟩))))))
    (pss_one (ps_ret pe_bl))
    pss_nil)
    (pss_one (ps_ret (pe_callB (call_all hr.hd) rfl T.all PyProof.Rows.boot_all (pc (pe_comp1 [] [] (pi_str (pv 0)) (fun _ _ _ _ _ _ => pts_nil)
          (fun _ _ _ _ _ _ => (pe_cmpR op_in_str (pv 0) (pe_glob (v := .str sigS) rfl sig ⟨_, rfl⟩) rfl))
          rfl (by decide +kernel) (by decide +kernel) rfl (by decide +kernel) (fun _ _ z => nomatch z) rfl (by decide +kernel) rfl) pa_nil))))), ?_⟩
  refine ⟨_, rfl, x, "str", ty, isStrT t, rfl, ht, k3, _, rfl, ?_⟩
  cases e : isStrT t with
  | false =>
    have : wordT t = false := by cases t <;> first | rfl | cases e
    rw [this] at q
    exact iteT (iteT (q H (Same.refl H)))
  | true =>
    cases t with
    | str z =>
      have ex : x = .str z := by unfold At at hx; exact hx
      subst ex
      have hz : z.length ≤ 100 := by unfold sm at hs; exact of_decide_eq_true hs
      refine iteF ?_
      refine ⟨_, rfl, z, rfl, Nat.le_of_lt (small (by omega)), _, _, rfl, rfl, _, rfl, ?_⟩
      refine ite2 (fun c => ?_) (fun c => ?_)
      · have c1 : (1 : Int) ≤ (z.length : Int) := of_decide_eq_true c
        refine ⟨_, _, rfl, rfl, _, rfl, ?_⟩
        refine ite2 (fun d => ?_) (fun d => ?_)
        · have d1 : ¬ (z.length : Int) ≤ 8 := fun e => by rw [decide_eq_true e] at d; cases d
          have e : wordT (.str z) = false := isw_len (by omega)
          rw [e] at q
          exact q H (Same.refl H)
        · have d1 : (z.length : Int) ≤ 8 := by
            by_cases e : (z.length : Int) ≤ 8
            · exact e
            · rw [decide_eq_false e] at d; exact absurd rfl d
          refine ⟨_, rfl, z, rfl, fun p hp => comp_by z.length (fun i ys H2 => ys = (z.cps.toList.take i).map (fun c => V.bl (okc c)) ∧ H2 = upd H p (.lst ys)) ⟨rfl, rfl⟩ ?_ ?_⟩
          · rintro i ys H2 hi ⟨rfl, rfl⟩
            refine ⟨hi, ?_⟩
            rintro v H3 ⟨rfl, c', hc', rfl⟩
            refine ttT ?_
            refine ⟨_, rfl, _, _, rfl, rfl, upd_same, ?_, ?_, upd_upd⟩
            · rw [List.length_map, List.length_take, codes_len]
              exact small (by omega)
            · rw [in_sig]
              exact (take_snoc (fun c => V.bl (okc c)) (codes_at hc')).symm
          · rintro ys H2 ⟨rfl, rfl⟩
            have e : (z.cps.toList.take z.length) = z.cps.toList := List.take_of_length_le (by rw [codes_len]; exact Nat.le_refl _)
            refine ⟨Nat.le_refl _, p, z.cps.toList.map okc, rfl, SqL.of ?_, ?_⟩
            · rw [upd_same, e, List.map_map]
              rfl
            · have e2 : wordT (.str z) = (z.cps.toList.map okc).all id := by
                rw [List.all_map]
                exact isw_all (by omega)
              rw [← e2]
              exact q _ (same_new hp _)
      · have c1 : ¬ (1 : Int) ≤ (z.length : Int) := fun e => c (decide_eq_true e)
        have e : wordT (.str z) = false := isw_len (by omega)
        rw [e] at q
        exact ⟨_, rfl, iteT (q H (Same.refl H))⟩
    | _ => cases e
def spCll : Sp := fun vs H Q _ => ∃ x t, vs = [x] ∧ At H t x ∧ Q (.bl (wthT t 0 999999)) H
theorem scCll : FnScope ["thing"] ["thing"] (defScope sCll) := ⟨rfl, rfl, rfl, by decide +kernel, rfl, by decide +kernel, by decide +kernel⟩
theorem ok_Cll (F : Fun K "is_cell" "is_cell" sCll f fd) (hWth : Has K mg "is_within" sWth ["thing", "low", "high"] fWth dWth) (GWth : FnOk P w K mg base CX0 2 fWth dWth ["thing", "low", "high"] spWth0) (T : Txt mg) : FnOk P w K mg base CX0 3 f fd ["thing"] spCll := by
  refine F.ok scCll (fun vs H Q E h => ?_) (fun cdv A outer s H vs Q E hr h => ?_)
  · obtain ⟨x, t, rfl, _⟩ := h
    rfl
  obtain ⟨x, t, rfl, hx, q⟩ := h
  obtain ⟨t1, mol⟩ := T.mol
  refine ⟨_, (pss_one (ps_ret (pe_call GWth (hr.mono (by decide)) rfl hWth.nm hWth.fn.kp hWth.bd .nil pass0 (pc (pv 0) (pc pe_int (pc (pe_glob (v := .int 999999) rfl mol ⟨_, rfl⟩) pa_nil)))))), ?_⟩
  rw [← hx.wth] at q
  exact ⟨_, rfl, x, 0, 999999, rfl, hx.ty0, q⟩
def spCel (K : PySem.W.Frag) : Sp := fun vs H Q _ => ∃ (a : Addr) (ns : List Int) (k : Int), vs = [.ref a, .int k] ∧ 0 ≤ k ∧ SqL K H a (ns.map V.int) ∧ ∀ z : Int, Q (.int z) H
theorem scCel : FnScope ["_law_script", "_law_k"] ["_law_script", "_law_k"] (defScope sCel) := ⟨rfl, rfl, rfl, by decide +kernel, rfl, by decide +kernel, by decide +kernel⟩
theorem ok_Cel (F : Fun K "_law_at" "_law_at" sCel f fd) (T : Txt mg) : FnOk P w K mg base CX0 1 f fd ["_law_script", "_law_k"] (spCel K) := by
  refine F.ok scCel (fun vs H Q E h => ?_) (fun cdv A outer s H vs Q E hr h => ?_)
  · obtain ⟨a, ns, k, rfl, _⟩ := h
    rfl
  obtain ⟨a, ns, k, rfl, h0, hS, q⟩ := h
  refine ⟨_, (pss_cons (ps_if (pt_cmpR op_lt (pv 1) (pe_callB call_len_seq rfl T.len PySem.boot_len (pc (pv 0) pa_nil)) (nomark _))
    (pss_one (ps_ret (pe_ix ix_list (pv 0) (pv 1) (fun _ _ => rfl))))
    pss_nil)
    (pss_one (ps_ret pe_int))), ?_⟩
  refine ⟨_, rfl, _, rfl, a, _, rfl, .inl hS, _, _, rfl, rfl, _, rfl, ?_⟩
  refine ite2 (fun c => ?_) (fun c => ?_)
  · have c' : k < (((ns.map V.int).length : Nat) : Int) := of_decide_eq_true c
    rw [List.length_map] at c'
    obtain ⟨j, rfl⟩ := Int.eq_ofNat_of_zero_le h0
    have hk : j < ns.length := by omega
    exact ⟨_, rfl, _, rfl, a, _, _, .int ns[j], rfl, rfl, hS, atI_nat (by simp [hk]), q _⟩
  · exact q 0
def itr : Nat → Int → Int
  | 0, z => z
  | n + 1, z => itr n z / 1000003
def mixP (c k : Int) : Int := if c % 2 = 1 ∧ 2147483647 < c then itr k.toNat (c / 2) % 1000003 else
  let n := (c % 1000003 + 31 * k + 7) * (c % 65537 + 7919 * k + 11) % 2147483629
  n * n % 2147483587
def spMix : Sp := fun vs H Q _ => ∃ (c k : Int), vs = [.int c, .int k] ∧ 0 ≤ k ∧ k ≤ 1000 ∧ (0 ≤ mixP c k → Q (.int (mixP c k)) H)
theorem scMix : FnScope ["_law_cell", "_law_k", "_law_rest", "_law_j", "_law_number_here"] ["_law_cell", "_law_k"] (defScope sMix) := ⟨rfl, rfl, rfl, by decide +kernel, rfl, by decide +kernel, by decide +kernel⟩
theorem ok_Mix (F : Fun K "_law_mix" "_law_mix" sMix f fd) (T : Txt mg) : FnOk P w K mg base CX0 1 f fd ["_law_cell", "_law_k"] spMix := by
  refine F.ok scMix (fun vs H Q E h => ?_) (fun cdv A outer s H vs Q E hr h => ?_)
  · obtain ⟨c, k, rfl, _⟩ := h
    rfl
  obtain ⟨c, k, rfl, k0, k1, q⟩ := h
  refine ⟨_, (pss_cons (ps_if (PW.pt (pw_and (pt_cmpR op_eq (pe_op op_mod (pv 0) pe_int) pe_int (nomark _)) (pw_and1 (pt_cmpR op_gt (pv 0) pe_int (nomark _)))))
    (pss_cons (ps_set (i := 2) scMix.nd rfl (Or.inl rfl) (pe_op op_fdiv (pv 0) pe_int))
    (pss_cons (ps_for PassesOwn.never rfl (pi_range1 rfl T.rng (pc (pv 1) pa_nil)) (pg_name (i := 3) scMix.nd rfl (Or.inl rfl))
    (pss_one (ps_set (i := 2) scMix.nd rfl (Or.inl rfl) (pe_op op_fdiv (pv 2) pe_int))))
    (pss_one (ps_ret (pe_op op_mod (pv 2) pe_int)))))
    pss_nil)
    (pss_cons (ps_set (i := 4) scMix.nd rfl (Or.inl rfl) (pe_op op_mod (pe_op op_mul (pe_op op_add (pe_op op_add (pe_op op_mod (pv 0) pe_int) (pe_op op_mul pe_int (pv 1))) pe_int) (pe_op op_add (pe_op op_add (pe_op op_mod (pv 0) pe_int) (pe_op op_mul pe_int (pv 1))) pe_int)) pe_int))
    (pss_one (ps_ret (pe_op op_mod (pe_op op_mul (pv 4) (pv 4)) pe_int))))), ?_⟩
  refine ⟨_, rfl, _, _, rfl, rfl, (by show (0 : Int) < 2; decide), rfl, _, rfl, ite2 (fun c1 => ?A) (fun c1 => iteF ?B1)⟩
  case' A =>
    have d1 : c % 2 = 1 := by have := of_decide_eq_true c1; injection this
    refine ⟨_, rfl, _, _, rfl, rfl, _, rfl, ite2 (fun c2 => ?C) (fun c2 => ?B2)⟩
  case C =>
    have d2 : 2147483647 < c := of_decide_eq_true c2
    have em : mixP c k = itr k.toNat (c / 2) % 1000003 := if_pos ⟨d1, d2⟩
    rw [em] at q
    refine ⟨_, rfl, _, _, rfl, rfl, ⟨by decide, by decide⟩, ?_⟩
    refine ⟨_, rfl, k, rfl, by omega, by omega, ?_⟩
    refine for_range (lo := 0) (n := k.toNat) (fun j σ H2 => ∃ (o : Option V), σ = [some (.int c), some (.int k), some (.int (itr j (c / 2))), o, none] ∧ H2 = H) ⟨_, rfl, rfl⟩ ?_ ?_
    · rintro j σ H2 hj ⟨o, rfl, rfl⟩
      exact ⟨_, rfl, _, _, rfl, rfl, ⟨by decide, by decide⟩, _, rfl, rfl⟩
    · rintro σ H2 ⟨o, rfl, rfl⟩
      exact ⟨_, rfl, _, _, rfl, rfl, (by show (0 : Int) < 1000003; decide), q (by omega)⟩
  case B1 | B2 =>
    have em : mixP c k = ((c % 1000003 + 31 * k + 7) * (c % 65537 + 7919 * k + 11) % 2147483629) * ((c % 1000003 + 31 * k + 7) * (c % 65537 + 7919 * k + 11) % 2147483629) % 2147483587 := by
      refine if_neg fun h => ?_
      first | exact c1 (decide_eq_true (by show V.int (c % 2) = V.int 1; rw [h.1])) | exact c2 (decide_eq_true h.2)
    rw [em] at q
    refine ⟨_, rfl, _, _, rfl, rfl, (by show (0 : Int) < 1000003; decide), _, rfl, _, _, rfl, rfl, .inl ⟨by decide, by decide⟩, _, _, rfl, rfl, _, _, rfl, rfl, _, rfl, _, _, rfl, rfl, (by show (0 : Int) < 65537; decide), _, rfl, _, _, rfl, rfl, .inl ⟨by decide, by decide⟩, _, _, rfl, rfl, _, _, rfl, rfl, _, _, rfl, rfl, .inl ⟨by omega, by omega⟩, _, _, rfl, rfl, (by show (0 : Int) < 2147483629; decide), ?_⟩
    have b0 := Int.emod_nonneg ((c % 1000003 + 31 * k + 7) * (c % 65537 + 7919 * k + 11)) (show (2147483629 : Int) ≠ 0 by decide)
    have b1 := Int.emod_lt_of_pos ((c % 1000003 + 31 * k + 7) * (c % 65537 + 7919 * k + 11)) (show (0 : Int) < 2147483629 by decide)
    revert q
    dsimp only
    generalize (c % 1000003 + 31 * k + 7) * (c % 65537 + 7919 * k + 11) % 2147483629 = n2 at b0 b1
    intro q
    exact ⟨_, rfl, _, rfl, _, _, rfl, rfl, .inl ⟨by omega, by omega⟩, _, _, rfl, rfl, (by show (0 : Int) < 2147483587; decide), q (Int.emod_nonneg _ (by decide))⟩
end
def sgL : List Nat := [97, 98, 99, 100, 101, 102, 103, 104, 105, 106, 107, 108, 109, 110, 111, 112, 113, 114, 115, 116, 117, 118, 119, 120, 121, 122, 48, 49, 50, 51, 52, 53, 54, 55, 56, 57]
def sgC (i : Nat) : Nat := sgL.getD i 0
theorem sg_ok : ∀ i : Nat, i < 36 → okc (sgC i) = true := by decide +kernel
def sgS : Str := Str.ofString "abcdefghijklmnopqrstuvwxyz0123456789"
theorem sgS_codes : sgS.cps.toList = sgL := by decide +kernel
theorem sg_at (i : Int) (h0 : 0 ≤ i) (h1 : i < 36) : atI sgS.cps.toList i = some (sgC i.toNat) := by
  rw [sgS_codes]
  have e : i = ((i.toNat : Nat) : Int) := by omega
  rw [e]
  refine atI_nat ?_
  unfold sgC
  rw [Int.toNat_natCast, List.getD_eq_getElem?_getD]
  have : i.toNat < sgL.length := by
    show i.toNat < 36
    omega
  rw [List.getElem?_eq_getElem this]
  rfl
def one (c : Nat) : Str := ⟨#[c]⟩
theorem glued_nil : ∀ (l : List Str) (acc : Array Nat), (l.foldl (fun a p => a ++ (Str.ofString "").cps ++ p.cps) acc).toList = acc.toList ++ (l.map (·.cps.toList)).flatten
  | [], acc => by simp
  | x :: l, acc => by
    have e : (Str.ofString "").cps = #[] := by decide +kernel
    rw [List.foldl_cons, glued_nil l]
    simp [e]
theorem join_codes (l : List Str) : (Txt.join (Str.ofString "") l).cps.toList = (l.map (·.cps.toList)).flatten := by
  cases l with
  | nil => decide +kernel
  | cons x l =>
    show ((List.foldl (fun a p => a ++ (Str.ofString "").cps ++ p.cps) x.cps l)).toList = _
    rw [glued_nil]
    rfl
theorem join_ones : ∀ cs : List Nat, (Txt.join (Str.ofString "") (cs.map one)).cps.toList = cs := fun cs => by
  rw [join_codes, List.map_map]
  induction cs with
  | nil => rfl
  | cons c cs ih =>
    show [c] ++ ((cs.map _).flatten) = c :: cs
    rw [ih]
    rfl
theorem len_codes (z : Str) : z.length = z.cps.toList.length := by
  rw [codes_len]
theorem app_codes (a b : Str) : (a ++ b).cps.toList = a.cps.toList ++ b.cps.toList := by
  show (a.cps ++ b.cps).toList = _
  rw [Array.toList_append]
theorem comp_rng {lo : Int} {n : Nat} {p : Addr} {tt : TT} {te : TE} {cs : St} {Q : VK} {H1 : Hp} (Pv : Nat → List V → Hp → Prop) (h0 : Pv 0 [] (upd H1 p (.lst [])))
    (hs : ∀ i ys H, i < n → Pv i ys H → tt (some (.int (lo + i)) :: cs) H fun b H4 => if b = true then te (some (.int (lo + i)) :: cs) H4 fun y H5 => H5 p = some (.lst ys) ∧ ys.length < sizeLine ∧ Pv (i + 1) (ys ++ [y]) (upd H5 p (.lst (ys ++ [y]))) else Pv (i + 1) ys H4)
    (hd : ∀ ys H, Pv n ys H → Q (.ref p) H) : CompW (Itr lo n) p tt te cs Q H1 := by
  refine comp_by n Pv h0 ?_ ?_
  · intro i ys H hi pv
    refine ⟨hi, fun v H3 y => ?_⟩
    obtain ⟨rfl, rfl⟩ := y
    exact hs i ys _ hi pv
  · intro ys H pv
    exact ⟨Nat.le_refl _, hd ys H pv⟩
theorem ones_sum : ∀ l : List Nat, ((l.map one).map (·.length)).sum = l.length := fun l => by
  induction l with
  | nil => rfl
  | cons c l ih =>
    show 1 + ((l.map one).map (·.length)).sum = l.length + 1
    rw [ih, Nat.add_comm]
theorem cut_mid (xs : List V) (a b : Nat) (ha : a ≤ xs.length) (hb : b ≤ xs.length) : cutV xs (some (a : Int)) (some (b : Int)) = (xs.drop a).take (b - a) := by
  unfold cutV
  rw [HT.sIx_nat, HT.sIx_nat, Nat.min_eq_left ha, Nat.min_eq_left hb]
theorem isw_codes {z : Str} (h1 : 1 ≤ z.cps.toList.length) (h8 : z.cps.toList.length ≤ 8) (h : ∀ c ∈ z.cps.toList, okc c = true) : isw z = true := by
  unfold isw
  rw [len_codes, decide_eq_true h1, decide_eq_true h8, List.all_eq_true.mpr h]
  rfl
section
variable {P : Program} {w : World} {K : PySem.W.Frag} {mg : Str → Option Value} {base : Heap} {f fWho fWth fMix : Addr} {fd dWho dWth dMix : FuncData}
/-- the codes of word number j -/
def cdW (b : Bool) (cs : List Nat) (a sz : Nat) (x : Int) (j : Nat) : List Nat := if b = true ∧ j < 8 then cs.take (j + 1) else cs.take a ++ [sgC ((x + 5 * (0 + (j : Int))) % 36).toNat] ++ (cs.drop (a + 1)).take (sz - (a + 1))
theorem sg_ne : ∀ i : Nat, i < 36 → sgC i ≠ sgC ((i + 5) % 36) := by decide +kernel
theorem cdW_ne {b : Bool} {cs : List Nat} {a sz : Nat} {x : Int} (h8 : cs.length = 8) (ha : a < 8) : cdW b cs a sz x 0 ≠ cdW b cs a sz x 1 := by
  intro h
  unfold cdW at h
  cases b with
  | true =>
    rw [if_pos ⟨rfl, by decide⟩, if_pos ⟨rfl, by decide⟩] at h
    have := congrArg List.length h
    rw [List.length_take, List.length_take, h8] at this
    omega
  | false =>
    rw [if_neg (by simp), if_neg (by simp), List.append_assoc, List.append_assoc] at h
    have h2 := List.append_cancel_left h
    injection h2 with h3 _
    have e : ((x + 5 * (0 + ((1 : Nat) : Int))) % 36).toNat = (((x + 5 * (0 + ((0 : Nat) : Int))) % 36).toNat + 5) % 36 := by omega
    rw [e] at h3
    exact sg_ne _ (by omega) h3
def spWds : Sp := fun vs H Q _ => ∃ (c many : Int), vs = [.int c, .int many] ∧ 0 ≤ many ∧ many ≤ 100 ∧ ∀ p H' (zs : List Str), Same H H' → H' p = some (.lst (zs.map V.str)) → (zs.length : Int) = many → (∀ z ∈ zs, isw z = true) → (many = 2 → ∃ a b, zs = [a, b] ∧ a ≠ b) → Q (.ref p) H'
theorem scWds : FnScope ["_law_cell", "_law_many", "_law_signs", "_law_some", "_law_size", "_law_at_here", "_law_words_here", "_law_k", "_law_sign", "_law_word"] ["_law_cell", "_law_many"] (defScope sWds) := ⟨rfl, rfl, rfl, by decide +kernel, rfl, by decide +kernel, by decide +kernel⟩
theorem ok_Wds (F : Fun K "_law_words" "_law_words" sWds f fd) (hMix : Has K mg "_law_mix" sMix ["_law_cell", "_law_k"] fMix dMix) (GMix : FnOk P w K mg base CX0 1 fMix dMix ["_law_cell", "_law_k"] spMix) (T : Txt mg) : FnOk P w K mg base CX0 2 f fd ["_law_cell", "_law_many"] spWds := by
  refine F.ok scWds (fun vs H Q E h => ?_) (fun cdv A outer s H vs Q E hr h => ?_)
  · obtain ⟨c, many, rfl, _⟩ := h
    rfl
  obtain ⟨c, many, rfl, m0, m1, q⟩ := h
  refine ⟨_, (pss_cons (ps_set (i := 2) scWds.nd rfl (Or.inr rfl) pe_str)
    (pss_cons (ps_setC2 (i := 3) scWds.nd rfl rfl [0, 2] ["_law_cell", "_law_signs"] (pi_range1 rfl T.rng (pc pe_int pa_nil)) (fun _ _ _ _ _ _ => pts_nil)
          (fun _ _ _ _ _ _ => (pe_ix ix_str (pv 2) (pe_op op_mod (pe_call GMix (hr.mono (by decide)) rfl hMix.nm hMix.fn.kp hMix.bd .nil pass0 (pc (pv 1) (pc (pe_op op_add pe_int (pv 0)) pa_nil))) pe_int) (fun _ _ => rfl)))
          rfl (by decide +kernel) (by decide +kernel) rfl (by decide +kernel) (fun j y hj => by
            match j, hj with
            | 0, hj => cases hj; exact ⟨0, rfl, rfl, rfl, .inl rfl⟩ 
            | 1, hj => cases hj; exact ⟨2, rfl, rfl, rfl, .inl rfl⟩) rfl (by decide +kernel) rfl)
    (pss_cons (ps_set (i := 4) scWds.nd rfl (Or.inl rfl) (pe_op op_add pe_int (pe_op op_mod (pe_call GMix (hr.mono (by decide)) rfl hMix.nm hMix.fn.kp hMix.bd .nil pass0 (pc (pv 0) (pc pe_int pa_nil))) pe_int)))
    (pss_cons (ps_set (i := 5) scWds.nd rfl (Or.inl rfl) (pe_op op_mod (pe_call GMix (hr.mono (by decide)) rfl hMix.nm hMix.fn.kp hMix.bd .nil pass0 (pc (pv 0) (pc pe_int pa_nil))) (pv 4)))
    (pss_cons (ps_set (i := 6) scWds.nd rfl (Or.inl rfl) (pe_lst pa_nil))
    (pss_cons (ps_for PassesOwn.never rfl (pi_range1 rfl T.rng (pc (pv 1) pa_nil)) (pg_name (i := 7) scWds.nd rfl (Or.inl rfl))
    (pss_cons (ps_set (i := 8) scWds.nd rfl (Or.inl rfl) (pe_ix ix_str (pv 2) (pe_op op_mod (pe_op op_add (pe_call GMix (hr.mono (by decide)) rfl hMix.nm hMix.fn.kp hMix.bd .nil pass0 (pc (pv 0) (pc pe_int pa_nil))) (pe_op op_mul pe_int (pv 7))) pe_int) (fun _ _ => rfl)))
    (pss_cons (ps_set (i := 9) scWds.nd rfl (Or.inl rfl) (pe_op op_add_str (pe_bm PySem.F.plainAttrs_str PySem.F.slot_str_join PySem.F.type_str_join mt_join pe_str (pc (pe_slice sl_list (pv 3) po_none (po_some (pv 5))) pa_nil)) (pv 8)))
    (pss_cons (ps_set (i := 9) scWds.nd rfl (Or.inl rfl) (pe_op op_add_str (pv 9) (pe_bm PySem.F.plainAttrs_str PySem.F.slot_str_join PySem.F.type_str_join mt_join pe_str (pc (pe_slice sl_list (pv 3) (po_some (pe_op op_add (pv 5) pe_int)) (po_some (pv 4))) pa_nil))))
    (pss_cons (ps_if (PW.pt (pw_and (pt_cmpR op_eq (pe_op op_mod (pe_call GMix (hr.mono (by decide)) rfl hMix.nm hMix.fn.kp hMix.bd .nil pass0 (pc (pv 0) (pc pe_int pa_nil))) pe_int) pe_int (nomark _)) (pw_and1 (pt_cmpR op_lt (pv 7) pe_int (nomark _)))))
    (pss_one (ps_set (i := 9) scWds.nd rfl (Or.inl rfl) (pe_bm PySem.F.plainAttrs_str PySem.F.slot_str_join PySem.F.type_str_join mt_join pe_str (pc (pe_slice sl_list (pv 3) po_none (po_some (pe_op op_add (pv 7) pe_int))) pa_nil))))
    pss_nil)
    (pss_one (ps_expr (pe_bm PySem.F.plainAttrs_list PySem.F.slot_list_append PySem.F.type_list_append mt_append (pv 6) (pc (pv 9) pa_nil)))))))))
    (pss_one (ps_ret (pv 6))))))))), ?_⟩
  refine ⟨8, rfl, by decide, by decide, fun p hp => ?_⟩
  refine comp_rng (fun i us H2 => ∃ cs : List Nat, Same H H2 ∧ H2 p = some (.lst us) ∧ us = (cs.map one).map V.str ∧ cs.length = i ∧ ∀ c ∈ cs, okc c = true) ⟨[], same_new hp _, upd_same, rfl, rfl, fun c h => by cases h⟩ ?_ ?_
  · rintro i us H2 hi ⟨cs, s2, e2, rfl, lc, oc⟩
    have hi' : i < 8 := hi
    refine ttT ⟨_, rfl, _, rfl, _, rfl, _, _, rfl, rfl, c, 2 + (0 + (i : Int)), rfl, by omega, by omega, fun z0 => ⟨_, _, rfl, rfl, (by show (0 : Int) < 36; decide), ?_⟩⟩
    generalize mixP c (2 + (0 + (i : Int))) = z at z0
    have b0 : 0 ≤ z % 36 := by omega
    have b1 : z % 36 < 36 := by omega
    dsimp only
    refine ⟨sgS, _, sgC (z % 36).toNat, rfl, rfl, by decide +kernel, sg_at _ b0 b1, e2, small (by simp; omega), cs ++ [sgC (z % 36).toNat], same_over s2 hp _, upd_same, by rw [List.map_append, List.map_append]; rfl, by simp [lc], fun c hc => ?_⟩
    rcases List.mem_append.mp hc with m | m
    · exact oc c m
    · rw [List.mem_singleton.mp m]
      exact sg_ok _ (by omega)
  rintro us H2 ⟨cs, s2, e2, rfl, lc, oc⟩
  have lc8 : cs.length = 8 := lc
  refine ⟨_, rfl, c, 0, rfl, by decide, by decide, fun z0 => ⟨_, _, rfl, rfl, (by show (0 : Int) < 8; decide), _, _, rfl, rfl, ?_⟩⟩
  generalize mixP c 0 = z at z0
  have a0 : 1 ≤ 1 + z % 8 := by omega
  have a1 : 1 + z % 8 ≤ 8 := by omega
  dsimp only
  generalize 1 + z % 8 = size at a0 a1
  refine ⟨_, rfl, c, 1, rfl, by decide, by decide, fun y0 => ⟨_, rfl, _, _, rfl, rfl, (by show (0 : Int) < size; omega), ?_⟩⟩
  generalize mixP c 1 = y at y0
  have b0 := Int.emod_nonneg y (show size ≠ 0 by omega)
  have b1 := Int.emod_lt_of_pos y (show 0 < size by omega)
  dsimp only
  generalize y % size = at' at b0 b1
  refine ⟨by decide, fun pw hpw => ?_⟩
  have s3 := same_new hpw (HO.lst [])
  obtain ⟨a', rfl⟩ := Int.eq_ofNat_of_zero_le b0
  obtain ⟨sz, rfl⟩ := Int.eq_ofNat_of_zero_le (show 0 ≤ size by omega)
  have lm : ((cs.map one).map V.str).length = 8 := by rw [List.length_map, List.length_map, lc8]
  have join : ∀ ds : List Nat, ds.length ≤ 8 → ((ds.map one).map (·.length)).sum + (ds.map one).length * (Str.ofString "").length ≤ 16777216 := fun ds hd => by
    have e0 : (Str.ofString "").length = 0 := by decide +kernel
    rw [ones_sum, e0]
    omega
  have jlen : ∀ ds : List Nat, (Txt.join (Str.ofString "") (ds.map one)).length = ds.length := fun ds => by rw [len_codes, join_ones]
  refine ⟨_, rfl, many, rfl, by omega, by omega, ?_⟩
  refine for_range (lo := 0) (n := many.toNat) (fun j σ H4 => ∃ (o7 o8 o9 : Option V) (zs : List Str), σ = [some (.int c), some (.int many), some (.str sgS), some (.ref p), some (.int (sz : Int)), some (.int (a' : Int)), some (.ref pw), o7, o8, o9] ∧ Same H2 H4 ∧ H4 pw = some (.lst (zs.map V.str)) ∧ zs.length = j ∧ (∀ z ∈ zs, isw z = true) ∧ zs.map (·.cps.toList) = (List.range (j)).map (cdW (decide (mixP c 12 % 3 = 0)) cs a' sz (mixP c 11))) ⟨none, none, none, [], rfl, s3, upd_same, rfl, by simp, rfl⟩ ?_ ?_
  · rintro j σ H4 hj ⟨o7, o8, o9, zs, rfl, s4, e4, lz, iz, cz⟩
    have hj' : j < many.toNat := hj
    have add : ∀ {w' : Str} {H5 : Hp} {o8 : Option V}, Same H4 H5 → isw w' = true → w'.cps.toList = cdW (decide (mixP c 12 % 3 = 0)) cs a' sz (mixP c 11) j → tDrop (tBM K "list" rAppend (tVar 6) (tCons (tVar 9) tNil)) { nx := fun σ H' => ∃ (o7 o8 o9 : Option V) (zs : List Str), σ = [some (.int c), some (.int many), some (.str sgS), some (.ref p), some (.int (sz : Int)), some (.int (a' : Int)), some (.ref pw), o7, o8, o9] ∧ Same H2 H' ∧ H' pw = some (.lst (zs.map V.str)) ∧ zs.length = j + 1 ∧ (∀ z ∈ zs, isw z = true) ∧ zs.map (·.cps.toList) = (List.range (j + 1)).map (cdW (decide (mixP c 12 % 3 = 0)) cs a' sz (mixP c 11)), rt := Q } [some (.int c), some (.int many), some (.str sgS), some (.ref p), some (.int (sz : Int)), some (.int (a' : Int)), some (.ref pw), some (.int (0 + (j : Int))), o8, some (.str w')] H5 := fun {w' H5 o8} s5 hw hcw => by
      have e5 := s5 _ _ e4
      refine ⟨_, rfl, .inl ⟨rfl, _, SqL.of e5⟩, _, rfl, pw, _, .str w', rfl, rfl, e5, small (by rw [List.length_map]; omega), _, _, _, zs ++ [w'], rfl, same_over (s4.trans s5) hpw _, ?_, by simp [lz], fun z hz => ?_, by rw [List.map_append, cz, List.range_succ, List.map_append]; show _ ++ [w'.cps.toList] = _; rw [hcw]; rfl⟩
      · rw [upd_same, List.map_append]
        rfl
      · rcases List.mem_append.mp hz with m | m
        · exact iz z m
        · rw [List.mem_singleton.mp m]
          exact hw
    refine ⟨_, rfl, _, rfl, c, 11, rfl, by decide, by decide, fun x0 => ⟨_, rfl, _, _, rfl, rfl, .inl ⟨by decide, by decide⟩, _, _, rfl, rfl, _, _, rfl, rfl, (by show (0 : Int) < 36; decide), ?_⟩⟩
    obtain ⟨x, ex⟩ : ∃ x, x = mixP c 11 := ⟨_, rfl⟩
    rw [← ex] at add
    rw [← ex]
    have f0 := Int.emod_nonneg (x + 5 * (0 + (j : Int))) (show (36 : Int) ≠ 0 by decide)
    have f1 := Int.emod_lt_of_pos (x + 5 * (0 + (j : Int))) (show (0 : Int) < 36 by decide)
    dsimp only
    obtain ⟨sg, esg⟩ : ∃ sg, sg = (x + 5 * (0 + (j : Int))) % 36 := ⟨_, rfl⟩
    rw [← esg] at f0 f1
    rw [← esg]
    refine ⟨sgS, _, sgC sg.toNat, rfl, rfl, by decide +kernel, sg_at _ f0 f1, ?_⟩
    have hsg := sg_ok sg.toNat (by omega)
    obtain ⟨ch, ech⟩ : ∃ ch, ch = sgC sg.toNat := ⟨_, rfl⟩
    rw [← ech] at hsg
    rw [← ech]
    refine ⟨rfl, _, rfl, _, rfl, _, rfl, p, _, rfl, SqL.of (s4 _ _ e2), fun b1 hb1 => ?_⟩
    rw [cut_to, ← List.map_take, ← List.map_take]
    have s5 := same_new hb1 (HO.lst ((cs.take a').map one |>.map V.str))
    refine ⟨Str.ofString "", b1, (cs.take a').map one, rfl, rfl, SqL.of upd_same, join _ (by rw [List.length_take]; omega), _, rfl, _, one ch, rfl, rfl, ?_, ?_⟩
    · rw [jlen, List.length_take]
      show _ + 1 ≤ sizeLine
      exact Nat.le_of_lt (small (by omega))
    refine ⟨_, rfl, rfl, _, rfl, _, rfl, _, _, rfl, rfl, _, rfl, _, rfl, _, rfl, p, _, rfl, SqL.of (s5 _ _ (s4 _ _ e2)), fun b2 hb2 => ?_⟩
    rw [show ((a' : Nat) : Int) + 1 = ((a' + 1 : Nat) : Int) from by omega, cut_mid _ _ _ (by rw [lm]; omega) (by rw [lm]; omega), ← List.map_drop, ← List.map_drop, ← List.map_take, ← List.map_take]
    have s6 := s5.trans (same_new hb2 (HO.lst (((cs.drop (a' + 1)).take (sz - (a' + 1))).map one |>.map V.str)))
    refine ⟨Str.ofString "", b2, ((cs.drop (a' + 1)).take (sz - (a' + 1))).map one, rfl, rfl, SqL.of upd_same, join _ (by rw [List.length_take, List.length_drop]; omega), _, _, rfl, rfl, ?_, ?_⟩
    · rw [Str.length_append, jlen, jlen, List.length_take, List.length_take]
      show _ + 1 + _ ≤ sizeLine
      exact Nat.le_of_lt (small (by omega))
    have ec : (Txt.join (Str.ofString "") ((cs.take a').map one) ++ one ch ++ Txt.join (Str.ofString "") (((cs.drop (a' + 1)).take (sz - (a' + 1))).map one)).cps.toList = cs.take a' ++ [ch] ++ (cs.drop (a' + 1)).take (sz - (a' + 1)) := by
      rw [app_codes, app_codes, join_ones, join_ones]
      rfl
    have iw : isw (Txt.join (Str.ofString "") ((cs.take a').map one) ++ one ch ++ Txt.join (Str.ofString "") (((cs.drop (a' + 1)).take (sz - (a' + 1))).map one)) = true := by
      have ll : (cs.take a' ++ [ch] ++ (cs.drop (a' + 1)).take (sz - (a' + 1))).length = sz := by
        rw [List.length_append, List.length_append, List.length_take, List.length_take, List.length_drop]
        show _ + 1 + _ = _
        omega
      refine isw_codes (by rw [ec, ll]; omega) (by rw [ec, ll]; omega) (fun d hd => ?_)
      rw [ec] at hd
      rcases List.mem_append.mp hd with hd | hd
      · rcases List.mem_append.mp hd with hd | hd
        · exact oc d (List.mem_of_mem_take hd)
        · rw [List.mem_singleton.mp hd]
          exact hsg
      · exact oc d (List.mem_of_mem_drop (List.mem_of_mem_take hd))
    generalize Txt.join (Str.ofString "") ((cs.take a').map one) ++ one ch ++ Txt.join (Str.ofString "") (((cs.drop (a' + 1)).take (sz - (a' + 1))).map one) = w2 at iw ec
    revert s6
    generalize upd (upd H4 b1 (HO.lst ((cs.take a').map one |>.map V.str))) b2 (HO.lst (((cs.drop (a' + 1)).take (sz - (a' + 1))).map one |>.map V.str)) = H6
    intro s6
    have cdn : ¬ (decide (mixP c 12 % 3 = 0) = true ∧ j < 8) → w2.cps.toList = cdW (decide (mixP c 12 % 3 = 0)) cs a' sz x j := fun z => by
      unfold cdW
      rw [if_neg z, ec, ech, esg]
    refine ⟨_, rfl, c, 12, rfl, by decide, by decide, fun x0 => ⟨_, _, rfl, rfl, (by show (0 : Int) < 3; decide), rfl, _, rfl, ite2 (fun h1 => ⟨_, rfl, _, _, rfl, rfl, _, rfl, ite2 (fun h2 => ?_) (fun h2 => add s6 iw (cdn fun z => h2 (decide_eq_true (by have := z.2; omega))))⟩) (fun h1 => iteF (add s6 iw (cdn fun z => h1 (decide_eq_true (by show V.int (mixP c 12 % 3) = V.int 0; rw [of_decide_eq_true z.1])))))⟩⟩
    have h2' : (0 : Int) + (j : Int) < 8 := of_decide_eq_true h2
    refine ⟨rfl, _, rfl, _, rfl, _, _, rfl, rfl, _, rfl, p, _, rfl, SqL.of (s6 _ _ (s4 _ _ e2)), fun b3 hb3 => ?_⟩
    rw [show (0 : Int) + (j : Int) + 1 = ((j + 1 : Nat) : Int) from by omega, cut_to, ← List.map_take, ← List.map_take]
    have s7 := s6.trans (same_new hb3 (HO.lst ((cs.take (j + 1)).map one |>.map V.str)))
    refine ⟨Str.ofString "", b3, (cs.take (j + 1)).map one, rfl, rfl, SqL.of upd_same, join _ (by rw [List.length_take]; omega), ?_⟩
    have d1 : mixP c 12 % 3 = 0 := by have := of_decide_eq_true h1; injection this
    refine add s7 (isw_codes ?_ ?_ fun d hd => ?_) (by unfold cdW; rw [if_pos ⟨decide_eq_true d1, by omega⟩, join_ones])
    · rw [join_ones, List.length_take]
      omega
    · rw [join_ones, List.length_take]
      omega
    · rw [join_ones] at hd
      exact oc d (List.mem_of_mem_take hd)
  · rintro σ H4 ⟨o7, o8, o9, zs, rfl, s4, e4, lz, iz, cz⟩
    refine ⟨_, rfl, q pw H4 zs (s2.trans s4) e4 (by rw [lz]; omega) iz fun h2 => ?_⟩
    subst h2
    match zs, lz, cz with
    | [a1, b1], _, cz =>
      refine ⟨a1, b1, rfl, fun z => ?_⟩
      subst z
      injection cz with z1 z2
      injection z2 with z2 _
      exact cdW_ne lc8 (by omega) (z1.symm.trans z2)
end
end K43
set_option maxHeartbeats 4000000
namespace K43
open PySem L2
def sl : Str := Str.ofString "/"
/-! ### what is good, and what is due -/
def gp (t : Tr) (top : Bool) : Bool := match t with
  | .str z => if z = Str.ofString "" then top else decide ((Txt.split z sl).length ≤ 6) && (Txt.split z sl).all isw
  | _ => false
def rowT (t : Tr) : Bool := match t with
  | .lst l => (decide (1 ≤ l.length) && decide (l.length ≤ 40)) && l.all fun u => wthT u 0 999999
  | _ => false
def spanT (a b : Tr) : Bool := match a, b with
  | .int a, .int b => decide (0 ≤ a) && decide (1 ≤ b) && decide (a + b ≤ 40)
  | _, _ => false
def lenT (t : Tr) : Nat := match t with
  | .lst l => l.length
  | _ => 0
inductive Out
  | path (x : V)
  | cells
  | span (a b : V)
abbrev Ag := Tr × V
def dPath (x : Ag) (top : Bool) (k : Option Out) : Option Out := if gp x.1 top = true then k else some (.path x.2)
def dSpan (a b : Ag) (k : Option Out) : Option Out := if spanT a.1 b.1 = true then k else some (.span a.2 b.2)
def dRow (r : Ag) (k : Option Out) : Option Out := if rowT r.1 = true then k else some .cells
def dWin (a : Ag) (hi : Int) (k : Option Out) : Option Out := if wthT a.1 0 hi = true then k else some (.span (.int 0) a.2)
def lenA (r : Ag) : Ag := (.int (lenT r.1), .int (lenT r.1))
structure Cl where
  K0 : Addr
  KD : Addr
  DE : Addr
  WE : Addr
  NP : Addr
  NS : Addr
  NC : Addr
/-- an exception as it stands behind its raise -/
def OutAt (c : Cl) (H : Hp) (ea : Addr) (dd : Option Addr) : Out → Prop
  | .path x => ∃ dx, dd = some dx ∧ H ea = some (ExcO ea c.NP (some dx)) ∧ H dx = some (XdO dx [("path", x)])
  | .cells => dd = none ∧ H ea = some (ExcO ea c.NC none)
  | .span a b => ∃ dx, dd = some dx ∧ H ea = some (ExcO ea c.NS (some dx)) ∧ H dx = some (XdO dx [("at", a), ("long", b)])
def Rs (c : Cl) (H : Hp) (o : Out) (E : XK) : Prop := ∀ ea dd H', Same H H' → OutAt c H' ea dd o → E (.ref ea) dd H'
theorem Rs.mono {c : Cl} {H H' : Hp} {o : Out} {E : XK} (h : Rs c H o E) (s : Same H H') : Rs c H' o E := fun ea dd H2 s2 q => h ea dd H2 (s.trans s2) q
theorem dPath_ok {x : Ag} {top : Bool} {k : Option Out} {o : Out} (h : dPath x top k = some o) : (gp x.1 top = true → k = some o) ∧ (gp x.1 top = false → o = .path x.2) := by
  unfold dPath at h
  constructor
  · intro g
    rw [if_pos g] at h
    exact h
  · intro g
    rw [if_neg (by rw [g]; decide)] at h
    injection h with h
    exact h.symm
theorem dSpan_ok {a b : Ag} {k : Option Out} {o : Out} (h : dSpan a b k = some o) : (spanT a.1 b.1 = true → k = some o) ∧ (spanT a.1 b.1 = false → o = .span a.2 b.2) := by
  unfold dSpan at h
  constructor
  · intro g
    rw [if_pos g] at h
    exact h
  · intro g
    rw [if_neg (by rw [g]; decide)] at h
    injection h with h
    exact h.symm
theorem dRow_ok {r : Ag} {k : Option Out} {o : Out} (h : dRow r k = some o) : (rowT r.1 = true → k = some o) ∧ (rowT r.1 = false → o = .cells) := by
  unfold dRow at h
  constructor
  · intro g
    rw [if_pos g] at h
    exact h
  · intro g
    rw [if_neg (by rw [g]; decide)] at h
    injection h with h
    exact h.symm
theorem dWin_ok {a : Ag} {hi : Int} {k : Option Out} {o : Out} (h : dWin a hi k = some o) : (wthT a.1 0 hi = true → k = some o) ∧ (wthT a.1 0 hi = false → o = .span (.int 0) a.2) := by
  unfold dWin at h
  constructor
  · intro g
    rw [if_pos g] at h
    exact h
  · intro g
    rw [if_neg (by rw [g]; decide)] at h
    injection h with h
    exact h.symm
theorem part_le (sep : Str) : ∀ (l : List Str) (p : Str), p ∈ l → p.length ≤ (Str.join sep l).length
  | [], _, h => nomatch h
  | [x], p, h => by
    rw [List.mem_singleton.mp h]
    exact Nat.le_refl _
  | x :: y :: r, p, h => by
    show p.length ≤ (x ++ sep ++ Str.join sep (y :: r)).length
    rw [Str.length_append, Str.length_append]
    rcases List.mem_cons.mp h with h | h
    · rw [h]; omega
    · have := part_le sep (y :: r) p h
      omega
theorem split_part {z y p : Str} (h : p ∈ Txt.split z y) : p.length ≤ z.length := by
  have e : Str.join y (Txt.split z y) = z := by
    rw [← StrLaws.glued_eq_join]
    exact split_join z y
  have := part_le y _ p h
  rw [e] at this
  exact this
section
variable {P : Program} {w : World} {K : PySem.W.Frag} {mg : Str → Option Value} {base : Heap} {f g fI fWrd fNof fWth fCll : Addr} {fd dI dWrd dNof dWth dCll : FuncData} {bm : List Value} {c : Cl} {C : Addr}
/-! ### the exceptions -/
theorem scNPi : FnScope ["self", "path"] ["self", "path"] (defScope sNPi) := ⟨rfl, rfl, rfl, by decide +kernel, rfl, by decide +kernel, by decide +kernel⟩
theorem ok_NPi (F : Fun K "__init__" "NoPath.__init__" sNPi f fd) (cl : XCls K C) (tk : NoAttr K C "path") : FnOk P w K mg base CX0 1 f fd ["self", "path"] (spX C "path") := by
  refine F.ok scNPi (fun vs H Q E h => ?_) (fun cdv A outer s H vs Q E hr h => ?_)
  · obtain ⟨e, x, rfl, _⟩ := h
    rfl
  obtain ⟨e, x, rfl, he, q⟩ := h
  refine ⟨_, pss_one (ps_xf1 (pv 0) (pv 1) rfl), ?_⟩
  exact ⟨_, rfl, _, rfl, e, C, rfl, he, cl, tk.taker, fun dx hd => q dx hd⟩
def spX2 (C : Addr) (f g : Str) : Sp := fun vs H Q _ => ∃ e x y, vs = [.ref e, x, y] ∧ H e = some (FxO e C none) ∧ ∀ dx, H dx = none → Q .non (upd (upd (upd H dx (XdO dx [(f, x)])) e (FxO e C (some dx))) dx (XdO dx [(f, x), (g, y)]))
theorem putX2 {f g : Str} {x y : V} (h : g ≠ f) : putF g y [(f, x)] = [(f, x), (g, y)] := by
  have e : (g == f) = false := beq_eq_false_iff_ne.mpr h
  have e' : (f == g) = false := beq_eq_false_iff_ne.mpr h.symm
  simp [putF, e, e', h, h.symm]
theorem scNSi : FnScope ["self", "at", "long"] ["self", "at", "long"] (defScope sNSi) := ⟨rfl, rfl, rfl, by decide +kernel, rfl, by decide +kernel, by decide +kernel⟩
theorem ok_NSi (F : Fun K "__init__" "NoSpan.__init__" sNSi f fd) (cl : XCls K C) (n1 : NoAttr K C "at") (n2 : NoAttr K C "long") : FnOk P w K mg base CX0 1 f fd ["self", "at", "long"] (spX2 C "at" "long") := by
  refine F.ok scNSi (fun vs H Q E h => ?_) (fun cdv A outer s H vs Q E hr h => ?_)
  · obtain ⟨e, x, y, rfl, _⟩ := h
    rfl
  obtain ⟨e, x, y, rfl, he, q⟩ := h
  refine ⟨_, pss_cons (ps_xf1 (pv 0) (pv 1) rfl) (pss_one (ps_xf2 (pv 0) (pv 2) rfl)), ?_⟩
  refine ⟨_, rfl, _, rfl, e, C, rfl, he, cl, n1.taker, fun dx hd => ?_⟩
  have n : dx ≠ e := fun z => by rw [z, he] at hd; cases hd
  exact ⟨_, rfl, _, rfl, e, C, dx, [(Str.ofString "at", x)], rfl, upd_same, by rw [upd_ne n]; exact upd_same, cl, n2.taker, (by show 1 ≤ 1000; decide), by have z := q dx hd; rw [← putX2 (show Str.ofString "long" ≠ Str.ofString "at" by decide +kernel)] at z; exact z⟩
theorem raise_path {x : V} {E : XK} {H : Hp} (h : Rs c H (.path x) E) (e : Addr) (he : H e = none) :
    spX c.NP "path" (.ref e :: ([x] ++ [])) (upd H e (FxO e c.NP none)) (fun v H2 => v = .non ∧ ∃ ea dd, V.ref e = .ref ea ∧ H2 ea = some (FxO ea c.NP dd) ∧ E (.ref ea) dd (upd H2 ea (ExcO ea c.NP dd))) E0 :=
  raise1 (fun ea dx H' s h1 h2 => h ea (some dx) H' s ⟨dx, rfl, h1, h2⟩) e he
theorem raise_span {a b : V} {E : XK} {H : Hp} (h : Rs c H (.span a b) E) (e : Addr) (he : H e = none) :
    spX2 c.NS "at" "long" (.ref e :: ([a, b] ++ [])) (upd H e (FxO e c.NS none)) (fun v H2 => v = .non ∧ ∃ ea dd, V.ref e = .ref ea ∧ H2 ea = some (FxO ea c.NS dd) ∧ E (.ref ea) dd (upd H2 ea (ExcO ea c.NS dd))) E0 := by
  refine ⟨e, a, b, rfl, upd_same, fun dx hdx => ⟨rfl, e, some dx, rfl, ?_, ?_⟩⟩
  all_goals obtain ⟨n1, n2⟩ := new_free hdx
  · rw [upd_ne n1.symm, upd_same]
  · refine h e (some dx) _ (fun q u hq => ?_) ⟨dx, rfl, upd_same, ?_⟩
    · have a1 := ne_of_none hq he
      have a2 := ne_of_none hq n2
      rw [upd_ne a1, upd_ne a2, upd_ne a1, upd_ne a2, upd_ne a1]
      exact hq
    · rw [upd_ne n1, upd_same]
/-! ### names_of -/
def spNof (c : Cl) : Sp := fun vs H Q E => ∃ x t, vs = [x] ∧ At H t x ∧ sm t = true ∧ (gp t true = true → ∀ p z l H', t = .str z → Same H H' → H' p = some (.lst l) → (l = [] ↔ z = Str.ofString "") → Q (.ref p) H') ∧ (gp t true = false → Rs c H (.path x) E)
theorem scNof : FnScope ["path", "names"] ["path"] (defScope sNof) := ⟨rfl, rfl, rfl, by decide +kernel, rfl, by decide +kernel, by decide +kernel⟩
theorem ok_Nof (F : Fun K "names_of" "names_of" sNof f fd) (hWrd : Has K mg "is_word" sWrd ["thing"] fWrd dWrd) (GWrd : FnOk P w K mg base CX0 1 fWrd dWrd ["thing"] spWrd)
    (hNP : XHas K mg "NoPath" sNPi c.NP bm fI dI ["self", "path"]) (GNP : FnOk P w K mg base CX0 1 fI dI ["self", "path"] (spX c.NP "path")) (T : Txt mg) : FnOk P w K mg base (CXw P w) 4 f fd ["path"] (spNof c) := by
  refine F.okX scNof (fun vs H Q E h => ?_) (fun cdv A outer s H vs Q E hr h => ?_)
  · obtain ⟨x, t, rfl, _⟩ := h
    rfl
  obtain ⟨x, t, rfl, hx, hs, q, qe⟩ := h
  obtain ⟨ty, ht, _, k3, _⟩ := hx.ty (K := K)
  obtain ⟨t2, mon⟩ := T.mon
  have hlv : Leaves (cxOf (CXw P w) P w K mg base ["path", "names"] "names_of" (defScope sNof) f cdv A outer s H E) E := leaves_fn
  refine ⟨_, (pss_cons (ps_if (pt_not (pt_val (pe_callB call_isinst rfl T.isi PyProof.Rows.boot_isinstance (pc (pv 0) (pc (pe_bltn (v := .ty "str") rfl T.str PyProof.Rows.boot_str rfl) pa_nil)))))
    (pss_one (ps_raise hNP.xm.ob hNP.be hr.hd hlv (pe_exc hNP.xm GNP (hr.mono (by decide)) rfl hNP.nm hNP.bd .nil pass0 (pc (pv 0) pa_nil))))
    pss_nil)
    (pss_cons (ps_if (pt_cmpR op_eq (pv 0) pe_str (nomark _))
    (pss_one (ps_ret (pe_lst pa_nil)))
    pss_nil)
    (pss_cons (ps_set (i := 1) scNof.nd rfl (Or.inl rfl) (pe_bm PySem.F.plainAttrs_str PySem.F.slot_str_split PySem.F.type_str_split mt_split (pv 0) (pc pe_str pa_nil)))
    (pss_cons (ps_if (PW.pt (pw_or (pt_cmpR op_gt (pe_callB call_len_seq rfl T.len PySem.boot_len (pc (pv 1) pa_nil)) (pe_glob (v := .int 6) rfl mon ⟨_, rfl⟩) (nomark _)) (pw_or1 (pt_not (pt_val (pe_callB (call_all hr.hd) rfl T.all PyProof.Rows.boot_all (pc (pe_comp1 [] [] (pi_list (pv 1)) (fun _ _ _ _ _ _ => pts_nil)
          (fun _ _ _ _ _ _ => (pe_call GWrd (hr.mono (by decide)) rfl hWrd.nm hWrd.fn.kp hWrd.bd .nil pass0 (pc (pv 0) pa_nil)))
          rfl (by decide +kernel) (by decide +kernel) rfl (by decide +kernel) (fun _ _ z => nomatch z) rfl (by decide +kernel) rfl) pa_nil)))))))
    (pss_one (ps_raise hNP.xm.ob hNP.be hr.hd hlv (pe_exc hNP.xm GNP (hr.mono (by decide)) rfl hNP.nm hNP.bd .nil pass0 (pc (pv 0) pa_nil))))
    pss_nil)
    (pss_one (ps_ret (pv 1))))))), ?_⟩
  refine ⟨_, rfl, x, "str", ty, isStrT t, rfl, ht, k3, _, rfl, ?_⟩
  cases e : isStrT t with
  | false =>
    have g0 : gp t true = false := by cases t <;> first | rfl | cases e
    exact iteT ⟨_, rfl, fun e he => raise_path (qe g0) e he⟩
  | true =>
    cases t with
    | str z =>
      have ex : x = .str z := by unfold At at hx; exact hx
      subst ex
      have hz : z.length ≤ 100 := by unfold sm at hs; exact of_decide_eq_true hs
      refine iteF ⟨_, rfl, rfl, _, rfl, ?_⟩
      refine ite2 (fun c => ?_) (fun c => ?_)
      · have c' : V.str z = .str (Str.ofString "") := of_decide_eq_true c
        have cz : z = Str.ofString "" := by injection c'
        refine ⟨by decide, fun p hp => q ?_ p z [] _ rfl (same_new hp _) upd_same ⟨fun _ => cz, fun _ => rfl⟩⟩
        exact if_pos cz
      · have cz : ¬ z = Str.ofString "" := fun e => c (decide_eq_true (by rw [e]))
        have hsl : (sl.length == 0) = false := by decide +kernel
        refine ⟨_, rfl, rfl, z, sl, rfl, rfl, hsl, Nat.le_of_lt (small (by omega)), fun p hp => ?_⟩
        have eg : gp (.str z) true = (decide ((Txt.split z sl).length ≤ 6) && (Txt.split z sl).all isw) := if_neg cz
        have hpart : ∀ y ∈ Txt.split z sl, y.length ≤ 100 := fun y hy => Nat.le_trans (split_part hy) hz
        have hne : Txt.split z sl ≠ [] := fun e0 => by
          have := split_join z sl
          rw [e0] at this
          exact cz (this.symm.trans (by decide +kernel))
        generalize Txt.split z sl = l at eg hpart hne
        refine ⟨_, rfl, p, _, rfl, .inl (SqL.of upd_same), _, _, rfl, rfl, _, rfl, ?_⟩
        refine ite2 (fun d => ?_) (fun d => ?_)
        · have d1 : (6 : Int) < (((l.map V.str).length : Nat) : Int) := of_decide_eq_true d
          rw [List.length_map] at d1
          refine iteT ⟨_, rfl, fun e he => raise_path ((qe ?_).mono (same_new hp _)) e he⟩
          rw [eg, decide_eq_false (by omega), Bool.false_and]
        · have d1 : ¬ (6 : Int) < (((l.map V.str).length : Nat) : Int) := fun e => d (decide_eq_true e)
          rw [List.length_map] at d1
          have d2 : gp (.str z) true = l.all isw := by rw [eg, decide_eq_true (by omega), Bool.true_and]
          refine ⟨_, rfl, p, rfl, ⟨_, SqL.of upd_same⟩, fun p2 hp2 => ?_⟩
          obtain ⟨n1, n2⟩ := new_free hp2
          refine comp_list (K := K) (xs := l.map V.str) (fun i ys H2 => ys = (l.take i).map (fun y => V.bl (isw y)) ∧ Same H H2 ∧ H2 p = some (.lst (l.map V.str)) ∧ H2 p2 = some (.lst ys)) ?_ (fun i ys H2 _ h2 => SqL.of h2.2.2.1) ?_ ?_
          · exact ⟨rfl, (same_new hp _).trans (same_new hp2 _), by rw [upd_ne n1.symm]; exact upd_same, upd_same⟩
          · rintro i y ys H2 hi ⟨rfl, s2, e2, e3⟩
            rw [List.getElem?_map] at hi
            obtain ⟨y', h1, rfl⟩ := Option.map_eq_some_iff.mp hi
            refine ttT ?_
            refine ⟨_, rfl, .str y', .str y', rfl, At.str _, (by unfold sm; exact decide_eq_true (hpart y' (List.mem_of_getElem? h1))), fun H3 s3 => ⟨s3 _ _ e3, ?_, (take_snoc (fun y => V.bl (isw y)) h1).symm, same_over (s2.trans s3) n2 _, by rw [upd_ne n1.symm]; exact s3 _ _ e2, upd_same⟩⟩
            rw [List.length_map, List.length_take]
            exact small (by omega)
          · rintro ys H2 ⟨rfl, s2, e2, e3⟩
            have et : l.take (l.map V.str).length = l := List.take_of_length_le (by rw [List.length_map]; exact Nat.le_refl _)
            rw [et] at e3
            refine ⟨p2, l.map isw, rfl, SqL.of (by rw [e3, List.map_map]; rfl), _, rfl, ?_⟩
            have ea : (l.map isw).all id = gp (.str z) true := by
              rw [d2, List.all_map]
              rfl
            rw [ea]
            cases hg : gp (.str z) true with
            | false => exact iteT ⟨_, rfl, fun e he => raise_path ((qe hg).mono s2) e he⟩
            | true =>
              refine iteF ⟨_, rfl, q hg p z _ H2 rfl s2 e2 ⟨fun h0 => absurd (List.map_eq_nil_iff.mp h0) hne, fun h0 => absurd h0 cz⟩⟩
    | _ => cases e
def spNbt (c : Cl) : Sp := fun vs H Q E => ∃ x t, vs = [x] ∧ At H t x ∧ sm t = true ∧ (gp t false = true → ∀ v H', Same H H' → Q v H') ∧ (gp t false = false → Rs c H (.path x) E)
theorem scNbt : FnScope ["path", "names"] ["path"] (defScope sNbt) := ⟨rfl, rfl, rfl, by decide +kernel, rfl, by decide +kernel, by decide +kernel⟩
theorem ok_Nbt (F : Fun K "names_below_top" "names_below_top" sNbt f fd) (hNof : Has K mg "names_of" sNof ["path"] fNof dNof) (GNof : FnOk P w K mg base (CXw P w) 4 fNof dNof ["path"] (spNof c))
    (hNP : XHas K mg "NoPath" sNPi c.NP bm fI dI ["self", "path"]) (GNP : FnOk P w K mg base CX0 1 fI dI ["self", "path"] (spX c.NP "path")) (T : Txt mg) : FnOk P w K mg base (CXw P w) 5 f fd ["path"] (spNbt c) := by
  refine F.okX scNbt (fun vs H Q E h => ?_) (fun cdv A outer s H vs Q E hr h => ?_)
  · obtain ⟨x, t, rfl, _⟩ := h
    rfl
  obtain ⟨x, t, rfl, hx, hs, q, qe⟩ := h
  have hlv : Leaves (cxOf (CXw P w) P w K mg base ["path", "names"] "names_below_top" (defScope sNbt) f cdv A outer s H E) E := leaves_fn
  refine ⟨_, (pss_cons (ps_set (i := 1) scNbt.nd rfl (Or.inl rfl) (pe_call GNof (hr.mono (by decide)) rfl hNof.nm hNof.fn.kp hNof.bd .nil (passes_of hlv) (pc (pv 0) pa_nil)))
    (pss_cons (ps_if (pt_not (pt_truth (pv 1) (fun _ => rfl)))
    (pss_one (ps_raise hNP.xm.ob hNP.be hr.hd hlv (pe_exc hNP.xm GNP (hr.mono (by decide)) rfl hNP.nm hNP.bd .nil pass0 (pc (pv 0) pa_nil))))
    pss_nil)
    (pss_one (ps_ret (pv 1))))), ?_⟩
  refine ⟨_, rfl, x, t, rfl, hx, hs, fun g p z l H' et s' hp hl => ?_, fun g => qe ?_⟩
  · subst et
    refine ⟨_, rfl, !l.isEmpty, ?_, ?_⟩
    · exact .inl ⟨l, SqL.of hp, rfl⟩
    · by_cases ez : z = Str.ofString ""
      · have : l = [] := hl.mpr ez
        subst this
        refine iteT ⟨_, rfl, fun e he => raise_path ((qe ?_).mono s') e he⟩
        exact if_pos ez
      · cases l with
        | nil => exact absurd (hl.mp rfl) ez
        | cons a l =>
          refine iteF ⟨_, rfl, q ?_ _ _ s'⟩
          have g' : (if z = Str.ofString "" then true else decide ((Txt.split z sl).length ≤ 6) && (Txt.split z sl).all isw) = true := g
          rw [if_neg ez] at g'
          exact (if_neg ez).trans g'
  · cases t with
    | str z =>
      show (if _ then _ else _) = _
      have g' : (if z = Str.ofString "" then true else decide ((Txt.split z sl).length ≤ 6) && (Txt.split z sl).all isw) = false := g
      split at g'
      · cases g'
      · next h => rw [if_neg h]; exact g'
    | _ => rfl
theorem span_of {ta tb : Tr} : spanT ta tb = (wthT ta 0 40 && match ta with
    | .int n => wthT tb 1 (40 - n)
    | _ => false) := by
  cases ta with
  | int a =>
    cases tb with
    | int b =>
      show (decide (0 ≤ a) && decide (1 ≤ b) && decide (a + b ≤ 40)) = ((decide (0 ≤ a) && decide (a ≤ 40)) && (decide (1 ≤ b) && decide (b ≤ 40 - a)))
      rw [← Bool.decide_and, ← Bool.decide_and, ← Bool.decide_and, ← Bool.decide_and, ← Bool.decide_and]
      exact decide_eq_decide.mpr ⟨fun h => by omega, fun h => by omega⟩
    | _ => exact (Bool.and_false _).symm
  | _ => rfl
def spNsp (c : Cl) : Sp := fun vs H Q E => ∃ a b ta tb, vs = [a, b] ∧ At H ta a ∧ At H tb b ∧ (spanT ta tb = true → Q .non H) ∧ (spanT ta tb = false → Rs c H (.span a b) E)
theorem scNsp : FnScope ["at", "long"] ["at", "long"] (defScope sNsp) := ⟨rfl, rfl, rfl, by decide +kernel, rfl, by decide +kernel, by decide +kernel⟩
theorem ok_Nsp (F : Fun K "need_span" "need_span" sNsp f fd) (hWth : Has K mg "is_within" sWth ["thing", "low", "high"] fWth dWth) (GWth : FnOk P w K mg base CX0 2 fWth dWth ["thing", "low", "high"] spWth0)
    (hNS : XHas K mg "NoSpan" sNSi c.NS bm fI dI ["self", "at", "long"]) (GNS : FnOk P w K mg base CX0 1 fI dI ["self", "at", "long"] (spX2 c.NS "at" "long")) (T : Txt mg) : FnOk P w K mg base (CXw P w) 4 f fd ["at", "long"] (spNsp c) := by
  refine F.okX scNsp (fun vs H Q E h => ?_) (fun cdv A outer s H vs Q E hr h => ?_)
  · obtain ⟨a, b, ta, tb, rfl, _⟩ := h
    rfl
  obtain ⟨a, b, ta, tb, rfl, ha, hb, q, qe⟩ := h
  obtain ⟨t2, moc⟩ := T.moc
  have hlv : Leaves (cxOf (CXw P w) P w K mg base ["at", "long"] "need_span" (defScope sNsp) f cdv A outer s H E) E := leaves_fn
  refine ⟨_, (pss_one (ps_if (PW.pt (pw_or (pt_not (pt_val (pe_call GWth (hr.mono (by decide)) rfl hWth.nm hWth.fn.kp hWth.bd .nil pass0 (pc (pv 0) (pc pe_int (pc (pe_glob (v := .int 40) rfl moc ⟨_, rfl⟩) pa_nil)))))) (pw_or1 (pt_not (pt_val (pe_call GWth (hr.mono (by decide)) rfl hWth.nm hWth.fn.kp hWth.bd .nil pass0 (pc (pv 1) (pc pe_int (pc (pe_op op_sub (pe_glob (v := .int 40) rfl moc ⟨_, rfl⟩) (pv 0)) pa_nil)))))))))
    (pss_one (ps_raise hNS.xm.ob hNS.be hr.hd hlv (pe_exc hNS.xm GNS (hr.mono (by decide)) rfl hNS.nm hNS.bd .nil pass0 (pc (pv 0) (pc (pv 1) pa_nil)))))
    pss_nil)), ?_⟩
  rw [span_of] at q qe
  refine ⟨_, rfl, a, 0, 40, rfl, ha.ty0, _, rfl, ?_⟩
  rw [ha.wth]
  cases e : wthT ta 0 40 with
  | false => exact iteT (iteT ⟨_, rfl, _, rfl, fun ea he => raise_span (qe (by rw [e]; rfl)) ea he⟩)
  | true =>
    cases ta with
    | int n =>
      have ex : a = .int n := by unfold At at ha; exact ha
      subst ex
      rw [e] at q qe
      refine iteF ⟨_, rfl, _, rfl, _, _, rfl, rfl, b, 1, 40 - n, rfl, hb.ty0, _, rfl, ?_⟩
      rw [hb.wth]
      cases e2 : wthT tb 1 (40 - n) with
      | false => exact iteT ⟨_, rfl, _, rfl, fun ea he => raise_span (qe e2) ea he⟩
      | true => exact iteF (q e2)
    | _ => cases e
def spNcl (c : Cl) : Sp := fun vs H Q E => ∃ x t, vs = [x] ∧ At H t x ∧ sm t = true ∧ (rowT t = true → ∀ H', Same H H' → Q .non H') ∧ (rowT t = false → Rs c H .cells E)
theorem raise_cells {E : XK} {H : Hp} (h : Rs c H .cells E) (e : Addr) (he : H e = none) :
    ∃ ea dd, V.ref e = .ref ea ∧ (upd H e (FxO e c.NC none)) ea = some (FxO ea c.NC dd) ∧ E (.ref ea) dd (upd (upd H e (FxO e c.NC none)) ea (ExcO ea c.NC dd)) := raise0 (fun ea H' s h1 => h ea none H' s ⟨rfl, h1⟩) e he
theorem scNcl : FnScope ["cells"] ["cells"] (defScope sNcl) := ⟨rfl, rfl, rfl, by decide +kernel, rfl, by decide +kernel, by decide +kernel⟩
theorem ok_Ncl (F : Fun K "need_cells" "need_cells" sNcl f fd) (hCll : Has K mg "is_cell" sCll ["thing"] fCll dCll) (GCll : FnOk P w K mg base CX0 3 fCll dCll ["thing"] spCll)
    (hNC : X0Has K mg "NoCells" c.NC bm) (T : Txt mg) : FnOk P w K mg base (CXw P w) 4 f fd ["cells"] (spNcl c) := by
  refine F.okX scNcl (fun vs H Q E h => ?_) (fun cdv A outer s H vs Q E hr h => ?_)
  · obtain ⟨x, t, rfl, _⟩ := h
    rfl
  obtain ⟨x, t, rfl, hx, hs, q, qe⟩ := h
  obtain ⟨ty, ht, _, _, k3⟩ := hx.ty (K := K)
  obtain ⟨t2, moc⟩ := T.moc
  have hlv : Leaves (cxOf (CXw P w) P w K mg base ["cells"] "need_cells" (defScope sNcl) f cdv A outer s H E) E := leaves_fn
  refine ⟨_, (pss_cons (ps_if (PW.pt (pw_or (pt_not (pt_val (pe_callB call_isinst rfl T.isi PyProof.Rows.boot_isinstance (pc (pv 0) (pc (pe_bltn (v := .ty "list") rfl T.lst PyProof.Rows.boot_list rfl) pa_nil))))) (pw_or1 (pt_not (pt_chain op_le op_le pe_int (pe_callB call_len_seq rfl T.len PySem.boot_len (pc (pv 0) pa_nil)) (pe_glob (v := .int 40) rfl moc ⟨_, rfl⟩))))))
    (pss_one (ps_raise hNC.ob hNC.be hr.hd hlv (pe_exc0 hNC.xm rfl hNC.nm)))
    pss_nil)
    (pss_one (ps_if (pt_not (pt_val (pe_callB (call_all hr.hd) rfl T.all PyProof.Rows.boot_all (pc (pe_comp1 [] [] (pi_list (pv 0)) (fun _ _ _ _ _ _ => pts_nil)
          (fun _ _ _ _ _ _ => (pe_call GCll (hr.mono (by decide)) rfl hCll.nm hCll.fn.kp hCll.bd .nil pass0 (pc (pv 0) pa_nil)))
          rfl (by decide +kernel) (by decide +kernel) rfl (by decide +kernel) (fun _ _ z => nomatch z) rfl (by decide +kernel) rfl) pa_nil))))
    (pss_one (ps_raise hNC.ob hNC.be hr.hd hlv (pe_exc0 hNC.xm rfl hNC.nm)))
    pss_nil))), ?_⟩
  refine ⟨_, rfl, x, "list", ty, isLstT t, rfl, ht, k3, _, rfl, ?_⟩
  cases e : isLstT t with
  | false =>
    have : rowT t = false := by cases t <;> first | rfl | cases e
    exact iteT (iteT fun ea he => raise_cells (qe this) ea he)
  | true =>
    cases t with
    | lst l =>
      obtain ⟨a, vs, rfl, ea, ka⟩ := hx.lst
      have ln := ka.len
      have er : rowT (.lst l) = ((decide (1 ≤ l.length) && decide (l.length ≤ 40)) && l.all fun u => wthT u 0 999999) := rfl
      refine iteF ⟨_, rfl, a, vs, rfl, .inl (SqL.of ea), _, _, rfl, rfl, _, rfl, ?_⟩
      refine ite2 (fun c1 => ?_) (fun c1 => ?_)
      · have d1 : (1 : Int) ≤ ((vs.length : Nat) : Int) := of_decide_eq_true c1
        refine ⟨_, _, rfl, rfl, _, rfl, ?_⟩
        refine ite2 (fun c2 => ?_) (fun c2 => ?_)
        · have d2 : ¬ ((vs.length : Nat) : Int) ≤ 40 := fun z => by rw [decide_eq_true z] at c2; cases c2
          refine fun e he => raise_cells (qe ?_) e he
          rw [er, decide_eq_false (show ¬ l.length ≤ 40 by omega), Bool.and_false, Bool.false_and]
        · have d2 : ((vs.length : Nat) : Int) ≤ 40 := by
            by_cases z : ((vs.length : Nat) : Int) ≤ 40
            · exact z
            · rw [decide_eq_false z] at c2; exact absurd rfl c2
          have er2 : rowT (.lst l) = l.all fun u => wthT u 0 999999 := by
            rw [er, decide_eq_true (show 1 ≤ l.length by omega), decide_eq_true (show l.length ≤ 40 by omega)]
            rfl
          refine ⟨_, rfl, a, rfl, ⟨_, SqL.of ea⟩, fun p2 hp2 => ?_⟩
          refine comp_list (K := K) (xs := vs) (fun i ys H2 => ys = (l.take i).map (fun u => V.bl (wthT u 0 999999)) ∧ Same H H2 ∧ H2 p2 = some (.lst ys)) ⟨rfl, same_new hp2 _, upd_same⟩ (fun i ys H2 _ h2 => SqL.of (h2.2.1 _ _ ea)) ?_ ?_
          · rintro i y ys H2 hi ⟨rfl, s2, e3⟩
            obtain ⟨u, hu, hau⟩ := ka.get hi
            refine ttT ?_
            refine ⟨_, rfl, y, u, rfl, hau.mono s2, e3, ?_, (take_snoc (fun u => V.bl (wthT u 0 999999)) hu).symm, same_over s2 hp2 _, upd_same⟩
            rw [List.length_map, List.length_take]
            exact small (by omega)
          · rintro ys H2 ⟨rfl, s2, e3⟩
            have et : l.take vs.length = l := List.take_of_length_le (by omega)
            rw [et] at e3
            refine ⟨p2, l.map fun u => wthT u 0 999999, rfl, SqL.of (by rw [e3, List.map_map]; rfl), _, rfl, ?_⟩
            have ea2 : (l.map fun u => wthT u 0 999999).all id = rowT (.lst l) := by
              rw [er2, List.all_map]
              rfl
            rw [ea2]
            cases hg : rowT (.lst l) with
            | false => exact iteT fun e he => raise_cells ((qe hg).mono s2) e he
            | true => exact iteF (q hg H2 s2)
      · have d1 : ¬ (1 : Int) ≤ ((vs.length : Nat) : Int) := fun z => c1 (decide_eq_true z)
        refine ⟨_, rfl, iteT fun e he => raise_cells (qe ?_) e he⟩
        rw [er, decide_eq_false (show ¬ 1 ≤ l.length by omega), Bool.false_and, Bool.false_and]
    | _ => cases e
end
end K43
set_option maxHeartbeats 4000000
namespace K43
open PySem L2
/-! ### deeds that are refused -/
/-- an argument: a thing and what it is -/
def Ar (H : Hp) (x : Ag) : Prop := At H x.1 x.2 ∧ sm x.1 = true
theorem Ar.mono {H H' : Hp} {x : Ag} (h : Ar H x) (s : Same H H') : Ar H' x := ⟨h.1.mono s, h.2⟩
section
variable {P : Program} {w : World} {K : PySem.W.Frag} {mg : Str → Option Value} {base : Heap} {f fI fNof fNbt fNsp fNcl fWth : Addr} {fd dI dNof dNbt dNsp dNcl dWth : FuncData} {bm : List Value} {c : Cl}
def spE1 (c : Cl) : Sp := fun vs H Q E => ∃ d x o, vs = [d, x.2] ∧ Ar H x ∧ dPath x false none = some o ∧ Rs c H o E
def spE2 (c : Cl) : Sp := fun vs H Q E => ∃ d x y o, vs = [d, x.2, y.2] ∧ Ar H x ∧ Ar H y ∧ dPath x false (dPath y false none) = some o ∧ Rs c H o E
theorem nbt_in {H : Hp} {Q : VK} {E : XK} {x : Ag} {k : Option Out} {o : Out} (hx : Ar H x) (hd : dPath x false k = some o) (r : Rs c H o E) (q : k = some o → ∀ v H', Same H H' → Q v H') : spNbt c [x.2] H Q E :=
  ⟨x.2, x.1, rfl, hx.1, hx.2, fun g => q ((dPath_ok hd).1 g), fun g => by rw [(dPath_ok hd).2 g] at r; exact r⟩
theorem nsp_e {H : Hp} {E : XK} {a b : Ag} {k : Option Out} {o : Out} (hd : dSpan a b k = some o) (r : Rs c H o E) (g : spanT a.1 b.1 = false) : Rs c H (.span a.2 b.2) E := by rw [(dSpan_ok hd).2 g] at r; exact r
theorem nsp_n {a b : Ag} {o : Out} {p : Prop} (hd : dSpan a b none = some o) (g : spanT a.1 b.1 = true) : p := by cases (dSpan_ok hd).1 g
theorem scEfo : FnScope ["self", "path", "names"] ["self", "path"] (defScope sEfo) := ⟨rfl, rfl, rfl, by decide +kernel, rfl, by decide +kernel, by decide +kernel⟩
theorem ok_Efo (F : Fun K "folder" "Deed.folder" sEfo f fd) (hNbt : Has K mg "names_below_top" sNbt ["path"] fNbt dNbt) (GNbt : FnOk P w K mg base (CXw P w) 5 fNbt dNbt ["path"] (spNbt c)) : FnOk P w K mg base (CXw P w) 6 f fd ["self", "path"] (spE1 c) := by
  refine F.okX scEfo (fun vs H Q E h => ?_) (fun cdv A outer s H vs Q E hr h => ?_)
  · obtain ⟨d, x, o, rfl, _⟩ := h
    rfl
  obtain ⟨d, x, o, rfl, hx, hd, r⟩ := h
  have hlv : Leaves (cxOf (CXw P w) P w K mg base ["self", "path", "names"] "Deed.folder" (defScope sEfo) f cdv A outer s H E) E := leaves_fn
  refine ⟨_, (pss_cons (ps_set (i := 2) scEfo.nd rfl (Or.inl rfl) (pe_call GNbt (hr.mono (by decide)) rfl hNbt.nm hNbt.fn.kp hNbt.bd .nil (passes_of hlv) (pc (pv 1) pa_nil)))
    (pss_cons ps_never
    (pss_one ps_never))), ?_⟩
  exact ⟨_, rfl, nbt_in hx hd r fun k => by cases k⟩
theorem scEdr : FnScope ["self", "path", "names"] ["self", "path"] (defScope sEdr) := ⟨rfl, rfl, rfl, by decide +kernel, rfl, by decide +kernel, by decide +kernel⟩
theorem ok_Edr (F : Fun K "drop" "Deed.drop" sEdr f fd) (hNbt : Has K mg "names_below_top" sNbt ["path"] fNbt dNbt) (GNbt : FnOk P w K mg base (CXw P w) 5 fNbt dNbt ["path"] (spNbt c)) : FnOk P w K mg base (CXw P w) 6 f fd ["self", "path"] (spE1 c) := by
  refine F.okX scEdr (fun vs H Q E h => ?_) (fun cdv A outer s H vs Q E hr h => ?_)
  · obtain ⟨d, x, o, rfl, _⟩ := h
    rfl
  obtain ⟨d, x, o, rfl, hx, hd, r⟩ := h
  have hlv : Leaves (cxOf (CXw P w) P w K mg base ["self", "path", "names"] "Deed.drop" (defScope sEdr) f cdv A outer s H E) E := leaves_fn
  refine ⟨_, (pss_cons (ps_set (i := 2) scEdr.nd rfl (Or.inl rfl) (pe_call GNbt (hr.mono (by decide)) rfl hNbt.nm hNbt.fn.kp hNbt.bd .nil (passes_of hlv) (pc (pv 1) pa_nil)))
    (pss_cons ps_never
    (pss_one ps_never))), ?_⟩
  exact ⟨_, rfl, nbt_in hx hd r fun k => by cases k⟩
theorem scEtw : FnScope ["self", "path", "to", "names", "to_names", "place"] ["self", "path", "to"] (defScope sEtw) := ⟨rfl, rfl, rfl, by decide +kernel, rfl, by decide +kernel, by decide +kernel⟩
theorem ok_Etw (F : Fun K "twin" "Deed.twin" sEtw f fd) (hNbt : Has K mg "names_below_top" sNbt ["path"] fNbt dNbt) (GNbt : FnOk P w K mg base (CXw P w) 5 fNbt dNbt ["path"] (spNbt c)) : FnOk P w K mg base (CXw P w) 6 f fd ["self", "path", "to"] (spE2 c) := by
  refine F.okX scEtw (fun vs H Q E h => ?_) (fun cdv A outer s H vs Q E hr h => ?_)
  · obtain ⟨d, x, y, o, rfl, _⟩ := h
    rfl
  obtain ⟨d, x, y, o, rfl, hx, hy, hd, r⟩ := h
  have hlv : Leaves (cxOf (CXw P w) P w K mg base ["self", "path", "to", "names", "to_names", "place"] "Deed.twin" (defScope sEtw) f cdv A outer s H E) E := leaves_fn
  refine ⟨_, (pss_cons (ps_set (i := 3) scEtw.nd rfl (Or.inl rfl) (pe_call GNbt (hr.mono (by decide)) rfl hNbt.nm hNbt.fn.kp hNbt.bd .nil (passes_of hlv) (pc (pv 1) pa_nil)))
    (pss_cons (ps_set (i := 4) scEtw.nd rfl (Or.inl rfl) (pe_call GNbt (hr.mono (by decide)) rfl hNbt.nm hNbt.fn.kp hNbt.bd .nil (passes_of hlv) (pc (pv 2) pa_nil)))
    (pss_cons ps_never
    (pss_cons ps_never
    (pss_one ps_never))))), ?_⟩
  exact ⟨_, rfl, nbt_in hx hd r fun k v H1 s1 => ⟨_, rfl, nbt_in (hy.mono s1) k (r.mono s1) fun k => by cases k⟩⟩
theorem scEmo : FnScope ["self", "path", "to", "names", "to_names", "moving"] ["self", "path", "to"] (defScope sEmo) := ⟨rfl, rfl, rfl, by decide +kernel, rfl, by decide +kernel, by decide +kernel⟩
theorem ok_Emo (F : Fun K "move" "Deed.move" sEmo f fd) (hNbt : Has K mg "names_below_top" sNbt ["path"] fNbt dNbt) (GNbt : FnOk P w K mg base (CXw P w) 5 fNbt dNbt ["path"] (spNbt c)) : FnOk P w K mg base (CXw P w) 6 f fd ["self", "path", "to"] (spE2 c) := by
  refine F.okX scEmo (fun vs H Q E h => ?_) (fun cdv A outer s H vs Q E hr h => ?_)
  · obtain ⟨d, x, y, o, rfl, _⟩ := h
    rfl
  obtain ⟨d, x, y, o, rfl, hx, hy, hd, r⟩ := h
  have hlv : Leaves (cxOf (CXw P w) P w K mg base ["self", "path", "to", "names", "to_names", "moving"] "Deed.move" (defScope sEmo) f cdv A outer s H E) E := leaves_fn
  refine ⟨_, (pss_cons (ps_set (i := 3) scEmo.nd rfl (Or.inl rfl) (pe_call GNbt (hr.mono (by decide)) rfl hNbt.nm hNbt.fn.kp hNbt.bd .nil (passes_of hlv) (pc (pv 1) pa_nil)))
    (pss_cons (ps_set (i := 4) scEmo.nd rfl (Or.inl rfl) (pe_call GNbt (hr.mono (by decide)) rfl hNbt.nm hNbt.fn.kp hNbt.bd .nil (passes_of hlv) (pc (pv 2) pa_nil)))
    (pss_cons ps_never
    (pss_cons ps_never
    (pss_cons ps_never
    (pss_cons ps_never
    (pss_cons ps_never
    (pss_one ps_never)))))))), ?_⟩
  exact ⟨_, rfl, nbt_in hx hd r fun k v H1 s1 => ⟨_, rfl, nbt_in (hy.mono s1) k (r.mono s1) fun k => by cases k⟩⟩
def spEpu (c : Cl) : Sp := fun vs H Q E => ∃ d x a r o, vs = [d, x.2, a.2, r.2] ∧ Ar H x ∧ Ar H a ∧ Ar H r ∧ dPath x false (dRow r (dSpan a (lenA r) none)) = some o ∧ Rs c H o E
theorem scEpu : FnScope ["self", "path", "at", "cells", "names", "knot", "row", "begin", "some"] ["self", "path", "at", "cells"] (defScope sEpu) := ⟨rfl, rfl, rfl, by decide +kernel, rfl, by decide +kernel, by decide +kernel⟩
theorem ok_Epu (F : Fun K "put" "Deed.put" sEpu f fd) (hNbt : Has K mg "names_below_top" sNbt ["path"] fNbt dNbt) (GNbt : FnOk P w K mg base (CXw P w) 5 fNbt dNbt ["path"] (spNbt c)) (hNcl : Has K mg "need_cells" sNcl ["cells"] fNcl dNcl) (GNcl : FnOk P w K mg base (CXw P w) 4 fNcl dNcl ["cells"] (spNcl c))
    (hNsp : Has K mg "need_span" sNsp ["at", "long"] fNsp dNsp) (GNsp : FnOk P w K mg base (CXw P w) 4 fNsp dNsp ["at", "long"] (spNsp c)) (T : Txt mg) : FnOk P w K mg base (CXw P w) 6 f fd ["self", "path", "at", "cells"] (spEpu c) := by
  refine F.okX scEpu (fun vs H Q E h => ?_) (fun cdv A outer s H vs Q E hr h => ?_)
  · obtain ⟨d, x, a, r, o, rfl, _⟩ := h
    rfl
  obtain ⟨d, x, a, y, o, rfl, hx, ha, hy, hd, r⟩ := h
  have hlv : Leaves (cxOf (CXw P w) P w K mg base ["self", "path", "at", "cells", "names", "knot", "row", "begin", "some"] "Deed.put" (defScope sEpu) f cdv A outer s H E) E := leaves_fn
  refine ⟨_, (pss_cons (ps_set (i := 4) scEpu.nd rfl (Or.inl rfl) (pe_call GNbt (hr.mono (by decide)) rfl hNbt.nm hNbt.fn.kp hNbt.bd .nil (passes_of hlv) (pc (pv 1) pa_nil)))
    (pss_cons (ps_expr (pe_call GNcl (hr.mono (by decide)) rfl hNcl.nm hNcl.fn.kp hNcl.bd .nil (passes_of hlv) (pc (pv 3) pa_nil)))
    (pss_cons (ps_expr (pe_call GNsp (hr.mono (by decide)) rfl hNsp.nm hNsp.fn.kp hNsp.bd .nil (passes_of hlv) (pc (pv 2) (pc (pe_callB call_len_seq rfl T.len PySem.boot_len (pc (pv 3) pa_nil)) pa_nil))))
    (pss_cons ps_never
    (pss_cons ps_never
    (pss_cons ps_never
    (pss_one ps_never))))))), ?_⟩
  refine ⟨_, rfl, nbt_in hx hd r fun k v H1 s1 => ⟨_, rfl, y.2, y.1, rfl, (hy.mono s1).1, hy.2, fun g H2 s2 => ?_, fun g => ?_⟩⟩
  · have k2 := (dRow_ok k).1 g
    have s12 := s1.trans s2
    obtain ⟨t, v0⟩ := y
    cases t with
    | lst l =>
      obtain ⟨b, vs, rfl, eb, kb⟩ := (hy.mono s12).1.lst
      have ln := kb.len
      refine ⟨_, rfl, _, rfl, b, vs, rfl, .inl (SqL.of eb), ?_⟩
      rw [ln]
      exact ⟨a.2, _, a.1, .int (l.length : Nat), rfl, (ha.mono s12).1, At.int _, fun g => nsp_n k2 g, fun g => nsp_e k2 (r.mono s12) g⟩
    | _ => cases g
  · rw [(dRow_ok k).2 g] at r
    exact r.mono s1
def spEtr (c : Cl) (top : Bool) (hi : Int) : Sp := fun vs H Q E => ∃ d x a o, vs = [d, x.2, a.2] ∧ Ar H x ∧ Ar H a ∧ dPath x top (dWin a hi none) = some o ∧ Rs c H o E
theorem scEtr : FnScope ["self", "path", "size", "names", "knot"] ["self", "path", "size"] (defScope sEtr) := ⟨rfl, rfl, rfl, by decide +kernel, rfl, by decide +kernel, by decide +kernel⟩
theorem ok_Etr (F : Fun K "trim" "Deed.trim" sEtr f fd) (hNbt : Has K mg "names_below_top" sNbt ["path"] fNbt dNbt) (GNbt : FnOk P w K mg base (CXw P w) 5 fNbt dNbt ["path"] (spNbt c)) (hWth : Has K mg "is_within" sWth ["thing", "low", "high"] fWth dWth) (GWth : FnOk P w K mg base CX0 2 fWth dWth ["thing", "low", "high"] spWth0)
    (hNS : XHas K mg "NoSpan" sNSi c.NS bm fI dI ["self", "at", "long"]) (GNS : FnOk P w K mg base CX0 1 fI dI ["self", "at", "long"] (spX2 c.NS "at" "long")) (T : Txt mg) : FnOk P w K mg base (CXw P w) 6 f fd ["self", "path", "size"] (spEtr c false 40) := by
  refine F.okX scEtr (fun vs H Q E h => ?_) (fun cdv A outer s H vs Q E hr h => ?_)
  · obtain ⟨d, x, a, o, rfl, _⟩ := h
    rfl
  obtain ⟨d, x, a, o, rfl, hx, ha, hd, r⟩ := h
  obtain ⟨t2, moc⟩ := T.moc
  have hlv : Leaves (cxOf (CXw P w) P w K mg base ["self", "path", "size", "names", "knot"] "Deed.trim" (defScope sEtr) f cdv A outer s H E) E := leaves_fn
  refine ⟨_, (pss_cons (ps_set (i := 3) scEtr.nd rfl (Or.inl rfl) (pe_call GNbt (hr.mono (by decide)) rfl hNbt.nm hNbt.fn.kp hNbt.bd .nil (passes_of hlv) (pc (pv 1) pa_nil)))
    (pss_cons (ps_if (pt_not (pt_val (pe_call GWth (hr.mono (by decide)) rfl hWth.nm hWth.fn.kp hWth.bd .nil pass0 (pc (pv 2) (pc pe_int (pc (pe_glob (v := .int 40) rfl moc ⟨_, rfl⟩) pa_nil))))))
    (pss_one (ps_raise hNS.xm.ob hNS.be hr.hd hlv (pe_exc hNS.xm GNS (hr.mono (by decide)) rfl hNS.nm hNS.bd .nil pass0 (pc pe_int (pc (pv 2) pa_nil)))))
    pss_nil)
    (pss_cons ps_never
    (pss_one ps_never)))), ?_⟩
  refine ⟨_, rfl, nbt_in hx hd r fun k v H1 s1 => ⟨_, rfl, a.2, 0, 40, rfl, (ha.mono s1).1.ty0, _, rfl, ?_⟩⟩
  rw [(ha.mono s1).1.wth]
  cases e : wthT a.1 0 40 with
  | false =>
    rw [(dWin_ok k).2 e] at r
    exact iteT ⟨_, rfl, fun e he => raise_span (r.mono s1) e he⟩
  | true => cases (dWin_ok k).1 e
theorem scEli : FnScope ["self", "path", "many", "names", "there"] ["self", "path", "many"] (defScope sEli) := ⟨rfl, rfl, rfl, by decide +kernel, rfl, by decide +kernel, by decide +kernel⟩
theorem ok_Eli (F : Fun K "set_limit" "Deed.set_limit" sEli f fd) (hNof : Has K mg "names_of" sNof ["path"] fNof dNof) (GNof : FnOk P w K mg base (CXw P w) 4 fNof dNof ["path"] (spNof c)) (hWth : Has K mg "is_within" sWth ["thing", "low", "high"] fWth dWth) (GWth : FnOk P w K mg base CX0 2 fWth dWth ["thing", "low", "high"] spWth0)
    (hNS : XHas K mg "NoSpan" sNSi c.NS bm fI dI ["self", "at", "long"]) (GNS : FnOk P w K mg base CX0 1 fI dI ["self", "at", "long"] (spX2 c.NS "at" "long")) (T : Txt mg) : FnOk P w K mg base (CXw P w) 6 f fd ["self", "path", "many"] (spEtr c true 999) := by
  refine F.okX scEli (fun vs H Q E h => ?_) (fun cdv A outer s H vs Q E hr h => ?_)
  · obtain ⟨d, x, a, o, rfl, _⟩ := h
    rfl
  obtain ⟨d, x, a, o, rfl, hx, ha, hd, r⟩ := h
  obtain ⟨t2, mot⟩ := T.mot
  have hlv : Leaves (cxOf (CXw P w) P w K mg base ["self", "path", "many", "names", "there"] "Deed.set_limit" (defScope sEli) f cdv A outer s H E) E := leaves_fn
  refine ⟨_, (pss_cons (ps_set (i := 3) scEli.nd rfl (Or.inl rfl) (pe_call GNof (hr.mono (by decide)) rfl hNof.nm hNof.fn.kp hNof.bd .nil (passes_of hlv) (pc (pv 1) pa_nil)))
    (pss_cons (ps_if (pt_not (pt_val (pe_call GWth (hr.mono (by decide)) rfl hWth.nm hWth.fn.kp hWth.bd .nil pass0 (pc (pv 2) (pc pe_int (pc (pe_glob (v := .int 999) rfl mot ⟨_, rfl⟩) pa_nil))))))
    (pss_one (ps_raise hNS.xm.ob hNS.be hr.hd hlv (pe_exc hNS.xm GNS (hr.mono (by decide)) rfl hNS.nm hNS.bd .nil pass0 (pc pe_int (pc (pv 2) pa_nil)))))
    pss_nil)
    (pss_cons ps_never
    (pss_cons ps_never
    (pss_one ps_never))))), ?_⟩
  refine ⟨_, rfl, x.2, x.1, rfl, hx.1, hx.2, fun g p z l H1 _ s1 _ _ => ⟨_, rfl, a.2, 0, 999, rfl, (ha.mono s1).1.ty0, _, rfl, ?_⟩, fun g => by rw [(dPath_ok hd).2 g] at r; exact r⟩
  have k := (dPath_ok hd).1 g
  rw [(ha.mono s1).1.wth]
  cases e : wthT a.1 0 999 with
  | false =>
    rw [(dWin_ok k).2 e] at r
    exact iteT ⟨_, rfl, fun e he => raise_span (r.mono s1) e he⟩
  | true => cases (dWin_ok k).1 e
def spEho (c : Cl) : Sp := fun vs H Q E => ∃ d x a l o, vs = [d, x.2, a.2, l.2] ∧ Ar H x ∧ Ar H a ∧ Ar H l ∧ dPath x false (dSpan a l none) = some o ∧ Rs c H o E
theorem scEho : FnScope ["self", "path", "at", "long", "names", "knot"] ["self", "path", "at", "long"] (defScope sEho) := ⟨rfl, rfl, rfl, by decide +kernel, rfl, by decide +kernel, by decide +kernel⟩
theorem ok_Eho (F : Fun K "hollow" "Deed.hollow" sEho f fd) (hNbt : Has K mg "names_below_top" sNbt ["path"] fNbt dNbt) (GNbt : FnOk P w K mg base (CXw P w) 5 fNbt dNbt ["path"] (spNbt c))
    (hNsp : Has K mg "need_span" sNsp ["at", "long"] fNsp dNsp) (GNsp : FnOk P w K mg base (CXw P w) 4 fNsp dNsp ["at", "long"] (spNsp c)) : FnOk P w K mg base (CXw P w) 6 f fd ["self", "path", "at", "long"] (spEho c) := by
  refine F.okX scEho (fun vs H Q E h => ?_) (fun cdv A outer s H vs Q E hr h => ?_)
  · obtain ⟨d, x, a, r, o, rfl, _⟩ := h
    rfl
  obtain ⟨d, x, a, y, o, rfl, hx, ha, hy, hd, r⟩ := h
  have hlv : Leaves (cxOf (CXw P w) P w K mg base ["self", "path", "at", "long", "names", "knot"] "Deed.hollow" (defScope sEho) f cdv A outer s H E) E := leaves_fn
  refine ⟨_, (pss_cons (ps_set (i := 4) scEho.nd rfl (Or.inl rfl) (pe_call GNbt (hr.mono (by decide)) rfl hNbt.nm hNbt.fn.kp hNbt.bd .nil (passes_of hlv) (pc (pv 1) pa_nil)))
    (pss_cons (ps_expr (pe_call GNsp (hr.mono (by decide)) rfl hNsp.nm hNsp.fn.kp hNsp.bd .nil (passes_of hlv) (pc (pv 2) (pc (pv 3) pa_nil))))
    (pss_cons ps_never
    (pss_cons ps_never
    (pss_one ps_never))))), ?_⟩
  exact ⟨_, rfl, nbt_in hx hd r fun k v H1 s1 => ⟨_, rfl, _, rfl, a.2, y.2, a.1, y.1, rfl, (ha.mono s1).1, (hy.mono s1).1, fun g => nsp_n k g, fun g => nsp_e k (r.mono s1) g⟩⟩
def spEsh (c : Cl) : Sp := fun vs H Q E => ∃ d x a l y b o, vs = [d, x.2, a.2, l.2, y.2, b.2] ∧ Ar H x ∧ Ar H a ∧ Ar H l ∧ Ar H y ∧ Ar H b ∧ dPath x false (dPath y false (dSpan a l (dSpan b l none))) = some o ∧ Rs c H o E
theorem scEsh : FnScope ["self", "path", "at", "long", "to", "to_at", "names", "to_names", "knot", "to_knot", "row"] ["self", "path", "at", "long", "to", "to_at"] (defScope sEsh) := ⟨rfl, rfl, rfl, by decide +kernel, rfl, by decide +kernel, by decide +kernel⟩
theorem ok_Esh (F : Fun K "share" "Deed.share" sEsh f fd) (hNbt : Has K mg "names_below_top" sNbt ["path"] fNbt dNbt) (GNbt : FnOk P w K mg base (CXw P w) 5 fNbt dNbt ["path"] (spNbt c))
    (hNsp : Has K mg "need_span" sNsp ["at", "long"] fNsp dNsp) (GNsp : FnOk P w K mg base (CXw P w) 4 fNsp dNsp ["at", "long"] (spNsp c)) : FnOk P w K mg base (CXw P w) 6 f fd ["self", "path", "at", "long", "to", "to_at"] (spEsh c) := by
  refine F.okX scEsh (fun vs H Q E h => ?_) (fun cdv A outer s H vs Q E hr h => ?_)
  · obtain ⟨d, x, a, l, y, b, o, rfl, _⟩ := h
    rfl
  obtain ⟨d, x, a, l, y, b, o, rfl, hx, ha, hl, hy, hb, hd, r⟩ := h
  have hlv : Leaves (cxOf (CXw P w) P w K mg base ["self", "path", "at", "long", "to", "to_at", "names", "to_names", "knot", "to_knot", "row"] "Deed.share" (defScope sEsh) f cdv A outer s H E) E := leaves_fn
  refine ⟨_, (pss_cons (ps_set (i := 6) scEsh.nd rfl (Or.inl rfl) (pe_call GNbt (hr.mono (by decide)) rfl hNbt.nm hNbt.fn.kp hNbt.bd .nil (passes_of hlv) (pc (pv 1) pa_nil)))
    (pss_cons (ps_set (i := 7) scEsh.nd rfl (Or.inl rfl) (pe_call GNbt (hr.mono (by decide)) rfl hNbt.nm hNbt.fn.kp hNbt.bd .nil (passes_of hlv) (pc (pv 4) pa_nil)))
    (pss_cons (ps_expr (pe_call GNsp (hr.mono (by decide)) rfl hNsp.nm hNsp.fn.kp hNsp.bd .nil (passes_of hlv) (pc (pv 2) (pc (pv 3) pa_nil))))
    (pss_cons (ps_expr (pe_call GNsp (hr.mono (by decide)) rfl hNsp.nm hNsp.fn.kp hNsp.bd .nil (passes_of hlv) (pc (pv 5) (pc (pv 3) pa_nil))))
    (pss_cons ps_never
    (pss_cons ps_never
    (pss_cons ps_never
    (pss_cons ps_never
    (pss_one ps_never))))))))), ?_⟩
  refine ⟨_, rfl, nbt_in hx hd r fun k v H1 s1 => ⟨_, rfl, nbt_in (hy.mono s1) k (r.mono s1) fun k v H2 s2 => ?_⟩⟩
  have s := s1.trans s2
  exact ⟨_, rfl, _, rfl, a.2, l.2, a.1, l.1, rfl, (ha.mono s).1, (hl.mono s).1, fun g => ⟨_, rfl, _, rfl, b.2, l.2, b.1, l.1, rfl, (hb.mono s).1, (hl.mono s).1, fun g2 => nsp_n ((dSpan_ok k).1 g) g2, fun g2 => nsp_e ((dSpan_ok k).1 g) (r.mono s) g2⟩, fun g => nsp_e k (r.mono s) g⟩
end
end K43
set_option maxHeartbeats 4000000
namespace K43
open PySem L2
section
variable {P : Program} {w : World} {K : PySem.W.Frag} {mg : Str → Option Value} {base : Heap} {f fLwi : Addr} {fd dLwi : FuncData} {c : Cl}
/-! ### the law's own tests -/
theorem scLwi : FnScope ["_law_number_here", "_law_low", "_law_high"] ["_law_number_here", "_law_low", "_law_high"] (defScope sLwi) := ⟨rfl, rfl, rfl, by decide +kernel, rfl, by decide +kernel, by decide +kernel⟩
theorem ok_Lwi (F : Fun K "_law_within" "_law_within" sLwi f fd) (T : Txt mg) : FnOk P w K mg base CX0 1 f fd ["_law_number_here", "_law_low", "_law_high"] spWth0 := by
  refine F.ok scLwi (fun vs H Q E h => ?_) (fun cdv A outer s H vs Q E hr h => ?_)
  · obtain ⟨x, l, h, rfl, _⟩ := h
    rfl
  obtain ⟨x, l, h, rfl, hT, q⟩ := h
  obtain ⟨t, ty, k1, k2⟩ := hT.ty (K := K)
  refine ⟨_, (pss_one (ps_ret (pe_and (pe_callB call_isinst rfl T.isi PyProof.Rows.boot_isinstance (pc (pv 0) (pc (pe_bltn (v := .ty "int") rfl T.int PyProof.Rows.boot_int rfl) pa_nil))) (pe_and (pe_not (pe_callB call_isinst rfl T.isi PyProof.Rows.boot_isinstance (pc (pv 0) (pc (pe_bltn (v := .ty "bool") rfl T.bol PyProof.Rows.boot_bool rfl) pa_nil)))) (pe_one (pe_chain op_le op_le (pv 1) (pv 0) (pv 2))))))), ?_⟩
  refine ⟨_, rfl, x, "int", t, isI0 x, rfl, ty, k1, _, rfl, ?_⟩
  rcases hT with ⟨n, rfl⟩ | ⟨z, rfl⟩ | ⟨b, rfl⟩ | rfl | ⟨a, z, rfl, _⟩ | ⟨a, z, rfl, _⟩ | ⟨a, z, rfl, _⟩
  · refine iteT ⟨_, rfl, .int n, "bool", t, false, rfl, ty, k2, _, rfl, _, rfl, iteT ?_⟩
    refine ⟨_, rfl, _, rfl, _, _, rfl, rfl, _, rfl, ?_⟩
    have q' : Q (.bl (decide (l ≤ n) && decide (n ≤ h))) H := q
    refine ite2 (fun c => ?_) (fun c => ?_)
    · rw [c] at q'
      exact ⟨_, rfl, _, _, rfl, rfl, q'⟩
    · rw [Bool.not_eq_true] at c
      rw [c] at q'
      exact q'
  · exact iteF q
  · exact iteT ⟨_, rfl, .bl b, "bool", t, true, rfl, ty, k2, _, rfl, _, rfl, iteF q⟩
  all_goals exact iteF q
theorem span_law {ta tb : Tr} : spanT ta tb = (wthT ta 0 39 && (wthT tb 1 40 && match ta, tb with
    | .int a, .int b => decide (a + b ≤ 40)
    | _, _ => false)) := by
  cases ta with
  | int a =>
    cases tb with
    | int b =>
      show (decide (0 ≤ a) && decide (1 ≤ b) && decide (a + b ≤ 40)) = ((decide (0 ≤ a) && decide (a ≤ 39)) && ((decide (1 ≤ b) && decide (b ≤ 40)) && decide (a + b ≤ 40)))
      rw [← Bool.decide_and, ← Bool.decide_and, ← Bool.decide_and, ← Bool.decide_and, ← Bool.decide_and, ← Bool.decide_and]
      exact decide_eq_decide.mpr ⟨fun h => by omega, fun h => by omega⟩
    | _ => exact (Bool.and_false _).symm
  | _ => rfl
def spGsp : Sp := fun vs H Q _ => ∃ a b ta tb, vs = [a, b] ∧ At H ta a ∧ At H tb b ∧ Q (.bl (spanT ta tb)) H
theorem scGsp : FnScope ["_law_at_here", "_law_long"] ["_law_at_here", "_law_long"] (defScope sGsp) := ⟨rfl, rfl, rfl, by decide +kernel, rfl, by decide +kernel, by decide +kernel⟩
theorem ok_Gsp (F : Fun K "_law_good_span" "_law_good_span" sGsp f fd) (hLwi : Has K mg "_law_within" sLwi ["_law_number_here", "_law_low", "_law_high"] fLwi dLwi) (GLwi : FnOk P w K mg base CX0 1 fLwi dLwi ["_law_number_here", "_law_low", "_law_high"] spWth0) : FnOk P w K mg base CX0 2 f fd ["_law_at_here", "_law_long"] spGsp := by
  refine F.ok scGsp (fun vs H Q E h => ?_) (fun cdv A outer s H vs Q E hr h => ?_)
  · obtain ⟨a, b, ta, tb, rfl, _⟩ := h
    rfl
  obtain ⟨a, b, ta, tb, rfl, ha, hb, q⟩ := h
  rw [span_law] at q
  refine ⟨_, (pss_one (ps_ret (pe_and (pe_call GLwi (hr.mono (by decide)) rfl hLwi.nm hLwi.fn.kp hLwi.bd .nil pass0 (pc (pv 0) (pc pe_int (pc pe_int pa_nil)))) (pe_and (pe_call GLwi (hr.mono (by decide)) rfl hLwi.nm hLwi.fn.kp hLwi.bd .nil pass0 (pc (pv 1) (pc pe_int (pc pe_int pa_nil)))) (pe_one (pe_cmpR op_le (pe_op op_add (pv 0) (pv 1)) pe_int (nomark _))))))), ?_⟩
  refine ⟨_, rfl, a, 0, 39, rfl, ha.ty0, _, rfl, ?_⟩
  rw [ha.wth]
  cases e : wthT ta 0 39 with
  | false =>
    rw [e] at q
    exact iteF q
  | true =>
    rw [e] at q
    refine iteT ⟨_, rfl, b, 1, 40, rfl, hb.ty0, _, rfl, ?_⟩
    rw [hb.wth]
    cases e2 : wthT tb 1 40 with
    | false =>
      rw [e2] at q
      exact iteF q
    | true =>
      rw [e2] at q
      cases ta with
      | int m =>
        cases tb with
        | int n =>
          have ea : a = .int m := by unfold At at ha; exact ha
          have eb : b = .int n := by unfold At at hb; exact hb
          subst ea eb
          exact iteT ⟨_, rfl, _, rfl, _, _, rfl, rfl, _, _, rfl, rfl, q⟩
        | _ => cases e2
      | _ => cases e
def spGro : Sp := fun vs H Q _ => ∃ x t, vs = [x] ∧ At H t x ∧ Q (.bl (rowT t)) H
theorem scGro : FnScope ["_law_row_here", "_law_number_here"] ["_law_row_here"] (defScope sGro) := ⟨rfl, rfl, rfl, by decide +kernel, rfl, by decide +kernel, by decide +kernel⟩
theorem ok_Gro (F : Fun K "_law_good_row" "_law_good_row" sGro f fd) (hLwi : Has K mg "_law_within" sLwi ["_law_number_here", "_law_low", "_law_high"] fLwi dLwi) (GLwi : FnOk P w K mg base CX0 1 fLwi dLwi ["_law_number_here", "_law_low", "_law_high"] spWth0) (T : Txt mg) : FnOk P w K mg base CX0 2 f fd ["_law_row_here"] spGro := by
  refine F.ok scGro (fun vs H Q E h => ?_) (fun cdv A outer s H vs Q E hr h => ?_)
  · obtain ⟨x, t, rfl, _⟩ := h
    rfl
  obtain ⟨x, t, rfl, hx, q⟩ := h
  obtain ⟨ty, ht, _, _, k3⟩ := hx.ty (K := K)
  refine ⟨_, (pss_cons (ps_if (PW.pt (pw_or (pt_not (pt_val (pe_callB call_isinst rfl T.isi PyProof.Rows.boot_isinstance (pc (pv 0) (pc (pe_bltn (v := .ty "list") rfl T.lst PyProof.Rows.boot_list rfl) pa_nil))))) (pw_or1 (pt_not (pt_chain op_le op_le pe_int (pe_callB call_len_seq rfl T.len PySem.boot_len (pc (pv 0) pa_nil)) pe_int)))))
    (pss_one (ps_ret pe_bl))
    pss_nil)
    (pss_cons (ps_for PassesOwn.never rfl (pi_list (pv 0)) (pg_name (i := 1) scGro.nd rfl (Or.inl rfl))
    (pss_one (ps_if (pt_not (pt_val (pe_call GLwi (hr.mono (by decide)) rfl hLwi.nm hLwi.fn.kp hLwi.bd .nil pass0 (pc (pv 1) (pc pe_int (pc pe_int pa_nil))))))
    (pss_one (ps_ret pe_bl))
    pss_nil)))
    (pss_one (ps_ret pe_bl)))), ?_⟩
  refine ⟨_, rfl, x, "list", ty, isLstT t, rfl, ht, k3, _, rfl, ?_⟩
  cases e : isLstT t with
  | false =>
    have : rowT t = false := by cases t <;> first | rfl | cases e
    rw [this] at q
    exact iteT (iteT q)
  | true =>
    cases t with
    | lst l =>
      obtain ⟨a, vs, rfl, ea, ka⟩ := hx.lst
      have ln := ka.len
      have er : rowT (.lst l) = ((decide (1 ≤ l.length) && decide (l.length ≤ 40)) && l.all fun u => wthT u 0 999999) := rfl
      refine iteF ⟨_, rfl, a, vs, rfl, .inl (SqL.of ea), _, _, rfl, rfl, _, rfl, ?_⟩
      refine ite2 (fun c1 => ?_) (fun c1 => ?_)
      · have d1 : (1 : Int) ≤ ((vs.length : Nat) : Int) := of_decide_eq_true c1
        refine ⟨_, _, rfl, rfl, _, rfl, ?_⟩
        refine ite2 (fun c2 => ?_) (fun c2 => ?_)
        · have d2 : ¬ ((vs.length : Nat) : Int) ≤ 40 := fun z => by rw [decide_eq_true z] at c2; cases c2
          rw [er, decide_eq_false (show ¬ l.length ≤ 40 by omega), Bool.and_false, Bool.false_and] at q
          exact q
        · have d2 : ((vs.length : Nat) : Int) ≤ 40 := by
            by_cases z : ((vs.length : Nat) : Int) ≤ 40
            · exact z
            · rw [decide_eq_false z] at c2; exact absurd rfl c2
          have er2 : rowT (.lst l) = l.all fun u => wthT u 0 999999 := by
            rw [er, decide_eq_true (show 1 ≤ l.length by omega), decide_eq_true (show l.length ≤ 40 by omega)]
            rfl
          rw [er2] at q
          refine ⟨_, rfl, a, rfl, ⟨_, SqL.of ea⟩, ?_⟩
          refine for_list (K := K) (xs := vs) (fun i σ H2 => H2 = H ∧ (∃ o, σ = [some (.ref a), o]) ∧ (l.take i).all (fun u => wthT u 0 999999) = true) ⟨rfl, ⟨_, rfl⟩, rfl⟩ (fun i σ H2 _ h2 => by rw [h2.1]; exact SqL.of ea) ?_ ?_
          · rintro i y σ H2 hi ⟨rfl, ⟨o, rfl⟩, ht⟩
            obtain ⟨u, hu, hau⟩ := ka.get hi
            refine ⟨_, rfl, y, 0, 999999, rfl, hau.ty0, _, rfl, ?_⟩
            rw [hau.wth]
            cases e3 : wthT u 0 999999 with
            | false =>
              have : (l.all fun u => wthT u 0 999999) = false := by
                rw [List.all_eq_false]
                exact ⟨u, List.mem_of_getElem? hu, by rw [e3]; decide⟩
              rw [this] at q
              exact iteT q
            | true =>
              refine iteF ⟨rfl, ⟨_, rfl⟩, ?_⟩
              obtain ⟨hl, e4⟩ := List.getElem?_eq_some_iff.mp hu
              rw [List.take_succ_eq_append_getElem hl, List.all_append, ht, e4]
              simp [e3]
          · rintro σ H2 ⟨rfl, ⟨o, rfl⟩, ht⟩
            rw [List.take_of_length_le (by omega)] at ht
            rw [ht] at q
            exact q
      · have d1 : ¬ (1 : Int) ≤ ((vs.length : Nat) : Int) := fun z => c1 (decide_eq_true z)
        rw [er, decide_eq_false (show ¬ 1 ≤ l.length by omega), Bool.false_and, Bool.false_and] at q
        exact ⟨_, rfl, iteT q⟩
    | _ => cases e
theorem for_str {z : Str} {g : TG} {tb : TS} {D : Ends} {σ : St} {H : Hp} (Pv : Nat → St → Hp → Prop) (h0 : Pv 0 σ H)
    (hs : ∀ i c σ H, z.cps.toList[i]? = some c → Pv i σ H → g (.str ⟨#[c]⟩) σ H fun σ2 H2 => tb { D with nx := Pv (i + 1), ct := Pv (i + 1), bk := D.nx } σ2 H2) (hd : ∀ σ H, Pv z.length σ H → D.nx σ H) :
    ∃ W : Nat → Nat → St → Hp → Prop, (∃ m, W 0 m σ H) ∧ ∀ i m σ H, W i m σ H →
      ((Its z).stop i H ∧ D.nx σ H) ∨ ((Its z).go i H ∧ ∃ N : St → Hp → Prop, (∀ σ' H', N σ' H' → ∃ m', m' < m ∧ W (i + 1) m' σ' H') ∧ ∀ x H', (Its z).yld i H x H' → g x σ H' fun σ2 H2 => tb { D with nx := N, ct := N, bk := D.nx } σ2 H2) := by
  refine ⟨fun i m σ H => m = z.length - i ∧ i ≤ z.length ∧ Pv i σ H, ⟨z.length, by simp, Nat.zero_le _, h0⟩, ?_⟩
  rintro i m σ H ⟨rfl, hi, p⟩
  by_cases hlt : i < z.length
  · refine .inr ⟨hlt, Pv (i + 1), fun σ' H' p' => ⟨z.length - (i + 1), by omega, rfl, hlt, p'⟩, fun x H' y => ?_⟩
    obtain ⟨rfl, c, hc, rfl⟩ := y
    exact hs i c σ _ (codes_at hc) p
  · have e : i = z.length := by omega
    subst e
    exact .inl ⟨Nat.le_refl _, hd σ H p⟩
def spGpa : Sp := fun vs H Q _ => ∃ x t b, vs = [x, .bl b] ∧ At H t x ∧ sm t = true ∧ ∀ H', Same H H' → Q (.bl (gp t b)) H'
theorem scGpa : FnScope ["_law_path_here", "_law_top", "_law_names", "_law_name", "_law_sign"] ["_law_path_here", "_law_top"] (defScope sGpa) := ⟨rfl, rfl, rfl, by decide +kernel, rfl, by decide +kernel, by decide +kernel⟩
theorem ok_Gpa (F : Fun K "_law_good_path" "_law_good_path" sGpa f fd) (T : Txt mg) : FnOk P w K mg base CX0 1 f fd ["_law_path_here", "_law_top"] spGpa := by
  refine F.ok scGpa (fun vs H Q E h => ?_) (fun cdv A outer s H vs Q E hr h => ?_)
  · obtain ⟨x, t, b, rfl, _⟩ := h
    rfl
  obtain ⟨x, t, b, rfl, hx, hs, q⟩ := h
  obtain ⟨ty, ht, _, k3, _⟩ := hx.ty (K := K)
  refine ⟨_, (pss_cons (ps_if (pt_not (pt_val (pe_callB call_isinst rfl T.isi PyProof.Rows.boot_isinstance (pc (pv 0) (pc (pe_bltn (v := .ty "str") rfl T.str PyProof.Rows.boot_str rfl) pa_nil)))))
    (pss_one (ps_ret pe_bl))
    pss_nil)
    (pss_cons (ps_if (pt_cmpR op_eq (pv 0) pe_str (nomark _))
    (pss_one (ps_ret (pv 1)))
    pss_nil)
    (pss_cons (ps_set (i := 2) scGpa.nd rfl (Or.inl rfl) (pe_bm PySem.F.plainAttrs_str PySem.F.slot_str_split PySem.F.type_str_split mt_split (pv 0) (pc pe_str pa_nil)))
    (pss_cons (ps_if (pt_cmpR op_gt (pe_callB call_len_seq rfl T.len PySem.boot_len (pc (pv 2) pa_nil)) pe_int (nomark _))
    (pss_one (ps_ret pe_bl))
    pss_nil)
    (pss_cons (ps_for PassesOwn.never rfl (pi_list (pv 2)) (pg_name (i := 3) scGpa.nd rfl (Or.inl rfl))
    (pss_cons (ps_if (pt_not (pt_chain op_le op_le pe_int (pe_callB call_len_str rfl T.len PySem.boot_len (pc (pv 3) pa_nil)) pe_int))
    (pss_one (ps_ret pe_bl))
    pss_nil)
    (pss_one (ps_for PassesOwn.never rfl (pi_str (pv 3)) (pg_name (i := 4) scGpa.nd rfl (Or.inl rfl))
    (pss_one (ps_if (pt_cmpR op_notIn_str (pv 4) pe_str rfl)
    (pss_one (ps_ret pe_bl))
    pss_nil))))))
    (pss_one (ps_ret pe_bl))))))), ?_⟩
  refine ⟨_, rfl, x, "str", ty, isStrT t, rfl, ht, k3, _, rfl, ?_⟩
  cases e : isStrT t with
  | false =>
    have g0 : gp t b = false := by cases t <;> first | rfl | cases e
    rw [g0] at q
    exact iteT (q H (Same.refl H))
  | true =>
    cases t with
    | str z =>
      have ex : x = .str z := by unfold At at hx; exact hx
      subst ex
      have hz : z.length ≤ 100 := by unfold sm at hs; exact of_decide_eq_true hs
      refine iteF ⟨_, rfl, rfl, _, rfl, ?_⟩
      refine ite2 (fun c => ?_) (fun c => ?_)
      · have c' : V.str z = .str (Str.ofString "") := of_decide_eq_true c
        have cz : z = Str.ofString "" := by injection c'
        have eg : gp (.str z) b = b := if_pos cz
        rw [eg] at q
        exact ⟨_, rfl, q H (Same.refl H)⟩
      · have cz : ¬ z = Str.ofString "" := fun e => c (decide_eq_true (by rw [e]))
        have hsl : (sl.length == 0) = false := by decide +kernel
        have eg : gp (.str z) b = (decide ((Txt.split z sl).length ≤ 6) && (Txt.split z sl).all isw) := if_neg cz
        rw [eg] at q
        refine ⟨_, rfl, rfl, z, sl, rfl, rfl, hsl, Nat.le_of_lt (small (by omega)), fun p hp => ?_⟩
        have hpart : ∀ y ∈ Txt.split z sl, y.length ≤ 100 := fun y hy => Nat.le_trans (split_part hy) hz
        have s1 := same_new hp (HO.lst ((Txt.split z sl).map V.str))
        have ep : upd H p (HO.lst ((Txt.split z sl).map V.str)) p = some (.lst ((Txt.split z sl).map V.str)) := upd_same
        revert s1 ep
        generalize upd H p (HO.lst ((Txt.split z sl).map V.str)) = H1
        generalize Txt.split z sl = l at q hpart
        intro s1 ep
        refine ⟨_, rfl, p, _, rfl, .inl (SqL.of ep), _, _, rfl, rfl, _, rfl, ?_⟩
        refine ite2 (fun d => ?_) (fun d => ?_)
        · have d1 : (6 : Int) < (((l.map V.str).length : Nat) : Int) := of_decide_eq_true d
          rw [List.length_map] at d1
          rw [decide_eq_false (show ¬ l.length ≤ 6 by omega), Bool.false_and] at q
          exact q _ s1
        · have d1 : ¬ (6 : Int) < (((l.map V.str).length : Nat) : Int) := fun e => d (decide_eq_true e)
          rw [List.length_map] at d1
          rw [decide_eq_true (show l.length ≤ 6 by omega), Bool.true_and] at q
          have no : ∀ y ∈ l, isw y = false → l.all isw = false := fun y hy h0 => by
            rw [List.all_eq_false]
            exact ⟨y, hy, by rw [h0]; decide⟩
          refine ⟨_, rfl, p, rfl, ⟨_, SqL.of ep⟩, ?_⟩
          refine for_list (K := K) (xs := l.map V.str) (fun i σ H2 => H2 = H1 ∧ (∃ o1 o2, σ = [some (.str z), some (.bl b), some (.ref p), o1, o2]) ∧ (l.take i).all isw = true) ⟨rfl, ⟨_, _, rfl⟩, rfl⟩ (fun i σ H2 _ h2 => by rw [h2.1]; exact SqL.of ep) ?_ ?_
          · rintro i y σ H2 hi ⟨rfl, ⟨o1, o2, rfl⟩, ht⟩
            rw [List.getElem?_map] at hi
            obtain ⟨y', h1, rfl⟩ := Option.map_eq_some_iff.mp hi
            have my := List.mem_of_getElem? h1
            have l1 := hpart y' my
            refine ⟨_, rfl, y', rfl, Nat.le_of_lt (small (by omega)), _, _, rfl, rfl, _, rfl, ?_⟩
            refine ite2 (fun c1 => ?_) (fun c1 => ?_)
            · have d2 : (1 : Int) ≤ (y'.length : Int) := of_decide_eq_true c1
              refine ⟨_, _, rfl, rfl, _, rfl, ?_⟩
              refine ite2 (fun c2 => ?_) (fun c2 => ?_)
              · have d3 : ¬ (y'.length : Int) ≤ 8 := fun e => by rw [decide_eq_true e] at c2; cases c2
                rw [no y' my (isw_len (by omega))] at q
                exact q _ s1
              · have d3 : (y'.length : Int) ≤ 8 := by
                  by_cases e : (y'.length : Int) ≤ 8
                  · exact e
                  · rw [decide_eq_false e] at c2; exact absurd rfl c2
                refine ⟨_, rfl, y', rfl, ?_⟩
                have ew : isw y' = y'.cps.toList.all okc := isw_all (by omega)
                refine for_str (z := y') (fun k σ H3 => H3 = H2 ∧ (∃ o2, σ = [some (.str z), some (.bl b), some (.ref p), some (.str y'), o2]) ∧ (y'.cps.toList.take k).all okc = true) ⟨rfl, ⟨_, rfl⟩, rfl⟩ ?_ ?_
                · rintro k ch σ H3 hk ⟨rfl, ⟨o2, rfl⟩, hka⟩
                  refine ⟨_, rfl, _, _, rfl, rfl, _, rfl, ?_⟩
                  have es := in_sig ch
                  have es' : (!(Builtin.Str.occurrences (Str.ofString "abcdefghijklmnopqrstuvwxyz0123456789") ⟨#[ch]⟩ 0 (Str.ofString "abcdefghijklmnopqrstuvwxyz0123456789").length 1).isEmpty) = okc ch := es
                  rw [es']
                  cases e5 : okc ch with
                  | false =>
                    have nw : isw y' = false := by
                      rw [ew, List.all_eq_false]
                      exact ⟨ch, List.mem_of_getElem? hk, by rw [e5]; decide⟩
                    rw [no y' my nw] at q
                    exact iteT (q _ s1)
                  | true =>
                    refine iteF ⟨rfl, ⟨_, rfl⟩, ?_⟩
                    obtain ⟨hl, e4⟩ := List.getElem?_eq_some_iff.mp hk
                    rw [List.take_succ_eq_append_getElem hl, List.all_append, hka, e4]
                    simp [e5]
                · rintro σ H3 ⟨rfl, ⟨o2, rfl⟩, hka⟩
                  rw [List.take_of_length_le (by rw [codes_len]; exact Nat.le_refl _), ← ew] at hka
                  refine ⟨rfl, ⟨_, _, rfl⟩, ?_⟩
                  obtain ⟨hl, e4⟩ := List.getElem?_eq_some_iff.mp h1
                  rw [List.take_succ_eq_append_getElem hl, List.all_append, ht, e4]
                  simp [hka]
            · have d2 : ¬ (1 : Int) ≤ (y'.length : Int) := fun e => c1 (decide_eq_true e)
              rw [no y' my (isw_len (by omega))] at q
              exact ⟨_, rfl, iteT (q _ s1)⟩
          · rintro σ H2 ⟨rfl, ⟨o1, o2, rfl⟩, ht⟩
            rw [List.take_of_length_le (by simp)] at ht
            rw [ht] at q
            exact q _ s1
    | _ => cases e
end
end K43
set_option maxHeartbeats 4000000
namespace K43
open PySem L2
/-! ### odd things -/
/-- what may be told of: a scalar, or one row of scalars -/
def fl1 : Tr → Bool
  | .tup l => l.all flatT
  | .lst l => l.all flatT
  | .dct => false
  | _ => true
def okT (t : Tr) : Prop := sm t = true ∧ fl1 t = true
theorem ats_pick {H : Hp} {ts : List Tr} {vs : List V} {p : Tr → Prop} (k : Ats H ts vs) (hp : ∀ t ∈ ts, p t) {i : Int} (h0 : 0 ≤ i) (h1 : i < ts.length) : ∃ v t, atI vs i = some v ∧ At H t v ∧ p t := by
  obtain ⟨n, rfl⟩ := Int.eq_ofNat_of_zero_le h0
  have hn : n < ts.length := by omega
  obtain ⟨v, hv, ha⟩ := k.at (List.getElem?_eq_getElem hn)
  exact ⟨v, ts[n], atI_nat hv, ha, hp _ (List.getElem_mem hn)⟩
/-! ### displays: what comes out, by trees -/
def Gv (σ : St) (H : Hp) (te : TE) (t : Tr) : Prop := ∀ H' Q, Same H H' → (∀ v H'', Same H' H'' → At H'' t v → Q v H'') → te σ H' Q
def Gvs (σ : St) (H : Hp) (tl : TA) (ts : List Tr) : Prop := ∀ H' (k : List V → Hp → Prop), Same H H' → (∀ vs H'', Same H' H'' → Ats H'' ts vs → k vs H'') → tl σ H' k
section
variable {σ : St} {H : Hp}
theorem gv_int (n : Int) : Gv σ H (tC (.int n)) (.int n) := fun H' Q _ q => q _ _ (Same.refl _) (At.int n)
theorem gv_str (n : Str) : Gv σ H (tC (.str n)) (.str n) := fun H' Q _ q => q _ _ (Same.refl _) (At.str n)
theorem gv_bl (n : Bool) : Gv σ H (tC (.bl n)) (.bl n) := fun H' Q _ q => q _ _ (Same.refl _) (At.bl n)
theorem gv_non : Gv σ H (tC .non) .non := fun H' Q _ q => q _ _ (Same.refl _) At.non
theorem gv_dct : Gv σ H tDNewK .dct := fun H' Q _ q p hp => q _ _ (same_new hp _) (by unfold At; exact ⟨p, _, rfl, upd_same⟩)
theorem gv_var {i : Nat} {v : V} {t : Tr} (hi : σ[i]? = some (some v)) (h : At H t v) : Gv σ H (tVar i) t := fun H' Q s q => ⟨v, hi, q _ _ (Same.refl _) (h.mono s)⟩
theorem gv_neg (n : Int) : Gv σ H (tUn (rU fun i => V.int (-i)) (tC (.int n))) (.int (-n)) := fun H' Q _ q => ⟨n, rfl, q _ _ (Same.refl _) (At.int _)⟩
theorem gv_pow {a b : Int} (hc : CPow a b) : Gv σ H (tOp (rI CPow fun i j => V.int (i ^ j.toNat)) (tC (.int a)) (tC (.int b))) (.int (a ^ b.toNat)) := fun H' Q _ q => ⟨a, b, rfl, rfl, hc, q _ _ (Same.refl _) (At.int _)⟩
theorem gvs_nil : Gvs σ H tNil [] := fun H' k _ q => q _ _ (Same.refl _) (Ats.nil _)
theorem gvs_cons {te : TE} {tl : TA} {t : Tr} {ts : List Tr} (h : Gv σ H te t) (hs : Gvs σ H tl ts) : Gvs σ H (tCons te tl) (t :: ts) := fun H' k s q =>
  h H' _ s fun v H1 s1 a => hs H1 _ (s.trans s1) fun vs H2 s2 b => q _ _ (s1.trans s2) (Ats.cons (a.mono s2) b)
theorem gv_lst {tl : TA} {ts : List Tr} (hs : Gvs σ H tl ts) (hl : ts.length ≤ 100) : Gv σ H (tLst tl) (.lst ts) := fun H' Q s q =>
  hs H' _ s fun vs H1 s1 a => ⟨by rw [a.len]; exact Nat.le_of_lt (small (by omega)), fun p hp => q _ _ (s1.trans (same_new hp _)) (At.mkL upd_same (a.mono (same_new hp _)))⟩
theorem gv_tup {tl : TA} {ts : List Tr} (hs : Gvs σ H tl ts) (hl : ts.length ≤ 100) : Gv σ H (tTup tl) (.tup ts) := fun H' Q s q =>
  hs H' _ s fun vs H1 s1 a => ⟨by rw [a.len]; exact Nat.le_of_lt (small (by omega)), fun p hp => q _ _ (s1.trans (same_new hp _)) (At.mkT upd_same (a.mono (same_new hp _)))⟩
theorem gv_cat {ta tb : TE} {xs ys : List Tr} (ha : Gv σ H ta (.lst xs)) (hb : Gv σ H tb (.lst ys)) (hl : xs.length + ys.length ≤ 100) : Gv σ H (tOp rCat ta tb) (.lst (xs ++ ys)) := fun H' Q s q =>
  ha H' _ s fun v H1 s1 a => hb H1 _ (s.trans s1) fun w H2 s2 b => by
    obtain ⟨p1, vs, rfl, e1, k1⟩ := (a.mono s2).lst
    obtain ⟨p2, ws, rfl, e2, k2⟩ := b.lst
    have l1 := k1.len
    have l2 := k2.len
    exact ⟨p1, p2, vs, ws, rfl, rfl, e1, e2, Nat.le_of_lt (small (by omega)), fun p hp => q _ _ (s1.trans (s2.trans (same_new hp _))) (At.mkL upd_same (Ats.app (k2.mono (same_new hp _)) (k1.mono (same_new hp _))))⟩
theorem ats_rep {t : Tr} {v : V} (h : At H t v) : ∀ n : Nat, Ats H (List.replicate n t) (List.replicate n v)
  | 0 => Ats.nil _
  | n + 1 => Ats.cons h (ats_rep h n)
theorem gv_app {ta tb : TE} {x y : Str} (ha : Gv σ H ta (.str x)) (hb : Gv σ H tb (.str y)) (hl : x.length + y.length ≤ 100) : Gv σ H (tOp (fun x y H Q => ∃ i j, x = V.str i ∧ y = V.str j ∧ i.length + j.length ≤ sizeLine ∧ Q (V.str (i ++ j)) H) ta tb) (.str (x ++ y)) := fun H' Q s q =>
  ha H' _ s fun v H1 s1 a => hb H1 _ (s.trans s1) fun w H2 s2 b => by
    unfold At at a b
    exact ⟨x, y, a, b, Nat.le_of_lt (small (by omega)), q _ _ (s1.trans s2) (At.str _)⟩
theorem gv_sl {ta : TE} {tl th : TO} {x : Str} {lo hi : Option Int} (ha : Gv σ H ta (.str x)) (h1 : ∀ H Q, Q lo H → tl σ H Q) (h2 : ∀ H Q, Q hi H → th σ H Q) (hl : x.length ≤ 100) : Gv σ H (tSl rSlS ta tl th) (.str (Txt.slice x lo hi)) := fun H' Q s q =>
  ha H' _ s fun v H1 s1 a => h1 _ _ (h2 _ _ (by
    unfold At at a
    exact ⟨x, a, Nat.le_of_lt (small (by omega)), q _ _ s1 (At.str _)⟩))
theorem flat_rep {α : Type} (x : α) : ∀ n : Nat, (List.replicate n [x]).flatten = List.replicate n x
  | 0 => rfl
  | n + 1 => by
    show [x] ++ (List.replicate n [x]).flatten = _
    rw [flat_rep x n]
    rfl
theorem gv_rep {te : TE} {t : Tr} {n : Int} (h : Gv σ H te t) (h0 : 0 ≤ n) (h1 : n ≤ 100) : Gv σ H (tOp rRep (tLst (tCons te tNil)) (tC (.int n))) (.lst (List.replicate n.toNat t)) := fun H' Q s q =>
  (gv_lst (gvs_cons h gvs_nil) (by show 1 ≤ 100; decide)) H' _ s fun v H1 s1 a => by
    obtain ⟨p1, vs, rfl, e1, k1⟩ := a.lst
    match vs, k1.len, k1 with
    | [v0], _, k1 =>
      obtain ⟨t', z, a0⟩ := k1.get (i := 0) rfl
      cases z
      refine ⟨p1, n, [v0], rfl, rfl, e1, by omega, by omega, ?_, fun p hp => q _ _ (s1.trans (same_new hp _)) (At.mkL ?_ (ats_rep (a0.mono (same_new hp _)) _))⟩
      · have : [v0].length * n.toNat ≤ 100 := by
          show 1 * n.toNat ≤ 100
          omega
        exact Nat.le_of_lt (small (by omega))
      · rw [upd_same, flat_rep]
theorem ats_strs {H : Hp} : ∀ {ys : List Str} {vs : List V}, Ats H (ys.map Tr.str) vs → vs = ys.map V.str
  | [], vs, k => by unfold List.map Ats at k; exact k
  | y :: ys, vs, k => by
    unfold List.map Ats at k
    obtain ⟨v, ws, rfl, a, k⟩ := k
    unfold At at a
    rw [a, ats_strs k]
    rfl
theorem gv_join {K : PySem.W.Frag} {te : TE} {z : Str} {ys : List Str} {l : List Tr} (h : Gv σ H te (.lst l)) (el : l = ys.map Tr.str) (hf : (ys.map (·.length)).sum + ys.length * z.length ≤ 16777216) : Gv σ H (tBM K "str" (rJoin K) (tC (.str z)) (tCons te tNil)) (.str (Txt.join z ys)) := fun H' Q s q =>
  ⟨rfl, h H' _ s fun v H1 s1 a => by
    obtain ⟨p1, vs, rfl, e1, k1⟩ := a.lst
    subst el
    have ev := ats_strs k1
    subst ev
    exact ⟨z, p1, ys, rfl, rfl, SqL.of e1, hf, q _ _ s1 (At.str _)⟩⟩
theorem ret_gv {te ti : TE} {r : R2} {D : Ends} {t : Tr} (h : Gv σ H te t) (q : ∀ v H', Same H H' → At H' t v → ti σ H' fun y H2 => r v y H2 D.rt) : tRet (tOp r te ti) D σ H := h H _ (Same.refl H) q
theorem asg_ix {te ti : TE} {r : R2} {g : TG} {u : TS} {D : Ends} {t : Tr} (h : Gv σ H te t) (q : ∀ v H', Same H H' → At H' t v → ti σ H' fun y H2 => r v y H2 fun x H3 => g x σ H3 (u D)) : tSeq (tAsg (tOp r te ti) g) u D σ H := h H _ (Same.refl H) q
theorem asg_gv {te : TE} {g : TG} {u : TS} {D : Ends} {t : Tr} (h : Gv σ H te t) (q : ∀ v H', Same H H' → At H' t v → g v σ H' (u D)) : tSeq (tAsg te g) u D σ H := h H _ (Same.refl H) q
end
theorem slc_to {z : Str} {j : Int} (h0 : 0 ≤ j) (h1 : j ≤ z.length) : (Txt.slice z none (some j)).cps.toList = z.cps.toList.take j.toNat := by
  have e : Txt.slice z none (some j) = _ := StrLaws.sliceText_to (x := z) (j := j) ⟨h0, by rw [codes_len]; exact h1⟩
  rw [e]
  show (z.cps.toList.drop 0).take (j - 0).toNat = _
  rw [List.drop_zero, Int.sub_zero]
theorem slc_from {z : Str} {j : Int} (h0 : 0 ≤ j) (h1 : j ≤ z.length) : (Txt.slice z (some j) none).cps.toList = z.cps.toList.drop j.toNat := by
  have e : Txt.slice z (some j) none = _ := StrLaws.sliceText_from (x := z) (i := j) ⟨h0, by rw [codes_len]; exact h1⟩
  rw [e]
  show (z.cps.toList.drop j.toNat).take ((z.cps.toList.length : Int) - j).toNat = _
  rw [List.take_of_length_le]
  rw [List.length_drop, codes_len]
  omega
theorem slc_hi (l : Option Int) {j : Int} {n : Nat} (h : (n : Int) ≤ j) : Builtin.Str.strSliceIndices l (some j) 1 n = Builtin.Str.strSliceIndices l (some (n : Int)) 1 n := by
  have a : ¬ (j < 0) := by omega
  have b : ¬ ((n : Int) < 0) := by omega
  have c : min j (n : Int) = n := by omega
  simp [Builtin.Str.strSliceIndices, a, b, c]
theorem to_le (z : Str) {j : Int} (h0 : 0 ≤ j) : (Txt.slice z none (some j)).length ≤ z.length := by
  rw [len_codes, len_codes z]
  by_cases h : j ≤ z.length
  · rw [slc_to h0 h, List.length_take]
    omega
  · have h9 : Txt.slice z none (some j) = Txt.slice z none (some (z.length : Int)) := by
      unfold Txt.slice
      rw [slc_hi none (by omega)]
    rw [h9, slc_to (by omega) (Int.le_refl _), List.length_take]
    omega
theorem from_le (z : Str) (h : 1 ≤ z.length) : (Txt.slice z (some 1) none).length ≤ z.length := by
  rw [len_codes, len_codes z, slc_from (by decide) (by omega), List.length_drop]
  omega
theorem join7 (z : Str) (h : z.length ≤ 8) : (Txt.join (Str.ofString "/") (List.replicate 7 z)).length ≤ 100 := by
  have e : Txt.join (Str.ofString "/") (List.replicate 7 z) = Str.join (Str.ofString "/") (List.replicate 7 z) := StrLaws.glued_eq_join ..
  rw [e]
  have e1 : (Str.ofString "/").length = 1 := by decide +kernel
  show (z ++ Str.ofString "/" ++ (z ++ Str.ofString "/" ++ (z ++ Str.ofString "/" ++ (z ++ Str.ofString "/" ++ (z ++ Str.ofString "/" ++ (z ++ Str.ofString "/" ++ z)))))).length ≤ 100
  simp only [Str.length_append, e1]
  omega
theorem ok_str {x : Str} (h : x.length ≤ 100) : okT (.str x) := ⟨by unfold sm; exact decide_eq_true h, rfl⟩
section
variable {P : Program} {w : World} {K : PySem.W.Frag} {mg : Str → Option Value} {base : Heap} {f fOdp : Addr} {fd dOdp : FuncData} {c : Cl}
def spNum : Sp := fun vs H Q _ => ∃ c : Int, vs = [.int c] ∧ ∀ v t H', Same H H' → At H' t v → okT t → Q v H'
theorem scNum : FnScope ["_law_cell", "_law_some"] ["_law_cell"] (defScope sNum) := ⟨rfl, rfl, rfl, by decide +kernel, rfl, by decide +kernel, by decide +kernel⟩
theorem ok_Num (F : Fun K "_law_number" "_law_number" sNum f fd) (T : Txt mg) : FnOk P w K mg base CX0 1 f fd ["_law_cell"] spNum := by
  refine F.ok scNum (fun vs H Q E h => ?_) (fun cdv A outer s H vs Q E hr h => ?_)
  · obtain ⟨c, rfl, _⟩ := h
    rfl
  obtain ⟨c, rfl, q⟩ := h
  refine ⟨_, (pss_cons (ps_set (i := 1) scNum.nd rfl (Or.inl rfl) (by refine' pe_lst ?p0; (case p0 => (refine' pc ?q0 ?p1; (case q0 => exact pe_int); (case p1 => (refine' pc ?q1 ?p2; (case q1 => exact pe_int); (case p2 => (refine' pc ?q2 ?p3; (case q2 => exact pe_int); (case p3 => (refine' pc ?q3 ?p4; (case q3 => exact pe_int); (case p4 => (refine' pc ?q4 ?p5; (case q4 => exact pe_int); (case p5 => (refine' pc ?q5 ?p6; (case q5 => exact pe_int); (case p6 => (refine' pc ?q6 ?p7; (case q6 => exact pe_int); (case p7 => (refine' pc ?q7 ?p8; (case q7 => exact (pe_un un_neg pe_int)); (case p8 => (refine' pc ?q8 ?p9; (case q8 => exact pe_int); (case p9 => (refine' pc ?q9 ?p10; (case q9 => exact pe_int); (case p10 => (refine' pc ?q10 ?p11; (case q10 => exact pe_bl); (case p11 => (refine' pc ?q11 ?p12; (case q11 => exact pe_bl); (case p12 => (refine' pc ?q12 ?p13; (case q12 => exact pe_non); (case p13 => (refine' pc ?q13 ?p14; (case q13 => exact pe_str); (case p14 => (refine' pc ?q14 ?p15; (case q14 => exact (pe_op op_pow pe_int pe_int)); (case p15 => (refine' pc ?q15 ?p16; (case q15 => exact (pe_lst (pc pe_int pa_nil))); (case p16 => (refine' pc ?q16 ?p17; (case q16 => exact pe_int); (case p17 => exact pa_nil)))))))))))))))))))))))))))))))))))))
    (pss_one (ps_ret (pe_ix ix_list (pv 1) (pe_op op_mod (pv 0) pe_int) (fun _ _ => rfl))))), ?_⟩
  refine asg_gv (t := .lst [.int 0, .int 1, .int 2, .int 3, .int 39, .int 40, .int 41, .int (-1), .int 999, .int 1000, .bl true, .bl false, .non, .str "3", .int ((10 : Int) ^ (30 : Int).toNat), .lst [.int 1], .int 8]) (gv_lst ?_ (by decide)) fun v H1 s1 a => ?_
  · repeat' first | exact gv_int _ | exact gv_str _ | exact gv_bl _ | exact gv_non | exact gv_neg _ | exact gv_pow ⟨by decide, by decide, by decide⟩ | exact gvs_nil | refine gvs_cons ?_ ?_ | refine gv_lst ?_ (by decide)
  obtain ⟨p4, vs, rfl, e4, k⟩ := a.lst
  have g : ∀ t ∈ ([.int 0, .int 1, .int 2, .int 3, .int 39, .int 40, .int 41, .int (-1), .int 999, .int 1000, .bl true, .bl false, .non, .str "3", .int ((10 : Int) ^ (30 : Int).toNat), .lst [.int 1], .int 8] : List Tr), okT t := by
    intro t ht
    simp only [List.mem_cons, List.not_mem_nil, or_false] at ht
    rcases ht with rfl | rfl | rfl | rfl | rfl | rfl | rfl | rfl | rfl | rfl | rfl | rfl | rfl | rfl | rfl | rfl | rfl
    all_goals first | exact ⟨rfl, rfl⟩ | exact ⟨by decide +kernel, rfl⟩
  obtain ⟨v, t, e, hv, nt⟩ := ats_pick (i := c % 17) k g (by omega) (by show c % 17 < 17; omega)
  exact ⟨_, rfl, _, rfl, _, _, rfl, rfl, (by show (0 : Int) < 17; decide), p4, _, _, v, rfl, rfl, SqL.of e4, e, q v t _ s1 hv nt⟩
def spRow : Sp := fun vs H Q _ => ∃ c : Int, vs = [.int c] ∧ ∀ v t H', Same H H' → At H' t v → sm t = true → Q v H'
theorem scRow : FnScope ["_law_cell", "_law_some"] ["_law_cell"] (defScope sRow) := ⟨rfl, rfl, rfl, by decide +kernel, rfl, by decide +kernel, by decide +kernel⟩
theorem ok_Row (F : Fun K "_law_row" "_law_row" sRow f fd) (T : Txt mg) : FnOk P w K mg base CX0 1 f fd ["_law_cell"] spRow := by
  refine F.ok scRow (fun vs H Q E h => ?_) (fun cdv A outer s H vs Q E hr h => ?_)
  · obtain ⟨c, rfl, _⟩ := h
    rfl
  obtain ⟨c, rfl, q⟩ := h
  refine ⟨_, (pss_cons (ps_set (i := 1) scRow.nd rfl (Or.inl rfl) (by refine' pe_lst ?p0; (case p0 => (refine' pc ?q0 ?p1; (case q0 => exact (pe_lst (pc pe_int (pc pe_int (pc pe_int pa_nil))))); (case p1 => (refine' pc ?q1 ?p2; (case q1 => exact (pe_op op_rep (pe_lst (pc pe_int pa_nil)) pe_int)); (case p2 => (refine' pc ?q2 ?p3; (case q2 => exact (pe_lst (pc pe_int pa_nil))); (case p3 => (refine' pc ?q3 ?p4; (case q3 => exact (pe_tup (pc pe_int (pc pe_int pa_nil)))); (case p4 => (refine' pc ?q4 ?p5; (case q4 => exact (pe_lst pa_nil)); (case p5 => (refine' pc ?q5 ?p6; (case q5 => exact (pe_op op_rep (pe_lst (pc pe_int pa_nil)) pe_int)); (case p6 => (refine' pc ?q6 ?p7; (case q6 => exact (pe_lst (pc pe_int pa_nil))); (case p7 => (refine' pc ?q7 ?p8; (case q7 => exact (pe_lst (pc pe_int (pc (pe_un un_neg pe_int) pa_nil)))); (case p8 => (refine' pc ?q8 ?p9; (case q8 => exact (pe_lst (pc pe_bl pa_nil))); (case p9 => (refine' pc ?q9 ?p10; (case q9 => exact (pe_lst (pc pe_non pa_nil))); (case p10 => (refine' pc ?q10 ?p11; (case q10 => exact pe_non); (case p11 => (refine' pc ?q11 ?p12; (case q11 => exact pe_str); (case p12 => (refine' pc ?q12 ?p13; (case q12 => exact pe_dnewK); (case p13 => exact pa_nil)))))))))))))))))))))))))))))
    (pss_cons (ps_set (i := 1) scRow.nd rfl (Or.inl rfl) (pe_op op_cat (pv 1) (by refine' pe_lst ?p0; (case p0 => (refine' pc ?q0 ?p1; (case q0 => exact (pe_lst (pc pe_int (pc (pe_lst (pc pe_int pa_nil)) pa_nil)))); (case p1 => (refine' pc ?q1 ?p2; (case q1 => exact pe_int); (case p2 => (refine' pc ?q2 ?p3; (case q2 => exact (pe_lst (pc (pe_op op_pow pe_int pe_int) pa_nil))); (case p3 => (refine' pc ?q3 ?p4; (case q3 => exact (pe_lst (pc pe_int (pc pe_str pa_nil)))); (case p4 => (refine' pc ?q4 ?p5; (case q4 => exact (pe_lst (pc pe_int pa_nil))); (case p5 => (refine' pc ?q5 ?p6; (case q5 => exact (pe_lst (pc pe_bl (pc pe_int pa_nil)))); (case p6 => exact pa_nil))))))))))))))))
    (pss_one (ps_ret (pe_ix ix_list (pv 1) (pe_op op_mod (pv 0) pe_int) (fun _ _ => rfl)))))), ?_⟩
  refine asg_gv (t := .lst [.lst [.int 1, .int 2, .int 3], .lst (List.replicate 40 (.int 0)), .lst [.int 999999], .tup [.int 1, .int 2], .lst [], .lst (List.replicate 41 (.int 5)), .lst [.int 1000000], .lst [.int 3, .int (-1)], .lst [.bl true], .lst [.non], .non, .str "12", .dct]) (gv_lst ?_ (by decide)) fun v H1 s1 a => ?_
  · repeat' first | exact gv_int _ | exact gv_str _ | exact gv_bl _ | exact gv_non | exact gv_neg _ | exact gv_dct | exact gv_pow ⟨by decide, by decide, by decide⟩ | exact gvs_nil | exact gv_rep (gv_int _) (by decide) (by decide) | refine gvs_cons ?_ ?_ | refine gv_lst ?_ (by decide) | refine gv_tup ?_ (by decide)
  refine asg_gv (t := .lst ([.lst [.int 1, .int 2, .int 3], .lst (List.replicate 40 (.int 0)), .lst [.int 999999], .tup [.int 1, .int 2], .lst [], .lst (List.replicate 41 (.int 5)), .lst [.int 1000000], .lst [.int 3, .int (-1)], .lst [.bl true], .lst [.non], .non, .str "12", .dct] ++ [.lst [.int 1, .lst [.int 2]], .int 7, .lst [.int ((10 : Int) ^ (20 : Int).toNat)], .lst [.int 4, .str "5"], .lst [.int 0], .lst [.bl false, .int 1]])) (gv_cat (gv_var rfl a) (gv_lst ?_ (by decide)) (by decide)) fun v2 H2 s2 a2 => ?_
  · repeat' first | exact gv_int _ | exact gv_str _ | exact gv_bl _ | exact gv_non | exact gv_neg _ | exact gv_dct | exact gv_pow ⟨by decide, by decide, by decide⟩ | exact gvs_nil | exact gv_rep (gv_int _) (by decide) (by decide) | refine gvs_cons ?_ ?_ | refine gv_lst ?_ (by decide) | refine gv_tup ?_ (by decide)
  obtain ⟨p4, vs, rfl, e4, k⟩ := a2.lst
  have g : ∀ t ∈ (([.lst [.int 1, .int 2, .int 3], .lst (List.replicate 40 (.int 0)), .lst [.int 999999], .tup [.int 1, .int 2], .lst [], .lst (List.replicate 41 (.int 5)), .lst [.int 1000000], .lst [.int 3, .int (-1)], .lst [.bl true], .lst [.non], .non, .str "12", .dct] ++ [.lst [.int 1, .lst [.int 2]], .int 7, .lst [.int ((10 : Int) ^ (20 : Int).toNat)], .lst [.int 4, .str "5"], .lst [.int 0], .lst [.bl false, .int 1]]) : List Tr), sm t = true := by
    intro t ht
    simp only [List.cons_append, List.nil_append, List.mem_cons, List.not_mem_nil, or_false] at ht
    rcases ht with rfl | rfl | rfl | rfl | rfl | rfl | rfl | rfl | rfl | rfl | rfl | rfl | rfl | rfl | rfl | rfl | rfl | rfl | rfl
    all_goals first | rfl | decide +kernel
  obtain ⟨v, t, e, hv, nt⟩ := ats_pick (i := c % 19) k g (by omega) (by show c % 19 < 19; omega)
  exact ⟨_, rfl, _, rfl, _, _, rfl, rfl, (by show (0 : Int) < 19; decide), p4, _, _, v, rfl, rfl, SqL.of e4, e, q v t _ (s1.trans s2) hv nt⟩
def spOdp : Sp := fun vs H Q _ => ∃ (c : Int) (z : Str), vs = [.int c, .str z] ∧ 1 ≤ z.length ∧ z.length ≤ 8 ∧ ∀ v t H', Same H H' → At H' t v → okT t → Q v H'
theorem scOdp : FnScope ["_law_cell", "_law_word", "_law_some"] ["_law_cell", "_law_word"] (defScope sOdp) := ⟨rfl, rfl, rfl, by decide +kernel, rfl, by decide +kernel, by decide +kernel⟩
theorem ok_Odp (F : Fun K "_law_odd_path" "_law_odd_path" sOdp f fd) (T : Txt mg) : FnOk P w K mg base CX0 1 f fd ["_law_cell", "_law_word"] spOdp := by
  refine F.ok scOdp (fun vs H Q E h => ?_) (fun cdv A outer s H vs Q E hr h => ?_)
  · obtain ⟨c, z, rfl, _⟩ := h
    rfl
  obtain ⟨c, z, rfl, h1, hz, q⟩ := h
  refine ⟨_, (pss_cons (ps_set (i := 2) scOdp.nd rfl (Or.inl rfl) (by refine' pe_lst ?p0; (case p0 => (refine' pc ?q0 ?p1; (case q0 => exact pe_str); (case p1 => (refine' pc ?q1 ?p2; (case q1 => exact pe_str); (case p2 => (refine' pc ?q2 ?p3; (case q2 => exact (pe_op op_add_str (pv 1) pe_str)); (case p3 => (refine' pc ?q3 ?p4; (case q3 => exact (pe_op op_add_str pe_str (pv 1))); (case p4 => (refine' pc ?q4 ?p5; (case q4 => exact (pe_op op_add_str (pe_op op_add_str (pv 1) pe_str) (pv 1))); (case p5 => (refine' pc ?q5 ?p6; (case q5 => exact (pe_op op_add_str pe_str (pe_slice sl_str (pv 1) (po_some pe_int) po_none))); (case p6 => (refine' pc ?q6 ?p7; (case q6 => exact (pe_op op_add_str (pe_slice sl_str (pv 1) po_none (po_some pe_int)) pe_str)); (case p7 => (refine' pc ?q7 ?p8; (case q7 => exact (pe_op op_add_str (pv 1) pe_str)); (case p8 => exact pa_nil)))))))))))))))))))
    (pss_cons (ps_set (i := 2) scOdp.nd rfl (Or.inl rfl) (pe_op op_cat (pv 2) (by refine' pe_lst ?p0; (case p0 => (refine' pc ?q0 ?p1; (case q0 => exact (pe_bm PySem.F.plainAttrs_str PySem.F.slot_str_join PySem.F.type_str_join mt_join pe_str (pc (pe_op op_rep (pe_lst (pc (pv 1) pa_nil)) pe_int) pa_nil))); (case p1 => (refine' pc ?q1 ?p2; (case q1 => exact (pe_op op_add_str (pe_slice sl_str (pv 1) po_none (po_some pe_int)) pe_str)); (case p2 => (refine' pc ?q2 ?p3; (case q2 => exact pe_non); (case p3 => (refine' pc ?q3 ?p4; (case q3 => exact pe_int); (case p4 => (refine' pc ?q4 ?p5; (case q4 => exact pe_bl); (case p5 => (refine' pc ?q5 ?p6; (case q5 => exact (pe_lst (pc (pv 1) pa_nil))); (case p6 => (refine' pc ?q6 ?p7; (case q6 => exact (pe_tup (pc (pv 1) pa_nil))); (case p7 => (refine' pc ?q7 ?p8; (case q7 => exact (pe_op op_add_str (pv 1) pe_str)); (case p8 => (refine' pc ?q8 ?p9; (case q8 => exact pe_str); (case p9 => exact pa_nil))))))))))))))))))))))
    (pss_one (ps_ret (pe_ix ix_list (pv 2) (pe_op op_mod (pv 0) pe_int) (fun _ _ => rfl)))))), ?_⟩
  have n1 : (Str.ofString "/").length = 1 := by decide +kernel
  have n2 : (Str.ofString "//").length = 2 := by decide +kernel
  have n3 : (Str.ofString "A").length = 1 := by decide +kernel
  have n4 : (Str.ofString " ").length = 1 := by decide +kernel
  have n5 : (Str.ofString "123456789").length = 9 := by decide +kernel
  have n6 : (Str.ofString "-").length = 1 := by decide +kernel
  have n7 : (Str.ofString "\n").length = 1 := by decide +kernel
  have l1 := from_le z h1
  have l3 := to_le z (j := 3) (by decide)
  have l7 := to_le z (j := 7) (by decide)
  have vz : Gv (L2.start ["_law_cell", "_law_word", "_law_some"] [.int c, .str z]) H (tVar 1) (.str z) := gv_var rfl (At.str z)
  refine asg_gv (t := .lst [.str "", .str "/", .str (z ++ Str.ofString "/"), .str (Str.ofString "/" ++ z), .str (z ++ Str.ofString "//" ++ z), .str (Str.ofString "A" ++ Txt.slice z (some 1) none), .str (Txt.slice z none (some 3) ++ Str.ofString " "), .str (z ++ Str.ofString "123456789")]) (gv_lst ?_ (by show 8 ≤ 100; decide)) fun v H1 s1 a => ?_
  · exact gvs_cons (gv_str _) (gvs_cons (gv_str _) (gvs_cons (gv_app vz (gv_str _) (by omega)) (gvs_cons (gv_app (gv_str _) vz (by omega)) (gvs_cons (gv_app (gv_app vz (gv_str _) (by omega)) vz (by rw [Str.length_append]; omega)) (gvs_cons (gv_app (gv_str _) (gv_sl vz (fun H Q q => ⟨1, rfl, q⟩) (fun H Q q => q) (by omega)) (by omega)) (gvs_cons (gv_app (gv_sl vz (fun H Q q => q) (fun H Q q => ⟨3, rfl, q⟩) (by omega)) (gv_str _) (by omega)) (gvs_cons (gv_app vz (gv_str _) (by omega)) gvs_nil)))))))
  have vz1 : Gv (List.set (L2.start ["_law_cell", "_law_word", "_law_some"] [.int c, .str z]) 2 (some v)) H1 (tVar 1) (.str z) := gv_var rfl (At.str z)
  refine asg_gv (t := .lst ([.str "", .str "/", .str (z ++ Str.ofString "/"), .str (Str.ofString "/" ++ z), .str (z ++ Str.ofString "//" ++ z), .str (Str.ofString "A" ++ Txt.slice z (some 1) none), .str (Txt.slice z none (some 3) ++ Str.ofString " "), .str (z ++ Str.ofString "123456789")] ++ [.str (Txt.join (Str.ofString "/") (List.replicate 7 z)), .str (Txt.slice z none (some 7) ++ Str.ofString "-"), .non, .int 5, .bl true, .lst [.str z], .tup [.str z], .str (z ++ Str.ofString "\n"), .str "."])) (gv_cat (gv_var rfl a) (gv_lst ?_ (by show 9 ≤ 100; decide)) (by show 8 + 9 ≤ 100; decide)) fun v2 H2 s2 a2 => ?_
  · refine gvs_cons (gv_join (gv_rep vz1 (by decide) (by decide)) (by rw [List.map_replicate]; rfl) ?_) (gvs_cons (gv_app (gv_sl vz1 (fun H Q q => q) (fun H Q q => ⟨7, rfl, q⟩) (by omega)) (gv_str _) (by omega)) (gvs_cons gv_non (gvs_cons (gv_int _) (gvs_cons (gv_bl _) (gvs_cons (gv_lst (gvs_cons vz1 gvs_nil) (by show 1 ≤ 100; decide)) (gvs_cons (gv_tup (gvs_cons vz1 gvs_nil) (by show 1 ≤ 100; decide)) (gvs_cons (gv_app vz1 (gv_str _) (by omega)) (gvs_cons (gv_str _) gvs_nil))))))))
    show (z.length + (z.length + (z.length + (z.length + (z.length + (z.length + (z.length + 0))))))) + 7 * (Str.ofString "/").length ≤ _
    omega
  obtain ⟨p4, vs, rfl, e4, k⟩ := a2.lst
  have g : ∀ t ∈ (([.str "", .str "/", .str (z ++ Str.ofString "/"), .str (Str.ofString "/" ++ z), .str (z ++ Str.ofString "//" ++ z), .str (Str.ofString "A" ++ Txt.slice z (some 1) none), .str (Txt.slice z none (some 3) ++ Str.ofString " "), .str (z ++ Str.ofString "123456789")] ++ [.str (Txt.join (Str.ofString "/") (List.replicate 7 z)), .str (Txt.slice z none (some 7) ++ Str.ofString "-"), .non, .int 5, .bl true, .lst [.str z], .tup [.str z], .str (z ++ Str.ofString "\n"), .str "."]) : List Tr), okT t := by
    intro t ht
    simp only [List.cons_append, List.nil_append, List.mem_cons, List.not_mem_nil, or_false] at ht
    rcases ht with rfl | rfl | rfl | rfl | rfl | rfl | rfl | rfl | rfl | rfl | rfl | rfl | rfl | rfl | rfl | rfl | rfl
    all_goals first | exact ⟨rfl, rfl⟩ | exact ok_str (by decide +kernel) | exact ok_str (by simp only [Str.length_append]; omega) | exact ok_str (join7 z hz) | exact ⟨by unfold sm sms sm sms; simp; omega, rfl⟩
  obtain ⟨v, t, e, hv, nt⟩ := ats_pick (i := c % 17) k g (by omega) (by show c % 17 < 17; omega)
  exact ⟨_, rfl, _, rfl, _, _, rfl, rfl, (by show (0 : Int) < 17; decide), p4, _, _, v, rfl, rfl, SqL.of e4, e, q v t _ (s1.trans s2) hv nt⟩
def spPth : Sp := fun vs H Q _ => ∃ (c : Int) (p : Addr) (w0 w1 : Str), vs = [.int c, .ref p] ∧ 0 ≤ c ∧ H p = some (.lst [.str w0, .str w1]) ∧ (1 ≤ w0.length ∧ w0.length ≤ 8) ∧ (1 ≤ w1.length ∧ w1.length ≤ 8) ∧ ∀ v t H', Same H H' → At H' t v → okT t → Q v H'
theorem scPth : FnScope ["_law_cell", "_law_words_here"] ["_law_cell", "_law_words_here"] (defScope sPth) := ⟨rfl, rfl, rfl, by decide +kernel, rfl, by decide +kernel, by decide +kernel⟩
theorem ok_Pth (F : Fun K "_law_path" "_law_path" sPth f fd) (hOdp : Has K mg "_law_odd_path" sOdp ["_law_cell", "_law_word"] fOdp dOdp) (GOdp : FnOk P w K mg base CX0 1 fOdp dOdp ["_law_cell", "_law_word"] spOdp) (T : Txt mg) : FnOk P w K mg base CX0 2 f fd ["_law_cell", "_law_words_here"] spPth := by
  refine F.ok scPth (fun vs H Q E h => ?_) (fun cdv A outer s H vs Q E hr h => ?_)
  · obtain ⟨c, p, w0, w1, rfl, _⟩ := h
    rfl
  obtain ⟨c, p, w0, w1, rfl, c0, hp, h0, h1, q⟩ := h
  refine ⟨_, (pss_cons (ps_if (pt_cmpR op_eq (pe_op op_mod (pv 0) pe_int) pe_int (nomark _))
    (pss_one (ps_ret (pe_call GOdp (hr.mono (by decide)) rfl hOdp.nm hOdp.fn.kp hOdp.bd .nil pass0 (pc (pe_op op_fdiv (pv 0) pe_int) (pc (pe_ix ix_list (pv 1) (pe_op op_mod (pe_op op_fdiv (pv 0) pe_int) pe_int) (fun _ _ => rfl)) pa_nil)))))
    pss_nil)
    (pss_one (ps_ret (pe_ix ix_list (by refine' pe_lst ?p0; (case p0 => (refine' pc ?q0 ?p1; (case q0 => exact (pe_ix ix_list (pv 1) pe_int (fun _ _ => rfl))); (case p1 => (refine' pc ?q1 ?p2; (case q1 => exact (pe_ix ix_list (pv 1) pe_int (fun _ _ => rfl))); (case p2 => (refine' pc ?q2 ?p3; (case q2 => exact (pe_op op_add_str (pe_op op_add_str (pe_ix ix_list (pv 1) pe_int (fun _ _ => rfl)) pe_str) (pe_ix ix_list (pv 1) pe_int (fun _ _ => rfl)))); (case p3 => (refine' pc ?q3 ?p4; (case q3 => exact (pe_op op_add_str (pe_op op_add_str (pe_ix ix_list (pv 1) pe_int (fun _ _ => rfl)) pe_str) (pe_ix ix_list (pv 1) pe_int (fun _ _ => rfl)))); (case p4 => exact pa_nil)))))))))) (pe_op op_mod (pe_op op_fdiv (pv 0) pe_int) pe_int) (fun _ _ => rfl))))), ?_⟩
  refine ⟨_, rfl, _, _, rfl, rfl, (by show (0 : Int) < 3; decide), rfl, _, rfl, ite2 (fun d => ?_) (fun d => ?_)⟩
  · refine ⟨_, rfl, _, _, rfl, rfl, ⟨by decide, by decide⟩, _, rfl, _, rfl, _, _, rfl, rfl, ⟨by decide, by decide⟩, _, _, rfl, rfl, (by show (0 : Int) < 2; decide), ?_⟩
    obtain ⟨z, e, z0, z1⟩ : ∃ z : Str, atI [V.str w0, V.str w1] (c / 51 % 2) = some (.str z) ∧ 1 ≤ z.length ∧ z.length ≤ 8 := by
      obtain e | e : c / 51 % 2 = 0 ∨ c / 51 % 2 = 1 := by omega
      · exact ⟨w0, by rw [e]; rfl, h0⟩
      · exact ⟨w1, by rw [e]; rfl, h1⟩
    exact ⟨p, _, _, _, rfl, rfl, SqL.of hp, e, _, z, rfl, z0, z1, q⟩
  · have n1 : (Str.ofString "/").length = 1 := by decide +kernel
    have v0 : Gv (L2.start ["_law_cell", "_law_words_here"] [.int c, .ref p]) H (tOp (rIxL K) (tVar 1) (tC (.int 0))) (.str w0) := fun H' Q s q => ⟨_, rfl, p, _, 0, .str w0, rfl, rfl, SqL.of (s _ _ hp), rfl, q _ _ (Same.refl _) (At.str _)⟩
    have v1 : Gv (L2.start ["_law_cell", "_law_words_here"] [.int c, .ref p]) H (tOp (rIxL K) (tVar 1) (tC (.int 1))) (.str w1) := fun H' Q s q => ⟨_, rfl, p, _, 1, .str w1, rfl, rfl, SqL.of (s _ _ hp), rfl, q _ _ (Same.refl _) (At.str _)⟩
    refine nx_in (ret_gv (gv_lst (gvs_cons v0 (gvs_cons v1 (gvs_cons (gv_app (gv_app v0 (gv_str _) (by omega)) v1 (by rw [Str.length_append]; omega)) (gvs_cons (gv_app (gv_app v1 (gv_str _) (by omega)) v0 (by rw [Str.length_append]; omega)) gvs_nil)))) (by show 4 ≤ 100; decide)) fun v H1 s1 a => ?_)
    obtain ⟨p4, vs, rfl, e4, k⟩ := a.lst
    obtain ⟨v, t, e, hv, nt⟩ := ats_pick (i := c / 3 % 4) (p := okT) k (by
      intro t ht
      simp only [List.mem_cons, List.not_mem_nil, or_false] at ht
      rcases ht with rfl | rfl | rfl | rfl
      all_goals first | exact ok_str (by omega) | exact ok_str (by simp only [Str.length_append]; omega)) (by omega) (by show c / 3 % 4 < 4; omega)
    exact ⟨_, rfl, _, _, rfl, rfl, ⟨by decide, by decide⟩, _, _, rfl, rfl, (by show (0 : Int) < 4; decide), p4, _, _, v, rfl, rfl, SqL.of e4, e, q v t _ s1 hv nt⟩
end
end K43
set_option maxHeartbeats 4000000
namespace K43
open PySem L2
/-! ### asks -/
inductive Wo
  | fo | pu | tr | ho | sh | tw | dr | mo | li
def wS : Wo → Str
  | .fo => "folder" | .pu => "put" | .tr => "trim" | .ho => "hollow" | .sh => "share" | .tw => "twin" | .dr => "drop" | .mo => "move" | .li => "limit"
structure As where
  x : Ag
  a : Ag
  l : Ag
  o : Ag
  b : Ag
  r : Ag
def askL : Wo → As → List V
  | .pu, A => [.str "put", A.x.2, A.a.2, A.r.2]
  | .ho, A => [.str "hollow", A.x.2, A.a.2, A.l.2]
  | .sh, A => [.str "share", A.x.2, A.a.2, A.l.2, A.o.2, A.b.2]
  | .tw, A => [.str "twin", A.x.2, A.o.2]
  | .mo, A => [.str "move", A.x.2, A.o.2]
  | .fo, A => [.str "folder", A.x.2, A.a.2]
  | .tr, A => [.str "trim", A.x.2, A.a.2]
  | .dr, A => [.str "drop", A.x.2, A.a.2]
  | .li, A => [.str "limit", A.x.2, A.a.2]
def dueP : Wo → As → Option Out
  | .pu, A => dPath A.x false (dRow A.r (dSpan A.a (lenA A.r) none))
  | .ho, A => dPath A.x false (dSpan A.a A.l none)
  | .sh, A => dPath A.x false (dPath A.o false (dSpan A.a A.l (dSpan A.b A.l none)))
  | .tw, A => dPath A.x false (dPath A.o false none)
  | .mo, A => dPath A.x false (dPath A.o false none)
  | .fo, A => dPath A.x false none
  | .tr, A => dPath A.x false (dWin A.a 40 none)
  | .dr, A => dPath A.x false none
  | .li, A => dPath A.x true (dWin A.a 999 none)
def Ok (H : Hp) (x : Ag) : Prop := At H x.1 x.2 ∧ okT x.1
theorem Ok.mono {H H' : Hp} {x : Ag} (h : Ok H x) (s : Same H H') : Ok H' x := ⟨h.1.mono s, h.2⟩
theorem Ok.ar {H : Hp} {x : Ag} (h : Ok H x) : Ar H x := ⟨h.1, h.2.1⟩
structure AsAt (H : Hp) (A : As) : Prop where
  x : Ok H A.x
  a : Ok H A.a
  l : Ok H A.l
  o : Ok H A.o
  b : Ok H A.b
  r : Ar H A.r
theorem AsAt.mono {H H' : Hp} {A : As} (h : AsAt H A) (s : Same H H') : AsAt H' A := ⟨h.x.mono s, h.a.mono s, h.l.mono s, h.o.mono s, h.b.mono s, h.r.mono s⟩
theorem ifT {x y : Str} {A B : Prop} (h : x = y) (a : A) : if decide (V.str x = V.str y) = true then A else B := by
  rw [if_pos (decide_eq_true (by rw [h]))]
  exact a
theorem ifF {x y : Str} {A B : Prop} (h : x ≠ y) (b : B) : if decide (V.str x = V.str y) = true then A else B := by
  rw [if_neg (fun z => h (by have := of_decide_eq_true z; injection this))]
  exact b
def nonA : Ag := (.non, .non)
theorem nonA_ok (H : Hp) : Ok H nonA := ⟨At.non, rfl, rfl⟩
section
variable {P : Program} {w : World} {K : PySem.W.Frag} {mg : Str → Option Value} {base : Heap} {f fMix fPth fNum fRow : Addr} {fd dMix dPth dNum dRow : FuncData} {c : Cl}
def spAsk : Sp := fun vs H Q _ => ∃ (c : Int) (p : Addr) (w0 w1 : Str), vs = [.int c, .ref p] ∧ H p = some (.lst [.str w0, .str w1]) ∧ (1 ≤ w0.length ∧ w0.length ≤ 8) ∧ (1 ≤ w1.length ∧ w1.length ≤ 8) ∧ ∀ r wo A H', Same H H' → H' r = some (.tup (askL wo A)) → AsAt H' A → Q (.ref r) H'
theorem scAsk : FnScope ["_law_cell", "_law_words_here", "_law_word", "_law_path_here", "_law_other", "_law_at_here", "_law_long"] ["_law_cell", "_law_words_here"] (defScope sAsk) := ⟨rfl, rfl, rfl, by decide +kernel, rfl, by decide +kernel, by decide +kernel⟩
theorem ok_Ask (F : Fun K "_law_ask" "_law_ask" sAsk f fd) (hMix : Has K mg "_law_mix" sMix ["_law_cell", "_law_k"] fMix dMix) (GMix : FnOk P w K mg base CX0 1 fMix dMix ["_law_cell", "_law_k"] spMix)
    (hPth : Has K mg "_law_path" sPth ["_law_cell", "_law_words_here"] fPth dPth) (GPth : FnOk P w K mg base CX0 2 fPth dPth ["_law_cell", "_law_words_here"] spPth)
    (hNum : Has K mg "_law_number" sNum ["_law_cell"] fNum dNum) (GNum : FnOk P w K mg base CX0 1 fNum dNum ["_law_cell"] spNum)
    (hRow : Has K mg "_law_row" sRow ["_law_cell"] fRow dRow) (GRow : FnOk P w K mg base CX0 1 fRow dRow ["_law_cell"] spRow) : FnOk P w K mg base CX0 3 f fd ["_law_cell", "_law_words_here"] spAsk := by
  refine F.ok scAsk (fun vs H Q E h => ?_) (fun cdv A outer s H vs Q E hr h => ?_)
  · obtain ⟨c, p, w0, w1, rfl, _⟩ := h
    rfl
  obtain ⟨c, p, w0, w1, rfl, hp, h0, h1, q⟩ := h
  refine ⟨_, (pss_cons (ps_set (i := 2) scAsk.nd rfl (Or.inl rfl) (pe_ix ix_list (by refine' pe_lst ?p0; (case p0 => (refine' pc ?q0 ?p1; (case q0 => exact pe_str); (case p1 => (refine' pc ?q1 ?p2; (case q1 => exact pe_str); (case p2 => (refine' pc ?q2 ?p3; (case q2 => exact pe_str); (case p3 => (refine' pc ?q3 ?p4; (case q3 => exact pe_str); (case p4 => (refine' pc ?q4 ?p5; (case q4 => exact pe_str); (case p5 => (refine' pc ?q5 ?p6; (case q5 => exact pe_str); (case p6 => (refine' pc ?q6 ?p7; (case q6 => exact pe_str); (case p7 => (refine' pc ?q7 ?p8; (case q7 => exact pe_str); (case p8 => (refine' pc ?q8 ?p9; (case q8 => exact pe_str); (case p9 => exact pa_nil)))))))))))))))))))) (pe_op op_mod (pe_call GMix (hr.mono (by decide)) rfl hMix.nm hMix.fn.kp hMix.bd .nil pass0 (pc (pv 0) (pc pe_int pa_nil))) pe_int) (fun _ _ => rfl)))
    (pss_cons (ps_set (i := 3) scAsk.nd rfl (Or.inl rfl) (pe_call GPth (hr.mono (by decide)) rfl hPth.nm hPth.fn.kp hPth.bd .nil pass0 (pc (pe_call GMix (hr.mono (by decide)) rfl hMix.nm hMix.fn.kp hMix.bd .nil pass0 (pc (pv 0) (pc pe_int pa_nil))) (pc (pv 1) pa_nil))))
    (pss_cons (ps_set (i := 4) scAsk.nd rfl (Or.inl rfl) (pe_call GPth (hr.mono (by decide)) rfl hPth.nm hPth.fn.kp hPth.bd .nil pass0 (pc (pe_call GMix (hr.mono (by decide)) rfl hMix.nm hMix.fn.kp hMix.bd .nil pass0 (pc (pv 0) (pc pe_int pa_nil))) (pc (pv 1) pa_nil))))
    (pss_cons (ps_set (i := 5) scAsk.nd rfl (Or.inl rfl) (pe_call GNum (hr.mono (by decide)) rfl hNum.nm hNum.fn.kp hNum.bd .nil pass0 (pc (pe_call GMix (hr.mono (by decide)) rfl hMix.nm hMix.fn.kp hMix.bd .nil pass0 (pc (pv 0) (pc pe_int pa_nil))) pa_nil)))
    (pss_cons (ps_set (i := 6) scAsk.nd rfl (Or.inl rfl) (pe_call GNum (hr.mono (by decide)) rfl hNum.nm hNum.fn.kp hNum.bd .nil pass0 (pc (pe_call GMix (hr.mono (by decide)) rfl hMix.nm hMix.fn.kp hMix.bd .nil pass0 (pc (pv 0) (pc pe_int pa_nil))) pa_nil)))
    (pss_cons (ps_if (pt_cmpR op_eq (pv 2) pe_str (nomark _))
    (pss_one (ps_ret (pe_tup (pc (pv 2) (pc (pv 3) (pc (pv 5) (pc (pe_call GRow (hr.mono (by decide)) rfl hRow.nm hRow.fn.kp hRow.bd .nil pass0 (pc (pe_call GMix (hr.mono (by decide)) rfl hMix.nm hMix.fn.kp hMix.bd .nil pass0 (pc (pv 0) (pc pe_int pa_nil))) pa_nil)) pa_nil)))))))
    pss_nil)
    (pss_cons (ps_if (pt_cmpR op_eq (pv 2) pe_str (nomark _))
    (pss_one (ps_ret (pe_tup (pc (pv 2) (pc (pv 3) (pc (pv 5) (pc (pv 6) pa_nil)))))))
    pss_nil)
    (pss_cons (ps_if (pt_cmpR op_eq (pv 2) pe_str (nomark _))
    (pss_one (ps_ret (pe_tup (pc (pv 2) (pc (pv 3) (pc (pv 5) (pc (pv 6) (pc (pv 4) (pc (pe_call GNum (hr.mono (by decide)) rfl hNum.nm hNum.fn.kp hNum.bd .nil pass0 (pc (pe_call GMix (hr.mono (by decide)) rfl hMix.nm hMix.fn.kp hMix.bd .nil pass0 (pc (pv 0) (pc pe_int pa_nil))) pa_nil)) pa_nil)))))))))
    pss_nil)
    (pss_cons (ps_if (PW.pt (pw_or (pt_cmpR op_eq (pv 2) pe_str (nomark _)) (pw_or1 (pt_cmpR op_eq (pv 2) pe_str (nomark _)))))
    (pss_one (ps_ret (pe_tup (pc (pv 2) (pc (pv 3) (pc (pv 4) pa_nil))))))
    pss_nil)
    (pss_one (ps_ret (pe_tup (pc (pv 2) (pc (pv 3) (pc (pv 5) pa_nil))))))))))))))), ?_⟩
  refine asg_ix (gv_lst (gvs_cons (gv_str _) (gvs_cons (gv_str _) (gvs_cons (gv_str _) (gvs_cons (gv_str _) (gvs_cons (gv_str _) (gvs_cons (gv_str _) (gvs_cons (gv_str _) (gvs_cons (gv_str _) (gvs_cons (gv_str _) gvs_nil))))))))) (by show 9 ≤ 100; decide)) fun v H1 s1 a => ?_
  obtain ⟨p4, vs, rfl, e4, k⟩ := a.lst
  refine ⟨_, rfl, c, 0, rfl, by decide, by decide, fun z0 => ⟨_, _, rfl, rfl, (by show (0 : Int) < 9; decide), ?_⟩⟩
  dsimp only
  obtain ⟨v, t, e, hv, wo, et⟩ := ats_pick (i := mixP c 0 % 9) (p := fun t => ∃ wo : Wo, t = .str (wS wo)) k (by
    intro t ht
    simp only [List.mem_cons, List.not_mem_nil, or_false] at ht
    rcases ht with rfl | rfl | rfl | rfl | rfl | rfl | rfl | rfl | rfl
    · exact ⟨.fo, rfl⟩
    · exact ⟨.pu, rfl⟩
    · exact ⟨.tr, rfl⟩
    · exact ⟨.ho, rfl⟩
    · exact ⟨.sh, rfl⟩
    · exact ⟨.tw, rfl⟩
    · exact ⟨.dr, rfl⟩
    · exact ⟨.mo, rfl⟩
    · exact ⟨.li, rfl⟩) (by omega) (by show mixP c 0 % 9 < 9; omega)
  subst et
  have ev : v = .str (wS wo) := by unfold At at hv; exact hv
  subst ev
  refine ⟨p4, _, _, _, rfl, rfl, SqL.of e4, e, ?_⟩
  clear e4 e k hv a
  refine ⟨_, rfl, c, 1, rfl, by decide, by decide, fun y1 => ⟨_, rfl, _, p, w0, w1, rfl, y1, s1 _ _ hp, h0, h1, fun x tx H2 s2 ax ox => ?_⟩⟩
  refine ⟨_, rfl, c, 2, rfl, by decide, by decide, fun y2 => ⟨_, rfl, _, p, w0, w1, rfl, y2, s2 _ _ (s1 _ _ hp), h0, h1, fun o to H3 s3 ao oo => ?_⟩⟩
  refine ⟨_, rfl, c, 3, rfl, by decide, by decide, fun y3 => ⟨_, rfl, fun n tn H4 s4 an on => ?_⟩⟩
  refine ⟨_, rfl, c, 4, rfl, by decide, by decide, fun y4 => ⟨_, rfl, fun l tl H5 s5 al ol => ?_⟩⟩
  have sA := s1.trans (s2.trans (s3.trans (s4.trans s5)))
  have kx : Ok H5 (tx, x) := ⟨ax.mono (s3.trans (s4.trans s5)), ox⟩
  have ko : Ok H5 (to, o) := ⟨ao.mono (s4.trans s5), oo⟩
  have ka : Ok H5 (tn, n) := ⟨an.mono s5, on⟩
  have kl : Ok H5 (tl, l) := ⟨al, ol⟩
  clear s1 s2 s3 s4 s5
  have fin : ∀ (wo : Wo) (b r : Ag) (H6 : Hp), Same H5 H6 → Ok H6 b → Ar H6 r → ∀ q', H6 q' = none → Q (.ref q') (upd H6 q' (.tup (askL wo ⟨(tx, x), (tn, n), (tl, l), (to, o), b, r⟩))) := fun wo b r H6 s6 kb kr q' hq =>
    q q' wo ⟨(tx, x), (tn, n), (tl, l), (to, o), b, r⟩ _ (sA.trans (s6.trans (same_new hq _))) upd_same ⟨kx.mono (s6.trans (same_new hq _)), ka.mono (s6.trans (same_new hq _)), kl.mono (s6.trans (same_new hq _)), ko.mono (s6.trans (same_new hq _)), kb.mono (same_new hq _), kr.mono (same_new hq _)⟩
  have fin0 : ∀ (wo : Wo) q', H5 q' = none → Q (.ref q') (upd H5 q' (.tup (askL wo ⟨(tx, x), (tn, n), (tl, l), (to, o), nonA, nonA⟩))) := fun wo => fin wo nonA nonA H5 (Same.refl _) (nonA_ok _) (nonA_ok _).ar
  clear q
  refine ⟨_, rfl, rfl, _, rfl, ?_⟩
  cases wo with
  | fo => exact ifF (by decide +kernel) ⟨_, rfl, rfl, _, rfl, ifF (by decide +kernel) ⟨_, rfl, rfl, _, rfl, ifF (by decide +kernel) ⟨_, rfl, rfl, _, rfl, ifF (by decide +kernel) ⟨_, rfl, rfl, _, rfl, ifF (by decide +kernel) ⟨_, rfl, _, rfl, _, rfl, (by show 3 ≤ sizeLine; decide), fin0 .fo⟩⟩⟩⟩⟩
  | tr => exact ifF (by decide +kernel) ⟨_, rfl, rfl, _, rfl, ifF (by decide +kernel) ⟨_, rfl, rfl, _, rfl, ifF (by decide +kernel) ⟨_, rfl, rfl, _, rfl, ifF (by decide +kernel) ⟨_, rfl, rfl, _, rfl, ifF (by decide +kernel) ⟨_, rfl, _, rfl, _, rfl, (by show 3 ≤ sizeLine; decide), fin0 .tr⟩⟩⟩⟩⟩
  | dr => exact ifF (by decide +kernel) ⟨_, rfl, rfl, _, rfl, ifF (by decide +kernel) ⟨_, rfl, rfl, _, rfl, ifF (by decide +kernel) ⟨_, rfl, rfl, _, rfl, ifF (by decide +kernel) ⟨_, rfl, rfl, _, rfl, ifF (by decide +kernel) ⟨_, rfl, _, rfl, _, rfl, (by show 3 ≤ sizeLine; decide), fin0 .dr⟩⟩⟩⟩⟩
  | li => exact ifF (by decide +kernel) ⟨_, rfl, rfl, _, rfl, ifF (by decide +kernel) ⟨_, rfl, rfl, _, rfl, ifF (by decide +kernel) ⟨_, rfl, rfl, _, rfl, ifF (by decide +kernel) ⟨_, rfl, rfl, _, rfl, ifF (by decide +kernel) ⟨_, rfl, _, rfl, _, rfl, (by show 3 ≤ sizeLine; decide), fin0 .li⟩⟩⟩⟩⟩
  | tw => exact ifF (by decide +kernel) ⟨_, rfl, rfl, _, rfl, ifF (by decide +kernel) ⟨_, rfl, rfl, _, rfl, ifF (by decide +kernel) ⟨_, rfl, rfl, _, rfl, ifT (by decide +kernel) (iteT ⟨_, rfl, _, rfl, _, rfl, (by show 3 ≤ sizeLine; decide), fin0 .tw⟩)⟩⟩⟩
  | mo => exact ifF (by decide +kernel) ⟨_, rfl, rfl, _, rfl, ifF (by decide +kernel) ⟨_, rfl, rfl, _, rfl, ifF (by decide +kernel) ⟨_, rfl, rfl, _, rfl, ifF (by decide +kernel) ⟨_, rfl, rfl, _, rfl, ifT (by decide +kernel) ⟨_, rfl, _, rfl, _, rfl, (by show 3 ≤ sizeLine; decide), fin0 .mo⟩⟩⟩⟩⟩
  | ho => exact ifF (by decide +kernel) ⟨_, rfl, rfl, _, rfl, ifT (by decide +kernel) ⟨_, rfl, _, rfl, _, rfl, _, rfl, (by show 4 ≤ sizeLine; decide), fin0 .ho⟩⟩
  | pu => exact ifT (by decide +kernel) ⟨_, rfl, _, rfl, _, rfl, _, rfl, c, 5, rfl, by decide, by decide, fun y5 => ⟨_, rfl, fun r tr H6 s6 ar sr => ⟨(by show 4 ≤ sizeLine; decide), fin .pu nonA (tr, r) H6 s6 (nonA_ok _) ⟨ar, sr⟩⟩⟩⟩
  | sh => exact ifF (by decide +kernel) ⟨_, rfl, rfl, _, rfl, ifF (by decide +kernel) ⟨_, rfl, rfl, _, rfl, ifT (by decide +kernel) ⟨_, rfl, _, rfl, _, rfl, _, rfl, _, rfl, _, rfl, c, 6, rfl, by decide, by decide, fun y6 => ⟨_, rfl, fun b tb H6 s6 ab ob => ⟨(by show 6 ≤ sizeLine; decide), fin .sh (tb, b) nonA H6 s6 ⟨ab, ob⟩ (nonA_ok _).ar⟩⟩⟩⟩⟩
def outV : Out → List V
  | .path x => [.str "path", x]
  | .cells => [.str "cells"]
  | .span a b => [.str "span", a, b]
def spDue : Sp := fun vs H Q _ => ∃ (r : Addr) (wo : Wo) (A : As), vs = [.ref r] ∧ H r = some (.tup (askL wo A)) ∧ AsAt H A ∧ (dueP wo A = none → ∀ H', Same H H' → Q .non H') ∧ ∀ o, dueP wo A = some o → ∀ p H', Same H H' → H' p = some (.tup (outV o)) → Q (.ref p) H'
end
end K43
set_option maxHeartbeats 4000000
namespace K43
open PySem L2
/-! ### what is due -/
/-- how the test goes on, by what is due -/
def Rq (Q : VK) (k : Option Out) (H : Hp) : Prop := (k = none → ∀ H', Same H H' → Q .non H') ∧ ∀ o, k = some o → ∀ p H', Same H H' → H' p = some (.tup (outV o)) → Q (.ref p) H'
theorem Rq.mono {Q : VK} {k : Option Out} {H H' : Hp} (h : Rq Q k H) (s : Same H H') : Rq Q k H' := ⟨fun e H2 s2 => h.1 e H2 (s.trans s2), fun o e p H2 s2 => h.2 o e p H2 (s.trans s2)⟩
theorem Rq.path {Q : VK} {x : Ag} {top : Bool} {k : Option Out} {H : Hp} (h : Rq Q (dPath x top k) H) : (gp x.1 top = true → Rq Q k H) ∧ (gp x.1 top = false → ∀ p, H p = none → Q (.ref p) (upd H p (.tup [.str "path", x.2]))) := by
  unfold dPath at h
  constructor
  · intro g
    rw [if_pos g] at h
    exact h
  · intro g p hp
    rw [if_neg (by rw [g]; decide)] at h
    exact h.2 _ rfl p _ (same_new hp _) upd_same
theorem Rq.span {Q : VK} {a b : Ag} {k : Option Out} {H : Hp} (h : Rq Q (dSpan a b k) H) : (spanT a.1 b.1 = true → Rq Q k H) ∧ (spanT a.1 b.1 = false → ∀ p, H p = none → Q (.ref p) (upd H p (.tup [.str "span", a.2, b.2]))) := by
  unfold dSpan at h
  constructor
  · intro g
    rw [if_pos g] at h
    exact h
  · intro g p hp
    rw [if_neg (by rw [g]; decide)] at h
    exact h.2 _ rfl p _ (same_new hp _) upd_same
theorem Rq.row {Q : VK} {r : Ag} {k : Option Out} {H : Hp} (h : Rq Q (dRow r k) H) : (rowT r.1 = true → Rq Q k H) ∧ (rowT r.1 = false → ∀ p, H p = none → Q (.ref p) (upd H p (.tup [.str "cells"]))) := by
  unfold dRow at h
  constructor
  · intro g
    rw [if_pos g] at h
    exact h
  · intro g p hp
    rw [if_neg (by rw [g]; decide)] at h
    exact h.2 _ rfl p _ (same_new hp _) upd_same
theorem Rq.win {Q : VK} {a : Ag} {hi : Int} {k : Option Out} {H : Hp} (h : Rq Q (dWin a hi k) H) : (wthT a.1 0 hi = true → Rq Q k H) ∧ (wthT a.1 0 hi = false → ∀ p, H p = none → Q (.ref p) (upd H p (.tup [.str "span", .int 0, a.2]))) := by
  unfold dWin at h
  constructor
  · intro g
    rw [if_pos g] at h
    exact h
  · intro g p hp
    rw [if_neg (by rw [g]; decide)] at h
    exact h.2 _ rfl p _ (same_new hp _) upd_same
theorem inF {b : Bool} {A B : Prop} (h : b = false) (x : B) : if (if false = true then !b else b) = true then A else B := by
  subst h
  exact x
theorem inT {b : Bool} {A B : Prop} (h : b = true) (x : A) : if (if false = true then !b else b) = true then A else B := by
  subst h
  exact x
def wTop : Wo → Bool
  | .li => true
  | _ => false
def dueR : Wo → As → Option Out
  | .pu, A => dRow A.r (dSpan A.a (lenA A.r) none)
  | .ho, A => dSpan A.a A.l none
  | .sh, A => dPath A.o false (dSpan A.a A.l (dSpan A.b A.l none))
  | .tw, A => dPath A.o false none
  | .mo, A => dPath A.o false none
  | .fo, A => none
  | .tr, A => dWin A.a 40 none
  | .dr, A => none
  | .li, A => dWin A.a 999 none
theorem due_two (wo : Wo) (A : As) : dueP wo A = dPath A.x (wTop wo) (dueR wo A) := by cases wo <;> rfl
theorem ask_two (wo : Wo) (A : As) : cutV (askL wo A) none (some 2) = [.str (wS wo), A.x.2] := by cases wo <;> exact cut_to _ 2
theorem ask_cut (wo : Wo) (A : As) : ¬ (HT.sIx (askL wo A).length 0 none = 0 ∧ HT.sIx (askL wo A).length (askL wo A).length (some 2) = (askL wo A).length) := by
  cases wo <;> first | exact (by decide : ¬ (HT.sIx 3 0 none = 0 ∧ HT.sIx 3 3 (some 2) = 3)) | exact (by decide : ¬ (HT.sIx 4 0 none = 0 ∧ HT.sIx 4 4 (some 2) = 4)) | exact (by decide : ¬ (HT.sIx 6 0 none = 0 ∧ HT.sIx 6 6 (some 2) = 6))
theorem top_eq (wo : Wo) : decide (V.str (wS wo) = V.str (Str.ofString "limit")) = wTop wo := by cases wo <;> decide +kernel
section
variable {P : Program} {w : World} {K : PySem.W.Frag} {mg : Str → Option Value} {base : Heap} {f fGpa fGro fGsp fLwi : Addr} {fd dGpa dGro dGsp dLwi : FuncData} {c : Cl}
theorem scDue : FnScope ["_law_ask_here", "_law_word", "_law_path_here"] ["_law_ask_here"] (defScope sDue) := ⟨rfl, rfl, rfl, by decide +kernel, rfl, by decide +kernel, by decide +kernel⟩
theorem ok_Due (F : Fun K "_law_due" "_law_due" sDue f fd) (hGpa : Has K mg "_law_good_path" sGpa ["_law_path_here", "_law_top"] fGpa dGpa) (GGpa : FnOk P w K mg base CX0 1 fGpa dGpa ["_law_path_here", "_law_top"] spGpa)
    (hGro : Has K mg "_law_good_row" sGro ["_law_row_here"] fGro dGro) (GGro : FnOk P w K mg base CX0 2 fGro dGro ["_law_row_here"] spGro)
    (hGsp : Has K mg "_law_good_span" sGsp ["_law_at_here", "_law_long"] fGsp dGsp) (GGsp : FnOk P w K mg base CX0 2 fGsp dGsp ["_law_at_here", "_law_long"] spGsp)
    (hLwi : Has K mg "_law_within" sLwi ["_law_number_here", "_law_low", "_law_high"] fLwi dLwi) (GLwi : FnOk P w K mg base CX0 1 fLwi dLwi ["_law_number_here", "_law_low", "_law_high"] spWth0) (T : Txt mg) : FnOk P w K mg base CX0 3 f fd ["_law_ask_here"] spDue := by
  refine F.ok scDue (fun vs H Q E h => ?_) (fun cdv B outer s H vs Q E hr h => ?_)
  · obtain ⟨r, wo, A, rfl, _⟩ := h
    rfl
  obtain ⟨r, wo, A, rfl, hr', aA, qn, qs⟩ := h
  have rq : Rq Q (dueP wo A) H := ⟨qn, qs⟩
  clear qn qs
  rw [due_two] at rq
  refine ⟨_, (pss_cons (ps_asg (pe_slice sl_tup (pv 0) po_none (po_some pe_int)) (pg_tup rfl (pgs_cons (pg_name (i := 1) scDue.nd rfl (Or.inl rfl)) (pgs_cons (pg_name (i := 2) scDue.nd rfl (Or.inl rfl)) pgs_nil))))
    (pss_cons (ps_if (pt_not (pt_val (pe_call GGpa (hr.mono (by decide)) rfl hGpa.nm hGpa.fn.kp hGpa.bd .nil pass0 (pc (pv 2) (pc (pe_cmpR op_eq (pv 1) pe_str (nomark _)) pa_nil)))))
    (pss_one (ps_ret (pe_tup (pc pe_str (pc (pv 2) pa_nil)))))
    pss_nil)
    (pss_cons (ps_if (PW.pt (pw_and (pt_cmpR op_eq (pv 1) pe_str (nomark _)) (pw_and1 (pt_not (pt_val (pe_call GGpa (hr.mono (by decide)) rfl hGpa.nm hGpa.fn.kp hGpa.bd .nil pass0 (pc (pe_ix ix_tup (pv 0) pe_int (fun _ _ => rfl)) (pc pe_bl pa_nil))))))))
    (pss_one (ps_ret (pe_tup (pc pe_str (pc (pe_ix ix_tup (pv 0) pe_int (fun _ _ => rfl)) pa_nil)))))
    pss_nil)
    (pss_cons (ps_if (PW.pt (pw_and (pt_cmpR op_in_seq (pv 1) (pe_tup (pc pe_str (pc pe_str pa_nil))) rfl) (pw_and1 (pt_not (pt_val (pe_call GGpa (hr.mono (by decide)) rfl hGpa.nm hGpa.fn.kp hGpa.bd .nil pass0 (pc (pe_ix ix_tup (pv 0) pe_int (fun _ _ => rfl)) (pc pe_bl pa_nil))))))))
    (pss_one (ps_ret (pe_tup (pc pe_str (pc (pe_ix ix_tup (pv 0) pe_int (fun _ _ => rfl)) pa_nil)))))
    pss_nil)
    (pss_cons (ps_if (pt_cmpR op_eq (pv 1) pe_str (nomark _))
    (pss_cons (ps_if (pt_not (pt_val (pe_call GGro (hr.mono (by decide)) rfl hGro.nm hGro.fn.kp hGro.bd .nil pass0 (pc (pe_ix ix_tup (pv 0) pe_int (fun _ _ => rfl)) pa_nil))))
    (pss_one (ps_ret (pe_tup (pc pe_str pa_nil))))
    pss_nil)
    (pss_one (ps_if (pt_not (pt_val (pe_call GGsp (hr.mono (by decide)) rfl hGsp.nm hGsp.fn.kp hGsp.bd .nil pass0 (pc (pe_ix ix_tup (pv 0) pe_int (fun _ _ => rfl)) (pc (pe_callB call_len_seq rfl T.len PySem.boot_len (pc (pe_ix ix_tup (pv 0) pe_int (fun _ _ => rfl)) pa_nil)) pa_nil)))))
    (pss_one (ps_ret (pe_tup (pc pe_str (pc (pe_ix ix_tup (pv 0) pe_int (fun _ _ => rfl)) (pc (pe_callB call_len_seq rfl T.len PySem.boot_len (pc (pe_ix ix_tup (pv 0) pe_int (fun _ _ => rfl)) pa_nil)) pa_nil))))))
    pss_nil)))
    pss_nil)
    (pss_cons (ps_if (PW.pt (pw_and (pt_cmpR op_in_seq (pv 1) (pe_tup (pc pe_str (pc pe_str pa_nil))) rfl) (pw_and1 (pt_not (pt_val (pe_call GGsp (hr.mono (by decide)) rfl hGsp.nm hGsp.fn.kp hGsp.bd .nil pass0 (pc (pe_ix ix_tup (pv 0) pe_int (fun _ _ => rfl)) (pc (pe_ix ix_tup (pv 0) pe_int (fun _ _ => rfl)) pa_nil))))))))
    (pss_one (ps_ret (pe_tup (pc pe_str (pc (pe_ix ix_tup (pv 0) pe_int (fun _ _ => rfl)) (pc (pe_ix ix_tup (pv 0) pe_int (fun _ _ => rfl)) pa_nil))))))
    pss_nil)
    (pss_cons (ps_if (PW.pt (pw_and (pt_cmpR op_eq (pv 1) pe_str (nomark _)) (pw_and1 (pt_not (pt_val (pe_call GGsp (hr.mono (by decide)) rfl hGsp.nm hGsp.fn.kp hGsp.bd .nil pass0 (pc (pe_ix ix_tup (pv 0) pe_int (fun _ _ => rfl)) (pc (pe_ix ix_tup (pv 0) pe_int (fun _ _ => rfl)) pa_nil))))))))
    (pss_one (ps_ret (pe_tup (pc pe_str (pc (pe_ix ix_tup (pv 0) pe_int (fun _ _ => rfl)) (pc (pe_ix ix_tup (pv 0) pe_int (fun _ _ => rfl)) pa_nil))))))
    pss_nil)
    (pss_cons (ps_if (PW.pt (pw_or (PW.pt (pw_and (pt_cmpR op_eq (pv 1) pe_str (nomark _)) (pw_and1 (pt_not (pt_val (pe_call GLwi (hr.mono (by decide)) rfl hLwi.nm hLwi.fn.kp hLwi.bd .nil pass0 (pc (pe_ix ix_tup (pv 0) pe_int (fun _ _ => rfl)) (pc pe_int (pc pe_int pa_nil))))))))) (pw_or1 (PW.pt (pw_and (pt_cmpR op_eq (pv 1) pe_str (nomark _)) (pw_and1 (pt_not (pt_val (pe_call GLwi (hr.mono (by decide)) rfl hLwi.nm hLwi.fn.kp hLwi.bd .nil pass0 (pc (pe_ix ix_tup (pv 0) pe_int (fun _ _ => rfl)) (pc pe_int (pc pe_int pa_nil))))))))))))
    (pss_one (ps_ret (pe_tup (pc pe_str (pc pe_int (pc (pe_ix ix_tup (pv 0) pe_int (fun _ _ => rfl)) pa_nil))))))
    pss_nil)
    (pss_one (ps_ret pe_non)))))))))), ?_⟩
  refine ⟨_, rfl, _, rfl, r, _, rfl, SqT.of hr', ask_cut wo A, fun p1 hp1 => ?_⟩
  rw [ask_two]
  have s1 := same_new hp1 (HO.tup [V.str (wS wo), A.x.2])
  have e1 : upd H p1 (HO.tup [V.str (wS wo), A.x.2]) p1 = some (HO.tup [V.str (wS wo), A.x.2]) := upd_same
  revert s1 e1
  generalize upd H p1 (HO.tup [V.str (wS wo), A.x.2]) = H1
  intro s1 e1
  refine ⟨p1, _, rfl, SqT.of e1, rfl, _, _, rfl, _, _, rfl, rfl, ?_⟩
  refine ⟨_, rfl, _, rfl, rfl, ?_⟩
  rw [top_eq]
  refine ⟨_, _, _, rfl, (aA.x.mono s1).1, aA.x.2.1, fun H2 s2 => ⟨_, rfl, ?_⟩⟩
  have rq2 := (rq.mono s1).mono s2
  have s12 := s1.trans s2
  cases e : gp A.x.1 (wTop wo) with
  | false => exact iteT ⟨_, rfl, (by show 2 ≤ sizeLine; decide), rq2.path.2 e⟩
  | true =>
    refine iteF ?_
    have rq3 := rq2.path.1 e
    have hr2 := s12 _ _ hr'
    have aA2 := aA.mono s12
    clear rq rq2 aA hr'
    cases wo with
    | fo =>
      refine ⟨_, rfl, rfl, _, rfl, ifF (by decide +kernel) (iteF ?_)⟩
      refine ⟨_, rfl, (by show 2 ≤ sizeLine; decide), fun p2 hp2 => ⟨p2, _, rfl, .inr (SqT.of upd_same), rfl, rfl, _, rfl, inF (by decide +kernel) (iteF ?_)⟩⟩
      have sx := same_new hp2 (HO.tup [V.str (Str.ofString "twin"), V.str (Str.ofString "move")])
      replace rq3 := rq3.mono sx
      replace hr2 := sx _ _ hr2
      replace aA2 := aA2.mono sx
      clear sx
      revert rq3 hr2 aA2
      generalize upd H2 p2 (HO.tup [V.str (Str.ofString "twin"), V.str (Str.ofString "move")]) = H3
      intro rq3 hr2 aA2
      refine ⟨_, rfl, rfl, _, rfl, ifF (by decide +kernel) ?_⟩
      refine ⟨_, rfl, (by show 2 ≤ sizeLine; decide), fun p3 hp3 => ⟨p3, _, rfl, .inr (SqT.of upd_same), rfl, rfl, _, rfl, inF (by decide +kernel) (iteF ?_)⟩⟩
      have sx := same_new hp3 (HO.tup [V.str (Str.ofString "hollow"), V.str (Str.ofString "share")])
      replace rq3 := rq3.mono sx
      replace hr2 := sx _ _ hr2
      replace aA2 := aA2.mono sx
      clear sx
      revert rq3 hr2 aA2
      generalize upd H3 p3 (HO.tup [V.str (Str.ofString "hollow"), V.str (Str.ofString "share")]) = H4
      intro rq3 hr2 aA2
      refine ⟨_, rfl, rfl, _, rfl, ifF (by decide +kernel) (iteF ?_)⟩
      refine ⟨_, rfl, rfl, _, rfl, ifF (by decide +kernel) (iteF ?_)⟩
      refine ⟨_, rfl, rfl, _, rfl, ifF (by decide +kernel) (iteF ?_)⟩
      exact rq3.1 rfl _ (Same.refl _)
    | dr =>
      refine ⟨_, rfl, rfl, _, rfl, ifF (by decide +kernel) (iteF ?_)⟩
      refine ⟨_, rfl, (by show 2 ≤ sizeLine; decide), fun p2 hp2 => ⟨p2, _, rfl, .inr (SqT.of upd_same), rfl, rfl, _, rfl, inF (by decide +kernel) (iteF ?_)⟩⟩
      have sx := same_new hp2 (HO.tup [V.str (Str.ofString "twin"), V.str (Str.ofString "move")])
      replace rq3 := rq3.mono sx
      replace hr2 := sx _ _ hr2
      replace aA2 := aA2.mono sx
      clear sx
      revert rq3 hr2 aA2
      generalize upd H2 p2 (HO.tup [V.str (Str.ofString "twin"), V.str (Str.ofString "move")]) = H3
      intro rq3 hr2 aA2
      refine ⟨_, rfl, rfl, _, rfl, ifF (by decide +kernel) ?_⟩
      refine ⟨_, rfl, (by show 2 ≤ sizeLine; decide), fun p3 hp3 => ⟨p3, _, rfl, .inr (SqT.of upd_same), rfl, rfl, _, rfl, inF (by decide +kernel) (iteF ?_)⟩⟩
      have sx := same_new hp3 (HO.tup [V.str (Str.ofString "hollow"), V.str (Str.ofString "share")])
      replace rq3 := rq3.mono sx
      replace hr2 := sx _ _ hr2
      replace aA2 := aA2.mono sx
      clear sx
      revert rq3 hr2 aA2
      generalize upd H3 p3 (HO.tup [V.str (Str.ofString "hollow"), V.str (Str.ofString "share")]) = H4
      intro rq3 hr2 aA2
      refine ⟨_, rfl, rfl, _, rfl, ifF (by decide +kernel) (iteF ?_)⟩
      refine ⟨_, rfl, rfl, _, rfl, ifF (by decide +kernel) (iteF ?_)⟩
      refine ⟨_, rfl, rfl, _, rfl, ifF (by decide +kernel) (iteF ?_)⟩
      exact rq3.1 rfl _ (Same.refl _)
    | tr =>
      refine ⟨_, rfl, rfl, _, rfl, ifF (by decide +kernel) (iteF ?_)⟩
      refine ⟨_, rfl, (by show 2 ≤ sizeLine; decide), fun p2 hp2 => ⟨p2, _, rfl, .inr (SqT.of upd_same), rfl, rfl, _, rfl, inF (by decide +kernel) (iteF ?_)⟩⟩
      have sx := same_new hp2 (HO.tup [V.str (Str.ofString "twin"), V.str (Str.ofString "move")])
      replace rq3 := rq3.mono sx
      replace hr2 := sx _ _ hr2
      replace aA2 := aA2.mono sx
      clear sx
      revert rq3 hr2 aA2
      generalize upd H2 p2 (HO.tup [V.str (Str.ofString "twin"), V.str (Str.ofString "move")]) = H3
      intro rq3 hr2 aA2
      refine ⟨_, rfl, rfl, _, rfl, ifF (by decide +kernel) ?_⟩
      refine ⟨_, rfl, (by show 2 ≤ sizeLine; decide), fun p3 hp3 => ⟨p3, _, rfl, .inr (SqT.of upd_same), rfl, rfl, _, rfl, inF (by decide +kernel) (iteF ?_)⟩⟩
      have sx := same_new hp3 (HO.tup [V.str (Str.ofString "hollow"), V.str (Str.ofString "share")])
      replace rq3 := rq3.mono sx
      replace hr2 := sx _ _ hr2
      replace aA2 := aA2.mono sx
      clear sx
      revert rq3 hr2 aA2
      generalize upd H3 p3 (HO.tup [V.str (Str.ofString "hollow"), V.str (Str.ofString "share")]) = H4
      intro rq3 hr2 aA2
      refine ⟨_, rfl, rfl, _, rfl, ifF (by decide +kernel) (iteF ?_)⟩
      refine ⟨_, rfl, rfl, _, rfl, ifT (by decide +kernel) ?_⟩
      refine ⟨_, rfl, r, _, 2, A.a.2, rfl, rfl, SqT.of hr2, rfl, A.a.2, 0, 40, rfl, aA2.a.1.ty0, _, rfl, ?_⟩
      rw [aA2.a.1.wth]
      cases q1 : wthT A.a.1 0 40 with
      | false => exact iteT (iteT ⟨_, rfl, r, _, 2, A.a.2, rfl, rfl, SqT.of hr2, rfl, (by show 3 ≤ sizeLine; decide), rq3.win.2 q1⟩)
      | true =>
        refine iteF ⟨_, rfl, rfl, _, rfl, ifF (by decide +kernel) (iteF ?_)⟩
        replace rq3 := rq3.win.1 q1
        exact rq3.1 rfl _ (Same.refl _)
    | li =>
      refine ⟨_, rfl, rfl, _, rfl, ifF (by decide +kernel) (iteF ?_)⟩
      refine ⟨_, rfl, (by show 2 ≤ sizeLine; decide), fun p2 hp2 => ⟨p2, _, rfl, .inr (SqT.of upd_same), rfl, rfl, _, rfl, inF (by decide +kernel) (iteF ?_)⟩⟩
      have sx := same_new hp2 (HO.tup [V.str (Str.ofString "twin"), V.str (Str.ofString "move")])
      replace rq3 := rq3.mono sx
      replace hr2 := sx _ _ hr2
      replace aA2 := aA2.mono sx
      clear sx
      revert rq3 hr2 aA2
      generalize upd H2 p2 (HO.tup [V.str (Str.ofString "twin"), V.str (Str.ofString "move")]) = H3
      intro rq3 hr2 aA2
      refine ⟨_, rfl, rfl, _, rfl, ifF (by decide +kernel) ?_⟩
      refine ⟨_, rfl, (by show 2 ≤ sizeLine; decide), fun p3 hp3 => ⟨p3, _, rfl, .inr (SqT.of upd_same), rfl, rfl, _, rfl, inF (by decide +kernel) (iteF ?_)⟩⟩
      have sx := same_new hp3 (HO.tup [V.str (Str.ofString "hollow"), V.str (Str.ofString "share")])
      replace rq3 := rq3.mono sx
      replace hr2 := sx _ _ hr2
      replace aA2 := aA2.mono sx
      clear sx
      revert rq3 hr2 aA2
      generalize upd H3 p3 (HO.tup [V.str (Str.ofString "hollow"), V.str (Str.ofString "share")]) = H4
      intro rq3 hr2 aA2
      refine ⟨_, rfl, rfl, _, rfl, ifF (by decide +kernel) (iteF ?_)⟩
      refine ⟨_, rfl, rfl, _, rfl, ifF (by decide +kernel) (iteF ?_)⟩
      refine ⟨_, rfl, rfl, _, rfl, ifT (by decide +kernel) ?_⟩
      refine ⟨_, rfl, r, _, 2, A.a.2, rfl, rfl, SqT.of hr2, rfl, A.a.2, 0, 999, rfl, aA2.a.1.ty0, _, rfl, ?_⟩
      rw [aA2.a.1.wth]
      cases q1 : wthT A.a.1 0 999 with
      | false => exact iteT ⟨_, rfl, r, _, 2, A.a.2, rfl, rfl, SqT.of hr2, rfl, (by show 3 ≤ sizeLine; decide), rq3.win.2 q1⟩
      | true =>
        refine iteF ?_
        replace rq3 := rq3.win.1 q1
        exact rq3.1 rfl _ (Same.refl _)
    | tw =>
      refine ⟨_, rfl, rfl, _, rfl, ifF (by decide +kernel) (iteF ?_)⟩
      refine ⟨_, rfl, (by show 2 ≤ sizeLine; decide), fun p2 hp2 => ⟨p2, _, rfl, .inr (SqT.of upd_same), rfl, rfl, _, rfl, inT (by decide +kernel) ?_⟩⟩
      have sx := same_new hp2 (HO.tup [V.str (Str.ofString "twin"), V.str (Str.ofString "move")])
      replace rq3 := rq3.mono sx
      replace hr2 := sx _ _ hr2
      replace aA2 := aA2.mono sx
      clear sx
      revert rq3 hr2 aA2
      generalize upd H2 p2 (HO.tup [V.str (Str.ofString "twin"), V.str (Str.ofString "move")]) = H3
      intro rq3 hr2 aA2
      refine ⟨_, rfl, r, _, 2, A.o.2, rfl, rfl, SqT.of hr2, rfl, A.o.2, A.o.1, false, rfl, aA2.o.1, aA2.o.2.1, fun H4 s4 => ⟨_, rfl, ?_⟩⟩
      replace rq3 := rq3.mono s4
      replace hr2 := s4 _ _ hr2
      replace aA2 := aA2.mono s4
      cases q1 : gp A.o.1 false with
      | false => exact iteT ⟨_, rfl, r, _, 2, A.o.2, rfl, rfl, SqT.of hr2, rfl, (by show 2 ≤ sizeLine; decide), rq3.path.2 q1⟩
      | true =>
        refine iteF ?_
        replace rq3 := rq3.path.1 q1
        refine ⟨_, rfl, rfl, _, rfl, ifF (by decide +kernel) ?_⟩
        refine ⟨_, rfl, (by show 2 ≤ sizeLine; decide), fun p4 hp4 => ⟨p4, _, rfl, .inr (SqT.of upd_same), rfl, rfl, _, rfl, inF (by decide +kernel) (iteF ?_)⟩⟩
        have sx := same_new hp4 (HO.tup [V.str (Str.ofString "hollow"), V.str (Str.ofString "share")])
        replace rq3 := rq3.mono sx
        replace hr2 := sx _ _ hr2
        replace aA2 := aA2.mono sx
        clear sx
        revert rq3 hr2 aA2
        generalize upd H4 p4 (HO.tup [V.str (Str.ofString "hollow"), V.str (Str.ofString "share")]) = H5
        intro rq3 hr2 aA2
        refine ⟨_, rfl, rfl, _, rfl, ifF (by decide +kernel) (iteF ?_)⟩
        refine ⟨_, rfl, rfl, _, rfl, ifF (by decide +kernel) (iteF ?_)⟩
        refine ⟨_, rfl, rfl, _, rfl, ifF (by decide +kernel) (iteF ?_)⟩
        exact rq3.1 rfl _ (Same.refl _)
    | mo =>
      refine ⟨_, rfl, rfl, _, rfl, ifF (by decide +kernel) (iteF ?_)⟩
      refine ⟨_, rfl, (by show 2 ≤ sizeLine; decide), fun p2 hp2 => ⟨p2, _, rfl, .inr (SqT.of upd_same), rfl, rfl, _, rfl, inT (by decide +kernel) ?_⟩⟩
      have sx := same_new hp2 (HO.tup [V.str (Str.ofString "twin"), V.str (Str.ofString "move")])
      replace rq3 := rq3.mono sx
      replace hr2 := sx _ _ hr2
      replace aA2 := aA2.mono sx
      clear sx
      revert rq3 hr2 aA2
      generalize upd H2 p2 (HO.tup [V.str (Str.ofString "twin"), V.str (Str.ofString "move")]) = H3
      intro rq3 hr2 aA2
      refine ⟨_, rfl, r, _, 2, A.o.2, rfl, rfl, SqT.of hr2, rfl, A.o.2, A.o.1, false, rfl, aA2.o.1, aA2.o.2.1, fun H4 s4 => ⟨_, rfl, ?_⟩⟩
      replace rq3 := rq3.mono s4
      replace hr2 := s4 _ _ hr2
      replace aA2 := aA2.mono s4
      cases q1 : gp A.o.1 false with
      | false => exact iteT ⟨_, rfl, r, _, 2, A.o.2, rfl, rfl, SqT.of hr2, rfl, (by show 2 ≤ sizeLine; decide), rq3.path.2 q1⟩
      | true =>
        refine iteF ?_
        replace rq3 := rq3.path.1 q1
        refine ⟨_, rfl, rfl, _, rfl, ifF (by decide +kernel) ?_⟩
        refine ⟨_, rfl, (by show 2 ≤ sizeLine; decide), fun p4 hp4 => ⟨p4, _, rfl, .inr (SqT.of upd_same), rfl, rfl, _, rfl, inF (by decide +kernel) (iteF ?_)⟩⟩
        have sx := same_new hp4 (HO.tup [V.str (Str.ofString "hollow"), V.str (Str.ofString "share")])
        replace rq3 := rq3.mono sx
        replace hr2 := sx _ _ hr2
        replace aA2 := aA2.mono sx
        clear sx
        revert rq3 hr2 aA2
        generalize upd H4 p4 (HO.tup [V.str (Str.ofString "hollow"), V.str (Str.ofString "share")]) = H5
        intro rq3 hr2 aA2
        refine ⟨_, rfl, rfl, _, rfl, ifF (by decide +kernel) (iteF ?_)⟩
        refine ⟨_, rfl, rfl, _, rfl, ifF (by decide +kernel) (iteF ?_)⟩
        refine ⟨_, rfl, rfl, _, rfl, ifF (by decide +kernel) (iteF ?_)⟩
        exact rq3.1 rfl _ (Same.refl _)
    | pu =>
      refine ⟨_, rfl, rfl, _, rfl, ifF (by decide +kernel) (iteF ?_)⟩
      refine ⟨_, rfl, (by show 2 ≤ sizeLine; decide), fun p2 hp2 => ⟨p2, _, rfl, .inr (SqT.of upd_same), rfl, rfl, _, rfl, inF (by decide +kernel) (iteF ?_)⟩⟩
      have sx := same_new hp2 (HO.tup [V.str (Str.ofString "twin"), V.str (Str.ofString "move")])
      replace rq3 := rq3.mono sx
      replace hr2 := sx _ _ hr2
      replace aA2 := aA2.mono sx
      clear sx
      revert rq3 hr2 aA2
      generalize upd H2 p2 (HO.tup [V.str (Str.ofString "twin"), V.str (Str.ofString "move")]) = H3
      intro rq3 hr2 aA2
      refine ⟨_, rfl, rfl, _, rfl, ifT (by decide +kernel) ?_⟩
      refine ⟨_, rfl, r, _, 3, A.r.2, rfl, rfl, SqT.of hr2, rfl, A.r.2, A.r.1, rfl, aA2.r.1, _, rfl, ?_⟩
      cases q1 : rowT A.r.1 with
      | false => exact iteT ⟨(by show 1 ≤ sizeLine; decide), rq3.row.2 q1⟩
      | true =>
        refine iteF ?_
        replace rq3 := rq3.row.1 q1
        obtain ⟨l, el⟩ : ∃ l, A.r.1 = .lst l := by
          cases er : A.r.1 with
          | lst l => exact ⟨l, rfl⟩
          | _ => rw [er] at q1; cases q1
        have ar := aA2.r.1
        rw [el] at ar
        obtain ⟨b, vs, eb, hb, kb⟩ := ar.lst
        have ln := kb.len
        have ela : lenA A.r = (.int (vs.length : Nat), .int (vs.length : Nat)) := by
          unfold lenA
          rw [el, ln]
          rfl
        rw [ela] at rq3
        refine ⟨_, rfl, r, _, 2, A.a.2, rfl, rfl, SqT.of hr2, rfl, _, rfl, r, _, 3, A.r.2, rfl, rfl, SqT.of hr2, rfl, b, vs, by rw [eb], .inl (SqL.of hb), A.a.2, _, A.a.1, .int (vs.length : Nat), rfl, aA2.a.1, At.int _, _, rfl, ?_⟩
        cases q2 : spanT A.a.1 (.int (vs.length : Nat)) with
        | false => exact iteT ⟨_, rfl, r, _, 2, A.a.2, rfl, rfl, SqT.of hr2, rfl, _, rfl, r, _, 3, A.r.2, rfl, rfl, SqT.of hr2, rfl, b, vs, by rw [eb], .inl (SqL.of hb), (by show 3 ≤ sizeLine; decide), rq3.span.2 q2⟩
        | true =>
          refine iteF ?_
          replace rq3 := rq3.span.1 q2
          refine ⟨_, rfl, (by show 2 ≤ sizeLine; decide), fun p3 hp3 => ⟨p3, _, rfl, .inr (SqT.of upd_same), rfl, rfl, _, rfl, inF (by decide +kernel) (iteF ?_)⟩⟩
          have sx := same_new hp3 (HO.tup [V.str (Str.ofString "hollow"), V.str (Str.ofString "share")])
          replace rq3 := rq3.mono sx
          replace hr2 := sx _ _ hr2
          replace aA2 := aA2.mono sx
          clear sx
          revert rq3 hr2 aA2
          generalize upd H3 p3 (HO.tup [V.str (Str.ofString "hollow"), V.str (Str.ofString "share")]) = H4
          intro rq3 hr2 aA2
          refine ⟨_, rfl, rfl, _, rfl, ifF (by decide +kernel) (iteF ?_)⟩
          refine ⟨_, rfl, rfl, _, rfl, ifF (by decide +kernel) (iteF ?_)⟩
          refine ⟨_, rfl, rfl, _, rfl, ifF (by decide +kernel) (iteF ?_)⟩
          exact rq3.1 rfl _ (Same.refl _)
    | ho =>
      refine ⟨_, rfl, rfl, _, rfl, ifF (by decide +kernel) (iteF ?_)⟩
      refine ⟨_, rfl, (by show 2 ≤ sizeLine; decide), fun p2 hp2 => ⟨p2, _, rfl, .inr (SqT.of upd_same), rfl, rfl, _, rfl, inF (by decide +kernel) (iteF ?_)⟩⟩
      have sx := same_new hp2 (HO.tup [V.str (Str.ofString "twin"), V.str (Str.ofString "move")])
      replace rq3 := rq3.mono sx
      replace hr2 := sx _ _ hr2
      replace aA2 := aA2.mono sx
      clear sx
      revert rq3 hr2 aA2
      generalize upd H2 p2 (HO.tup [V.str (Str.ofString "twin"), V.str (Str.ofString "move")]) = H3
      intro rq3 hr2 aA2
      refine ⟨_, rfl, rfl, _, rfl, ifF (by decide +kernel) ?_⟩
      refine ⟨_, rfl, (by show 2 ≤ sizeLine; decide), fun p3 hp3 => ⟨p3, _, rfl, .inr (SqT.of upd_same), rfl, rfl, _, rfl, inT (by decide +kernel) ?_⟩⟩
      have sx := same_new hp3 (HO.tup [V.str (Str.ofString "hollow"), V.str (Str.ofString "share")])
      replace rq3 := rq3.mono sx
      replace hr2 := sx _ _ hr2
      replace aA2 := aA2.mono sx
      clear sx
      revert rq3 hr2 aA2
      generalize upd H3 p3 (HO.tup [V.str (Str.ofString "hollow"), V.str (Str.ofString "share")]) = H4
      intro rq3 hr2 aA2
      refine ⟨_, rfl, r, _, 2, A.a.2, rfl, rfl, SqT.of hr2, rfl, _, rfl, r, _, 3, A.l.2, rfl, rfl, SqT.of hr2, rfl, A.a.2, A.l.2, A.a.1, A.l.1, rfl, aA2.a.1, aA2.l.1, _, rfl, ?_⟩
      cases q1 : spanT A.a.1 A.l.1 with
      | false => exact iteT ⟨_, rfl, r, _, 2, A.a.2, rfl, rfl, SqT.of hr2, rfl, _, rfl, r, _, 3, A.l.2, rfl, rfl, SqT.of hr2, rfl, (by show 3 ≤ sizeLine; decide), rq3.span.2 q1⟩
      | true =>
        refine iteF ?_
        replace rq3 := rq3.span.1 q1
        refine ⟨_, rfl, rfl, _, rfl, ifF (by decide +kernel) (iteF ?_)⟩
        refine ⟨_, rfl, rfl, _, rfl, ifF (by decide +kernel) (iteF ?_)⟩
        refine ⟨_, rfl, rfl, _, rfl, ifF (by decide +kernel) (iteF ?_)⟩
        exact rq3.1 rfl _ (Same.refl _)
    | sh =>
      refine ⟨_, rfl, rfl, _, rfl, ifT (by decide +kernel) ?_⟩
      refine ⟨_, rfl, r, _, 4, A.o.2, rfl, rfl, SqT.of hr2, rfl, A.o.2, A.o.1, false, rfl, aA2.o.1, aA2.o.2.1, fun H3 s3 => ⟨_, rfl, ?_⟩⟩
      replace rq3 := rq3.mono s3
      replace hr2 := s3 _ _ hr2
      replace aA2 := aA2.mono s3
      cases q1 : gp A.o.1 false with
      | false => exact iteT ⟨_, rfl, r, _, 4, A.o.2, rfl, rfl, SqT.of hr2, rfl, (by show 2 ≤ sizeLine; decide), rq3.path.2 q1⟩
      | true =>
        refine iteF ?_
        replace rq3 := rq3.path.1 q1
        refine ⟨_, rfl, (by show 2 ≤ sizeLine; decide), fun p3 hp3 => ⟨p3, _, rfl, .inr (SqT.of upd_same), rfl, rfl, _, rfl, inF (by decide +kernel) (iteF ?_)⟩⟩
        have sx := same_new hp3 (HO.tup [V.str (Str.ofString "twin"), V.str (Str.ofString "move")])
        replace rq3 := rq3.mono sx
        replace hr2 := sx _ _ hr2
        replace aA2 := aA2.mono sx
        clear sx
        revert rq3 hr2 aA2
        generalize upd H3 p3 (HO.tup [V.str (Str.ofString "twin"), V.str (Str.ofString "move")]) = H4
        intro rq3 hr2 aA2
        refine ⟨_, rfl, rfl, _, rfl, ifF (by decide +kernel) ?_⟩
        refine ⟨_, rfl, (by show 2 ≤ sizeLine; decide), fun p4 hp4 => ⟨p4, _, rfl, .inr (SqT.of upd_same), rfl, rfl, _, rfl, inT (by decide +kernel) ?_⟩⟩
        have sx := same_new hp4 (HO.tup [V.str (Str.ofString "hollow"), V.str (Str.ofString "share")])
        replace rq3 := rq3.mono sx
        replace hr2 := sx _ _ hr2
        replace aA2 := aA2.mono sx
        clear sx
        revert rq3 hr2 aA2
        generalize upd H4 p4 (HO.tup [V.str (Str.ofString "hollow"), V.str (Str.ofString "share")]) = H5
        intro rq3 hr2 aA2
        refine ⟨_, rfl, r, _, 2, A.a.2, rfl, rfl, SqT.of hr2, rfl, _, rfl, r, _, 3, A.l.2, rfl, rfl, SqT.of hr2, rfl, A.a.2, A.l.2, A.a.1, A.l.1, rfl, aA2.a.1, aA2.l.1, _, rfl, ?_⟩
        cases q2 : spanT A.a.1 A.l.1 with
        | false => exact iteT ⟨_, rfl, r, _, 2, A.a.2, rfl, rfl, SqT.of hr2, rfl, _, rfl, r, _, 3, A.l.2, rfl, rfl, SqT.of hr2, rfl, (by show 3 ≤ sizeLine; decide), rq3.span.2 q2⟩
        | true =>
          refine iteF ?_
          replace rq3 := rq3.span.1 q2
          refine ⟨_, rfl, rfl, _, rfl, ifT (by decide +kernel) ?_⟩
          refine ⟨_, rfl, r, _, 5, A.b.2, rfl, rfl, SqT.of hr2, rfl, _, rfl, r, _, 3, A.l.2, rfl, rfl, SqT.of hr2, rfl, A.b.2, A.l.2, A.b.1, A.l.1, rfl, aA2.b.1, aA2.l.1, _, rfl, ?_⟩
          cases q3 : spanT A.b.1 A.l.1 with
          | false => exact iteT ⟨_, rfl, r, _, 5, A.b.2, rfl, rfl, SqT.of hr2, rfl, _, rfl, r, _, 3, A.l.2, rfl, rfl, SqT.of hr2, rfl, (by show 3 ≤ sizeLine; decide), rq3.span.2 q3⟩
          | true =>
            refine iteF ?_
            replace rq3 := rq3.span.1 q3
            refine ⟨_, rfl, rfl, _, rfl, ifF (by decide +kernel) (iteF ?_)⟩
            refine ⟨_, rfl, rfl, _, rfl, ifF (by decide +kernel) (iteF ?_)⟩
            exact rq3.1 rfl _ (Same.refl _)
end
end K43
set_option maxHeartbeats 4000000
namespace K43
open PySem L2
/-- the classes' facts -/
structure CF (K : PySem.W.Frag) (mg : Str → Option Value) (c : Cl) : Prop where
  clD : Cls K c.KD
  clE : Cls K c.DE
  bD : NoAttr K c.KD "born"
  lD : NoAttr K c.KD "limit"
  eD : NoAttr K c.KD "entries"
  kE : NoAttr K c.DE "look"
  rE : NoAttr K c.DE "root"
  nE : NoAttr K c.DE "now"
  fE : NoAttr K c.DE "fresh"
  nK0 : mg "Knot" = some (.ref c.K0)
  nKD : mg "FolderKnot" = some (.ref c.KD)
  nDE : mg "Deed" = some (.ref c.DE)
  oW : XOb K c.WE tailVE
  nW : mg "WoodError" = some (.ref c.WE)
  oNP : XOb K c.NP (wl c.WE)
  clNP : XCls K c.NP
  nNP : mg "NoPath" = some (.ref c.NP)
  pNP : NoAttr K c.NP "path"
  oNS : XOb K c.NS (wl c.WE)
  clNS : XCls K c.NS
  nNS : mg "NoSpan" = some (.ref c.NS)
  aNS : NoAttr K c.NS "at"
  lNS : NoAttr K c.NS "long"
  oNC : XOb K c.NC (wl c.WE)
  nNC : mg "NoCells" = some (.ref c.NC)
  d1 : c.NP ≠ c.NS
  d2 : c.NP ≠ c.NC
  d3 : c.NS ≠ c.NC
  d4 : c.NP ≠ c.WE
  d5 : c.NS ≠ c.WE
  d6 : c.NC ≠ c.WE
/-- the deed, as it stands all the while -/
def De (c : Cl) (H : Hp) (d lk fr : Addr) : Prop := ∃ dx, H d = some (.ins c.DE dx [("look", .ref lk), ("root", .int 2), ("now", .int 9), ("fresh", .ref fr)])
theorem De.mono {c : Cl} {H H' : Hp} {d lk fr : Addr} (h : De c H d lk fr) (s : Same H H') : De c H' d lk fr := let ⟨dx, e⟩ := h; ⟨dx, s _ _ e⟩
section
variable {P : Program} {w : World} {K : PySem.W.Frag} {mg : Str → Option Value} {base : Heap} {f fEfo fEpu fEtr fEho fEsh fEtw fEmo fEdr fEli fDoo : Addr} {fd dEfo dEpu dEtr dEho dEsh dEtw dEmo dEdr dEli dDoo : FuncData} {c : Cl}
def spDoo (c : Cl) : Sp := fun vs H Q E => ∃ d lk fr r wo A o, vs = [.ref d, .ref r] ∧ De c H d lk fr ∧ H r = some (.tup (askL wo A)) ∧ AsAt H A ∧ dueP wo A = some o ∧ Rs c H o E
theorem scDoo : FnScope ["_law_deed", "_law_ask_here"] ["_law_deed", "_law_ask_here"] (defScope sDoo) := ⟨rfl, rfl, rfl, by decide +kernel, rfl, by decide +kernel, by decide +kernel⟩
theorem ok_Doo (F : Fun K "_law_do" "_law_do" sDoo f fd) (cf : CF K mg c)
    (hEfo : MHas K c.DE "folder" "Deed.folder" sEfo ["self", "path"] fEfo dEfo) (GEfo : FnOk P w K mg base (CXw P w) 6 fEfo dEfo ["self", "path"] (spE1 c))
    (hEpu : MHas K c.DE "put" "Deed.put" sEpu ["self", "path", "at", "cells"] fEpu dEpu) (GEpu : FnOk P w K mg base (CXw P w) 6 fEpu dEpu ["self", "path", "at", "cells"] (spEpu c))
    (hEtr : MHas K c.DE "trim" "Deed.trim" sEtr ["self", "path", "size"] fEtr dEtr) (GEtr : FnOk P w K mg base (CXw P w) 6 fEtr dEtr ["self", "path", "size"] (spEtr c false 40))
    (hEho : MHas K c.DE "hollow" "Deed.hollow" sEho ["self", "path", "at", "long"] fEho dEho) (GEho : FnOk P w K mg base (CXw P w) 6 fEho dEho ["self", "path", "at", "long"] (spEho c))
    (hEsh : MHas K c.DE "share" "Deed.share" sEsh ["self", "path", "at", "long", "to", "to_at"] fEsh dEsh) (GEsh : FnOk P w K mg base (CXw P w) 6 fEsh dEsh ["self", "path", "at", "long", "to", "to_at"] (spEsh c))
    (hEtw : MHas K c.DE "twin" "Deed.twin" sEtw ["self", "path", "to"] fEtw dEtw) (GEtw : FnOk P w K mg base (CXw P w) 6 fEtw dEtw ["self", "path", "to"] (spE2 c))
    (hEmo : MHas K c.DE "move" "Deed.move" sEmo ["self", "path", "to"] fEmo dEmo) (GEmo : FnOk P w K mg base (CXw P w) 6 fEmo dEmo ["self", "path", "to"] (spE2 c))
    (hEdr : MHas K c.DE "drop" "Deed.drop" sEdr ["self", "path"] fEdr dEdr) (GEdr : FnOk P w K mg base (CXw P w) 6 fEdr dEdr ["self", "path"] (spE1 c))
    (hEli : MHas K c.DE "set_limit" "Deed.set_limit" sEli ["self", "path", "many"] fEli dEli) (GEli : FnOk P w K mg base (CXw P w) 6 fEli dEli ["self", "path", "many"] (spEtr c true 999)) : FnOk P w K mg base (CXw P w) 7 f fd ["_law_deed", "_law_ask_here"] (spDoo c) := by
  refine F.okX scDoo (fun vs H Q E h => ?_) (fun cdv B outer s H vs Q E hr h => ?_)
  · obtain ⟨d, lk, fr, r, wo, A, o, rfl, _⟩ := h
    rfl
  obtain ⟨d, lk, fr, r, wo, A, o, rfl, ⟨dx, hd⟩, hr2, aA, du, rs⟩ := h
  have hlv : Leaves (cxOf (CXw P w) P w K mg base ["_law_deed", "_law_ask_here"] "_law_do" (defScope sDoo) f cdv B outer s H E) E := leaves_fn
  refine ⟨_, (pss_one (ps_if (pt_cmpR op_eq (pe_ix ix_tup (pv 1) pe_int (fun _ _ => rfl)) pe_str (nomark _))
    (pss_one (ps_expr (pe_meth (pv 0) cf.clE hEfo.me GEfo (hr.mono (by decide)) hEfo.bd .nil (passes_of hlv) (pc (pe_ix ix_tup (pv 1) pe_int (fun _ _ => rfl)) pa_nil))))
    (pss_one (ps_if (pt_cmpR op_eq (pe_ix ix_tup (pv 1) pe_int (fun _ _ => rfl)) pe_str (nomark _))
    (pss_one (ps_expr (pe_meth (pv 0) cf.clE hEpu.me GEpu (hr.mono (by decide)) hEpu.bd .nil (passes_of hlv) (pc (pe_ix ix_tup (pv 1) pe_int (fun _ _ => rfl)) (pc (pe_ix ix_tup (pv 1) pe_int (fun _ _ => rfl)) (pc (pe_ix ix_tup (pv 1) pe_int (fun _ _ => rfl)) pa_nil))))))
    (pss_one (ps_if (pt_cmpR op_eq (pe_ix ix_tup (pv 1) pe_int (fun _ _ => rfl)) pe_str (nomark _))
    (pss_one (ps_expr (pe_meth (pv 0) cf.clE hEtr.me GEtr (hr.mono (by decide)) hEtr.bd .nil (passes_of hlv) (pc (pe_ix ix_tup (pv 1) pe_int (fun _ _ => rfl)) (pc (pe_ix ix_tup (pv 1) pe_int (fun _ _ => rfl)) pa_nil)))))
    (pss_one (ps_if (pt_cmpR op_eq (pe_ix ix_tup (pv 1) pe_int (fun _ _ => rfl)) pe_str (nomark _))
    (pss_one (ps_expr (pe_meth (pv 0) cf.clE hEho.me GEho (hr.mono (by decide)) hEho.bd .nil (passes_of hlv) (pc (pe_ix ix_tup (pv 1) pe_int (fun _ _ => rfl)) (pc (pe_ix ix_tup (pv 1) pe_int (fun _ _ => rfl)) (pc (pe_ix ix_tup (pv 1) pe_int (fun _ _ => rfl)) pa_nil))))))
    (pss_one (ps_if (pt_cmpR op_eq (pe_ix ix_tup (pv 1) pe_int (fun _ _ => rfl)) pe_str (nomark _))
    (pss_one (ps_expr (pe_meth (pv 0) cf.clE hEsh.me GEsh (hr.mono (by decide)) hEsh.bd .nil (passes_of hlv) (pc (pe_ix ix_tup (pv 1) pe_int (fun _ _ => rfl)) (pc (pe_ix ix_tup (pv 1) pe_int (fun _ _ => rfl)) (pc (pe_ix ix_tup (pv 1) pe_int (fun _ _ => rfl)) (pc (pe_ix ix_tup (pv 1) pe_int (fun _ _ => rfl)) (pc (pe_ix ix_tup (pv 1) pe_int (fun _ _ => rfl)) pa_nil))))))))
    (pss_one (ps_if (pt_cmpR op_eq (pe_ix ix_tup (pv 1) pe_int (fun _ _ => rfl)) pe_str (nomark _))
    (pss_one (ps_expr (pe_meth (pv 0) cf.clE hEtw.me GEtw (hr.mono (by decide)) hEtw.bd .nil (passes_of hlv) (pc (pe_ix ix_tup (pv 1) pe_int (fun _ _ => rfl)) (pc (pe_ix ix_tup (pv 1) pe_int (fun _ _ => rfl)) pa_nil)))))
    (pss_one (ps_if (pt_cmpR op_eq (pe_ix ix_tup (pv 1) pe_int (fun _ _ => rfl)) pe_str (nomark _))
    (pss_one (ps_expr (pe_meth (pv 0) cf.clE hEmo.me GEmo (hr.mono (by decide)) hEmo.bd .nil (passes_of hlv) (pc (pe_ix ix_tup (pv 1) pe_int (fun _ _ => rfl)) (pc (pe_ix ix_tup (pv 1) pe_int (fun _ _ => rfl)) pa_nil)))))
    (pss_one (ps_if (pt_cmpR op_eq (pe_ix ix_tup (pv 1) pe_int (fun _ _ => rfl)) pe_str (nomark _))
    (pss_one (ps_expr (pe_meth (pv 0) cf.clE hEdr.me GEdr (hr.mono (by decide)) hEdr.bd .nil (passes_of hlv) (pc (pe_ix ix_tup (pv 1) pe_int (fun _ _ => rfl)) pa_nil))))
    (pss_one (ps_expr (pe_meth (pv 0) cf.clE hEli.me GEli (hr.mono (by decide)) hEli.bd .nil (passes_of hlv) (pc (pe_ix ix_tup (pv 1) pe_int (fun _ _ => rfl)) (pc (pe_ix ix_tup (pv 1) pe_int (fun _ _ => rfl)) pa_nil))))))))))))))))))))), ?_⟩
  cases wo with
  | fo => exact ⟨_, rfl, r, _, 0, _, rfl, rfl, SqT.of hr2, rfl, rfl, _, rfl, ifT (by decide +kernel) ⟨_, rfl, d, dx, _, rfl, hd, rfl, _, rfl, r, _, 1, A.x.2, rfl, rfl, SqT.of hr2, rfl, .ref d, A.x, o, rfl, aA.x.ar, du, rs⟩⟩
  | pu => exact ⟨_, rfl, r, _, 0, _, rfl, rfl, SqT.of hr2, rfl, rfl, _, rfl, ifF (by decide +kernel) ⟨_, rfl, r, _, 0, _, rfl, rfl, SqT.of hr2, rfl, rfl, _, rfl, ifT (by decide +kernel) ⟨_, rfl, d, dx, _, rfl, hd, rfl, _, rfl, r, _, 1, A.x.2, rfl, rfl, SqT.of hr2, rfl, _, rfl, r, _, 2, A.a.2, rfl, rfl, SqT.of hr2, rfl, _, rfl, r, _, 3, A.r.2, rfl, rfl, SqT.of hr2, rfl, .ref d, A.x, A.a, A.r, o, rfl, aA.x.ar, aA.a.ar, aA.r, du, rs⟩⟩⟩
  | tr => exact ⟨_, rfl, r, _, 0, _, rfl, rfl, SqT.of hr2, rfl, rfl, _, rfl, ifF (by decide +kernel) ⟨_, rfl, r, _, 0, _, rfl, rfl, SqT.of hr2, rfl, rfl, _, rfl, ifF (by decide +kernel) ⟨_, rfl, r, _, 0, _, rfl, rfl, SqT.of hr2, rfl, rfl, _, rfl, ifT (by decide +kernel) ⟨_, rfl, d, dx, _, rfl, hd, rfl, _, rfl, r, _, 1, A.x.2, rfl, rfl, SqT.of hr2, rfl, _, rfl, r, _, 2, A.a.2, rfl, rfl, SqT.of hr2, rfl, .ref d, A.x, A.a, o, rfl, aA.x.ar, aA.a.ar, du, rs⟩⟩⟩⟩
  | ho => exact ⟨_, rfl, r, _, 0, _, rfl, rfl, SqT.of hr2, rfl, rfl, _, rfl, ifF (by decide +kernel) ⟨_, rfl, r, _, 0, _, rfl, rfl, SqT.of hr2, rfl, rfl, _, rfl, ifF (by decide +kernel) ⟨_, rfl, r, _, 0, _, rfl, rfl, SqT.of hr2, rfl, rfl, _, rfl, ifF (by decide +kernel) ⟨_, rfl, r, _, 0, _, rfl, rfl, SqT.of hr2, rfl, rfl, _, rfl, ifT (by decide +kernel) ⟨_, rfl, d, dx, _, rfl, hd, rfl, _, rfl, r, _, 1, A.x.2, rfl, rfl, SqT.of hr2, rfl, _, rfl, r, _, 2, A.a.2, rfl, rfl, SqT.of hr2, rfl, _, rfl, r, _, 3, A.l.2, rfl, rfl, SqT.of hr2, rfl, .ref d, A.x, A.a, A.l, o, rfl, aA.x.ar, aA.a.ar, aA.l.ar, du, rs⟩⟩⟩⟩⟩
  | sh => exact ⟨_, rfl, r, _, 0, _, rfl, rfl, SqT.of hr2, rfl, rfl, _, rfl, ifF (by decide +kernel) ⟨_, rfl, r, _, 0, _, rfl, rfl, SqT.of hr2, rfl, rfl, _, rfl, ifF (by decide +kernel) ⟨_, rfl, r, _, 0, _, rfl, rfl, SqT.of hr2, rfl, rfl, _, rfl, ifF (by decide +kernel) ⟨_, rfl, r, _, 0, _, rfl, rfl, SqT.of hr2, rfl, rfl, _, rfl, ifF (by decide +kernel) ⟨_, rfl, r, _, 0, _, rfl, rfl, SqT.of hr2, rfl, rfl, _, rfl, ifT (by decide +kernel) ⟨_, rfl, d, dx, _, rfl, hd, rfl, _, rfl, r, _, 1, A.x.2, rfl, rfl, SqT.of hr2, rfl, _, rfl, r, _, 2, A.a.2, rfl, rfl, SqT.of hr2, rfl, _, rfl, r, _, 3, A.l.2, rfl, rfl, SqT.of hr2, rfl, _, rfl, r, _, 4, A.o.2, rfl, rfl, SqT.of hr2, rfl, _, rfl, r, _, 5, A.b.2, rfl, rfl, SqT.of hr2, rfl, .ref d, A.x, A.a, A.l, A.o, A.b, o, rfl, aA.x.ar, aA.a.ar, aA.l.ar, aA.o.ar, aA.b.ar, du, rs⟩⟩⟩⟩⟩⟩
  | tw => exact ⟨_, rfl, r, _, 0, _, rfl, rfl, SqT.of hr2, rfl, rfl, _, rfl, ifF (by decide +kernel) ⟨_, rfl, r, _, 0, _, rfl, rfl, SqT.of hr2, rfl, rfl, _, rfl, ifF (by decide +kernel) ⟨_, rfl, r, _, 0, _, rfl, rfl, SqT.of hr2, rfl, rfl, _, rfl, ifF (by decide +kernel) ⟨_, rfl, r, _, 0, _, rfl, rfl, SqT.of hr2, rfl, rfl, _, rfl, ifF (by decide +kernel) ⟨_, rfl, r, _, 0, _, rfl, rfl, SqT.of hr2, rfl, rfl, _, rfl, ifF (by decide +kernel) ⟨_, rfl, r, _, 0, _, rfl, rfl, SqT.of hr2, rfl, rfl, _, rfl, ifT (by decide +kernel) ⟨_, rfl, d, dx, _, rfl, hd, rfl, _, rfl, r, _, 1, A.x.2, rfl, rfl, SqT.of hr2, rfl, _, rfl, r, _, 2, A.o.2, rfl, rfl, SqT.of hr2, rfl, .ref d, A.x, A.o, o, rfl, aA.x.ar, aA.o.ar, du, rs⟩⟩⟩⟩⟩⟩⟩
  | mo => exact ⟨_, rfl, r, _, 0, _, rfl, rfl, SqT.of hr2, rfl, rfl, _, rfl, ifF (by decide +kernel) ⟨_, rfl, r, _, 0, _, rfl, rfl, SqT.of hr2, rfl, rfl, _, rfl, ifF (by decide +kernel) ⟨_, rfl, r, _, 0, _, rfl, rfl, SqT.of hr2, rfl, rfl, _, rfl, ifF (by decide +kernel) ⟨_, rfl, r, _, 0, _, rfl, rfl, SqT.of hr2, rfl, rfl, _, rfl, ifF (by decide +kernel) ⟨_, rfl, r, _, 0, _, rfl, rfl, SqT.of hr2, rfl, rfl, _, rfl, ifF (by decide +kernel) ⟨_, rfl, r, _, 0, _, rfl, rfl, SqT.of hr2, rfl, rfl, _, rfl, ifF (by decide +kernel) ⟨_, rfl, r, _, 0, _, rfl, rfl, SqT.of hr2, rfl, rfl, _, rfl, ifT (by decide +kernel) ⟨_, rfl, d, dx, _, rfl, hd, rfl, _, rfl, r, _, 1, A.x.2, rfl, rfl, SqT.of hr2, rfl, _, rfl, r, _, 2, A.o.2, rfl, rfl, SqT.of hr2, rfl, .ref d, A.x, A.o, o, rfl, aA.x.ar, aA.o.ar, du, rs⟩⟩⟩⟩⟩⟩⟩⟩
  | dr => exact ⟨_, rfl, r, _, 0, _, rfl, rfl, SqT.of hr2, rfl, rfl, _, rfl, ifF (by decide +kernel) ⟨_, rfl, r, _, 0, _, rfl, rfl, SqT.of hr2, rfl, rfl, _, rfl, ifF (by decide +kernel) ⟨_, rfl, r, _, 0, _, rfl, rfl, SqT.of hr2, rfl, rfl, _, rfl, ifF (by decide +kernel) ⟨_, rfl, r, _, 0, _, rfl, rfl, SqT.of hr2, rfl, rfl, _, rfl, ifF (by decide +kernel) ⟨_, rfl, r, _, 0, _, rfl, rfl, SqT.of hr2, rfl, rfl, _, rfl, ifF (by decide +kernel) ⟨_, rfl, r, _, 0, _, rfl, rfl, SqT.of hr2, rfl, rfl, _, rfl, ifF (by decide +kernel) ⟨_, rfl, r, _, 0, _, rfl, rfl, SqT.of hr2, rfl, rfl, _, rfl, ifF (by decide +kernel) ⟨_, rfl, r, _, 0, _, rfl, rfl, SqT.of hr2, rfl, rfl, _, rfl, ifT (by decide +kernel) ⟨_, rfl, d, dx, _, rfl, hd, rfl, _, rfl, r, _, 1, A.x.2, rfl, rfl, SqT.of hr2, rfl, .ref d, A.x, o, rfl, aA.x.ar, du, rs⟩⟩⟩⟩⟩⟩⟩⟩⟩
  | li => exact ⟨_, rfl, r, _, 0, _, rfl, rfl, SqT.of hr2, rfl, rfl, _, rfl, ifF (by decide +kernel) ⟨_, rfl, r, _, 0, _, rfl, rfl, SqT.of hr2, rfl, rfl, _, rfl, ifF (by decide +kernel) ⟨_, rfl, r, _, 0, _, rfl, rfl, SqT.of hr2, rfl, rfl, _, rfl, ifF (by decide +kernel) ⟨_, rfl, r, _, 0, _, rfl, rfl, SqT.of hr2, rfl, rfl, _, rfl, ifF (by decide +kernel) ⟨_, rfl, r, _, 0, _, rfl, rfl, SqT.of hr2, rfl, rfl, _, rfl, ifF (by decide +kernel) ⟨_, rfl, r, _, 0, _, rfl, rfl, SqT.of hr2, rfl, rfl, _, rfl, ifF (by decide +kernel) ⟨_, rfl, r, _, 0, _, rfl, rfl, SqT.of hr2, rfl, rfl, _, rfl, ifF (by decide +kernel) ⟨_, rfl, r, _, 0, _, rfl, rfl, SqT.of hr2, rfl, rfl, _, rfl, ifF (by decide +kernel) ⟨_, rfl, d, dx, _, rfl, hd, rfl, _, rfl, r, _, 1, A.x.2, rfl, rfl, SqT.of hr2, rfl, _, rfl, r, _, 2, A.a.2, rfl, rfl, SqT.of hr2, rfl, .ref d, A.x, A.a, o, rfl, aA.x.ar, aA.a.ar, du, rs⟩⟩⟩⟩⟩⟩⟩⟩⟩
end
end K43
set_option maxHeartbeats 4000000
namespace K43
open PySem L2
theorem wl_be (W : Addr) : (wl W).contains (.type "BaseException") = true := by simp [wl, tailVE]
theorem ve_be : tailVE.contains (.type "BaseException") = true := by simp [tailVE]
section
variable {P : Program} {w : World} {K : PySem.W.Frag} {mg : Str → Option Value} {base : Heap} {f fDoo fKnd fSam : Addr} {fd dDoo dKnd dSam : FuncData} {c : Cl}
def spTol (c : Cl) : Sp := fun vs H Q _ => ∃ d lk fr r wo A o, vs = [.ref d, .ref r] ∧ De c H d lk fr ∧ H r = some (.tup (askL wo A)) ∧ AsAt H A ∧ dueP wo A = some o ∧ ∀ p H', Same H H' → H' p = some (.tup (outV o)) → Q (.ref p) H'
theorem scTol : FnScope ["_law_deed", "_law_ask_here", "_law_told_here", "e"] ["_law_deed", "_law_ask_here"] (defScope sTol) := ⟨rfl, rfl, rfl, by decide +kernel, rfl, by decide +kernel, by decide +kernel⟩
theorem ok_Tol (F : Fun K "_law_told" "_law_told" sTol f fd) (cf : CF K mg c) (hDoo : Has K mg "_law_do" sDoo ["_law_deed", "_law_ask_here"] fDoo dDoo) (GDoo : FnOk P w K mg base (CXw P w) 7 fDoo dDoo ["_law_deed", "_law_ask_here"] (spDoo c)) : FnOk P w K mg base CX0 8 f fd ["_law_deed", "_law_ask_here"] (spTol c) := by
  refine F.ok scTol (fun vs H Q E h => ?_) (fun cdv B outer s H vs Q E hr h => ?_)
  · obtain ⟨d, lk, fr, r, wo, A, o, rfl, _⟩ := h
    rfl
  obtain ⟨d, lk, fr, r, wo, A, o, rfl, de, hr2, aA, du, q⟩ := h
  refine ⟨_, (pss_cons (ps_set (i := 2) scTol.nd rfl (Or.inl rfl) pe_non)
    (pss_cons (ps_tryH (pb_one (pb_expr (px_call GDoo (hr.mono (by decide)) rfl hDoo.nm hDoo.fn.kp hDoo.bd .nil (pc (pv 0) (pc (pv 1) pa_nil)))))
    (phs_as (D := c.NP) (i := 3) (fun ea => pss_one (ps_set (i := 2) scTol.nd rfl (Or.inl rfl) (pe_tup (pc pe_str (pc (pe_xf (pv 3) rfl) pa_nil)))))
      (phs_no (D := c.NC) (fun ea => pss_one (ps_set (i := 2) scTol.nd rfl (Or.inl rfl) (pe_tup (pc pe_str pa_nil))))
        (phs_as (D := c.NS) (i := 3) (fun ea => pss_one (ps_set (i := 2) scTol.nd rfl (Or.inl rfl) (pe_tup (pc pe_str (pc (pe_xf (pv 3) rfl) (pc (pe_xf (pv 3) rfl) pa_nil))))))
          (phs_no (D := c.WE) (fun ea => pss_one ps_never) phs_nil rfl cf.nW cf.oW ve_be)
          rfl cf.nNS cf.oNS (wl_be c.WE) scTol.nd rfl rfl)
        rfl cf.nNC cf.oNC (wl_be c.WE))
      rfl cf.nNP cf.oNP (wl_be c.WE) scTol.nd rfl rfl) pss_nil)
    (pss_one (ps_ret (pv 2))))), ?_⟩
  refine ⟨_, rfl, _, rfl, d, lk, fr, r, wo, A, o, rfl, de, hr2, aA, du, fun ea dd H1 s1 oa => ?_⟩
  cases o with
  | path x =>
    obtain ⟨dx, rfl, e1, e2⟩ := oa
    exact ⟨ea, c.NP, wl c.WE, rfl, e1, cf.oNP, wl c.WE, true, cf.oNP, by simp, iteT ⟨_, rfl, ea, c.NP, dx, _, x, rfl, e1, e2, cf.clNP, cf.pNP, by simp, (by show 2 ≤ sizeLine; decide), fun p hp => ⟨_, rfl, q p _ (s1.trans (same_new hp _)) upd_same⟩⟩⟩
  | cells =>
    obtain ⟨rfl, e1⟩ := oa
    exact ⟨ea, c.NC, wl c.WE, rfl, e1, cf.oNC, wl c.WE, false, cf.oNC, by simp [wl, tailVE, cf.d2, cf.d4, Ne.symm cf.d2, Ne.symm cf.d4], iteF ⟨wl c.WE, true, cf.oNC, by simp, iteT ⟨(by show 1 ≤ sizeLine; decide), fun p hp => ⟨_, rfl, q p _ (s1.trans (same_new hp _)) upd_same⟩⟩⟩⟩
  | span a b =>
    obtain ⟨dx, rfl, e1, e2⟩ := oa
    refine ⟨ea, c.NS, wl c.WE, rfl, e1, cf.oNS, wl c.WE, false, cf.oNS, by simp [wl, tailVE, cf.d1, cf.d4, Ne.symm cf.d1, Ne.symm cf.d4], iteF ⟨wl c.WE, false, cf.oNS, by simp [wl, tailVE, cf.d3, cf.d6, Ne.symm cf.d3, Ne.symm cf.d6], iteF ⟨wl c.WE, true, cf.oNS, by simp, iteT ?_⟩⟩⟩
    exact ⟨_, rfl, ea, c.NS, dx, _, a, rfl, e1, e2, cf.clNS, cf.aNS, by simp, _, rfl, ea, c.NS, dx, _, b, rfl, e1, e2, cf.clNS, cf.lNS, rfl, (by show 3 ≤ sizeLine; decide), fun p hp => ⟨_, rfl, q p _ (s1.trans (same_new hp _)) upd_same⟩⟩
/-! ### told and due are alike -/
def knd (x : V) (t : Tr) : List V := [.bl (isB0 x), .bl (isI0 x), .bl (isStrT t), .bl (isLstT t), .bl (isTup t), .bl (decide (x = .non))]
def spKnd : Sp := fun vs H Q _ => ∃ x t, vs = [x] ∧ At H t x ∧ ∀ p H', Same H H' → H' p = some (.lst (knd x t)) → Q (.ref p) H'
theorem scKnd : FnScope ["_law_thing", "_law_kinds"] ["_law_thing"] (defScope sKnd) := ⟨rfl, rfl, rfl, by decide +kernel, rfl, by decide +kernel, by decide +kernel⟩
theorem ok_Knd (F : Fun K "_law_kind" "_law_kind" sKnd f fd) (T : Txt mg) : FnOk P w K mg base CX0 1 f fd ["_law_thing"] spKnd := by
  refine F.ok scKnd (fun vs H Q E h => ?_) (fun cdv B outer s H vs Q E hr h => ?_)
  · obtain ⟨x, t, rfl, _⟩ := h
    rfl
  obtain ⟨x, t, rfl, hx, q⟩ := h
  obtain ⟨y, ty, k1, k2⟩ := hx.ty0.ty (K := K)
  obtain ⟨y2, ty2, k3, k4, k5⟩ := hx.ty (K := K)
  refine ⟨_, (pss_cons (ps_set (i := 1) scKnd.nd rfl (Or.inl rfl) (pe_lst (pc (pe_callB call_isinst rfl T.isi PyProof.Rows.boot_isinstance (pc (pv 0) (pc (pe_bltn (v := .ty "bool") rfl T.bol PyProof.Rows.boot_bool rfl) pa_nil))) (pc (pe_callB call_isinst rfl T.isi PyProof.Rows.boot_isinstance (pc (pv 0) (pc (pe_bltn (v := .ty "int") rfl T.int PyProof.Rows.boot_int rfl) pa_nil))) (pc (pe_callB call_isinst rfl T.isi PyProof.Rows.boot_isinstance (pc (pv 0) (pc (pe_bltn (v := .ty "str") rfl T.str PyProof.Rows.boot_str rfl) pa_nil))) pa_nil)))))
    (pss_one (ps_ret (pe_op op_cat (pv 1) (pe_lst (pc (pe_callB call_isinst rfl T.isi PyProof.Rows.boot_isinstance (pc (pv 0) (pc (pe_bltn (v := .ty "list") rfl T.lst PyProof.Rows.boot_list rfl) pa_nil))) (pc (pe_callB call_isinst rfl T.isi PyProof.Rows.boot_isinstance (pc (pv 0) (pc (pe_bltn (v := .ty "tuple") rfl T.tup PyProof.Rows.boot_tuple rfl) pa_nil))) (pc (pe_cmpR op_isN (pv 0) pe_non (nomark _)) pa_nil)))))))), ?_⟩
  refine ⟨_, rfl, x, "bool", y, _, rfl, ty, k2, _, rfl, x, "int", y, _, rfl, ty, k1, _, rfl, x, "str", y2, _, rfl, ty2, k4, (by show 3 ≤ sizeLine; decide), fun p1 hp1 => ?_⟩
  have s1 := same_new hp1 (HO.lst [V.bl (isB0 x), V.bl (isI0 x), V.bl (isStrT t)])
  have e1 : upd H p1 (HO.lst [V.bl (isB0 x), V.bl (isI0 x), V.bl (isStrT t)]) p1 = some (HO.lst [V.bl (isB0 x), V.bl (isI0 x), V.bl (isStrT t)]) := upd_same
  have hx1 := hx.mono s1
  revert s1 e1 hx1
  generalize upd H p1 (HO.lst [V.bl (isB0 x), V.bl (isI0 x), V.bl (isStrT t)]) = H1
  intro s1 e1 hx1
  obtain ⟨y3, ty3, k6, _, k7⟩ := hx1.ty (K := K)
  refine ⟨_, rfl, _, rfl, x, "list", y3, _, rfl, ty3, k7, _, rfl, x, "tuple", y3, _, rfl, ty3, k6, _, rfl, rfl, (by show 3 ≤ sizeLine; decide), fun p2 hp2 => ?_⟩
  exact ⟨p1, p2, _, _, rfl, rfl, same_new hp2 _ _ _ e1, upd_same, (by show 3 + 3 ≤ sizeLine; decide), fun p3 hp3 => q p3 _ (s1.trans ((same_new hp2 _).trans (same_new hp3 _))) upd_same⟩
theorem eqV_flat {x : V} (h : flatV x = true) : eqV x x = true := by
  cases x with
  | non => rfl
  | bl b => exact beq_self_eq_true b
  | int n => exact beq_self_eq_true n
  | str z => exact beq_self_eq_true z
  | _ => cases h
theorem eqVs_flat : ∀ {l : List V}, l.all flatV = true → eqVs l l = true
  | [], _ => rfl
  | x :: l, h => by
    rw [List.all_cons, Bool.and_eq_true] at h
    show (eqV x x && eqVs l l) = true
    rw [eqV_flat h.1, eqVs_flat h.2]
    rfl
theorem ats_flat {H : Hp} : ∀ {l : List Tr} {vs : List V}, l.all flatT = true → Ats H l vs → vs.all flatV = true
  | [], vs, _, k => by unfold Ats at k; rw [k]; rfl
  | t :: l, vs, h, k => by
    rw [List.all_cons, Bool.and_eq_true] at h
    unfold Ats at k
    obtain ⟨v, ws, rfl, a, k⟩ := k
    rw [List.all_cons, ats_flat h.2 k, a.flat h.1, Bool.and_true]
    cases t <;> first | rfl | cases h.1
def spSam : Sp := fun vs H Q _ => ∃ x t, vs = [x, x] ∧ At H t x ∧ fl1 t = true ∧ ∀ H', Same H H' → Q (.bl true) H'
theorem scSam : FnScope ["_law_one", "_law_other"] ["_law_one", "_law_other"] (defScope sSam) := ⟨rfl, rfl, rfl, by decide +kernel, rfl, by decide +kernel, by decide +kernel⟩
theorem ok_Sam (F : Fun K "_law_same" "_law_same" sSam f fd) (hKnd : Has K mg "_law_kind" sKnd ["_law_thing"] fKnd dKnd) (GKnd : FnOk P w K mg base CX0 1 fKnd dKnd ["_law_thing"] spKnd) : FnOk P w K mg base CX0 2 f fd ["_law_one", "_law_other"] spSam := by
  refine F.ok scSam (fun vs H Q E h => ?_) (fun cdv B outer s H vs Q E hr h => ?_)
  · obtain ⟨x, t, rfl, _⟩ := h
    rfl
  obtain ⟨x, t, rfl, hx, hf, q⟩ := h
  refine ⟨_, (pss_one (ps_ret (pe_and (pe_cmpR (op_eqL (Nat.lt_of_succ_lt (hu_of hr))) (pe_call GKnd (hr.mono (by decide)) rfl hKnd.nm hKnd.fn.kp hKnd.bd .nil pass0 (pc (pv 0) pa_nil)) (pe_call GKnd (hr.mono (by decide)) rfl hKnd.nm hKnd.fn.kp hKnd.bd .nil pass0 (pc (pv 1) pa_nil)) (nomark _)) (pe_one (pe_cmpR (op_alt op_eq (op_alt (op_eqL (Nat.lt_of_succ_lt (hu_of hr))) (op_eqT (Nat.lt_of_succ_lt (hu_of hr))))) (pv 0) (pv 1) (nomark _)))))), ?_⟩
  refine ⟨_, rfl, x, t, rfl, hx, fun p1 H1 s1 e1 => ⟨_, rfl, x, t, rfl, hx.mono s1, fun p2 H2 s2 e2 => ?_⟩⟩
  refine ⟨p1, p2, _, _, rfl, rfl, SqL.of (s2 _ _ e1), SqL.of e2, rfl, rfl, _, rfl, ?_⟩
  rw [eqVs_flat (l := knd x t) rfl]
  refine iteT ⟨_, rfl, _, rfl, ?_⟩
  have q2 := q H2 (s1.trans s2)
  have hx2 := hx.mono (s1.trans s2)
  have eq : ∀ v : V, Q (.bl (decide (v = v))) H2 := fun v => by rw [decide_eq_true rfl]; exact q2
  cases t with
  | int n => unfold At at hx2; subst hx2; exact .inl ⟨rfl, eq _⟩
  | str n => unfold At at hx2; subst hx2; exact .inl ⟨rfl, eq _⟩
  | bl n => unfold At at hx2; subst hx2; exact .inl ⟨rfl, eq _⟩
  | non => unfold At at hx2; subst hx2; exact .inl ⟨rfl, eq _⟩
  | dct => cases hf
  | lst l =>
    obtain ⟨a, vs, rfl, ea, ka⟩ := hx2.lst
    have fv := ats_flat hf ka
    refine .inr (.inl ⟨a, a, vs, vs, rfl, rfl, SqL.of ea, SqL.of ea, fv, fv, ?_⟩)
    show Q (.bl (eqVs vs vs)) H2
    rw [eqVs_flat fv]
    exact q2
  | tup l =>
    obtain ⟨a, vs, rfl, ea, ka⟩ := hx2.tup
    have fv := ats_flat hf ka
    refine .inr (.inr ⟨a, a, vs, vs, rfl, rfl, SqT.of ea, SqT.of ea, fv, fv, rfl, ?_⟩)
    rw [eqVs_flat fv]
    exact q2
def spAli : Sp := fun vs H Q _ => ∃ p1 p2 xs, vs = [.ref p1, .ref p2] ∧ H p1 = some (.tup xs) ∧ H p2 = some (.tup xs) ∧ xs.length ≤ 3 ∧ (∀ x ∈ xs, ∃ t, At H t x ∧ fl1 t = true) ∧ ∀ H', Same H H' → Q (.bl true) H'
theorem scAli : FnScope ["_law_told_here", "_law_due_here", "_law_one", "_law_other"] ["_law_told_here", "_law_due_here"] (defScope sAli) := ⟨rfl, rfl, rfl, by decide +kernel, rfl, by decide +kernel, by decide +kernel⟩
theorem ok_Ali (F : Fun K "_law_alike" "_law_alike" sAli f fd) (hSam : Has K mg "_law_same" sSam ["_law_one", "_law_other"] fSam dSam) (GSam : FnOk P w K mg base CX0 2 fSam dSam ["_law_one", "_law_other"] spSam) (T : Txt mg) : FnOk P w K mg base CX0 3 f fd ["_law_told_here", "_law_due_here"] spAli := by
  refine F.ok scAli (fun vs H Q E h => ?_) (fun cdv B outer s H vs Q E hr h => ?_)
  · obtain ⟨p1, p2, xs, rfl, _⟩ := h
    rfl
  obtain ⟨p1, p2, xs, rfl, e1, e2, l3, hx, q⟩ := h
  refine ⟨_, (pss_cons (ps_if (PW.pt (pw_or (pt_cmpR op_isN (pv 0) pe_non (nomark _)) (pw_or1 (pt_cmpR op_ne (pe_callB call_len_seq rfl T.len PySem.boot_len (pc (pv 0) pa_nil)) (pe_callB call_len_seq rfl T.len PySem.boot_len (pc (pv 1) pa_nil)) (nomark _)))))
    (pss_one (ps_ret pe_bl))
    pss_nil)
    (pss_cons (ps_for PassesOwn.never rfl (pi_zipT rfl T.zip (pc (pv 0) (pc (pv 1) pa_nil))) (pg_tup rfl (pgs_cons (pg_name (i := 2) scAli.nd rfl (Or.inl rfl)) (pgs_cons (pg_name (i := 3) scAli.nd rfl (Or.inl rfl)) pgs_nil)))
    (pss_one (ps_if (pt_not (pt_val (pe_call GSam (hr.mono (by decide)) rfl hSam.nm hSam.fn.kp hSam.bd .nil pass0 (pc (pv 2) (pc (pv 3) pa_nil)))))
    (pss_one (ps_ret pe_bl))
    pss_nil)))
    (pss_one (ps_ret pe_bl)))), ?_⟩
  refine ⟨_, rfl, rfl, _, rfl, ?_⟩
  rw [decide_eq_false (show ¬ V.ref p1 = V.non by intro z; cases z)]
  refine iteF ⟨_, rfl, p1, _, rfl, .inr (SqT.of e1), _, rfl, p2, _, rfl, .inr (SqT.of e2), rfl, _, rfl, ?_⟩
  have hz : ∀ n : Int, (!decide (V.int n = V.int n)) = false := fun n => by simp
  rw [hz]
  refine iteF ⟨_, rfl, _, rfl, p1, p2, _, _, rfl, SqT.of e1, SqT.of e2, ?_⟩
  refine for_zipT (K := K) (a := p1) (b := p2) (xs := xs) (ys := xs) (fun i σ H2 => Same H H2 ∧ ∃ o1 o2, σ = [some (.ref p1), some (.ref p2), o1, o2]) ⟨Same.refl H, _, _, rfl⟩ (fun i σ H2 h2 => ⟨SqT.of (h2.1 _ _ e1), SqT.of (h2.1 _ _ e2)⟩) ?_ ?_
  · rintro i x y t σ H2 hx1 hy1 ⟨s2, o1, o2, rfl⟩ ht
    rw [hx1] at hy1
    cases hy1
    obtain ⟨tx, ax, fx⟩ := hx x (List.mem_of_getElem? hx1)
    have s3 := s2.trans (same_new ht (HO.tup [x, x]))
    refine ⟨t, _, rfl, SqT.of upd_same, rfl, _, _, rfl, _, _, rfl, rfl, ?_⟩
    exact ⟨_, rfl, _, rfl, x, tx, rfl, ax.mono s3, fx, fun H4 s4 => ⟨_, rfl, iteF ⟨s3.trans s4, _, _, rfl⟩⟩⟩
  · rintro i σ H2 hi ⟨s2, o1, o2, rfl⟩
    exact q H2 s2
end
end K43
set_option maxHeartbeats 1000000
namespace L2
open PySem PySem.Spec PySem.Calls PySem.W PyProof.Rows
section
variable {X : Cx} {y : Str} {c : Addr}
/-- o.m(e, ..) that may look into the frame's cell -/
def tMethC (C : Addr) (m : Str) (sp : Sp) (i : Nat) (c : Addr) (ta : TE) (t : TA) : TE := fun σ H Q => ta σ H fun x H1 => ∃ a dx fs, x = .ref a ∧ H1 a = some (.ins C dx fs) ∧ fs.lookup m = none ∧ t σ H1 fun vs H2 => ∃ d, σ[i]? = some (some (.ref d)) ∧ ∀ oc : Obj, H2 c = none → oc.data = .cell (some (.ref d)) →
  sp (.ref a :: vs) (upd H2 c (.ext (objφ c oc))) (fun v H' => H' c = some (.ext (objφ c oc)) ∧ Q v (del H' c)) E0
theorem pe_methC {k i : Nat} {C f : Addr} {fd : FuncData} {ps : List Str} {sp : Sp} {m : Str} {o e : Expr} {es : List Expr} {ta : TE} {t : TA} {apos pos : Pos} {pl : Sem Bool} (he : PE X o ta) (cl : Cls X.K C) (hm : Meth X.K C m f) {cc : Bool} (F : FnOk X.prog X.w X.K X.mg X.base CX0 k f fd ps sp cc) (hr : Room k X.A cc) (hb : Binds X.K fd ps []) (ha : PA X (e :: es) t)
    (hfn : X.fn y = true) (hcl : X.env.cells.lookup y = some c) (hN : X.N[i]? = some y) (hkd : X.env.kindOf y = some .cell) (hv : Vis X.env.scope y)
    (hst : starEach (e :: es) X.env = (false, eval e X.env) :: starEach es X.env := by rfl) (hpl : (backTo pos (starEach es X.env)).any (·.1) = false := by rfl)
    (ht : eval (.Call (.Attribute o m apos) (e :: es) [] pos) X.env = (do
      let ov ← eval o X.env
      standAt apos.atName
      let (f, first) ← holding [ov] (getMethod ov m pl)
      callWith pos f first (backTo pos (starEach (e :: es) X.env)) (backToKw pos (keywordEach [] X.env))) := by rfl) :
    PE X (.Call (.Attribute o m apos) (e :: es) [] pos) (tMethC C m sp i c ta t) := by
  intro pins s σ H Q I h
  refine PySem.W.methodCall_KW (pl := pl) (thn (he pins s σ H _ I h) fun u s1 ⟨x, H1, I1, rx, a, dx, fs, ex, ea, l, q⟩ => ?_) ht
  subst ex
  obtain rfl : u = Value.ref a := rx
  refine getmeth_ok I1 ea cl hm l ?_
  refine PySem.W.callWith_K (first := [.ref a]) (h₀ := X.base) I.ok.mod.kin hm.kp (thn (ha pos pins s1 σ H1 _ I1 q) fun us s2 ⟨vs, H2, I2, r, d, hd, q2⟩ => ⟨I2.kIn, ?_⟩) hst hpl
  obtain ⟨m, hn, hl⟩ := I2.loc
  obtain ⟨u, ru, l⟩ := hl i y _ hN hd hv
  cases ru
  rcases l with ⟨z, _⟩ | ⟨_, c2, hc2, oc, ec, dc⟩
  · rw [hkd] at z
    cases z
  · rw [hcl] at hc2
    cases hc2
    refine run_fnC (us := .ref a :: us) (vs := .ref a :: vs) (dvs := []) (ds := []) F hr hb .nil I2 (.cons rfl r) hfn hcl ec ?_
    rw [List.append_nil]
    exact q2 oc (I2.freeC y c hcl) dc
end
end L2
set_option maxHeartbeats 4000000
namespace K43
open PySem L2
section
variable {P : Program} {w : World} {K : PySem.W.Frag} {mg : Str → Option Value} {base : Heap} {f fKIn fDIn fKof fEte : Addr} {fd dKIn dDIn dKof dEte : FuncData} {c : Cl}
def spKIn (K : PySem.W.Frag) : Sp := fun vs H Q _ => ∃ p C dx x, vs = [.ref p, x] ∧ H p = some (.ins C dx []) ∧ Cls K C ∧ NoAttr K C "born" ∧ Q .non (upd H p (.ins C dx [("born", x)]))
theorem scKIn : FnScope ["self", "born"] ["self", "born"] (defScope sKIn) := ⟨rfl, rfl, rfl, by decide +kernel, rfl, by decide +kernel, by decide +kernel⟩
theorem ok_KIn (F : Fun K "__init__" "Knot.__init__" sKIn f fd) : FnOk P w K mg base CX0 1 f fd ["self", "born"] (spKIn K) := by
  refine F.ok scKIn (fun vs H Q E h => ?_) (fun cdv A outer s H vs Q E hr h => ?_)
  · obtain ⟨p, C, dx, x, rfl, _⟩ := h
    rfl
  obtain ⟨p, C, dx, x, rfl, hp, cl, na, q⟩ := h
  refine ⟨_, (pss_one (ps_fld (pv 0) (pv 1) rfl)), ?_⟩
  exact ⟨_, rfl, _, rfl, p, C, dx, _, rfl, hp, cl, na, by decide, q⟩
def knF (b l : V) (a : Addr) : List (Str × V) := [("born", b), ("limit", l), ("entries", .ref a)]
def spDIn (c : Cl) : Sp := fun vs H Q _ => ∃ (p dx : Addr) (b l : V) (a : Addr) (ys : List V), vs = [.ref p, b, l, .ref a] ∧ H p = some (.ins c.KD dx []) ∧ H a = some (.tup ys) ∧ ∀ H', (∀ q u, q ≠ p → H q = some u → H' q = some u) → H' p = some (.ins c.KD dx (knF b l a)) → Q .non H'
theorem scDIn : FnScope ["self", "born", "limit", "entries"] ["self", "born", "limit", "entries"] (defScope sDIn) := ⟨rfl, rfl, rfl, by decide +kernel, rfl, by decide +kernel, by decide +kernel⟩
theorem ok_DIn (F : Fun K "__init__" "FolderKnot.__init__" sDIn f fd) (cf : CF K mg c) (KIncm : CMeth K c.K0 "__init__" fKIn) (GKIn : FnOk P w K mg base CX0 1 fKIn dKIn ["self", "born"] (spKIn K)) (KInbd : Binds K dKIn ["self", "born"] []) (T : Txt mg) : FnOk P w K mg base CX0 2 f fd ["self", "born", "limit", "entries"] (spDIn c) := by
  refine F.ok scDIn (fun vs H Q E h => ?_) (fun cdv A outer s H vs Q E hr h => ?_)
  · obtain ⟨p, dx, b, l, a, ys, rfl, _⟩ := h
    rfl
  obtain ⟨p, dx, b, l, a, ys, rfl, hp, ha, q⟩ := h
  refine ⟨_, (pss_cons (ps_expr (pe_cmeth (pe_glob (v := .ref c.K0) rfl cf.nK0 rfl) KIncm GKIn (hr.mono (by decide)) KInbd .nil pass0 (pc (pv 0) (pc (pv 1) pa_nil))))
    (pss_cons (ps_fld (pv 0) (pv 2) rfl)
    (pss_one (ps_fld (pv 0) (pe_callTy call_tuple_of rfl T.tup PyProof.Rows.boot_tuple (pc (pv 3) pa_nil)) rfl)))), ?_⟩
  refine ⟨rfl, _, rfl, _, rfl, p, c.KD, dx, b, rfl, hp, cf.clD, cf.bD, ?_⟩
  have nap : a ≠ p := fun z => by rw [z, hp] at ha; cases ha
  refine ⟨_, rfl, _, rfl, p, c.KD, dx, _, rfl, upd_same, cf.clD, cf.lD, by simp, ?_⟩
  refine ⟨_, rfl, a, ys, rfl, .inr ⟨SqT.of (by rw [upd_ne nap, upd_ne nap]; exact ha), _, rfl, p, c.KD, dx, _, rfl, upd_same, cf.clD, cf.eD, (by show 2 < 1000; decide), q _ (fun q u n e => ?_) upd_same⟩⟩
  rw [upd_ne n, upd_ne n, upd_ne n]
  exact e
/-- a folder as a piece, and the knot made of it -/
def StAt (H : Hp) (v : V) (a : Addr) : Prop := ∃ r, v = .ref r ∧ H r = some (.tup [.str "folder", .int 1, .int 0, .ref a])
def KnAt (c : Cl) (H : Hp) (v : V) (a : Addr) : Prop := ∃ p dx, v = .ref p ∧ H p = some (.ins c.KD dx (knF (.int 1) (.int 0) a))
def spKof (c : Cl) : Sp := fun vs H Q _ => ∃ (v : V) (a : Addr) (ys : List V), vs = [v] ∧ StAt H v a ∧ H a = some (.tup ys) ∧ ∀ z H', Same H H' → KnAt c H' z a → Q z H'
theorem scKof : FnScope ["stuff"] ["stuff"] (defScope sKof) := ⟨rfl, rfl, rfl, by decide +kernel, rfl, by decide +kernel, by decide +kernel⟩
theorem ok_Kof (F : Fun K "knot_of" "knot_of" sKof f fd) (cf : CF K mg c) (DInmk : Mk K c.KD fDIn) (DInnm : mg "FolderKnot" = some (.ref c.KD)) (DInbd : Binds K dDIn ["self", "born", "limit", "entries"] []) (GDIn : FnOk P w K mg base CX0 2 fDIn dDIn ["self", "born", "limit", "entries"] (spDIn c)) : FnOk P w K mg base CX0 4 f fd ["stuff"] (spKof c) := by
  refine F.ok scKof (fun vs H Q E h => ?_) (fun cdv A outer s H vs Q E hr h => ?_)
  · obtain ⟨v, a, ys, rfl, _⟩ := h
    rfl
  obtain ⟨v, a, ys, rfl, ⟨r, rfl, er⟩, ha, q⟩ := h
  refine ⟨_, (pss_cons (ps_if (pt_cmpR op_eq (pe_ix ix_tup (pv 0) pe_int (fun _ _ => rfl)) pe_str (nomark _))
    (pss_one ps_never)
    pss_nil)
    (pss_cons (ps_if (pt_cmpR op_eq (pe_ix ix_tup (pv 0) pe_int (fun _ _ => rfl)) pe_str (nomark _))
    (pss_one ps_never)
    pss_nil)
    (pss_one (ps_ret (pe_make DInmk GDIn (hr.mono (by decide)) rfl DInnm DInbd .nil pass0 (pc (pe_ix ix_tup (pv 0) pe_int (fun _ _ => rfl)) (pc (pe_ix ix_tup (pv 0) pe_int (fun _ _ => rfl)) (pc (pe_ix ix_tup (pv 0) pe_int (fun _ _ => rfl)) pa_nil)))))))), ?_⟩
  refine ⟨_, rfl, r, _, 0, _, rfl, rfl, SqT.of er, rfl, rfl, _, rfl, ifF (by decide +kernel) ⟨_, rfl, r, _, 0, _, rfl, rfl, SqT.of er, rfl, rfl, _, rfl, ifF (by decide +kernel) ?_⟩⟩
  refine ⟨_, rfl, r, _, 1, _, rfl, rfl, SqT.of er, rfl, _, rfl, r, _, 2, _, rfl, rfl, SqT.of er, rfl, _, rfl, r, _, 3, _, rfl, rfl, SqT.of er, rfl, fun x dx hx hd ne => ?_⟩
  have s0 : Same H (upd (upd H dx (.own x)) x (.ins c.KD dx [])) := fun q u e => by
    rw [upd_ne (ne_of_none e hx), upd_ne (ne_of_none e hd)]
    exact e
  refine ⟨x, dx, .int 1, .int 0, a, ys, rfl, upd_same, s0 _ _ ha, fun H' k e => ⟨rfl, q _ H' (fun q u e => ?_) ⟨x, dx, rfl, e⟩⟩⟩
  exact k q u (ne_of_none e hx) (s0 _ _ e)
def spDSt (c : Cl) : Sp := fun vs H Q _ => ∃ (v : V) (a : Addr), vs = [v] ∧ KnAt c H v a ∧ ∀ p, H p = none → Q (.ref p) (upd H p (.tup [.str "folder", .int 1, .int 0, .ref a]))
theorem scDSt : FnScope ["self"] ["self"] (defScope sDSt) := ⟨rfl, rfl, rfl, by decide +kernel, rfl, by decide +kernel, by decide +kernel⟩
theorem ok_DSt (F : Fun K "stuff" "FolderKnot.stuff" sDSt f fd) (cf : CF K mg c) : FnOk P w K mg base CX0 1 f fd ["self"] (spDSt c) := by
  refine F.ok scDSt (fun vs H Q E h => ?_) (fun cdv A outer s H vs Q E hr h => ?_)
  · obtain ⟨v, a, rfl, _⟩ := h
    rfl
  obtain ⟨v, a, rfl, ⟨p, dx, rfl, e⟩, q⟩ := h
  refine ⟨_, (pss_one (ps_ret (pe_tup (pc pe_str (pc (pe_fld (pv 0) rfl) (pc (pe_fld (pv 0) rfl) (pc (pe_fld (pv 0) rfl) pa_nil))))))), ?_⟩
  exact ⟨_, rfl, p, c.KD, dx, _, _, rfl, e, cf.clD, cf.bD, rfl, _, rfl, p, c.KD, dx, _, _, rfl, e, cf.clD, cf.lD, rfl, _, rfl, p, c.KD, dx, _, _, rfl, e, cf.clD, cf.eD, rfl, (by show 4 ≤ sizeLine; decide), q⟩
def spEIn (c : Cl) : Sp := fun vs H Q _ => ∃ (p dx : Addr) (lk : V), vs = [.ref p, lk, .int 2, .int 9] ∧ H p = some (.ins c.DE dx []) ∧ ∀ fr H', (∀ q u, q ≠ p → H q = some u → H' q = some u) → H' p = some (.ins c.DE dx [("look", lk), ("root", .int 2), ("now", .int 9), ("fresh", .ref fr)]) → H' fr = some (.dK []) → Q .non H'
theorem scEIn : FnScope ["self", "look", "root", "now"] ["self", "look", "root", "now"] (defScope sEIn) := ⟨rfl, rfl, rfl, by decide +kernel, rfl, by decide +kernel, by decide +kernel⟩
theorem ok_EIn (F : Fun K "__init__" "Deed.__init__" sEIn f fd) (cf : CF K mg c) : FnOk P w K mg base CX0 1 f fd ["self", "look", "root", "now"] (spEIn c) := by
  refine F.ok scEIn (fun vs H Q E h => ?_) (fun cdv A outer s H vs Q E hr h => ?_)
  · obtain ⟨p, dx, lk, rfl, _⟩ := h
    rfl
  obtain ⟨p, dx, lk, rfl, hp, q⟩ := h
  refine ⟨_, (pss_cons (ps_fld (pv 0) (pv 1) rfl)
    (pss_cons (ps_fld (pv 0) (pv 2) rfl)
    (pss_cons (ps_fld (pv 0) (pv 3) rfl)
    (pss_one (ps_fld (pv 0) pe_dnewK rfl))))), ?_⟩
  refine ⟨_, rfl, _, rfl, p, c.DE, dx, _, rfl, hp, cf.clE, cf.kE, by decide, ?_⟩
  refine ⟨_, rfl, _, rfl, p, c.DE, dx, _, rfl, upd_same, cf.clE, cf.rE, (by show 1 < 1000; decide), ?_⟩
  refine ⟨_, rfl, _, rfl, p, c.DE, dx, _, rfl, upd_same, cf.clE, cf.nE, (by show 2 < 1000; decide), ?_⟩
  intro fr hfr
  obtain ⟨n1, h1⟩ := new_free hfr
  refine ⟨_, rfl, p, c.DE, dx, _, rfl, (by rw [upd_ne n1.symm]; exact upd_same), cf.clE, cf.fE, (by show 3 < 1000; decide), q fr _ (fun q u n e => ?_) upd_same (by rw [upd_ne n1]; exact upd_same)⟩
  rw [upd_ne n, upd_ne (fun z => ?_), upd_ne n, upd_ne n, upd_ne n]
  · exact e
  · rw [z, (new_free (new_free h1).2).2] at e
    cases e
theorem pw_never {X : Cx} {e : Expr} : PW X e (fun _ _ _ => False) := fun _ _ _ _ _ _ _ h => h.elim
theorem dg0 {H : Hp} {a : Addr} {n : Int} (h : H a = some (.dK [])) : DGet H a (.int n) none := DGet.k (k := .inl n) h
/-! ### what the deed is asked behind it -/
def spEvi (c : Cl) : Sp := fun vs H Q _ => ∃ d lk fr pc v a ys, vs = [.ref d, .int 2] ∧ De c H d lk fr ∧ H fr = some (.dK []) ∧ LooksOf "knot_of" H lk pc ∧ DGet H pc (.int 2) (some v) ∧ StAt H v a ∧ H a = some (.tup ys) ∧ ∀ z H', Same H H' → KnAt c H' z a → Q z H'
theorem scEvi : FnScope ["self", "place", "look"] ["self", "place"] (defScope sEvi) := ⟨rfl, rfl, rfl, by decide +kernel, rfl, by decide +kernel, by decide +kernel⟩
theorem ok_Evi (F : Fun K "view" "Deed.view" sEvi f fd) (cf : CF K mg c) (hKof : Has K mg "knot_of" sKof ["stuff"] fKof dKof) (GKof : FnOk P w K mg base CX0 4 fKof dKof ["stuff"] (spKof c)) : FnOk P w K mg base CX0 6 f fd ["self", "place"] (spEvi c) := by
  refine F.ok scEvi (fun vs H Q E h => ?_) (fun cdv A outer s H vs Q E hr h => ?_)
  · obtain ⟨d, lk, fr, pc, v, a, ys, rfl, _⟩ := h
    rfl
  obtain ⟨d, lk, fr, pc, v, a, ys, rfl, ⟨dx, hd⟩, hf, lo, dg, st, ha, q⟩ := h
  have hu : (A.deeper (PyProof.Rows.envOfC "Deed.view" (defScope sEvi) s.heap.objs.size f cdv)).units + 1 < cLine := hu_of hr
  refine ⟨_, (pss_cons (ps_if (pt_cmp (pc_din hu (pv 1) (pe_fld (pv 0) rfl)))
    (pss_one ps_never)
    pss_nil)
    (pss_cons (ps_set (i := 2) scEvi.nd rfl (Or.inl rfl) (pe_fld (pv 0) rfl))
    (pss_one (ps_ret (pe_look (G := "knot_of") (i := 2) GKof hKof.bd hKof.nm hKof.fn.kp (hr.mono (by decide)) (pv 2) (pv 1)))))), ?_⟩
  refine ⟨_, rfl, _, rfl, d, c.DE, dx, _, _, rfl, hd, cf.clE, cf.fE, rfl, fr, none, rfl, dg0 hf, _, rfl, iteF ?_⟩
  refine ⟨_, rfl, d, c.DE, dx, _, _, rfl, hd, cf.clE, cf.kE, rfl, lk, rfl, ⟨pc, lo⟩, _, rfl, pc, v, lo, dg, ?_⟩
  exact ⟨v, a, ys, rfl, st, ha, q⟩
def spEte (c : Cl) : Sp := fun vs H Q _ => ∃ d lk fr t, vs = [.ref d, .int 2, .ref t] ∧ De c H d lk fr ∧ H fr = some (.dK []) ∧ Q .non H
theorem scEte : FnScope ["self", "place", "told", "point"] ["self", "place", "told"] (defScope sEte) := ⟨rfl, rfl, rfl, by decide +kernel, rfl, by decide +kernel, by decide +kernel⟩
theorem ok_Ete (F : Fun K "tell_news" "Deed.tell_news" sEte f fd) (cf : CF K mg c) : FnOk P w K mg base CX0 1 f fd ["self", "place", "told"] (spEte c) := by
  refine F.ok scEte (fun vs H Q E h => ?_) (fun cdv A outer s H vs Q E hr h => ?_)
  · obtain ⟨d, lk, fr, t, rfl, _⟩ := h
    rfl
  obtain ⟨d, lk, fr, t, rfl, ⟨dx, hd⟩, hf, q⟩ := h
  have hu : (A.deeper (PyProof.Rows.envOfC "Deed.tell_news" (defScope sEte) s.heap.objs.size f cdv)).units + 1 < cLine := hu_of hr
  refine ⟨_, (pss_one (ps_if (PW.pt (pw_and (pt_cmp (pc_din hu (pv 1) (pe_fld (pv 0) rfl))) pw_never))
    pss_never
    pss_nil)), ?_⟩
  exact ⟨_, rfl, _, rfl, d, c.DE, dx, _, _, rfl, hd, cf.clE, cf.fE, rfl, fr, none, rfl, dg0 hf, _, rfl, iteF (iteF q)⟩
def spEne (c : Cl) : Sp := fun vs H Q _ => ∃ d lk fr, vs = [.ref d] ∧ De c H d lk fr ∧ H fr = some (.dK []) ∧ ∀ p H', Same H H' → H' p = some (.lst []) → Q (.ref p) H'
theorem scEne : FnScope ["self", "told"] ["self"] (defScope sEne) := ⟨rfl, rfl, rfl, by decide +kernel, rfl, by decide +kernel, by decide +kernel⟩
theorem ok_Ene (F : Fun K "news" "Deed.news" sEne f fd) (cf : CF K mg c) (hEte : MHas K c.DE "tell_news" "Deed.tell_news" sEte ["self", "place", "told"] fEte dEte) (GEte : FnOk P w K mg base CX0 1 fEte dEte ["self", "place", "told"] (spEte c)) (T : Txt mg) : FnOk P w K mg base CX0 2 f fd ["self"] (spEne c) := by
  refine F.ok scEne (fun vs H Q E h => ?_) (fun cdv A outer s H vs Q E hr h => ?_)
  · obtain ⟨d, lk, fr, rfl, _⟩ := h
    rfl
  obtain ⟨d, lk, fr, rfl, de, hf, q⟩ := h
  refine ⟨_, (pss_cons (ps_set (i := 1) scEne.nd rfl (Or.inl rfl) pe_dnewK)
    (pss_cons (ps_expr (pe_meth (pv 0) cf.clE hEte.me GEte (hr.mono (by decide)) hEte.bd .nil pass0 (pc (pe_fld (pv 0) rfl) (pc (pv 1) pa_nil))))
    (pss_one (ps_ret (pe_callTy (call_listK rfl) rfl T.lst PyProof.Rows.boot_list (pc (pv 1) pa_nil)))))), ?_⟩
  intro t ht
  have s1 := same_new ht (HO.dK [])
  obtain ⟨dx, hd⟩ := de.mono s1
  refine ⟨_, rfl, d, dx, _, rfl, hd, rfl, _, rfl, d, c.DE, dx, _, _, rfl, hd, cf.clE, cf.rE, rfl, _, rfl, d, lk, fr, t, rfl, ⟨dx, hd⟩, s1 _ _ hf, ?_⟩
  exact ⟨_, rfl, t, [], rfl, upd_same, fun p hp => q p _ (s1.trans (same_new hp _)) upd_same⟩
end
end K43
set_option maxHeartbeats 4000000
namespace K43
open PySem L2
theorem pe_disp2 {X : Cx} {pos : Pos} {e k1 v1 k2 v2 : Expr} {t1 u1 t2 u2 : TE} (he : e = .Dict [some k1, some k2] [v1, v2] pos) (a1 : PE X k1 t1) (b1 : PE X v1 u1) (a2 : PE X k2 t2) (b2 : PE X v2 u2) :
    PE X e (tDisp [(t1, u1), (t2, u2)]) := by
  have h : PPs X pos [some k1, some k2] [v1, v2] [(t1, u1), (t2, u2)] := (pps_cons a1 b1 (pps_cons a2 b2 pps_nil))
  rw [he]
  exact pe_disp h rfl rfl (by simp) (by simp)
/-! ### the law's lambda -/
def noPos : Pos := ⟨0, 0, 0, 0⟩
def bodyOf : Stmt → List Stmt
  | .FunctionDef _ _ b _ _ _ _ _ _ _ => b
  | _ => []
def IsTab (H : Hp) (P : Addr) : Prop := ∃ ps, H P = some (.ext (tabφ P ps))
def lkOf (q : Str) : Expr → LkT × Pos
  | .Lambda ps (.Call (.Name g p0) [.Subscript (.Name y p1) (.Name x p2) p3] [] p4) sc p => (⟨q, ps, x, y, g, p0, p1, p2, p3, p4, sc⟩, p)
  | _ => (⟨q, ⟨[], [], none, [], [], none, []⟩, "", "", "", noPos, noPos, noPos, noPos, noPos, defScope sWho⟩, noPos)
def argOf : Stmt → Expr
  | .Assign _ (.Call _ (e :: _) _ _) _ => e
  | _ => .Name "" noPos
def lkP : LkT × Pos := lkOf "law.<locals>.<lambda>" (argOf ((bodyOf sLaw).getD 4 (.Pass noPos)))
def lamL : LkT := lkP.1
theorem okLL : lamL.Ok := ⟨⟨rfl, rfl, rfl, by decide +kernel, rfl⟩, fun _ _ _ _ => rfl, fun _ _ _ _ => rfl, fun _ _ _ _ => rfl, fun _ _ _ _ _ => rfl, by decide +kernel, by decide +kernel, by decide +kernel, by decide +kernel, fun _ _ => rfl⟩
theorem seq_sx {K : PySem.W.Frag} {PC a : Addr} {H H' : Hp} {xs : List V} (i : IsTab H PC) (s : SxP PC H H') (h : SqL K H a xs) : SqL K H' a xs := by
  have n : ∀ b o, (∀ φ, o ≠ HO.ext φ) → H b = some o → H' b = some o := fun b o no e => s b o (fun z => by
    obtain ⟨ps, hp⟩ := i
    rw [z, hp] at e
    cases e
    exact no _ rfl) e
  rcases h with (h | ⟨o, h⟩) | h
  · exact .inl (.inl (n _ _ (by intro φ z; cases z) h))
  · exact .inl (.inr ⟨o, n _ _ (by intro φ z; cases z) h⟩)
  · exact .inr h
/-! ### what may be told has flat parts only -/
def Gf (H : Hp) (o : Out) : Prop := ∀ x ∈ outV o, ∃ t, At H t x ∧ fl1 t = true
theorem gf_path {H : Hp} {x : Ag} {top : Bool} {k : Option Out} {o : Out} (hx : Ok H x) (h : dPath x top k = some o) (hk : k = some o → Gf H o) : Gf H o := by
  unfold dPath at h
  split at h
  · exact hk h
  · cases h
    intro y hy
    simp only [outV, List.mem_cons, List.not_mem_nil, or_false] at hy
    rcases hy with rfl | rfl
    · exact ⟨_, At.str _, rfl⟩
    · exact ⟨_, hx.1, hx.2.2⟩
theorem gf_span {H : Hp} {a b : Ag} {k : Option Out} {o : Out} (ha : Ok H a) (hb : Ok H b) (h : dSpan a b k = some o) (hk : k = some o → Gf H o) : Gf H o := by
  unfold dSpan at h
  split at h
  · exact hk h
  · cases h
    intro y hy
    simp only [outV, List.mem_cons, List.not_mem_nil, or_false] at hy
    rcases hy with rfl | rfl | rfl
    · exact ⟨_, At.str _, rfl⟩
    · exact ⟨_, ha.1, ha.2.2⟩
    · exact ⟨_, hb.1, hb.2.2⟩
theorem gf_row {H : Hp} {r : Ag} {k : Option Out} {o : Out} (h : dRow r k = some o) (hk : k = some o → Gf H o) : Gf H o := by
  unfold dRow at h
  split at h
  · exact hk h
  · cases h
    intro y hy
    simp only [outV, List.mem_cons, List.not_mem_nil, or_false] at hy
    rcases hy with rfl
    exact ⟨_, At.str _, rfl⟩
theorem gf_win {H : Hp} {a : Ag} {hi : Int} {k : Option Out} {o : Out} (ha : Ok H a) (h : dWin a hi k = some o) (hk : k = some o → Gf H o) : Gf H o := by
  unfold dWin at h
  split at h
  · exact hk h
  · cases h
    intro y hy
    simp only [outV, List.mem_cons, List.not_mem_nil, or_false] at hy
    rcases hy with rfl | rfl | rfl
    · exact ⟨_, At.str _, rfl⟩
    · exact ⟨_, At.int _, rfl⟩
    · exact ⟨_, ha.1, ha.2.2⟩
theorem no_gf {H : Hp} {o : Out} (h : none = some o) : Gf H o := by cases h
theorem due_gf {H : Hp} {wo : Wo} {A : As} {o : Out} (aA : AsAt H A) (h : dueP wo A = some o) : Gf H o := by
  cases wo with
  | pu => exact gf_path aA.x h fun h => gf_row h fun h => gf_span aA.a ⟨At.int _, rfl, rfl⟩ h no_gf
  | ho => exact gf_path aA.x h fun h => gf_span aA.a aA.l h no_gf
  | sh => exact gf_path aA.x h fun h => gf_path aA.o h fun h => gf_span aA.a aA.l h fun h => gf_span aA.b aA.l h no_gf
  | tw => exact gf_path aA.x h fun h => gf_path aA.o h no_gf
  | mo => exact gf_path aA.x h fun h => gf_path aA.o h no_gf
  | fo => exact gf_path aA.x h no_gf
  | dr => exact gf_path aA.x h no_gf
  | tr => exact gf_path aA.x h fun h => gf_win aA.a h no_gf
  | li => exact gf_path aA.x h fun h => gf_win aA.a h no_gf
theorem out_len (o : Out) : (outV o).length ≤ 3 := by
  cases o with
  | path x => exact (by decide : 2 ≤ 3)
  | cells => exact (by decide : 1 ≤ 3)
  | span a b => exact (by decide : 3 ≤ 3)
theorem isw_bd {z : Str} (h : isw z = true) : 1 ≤ z.length ∧ z.length ≤ 8 := by
  by_cases e : 1 ≤ z.length ∧ z.length ≤ 8
  · exact e
  · rw [isw_len e] at h
    cases h
/-! ### the entries -/
def enOk (t : Tr) : Prop := nl t = true ∧ dep t ≤ 1
theorem ats_ex {H : Hp} {g : Tr → Prop} : ∀ {vs : List V}, (∀ v ∈ vs, ∃ t, At H t v ∧ g t) → ∃ ts, Ats H ts vs ∧ ∀ t ∈ ts, g t
  | [], _ => ⟨[], Ats.nil _, fun t h => by cases h⟩
  | v :: vs, h => by
    obtain ⟨t, a, gt⟩ := h v (List.mem_cons_self ..)
    obtain ⟨ts, k, gs⟩ := ats_ex fun v hv => h v (List.mem_cons_of_mem _ hv)
    exact ⟨t :: ts, Ats.cons a k, fun u hu => by
      rcases List.mem_cons.mp hu with rfl | hu
      · exact gt
      · exact gs u hu⟩
theorem deps_le {n : Nat} : ∀ {l : List Tr}, (∀ t ∈ l, dep t ≤ n) → deps l ≤ n
  | [], _ => Nat.zero_le _
  | t :: l, h => by
    unfold deps
    have := h t (List.mem_cons_self ..)
    have := deps_le (n := n) (l := l) fun u hu => h u (List.mem_cons_of_mem _ hu)
    omega
section
variable {P : Program} {w : World} {K : PySem.W.Frag} {mg : Str → Option Value} {base : Heap} {f fCel fWds fAsk fDue fTol fAli fEIn fEvi fEne fDSt : Addr} {fd dCel dWds dAsk dDue dTol dAli dEIn dEvi dEne dDSt : FuncData} {c : Cl} {cc PL : Addr}
def spLaw (PL : Addr) (K : PySem.W.Frag) : Sp := fun vs H Q _ => ∃ (a : Addr) (ns : List Int), vs = [.ref a] ∧ SqL K H a (ns.map V.int) ∧ ns.length ≤ 63 ∧ H PL = some (.ext (tabφ PL #[])) ∧ ∀ H' ps, H' PL = some (.ext (tabφ PL ps)) → Q (.bl true) H'
theorem scLaw : FnScope ["_law_script", "_law_words_here", "_law_entries", "_law_pieces", "_law_deed", "_law_cell", "_law_ask_here", "_law_due_here"] ["_law_script"] (defScope sLaw) := ⟨rfl, rfl, rfl, by decide +kernel, rfl, by decide +kernel, by decide +kernel⟩
theorem ok_law (F : Fun K "law" "law" sLaw f fd) (hcode : fd.code = .ref cc) (C : PySem.W.CodeHd base cc PL) (B : BltIn base mg) (cf : CF K mg c)
    (hCel : Has K mg "_law_at" sCel ["_law_script", "_law_k"] fCel dCel) (GCel : FnOk P w K mg base CX0 1 fCel dCel ["_law_script", "_law_k"] (spCel K))
    (hWds : Has K mg "_law_words" sWds ["_law_cell", "_law_many"] fWds dWds) (GWds : FnOk P w K mg base CX0 2 fWds dWds ["_law_cell", "_law_many"] spWds)
    (hAsk : Has K mg "_law_ask" sAsk ["_law_cell", "_law_words_here"] fAsk dAsk) (GAsk : FnOk P w K mg base CX0 3 fAsk dAsk ["_law_cell", "_law_words_here"] spAsk)
    (hDue : Has K mg "_law_due" sDue ["_law_ask_here"] fDue dDue) (GDue : FnOk P w K mg base CX0 3 fDue dDue ["_law_ask_here"] spDue)
    (hTol : Has K mg "_law_told" sTol ["_law_deed", "_law_ask_here"] fTol dTol) (GTol : FnOk P w K mg base CX0 8 fTol dTol ["_law_deed", "_law_ask_here"] (spTol c))
    (hAli : Has K mg "_law_alike" sAli ["_law_told_here", "_law_due_here"] fAli dAli) (GAli : FnOk P w K mg base CX0 3 fAli dAli ["_law_told_here", "_law_due_here"] spAli)
    (EInmk : Mk K c.DE fEIn) (EInnm : mg "Deed" = some (.ref c.DE)) (EInbd : Binds K dEIn ["self", "look", "root", "now"] []) (GEIn : FnOk P w K mg base CX0 1 fEIn dEIn ["self", "look", "root", "now"] (spEIn c))
    (hEvi : MHas K c.DE "view" "Deed.view" sEvi ["self", "place"] fEvi dEvi) (GEvi : FnOk P w K mg base CX0 6 fEvi dEvi ["self", "place"] (spEvi c))
    (hEne : MHas K c.DE "news" "Deed.news" sEne ["self"] fEne dEne) (GEne : FnOk P w K mg base CX0 2 fEne dEne ["self"] (spEne c))
    (hDSt : MHas K c.KD "stuff" "FolderKnot.stuff" sDSt ["self"] fDSt dDSt) (GDSt : FnOk P w K mg base CX0 1 fDSt dDSt ["self"] (spDSt c)) (T : Txt mg) : FnOk P w K mg base CX0 9 f fd ["_law_script"] (spLaw PL K) := by
  refine okC F scLaw (fun vs H Q E h => ?_) (fun cdv A outer s H vs Q E hcd' hr h => ?_)
  · obtain ⟨a, ns, rfl, _⟩ := h
    rfl
  obtain ⟨a, ns, rfl, hS, h63, hPL, q⟩ := h
  have hcd : cdv = .ref cc := hcd'.trans hcode
  subst hcd
  have hcd : (cxOf CX0 P w K mg base ["_law_script", "_law_words_here", "_law_entries", "_law_pieces", "_law_deed", "_law_cell", "_law_ask_here", "_law_due_here"] "law" (defScope sLaw) f (.ref cc) A outer s H E).nox.env.code = .ref cc := rfl
  have hu := hu_of hr
  refine ⟨_, (pss_cons (ps_set (i := 1) scLaw.nd rfl (Or.inl rfl) (pe_call GWds (hr.mono (by decide)) rfl hWds.nm hWds.fn.kp hWds.bd .nil pass0 (pc (pe_call GCel (hr.mono (by decide)) rfl hCel.nm hCel.fn.kp hCel.bd .nil pass0 (pc (pv 0) (pc pe_int pa_nil))) (pc pe_int pa_nil))))
    (pss_cons (ps_set (i := 2) scLaw.nd rfl (Or.inl rfl) (pe_callTy call_tuple_of rfl T.tup PyProof.Rows.boot_tuple (pc (pe_callB (call_sortedP (tu := false)) rfl T.srt PyProof.Rows.boot_sorted (pc (pe_lst (pc (pe_tup (pc (pe_ix ix_list (pv 1) pe_int (fun _ _ => rfl)) (pc pe_str (pc pe_int pa_nil)))) (pc (pe_tup (pc (pe_ix ix_list (pv 1) pe_int (fun _ _ => rfl)) (pc pe_str (pc pe_int pa_nil)))) pa_nil))) pa_nil)) pa_nil)))
    (@pss_cons _ _ _ _ _ (@ps_set _ _ 3 _ _ _ _ scLaw.nd rfl (Or.inr rfl) (@pe_disp2 _ _ _ _ _ _ _ _ _ _ _ rfl pe_int (pe_tup (pc pe_str (pc pe_int (pc pe_int (pc (pv 2) pa_nil))))) pe_int (pe_tup (pc pe_str (pc pe_int (pc pe_int (pc (pe_tup (pc (pe_tup (pc pe_int (pc pe_int (pc pe_int (pc pe_int pa_nil))))) pa_nil)) pa_nil)))))) (by rfl) (.inl rfl))
    (pss_cons (ps_expr (pe_dupd (pv 3) (@pe_disp2 _ _ _ _ _ _ _ _ _ _ _ rfl pe_int (pe_tup (pc pe_str (pc pe_int (pc (pe_tup (pc pe_int (pc pe_int (pc pe_int (pc pe_int pa_nil))))) pa_nil)))) pe_int (pe_tup (pc pe_str (pc pe_int (pc pe_int (pc (pe_tup pa_nil) pa_nil)))))) ⟨rfl, rfl, rfl, rfl⟩))
    (pss_cons (ps_set (i := 4) scLaw.nd rfl (Or.inl rfl) (pe_make EInmk GEIn (hr.mono (by decide)) rfl EInnm EInbd .nil pass0 (pc (pe_lamG (y := "_law_pieces") hcd C B rfl rfl rfl) (pc pe_int (pc pe_int pa_nil)))))
    (pss_cons (ps_for PassesOwn.never rfl (pi_list (pe_slice sl_list (pv 0) (po_some pe_int) (po_some pe_int))) (pg_name (i := 5) scLaw.nd rfl (Or.inl rfl))
    (pss_cons (ps_set (i := 6) scLaw.nd rfl (Or.inl rfl) (pe_call GAsk (hr.mono (by decide)) rfl hAsk.nm hAsk.fn.kp hAsk.bd .nil pass0 (pc (pv 5) (pc (pv 1) pa_nil))))
    (pss_cons (ps_set (i := 7) scLaw.nd rfl (Or.inl rfl) (pe_call GDue (hr.mono (by decide)) rfl hDue.nm hDue.fn.kp hDue.bd .nil pass0 (pc (pv 6) pa_nil)))
    (pss_cons (ps_if (pt_cmpR op_isN (pv 7) pe_non (nomark _))
    (pss_one ps_continue)
    pss_nil)
    (pss_cons (ps_if (PW.pt (pw_or (pt_not (pt_val (pe_call GAli (hr.mono (by decide)) rfl hAli.nm hAli.fn.kp hAli.bd .nil pass0 (pc (pe_call GTol (hr.mono (by decide)) rfl hTol.nm hTol.fn.kp hTol.bd .nil pass0 (pc (pv 4) (pc (pv 6) pa_nil))) (pc (pv 7) pa_nil))))) (pw_or1 (pt_cmpR op_ne (pe_fld (pv 4) rfl) pe_int (nomark _)))))
    (pss_one (ps_ret pe_bl))
    pss_nil)
    (pss_one (ps_if (PW.pt (pw_or (pt_cmpR (op_neD (hu40 hr)) (pe_meth0 (pe_methC (y := "_law_pieces") (i := 3) (pv 4) cf.clE hEvi.me GEvi (hr.mono (by decide)) hEvi.bd (pc pe_int pa_nil) rfl rfl rfl rfl (by first | exact Or.inl rfl | exact Or.inr (Or.inl rfl) | exact Or.inr (Or.inr rfl))) cf.clD hDSt.me GDSt (hr.mono (by decide)) hDSt.bd .nil pass0) (pe_tup (pc pe_str (pc pe_int (pc pe_int (pc (pv 2) pa_nil))))) (nomark _)) (pw_or1 (pt_cmpR (op_neE (Nat.lt_of_succ_lt (hu_of hr))) (pe_meth0 (pv 4) cf.clE hEne.me GEne (hr.mono (by decide)) hEne.bd .nil pass0) (pe_lst pa_nil) (nomark _)))))
    (pss_one (ps_ret pe_bl))
    pss_nil)))))))
    (pss_one (ps_ret pe_bl)))))))), ?_⟩
  refine ⟨_, rfl, a, ns, 0, rfl, by decide, hS, fun z => ⟨z, 2, rfl, by decide, by decide, fun wp H1 zs s1 ew lz iz d2 => ?_⟩⟩
  obtain ⟨w0, w1, rfl, nw⟩ := d2 rfl
  have i0 := iz w0 (by simp)
  have i1 := iz w1 (by simp)
  refine ⟨_, rfl, wp, _, 0, _, rfl, rfl, SqL.of ew, rfl, (by show 3 ≤ sizeLine; decide), fun t0 h0 => ?_⟩
  have sx := same_new h0 (HO.tup [V.str w0, V.str (Str.ofString "file"), V.int 3])
  have et0 : upd H1 t0 (HO.tup [V.str w0, V.str (Str.ofString "file"), V.int 3]) t0 = some (HO.tup [V.str w0, V.str (Str.ofString "file"), V.int 3]) := upd_same
  replace s1 := s1.trans sx
  replace ew := sx _ _ ew
  revert sx et0 s1 ew
  generalize upd H1 t0 (HO.tup [V.str w0, V.str (Str.ofString "file"), V.int 3]) = H2
  intro sx et0 s1 ew
  clear sx
  refine ⟨_, rfl, wp, _, 1, _, rfl, rfl, SqL.of ew, rfl, (by show 3 ≤ sizeLine; decide), fun t1 h1 => ?_⟩
  have sx := same_new h1 (HO.tup [V.str w1, V.str (Str.ofString "folder"), V.int 5])
  have et1 : upd H2 t1 (HO.tup [V.str w1, V.str (Str.ofString "folder"), V.int 5]) t1 = some (HO.tup [V.str w1, V.str (Str.ofString "folder"), V.int 5]) := upd_same
  replace s1 := s1.trans sx
  replace ew := sx _ _ ew
  replace et0 := sx _ _ et0
  revert sx et1 s1 ew et0
  generalize upd H2 t1 (HO.tup [V.str w1, V.str (Str.ofString "folder"), V.int 5]) = H3
  intro sx et1 s1 ew et0
  clear sx
  refine ⟨(by show 2 ≤ sizeLine; decide), fun l hl => ?_⟩
  have sx := same_new hl (HO.lst [V.ref t0, V.ref t1])
  have el : upd H3 l (HO.lst [V.ref t0, V.ref t1]) l = some (HO.lst [V.ref t0, V.ref t1]) := upd_same
  replace s1 := s1.trans sx
  replace ew := sx _ _ ew
  replace et0 := sx _ _ et0
  replace et1 := sx _ _ et1
  revert sx el s1 ew et0 et1
  generalize upd H3 l (HO.lst [V.ref t0, V.ref t1]) = H4
  intro sx el s1 ew et0 et1
  clear sx
  refine ⟨l, _, [w0, w1], rfl, SqL.of el, (by show 2 < 64; decide), rfl, ?_, ?_, fun m hm => ?_⟩
  · intro i v z hv hz
    match i, hv, hz with
    | 0, hv, hz => cases hv; cases hz; exact ⟨t0, _, rfl, et0⟩
    | 1, hv, hz => cases hv; cases hz; exact ⟨t1, _, rfl, et1⟩
  · simp [nw]
  obtain ⟨vs, evs⟩ : ∃ vs, vs = ordV [w0, w1] [V.ref t0, V.ref t1] := ⟨_, rfl⟩
  rw [← evs]
  have hvs : ∀ v ∈ vs, v = .ref t0 ∨ v = .ref t1 ∨ v = .non := by
    intro v hv
    rw [evs] at hv
    unfold ordV at hv
    obtain ⟨i, _, rfl⟩ := List.mem_map.mp hv
    match i with
    | 0 => exact .inl rfl
    | 1 => exact .inr (.inl rfl)
    | n + 2 => exact .inr (.inr rfl)
  clear evs
  have sx := same_new hm (HO.lst vs)
  have em : upd H4 m (HO.lst vs) m = some (HO.lst vs) := upd_same
  replace s1 := s1.trans sx
  replace ew := sx _ _ ew
  replace et0 := sx _ _ et0
  replace et1 := sx _ _ et1
  revert sx em s1 ew et0 et1
  generalize upd H4 m (HO.lst vs) = H5
  intro sx em s1 ew et0 et1
  clear sx
  refine ⟨m, vs, rfl, .inl ⟨SqL.of em, fun ea hea => ?_⟩⟩
  have sx := same_new hea (HO.tup vs)
  have eea : upd H5 ea (HO.tup vs) ea = some (HO.tup vs) := upd_same
  replace s1 := s1.trans sx
  replace ew := sx _ _ ew
  replace et0 := sx _ _ et0
  replace et1 := sx _ _ et1
  revert sx eea s1 ew et0 et1
  generalize upd H5 ea (HO.tup vs) = H6
  intro sx eea s1 ew et0 et1
  clear sx
  obtain ⟨ts, kts, gts⟩ : ∃ ts, Ats H6 ts vs ∧ ∀ t ∈ ts, enOk t := ats_ex fun v hv => by
    rcases hvs v hv with rfl | rfl | rfl
    · exact ⟨.tup [.str w0, .str (Str.ofString "file"), .int 3], At.mkT et0 (Ats.cons (At.str _) (Ats.cons (At.str _) (Ats.cons (At.int _) (Ats.nil _)))), rfl, Nat.le_refl _⟩
    · exact ⟨.tup [.str w1, .str (Str.ofString "folder"), .int 5], At.mkT et1 (Ats.cons (At.str _) (Ats.cons (At.str _) (Ats.cons (At.int _) (Ats.nil _)))), rfl, Nat.le_refl _⟩
    · exact ⟨.non, At.non, rfl, Nat.zero_le _⟩
  have nts : nls ts = true := nls_of fun t h => (gts t h).1
  have dts : deps ts ≤ 1 := deps_le fun t h => (gts t h).2
  clear gts hvs et0 et1
  intro d hd
  have sB := Same.refl H6
  have sx := same_new hd (HO.dK [])
  have ed : upd H6 d (HO.dK []) d = some (HO.dK []) := upd_same
  replace sB := sB.trans sx
  revert sx ed sB
  generalize upd H6 d (HO.dK []) = H7
  intro sx ed sB
  clear sx
  refine ⟨_, rfl, (by show 4 ≤ sizeLine; decide), fun p2 h2 => ?_⟩
  have sx := same_new h2 (HO.tup [V.str (Str.ofString "folder"), V.int 1, V.int 0, V.ref ea])
  have e2 : upd H7 p2 (HO.tup [V.str (Str.ofString "folder"), V.int 1, V.int 0, V.ref ea]) p2 = some (HO.tup [V.str (Str.ofString "folder"), V.int 1, V.int 0, V.ref ea]) := upd_same
  replace sB := sB.trans sx
  replace ed := sx _ _ ed
  revert sx e2 sB ed
  generalize upd H7 p2 (HO.tup [V.str (Str.ofString "folder"), V.int 1, V.int 0, V.ref ea]) = H8
  intro sx e2 sB ed
  clear sx
  refine ⟨(by show 4 ≤ sizeLine; decide), fun p3 h3 => ?_⟩
  have sx := same_new h3 (HO.tup [V.int 0, V.int 3, V.int 4, V.int 1])
  have e3 : upd H8 p3 (HO.tup [V.int 0, V.int 3, V.int 4, V.int 1]) p3 = some (HO.tup [V.int 0, V.int 3, V.int 4, V.int 1]) := upd_same
  replace sB := sB.trans sx
  replace ed := sx _ _ ed
  replace e2 := sx _ _ e2
  revert sx e3 sB ed e2
  generalize upd H8 p3 (HO.tup [V.int 0, V.int 3, V.int 4, V.int 1]) = H9
  intro sx e3 sB ed e2
  clear sx
  clear e3
  refine ⟨(by show 1 ≤ sizeLine; decide), fun p4 h4 => ?_⟩
  have sx := same_new h4 (HO.tup [V.ref p3])
  have e4 : upd H9 p4 (HO.tup [V.ref p3]) p4 = some (HO.tup [V.ref p3]) := upd_same
  replace sB := sB.trans sx
  replace ed := sx _ _ ed
  replace e2 := sx _ _ e2
  revert sx e4 sB ed e2
  generalize upd H9 p4 (HO.tup [V.ref p3]) = H10
  intro sx e4 sB ed e2
  clear sx
  clear e4
  refine ⟨(by show 4 ≤ sizeLine; decide), fun p5 h5 => ?_⟩
  have sx := same_new h5 (HO.tup [V.str (Str.ofString "file"), V.int 1, V.int 3, V.ref p4])
  have e5 : upd H10 p5 (HO.tup [V.str (Str.ofString "file"), V.int 1, V.int 3, V.ref p4]) p5 = some (HO.tup [V.str (Str.ofString "file"), V.int 1, V.int 3, V.ref p4]) := upd_same
  replace sB := sB.trans sx
  replace ed := sx _ _ ed
  replace e2 := sx _ _ e2
  revert sx e5 sB ed e2
  generalize upd H10 p5 (HO.tup [V.str (Str.ofString "file"), V.int 1, V.int 3, V.ref p4]) = H11
  intro sx e5 sB ed e2
  clear sx
  clear e5
  refine ⟨ed, [(.inl 2, .ref p2), (.inl 3, .ref p5)], rfl, (by show 2 ≤ 15; decide), ?_⟩
  have n2 : p2 ≠ d := fun z => by rw [z, ed] at e2; cases e2
  replace sB := same_over sB hd (HO.dK (mergeK [] [(Sum.inl 2, V.ref p2), (Sum.inl 3, V.ref p5)]))
  replace e2 : upd H11 d (HO.dK (mergeK [] [(Sum.inl 2, V.ref p2), (Sum.inl 3, V.ref p5)])) p2 = some (HO.tup [V.str (Str.ofString "folder"), V.int 1, V.int 0, V.ref ea]) := by rw [upd_ne n2]; exact e2
  replace ed : upd H11 d (HO.dK (mergeK [] [(Sum.inl 2, V.ref p2), (Sum.inl 3, V.ref p5)])) d = some (HO.dK (mergeK [] [(Sum.inl 2, V.ref p2), (Sum.inl 3, V.ref p5)])) := upd_same
  revert sB e2 ed
  generalize upd H11 d (HO.dK (mergeK [] [(Sum.inl 2, V.ref p2), (Sum.inl 3, V.ref p5)])) = H12
  intro sB e2 ed
  have sG := sB
  refine ⟨_, rfl, d, rfl, ?_, fun g hg => ?_⟩
  · exact .inl ⟨_, .inl ed⟩
  have sx := same_new hg (HO.dK [])
  have eg : upd H12 g (HO.dK []) g = some (HO.dK []) := upd_same
  replace sB := sB.trans sx
  replace ed := sx _ _ ed
  replace e2 := sx _ _ e2
  revert sx eg sB ed e2
  generalize upd H12 g (HO.dK []) = H13
  intro sx eg sB ed e2
  clear sx
  refine ⟨(by show 4 ≤ sizeLine; decide), fun p6 h6 => ?_⟩
  have sx := same_new h6 (HO.tup [V.int 7, V.int 8, V.int 9, V.int 6])
  have e6 : upd H13 p6 (HO.tup [V.int 7, V.int 8, V.int 9, V.int 6]) p6 = some (HO.tup [V.int 7, V.int 8, V.int 9, V.int 6]) := upd_same
  replace sB := sB.trans sx
  replace ed := sx _ _ ed
  replace e2 := sx _ _ e2
  replace eg := sx _ _ eg
  revert sx e6 sB ed e2 eg
  generalize upd H13 p6 (HO.tup [V.int 7, V.int 8, V.int 9, V.int 6]) = H14
  intro sx e6 sB ed e2 eg
  clear sx
  clear e6
  refine ⟨(by show 3 ≤ sizeLine; decide), fun p7 h7 => ?_⟩
  have sx := same_new h7 (HO.tup [V.str (Str.ofString "cells"), V.int 1, V.ref p6])
  have e7 : upd H14 p7 (HO.tup [V.str (Str.ofString "cells"), V.int 1, V.ref p6]) p7 = some (HO.tup [V.str (Str.ofString "cells"), V.int 1, V.ref p6]) := upd_same
  replace sB := sB.trans sx
  replace ed := sx _ _ ed
  replace e2 := sx _ _ e2
  replace eg := sx _ _ eg
  revert sx e7 sB ed e2 eg
  generalize upd H14 p7 (HO.tup [V.str (Str.ofString "cells"), V.int 1, V.ref p6]) = H15
  intro sx e7 sB ed e2 eg
  clear sx
  clear e7
  refine ⟨(by show 0 ≤ sizeLine; decide), fun p8 h8 => ?_⟩
  have sx := same_new h8 (HO.tup [])
  have e8 : upd H15 p8 (HO.tup []) p8 = some (HO.tup []) := upd_same
  replace sB := sB.trans sx
  replace ed := sx _ _ ed
  replace e2 := sx _ _ e2
  replace eg := sx _ _ eg
  revert sx e8 sB ed e2 eg
  generalize upd H15 p8 (HO.tup []) = H16
  intro sx e8 sB ed e2 eg
  clear sx
  clear e8
  refine ⟨(by show 4 ≤ sizeLine; decide), fun p9 h9 => ?_⟩
  have sx := same_new h9 (HO.tup [V.str (Str.ofString "folder"), V.int 1, V.int 0, V.ref p8])
  have e9 : upd H16 p9 (HO.tup [V.str (Str.ofString "folder"), V.int 1, V.int 0, V.ref p8]) p9 = some (HO.tup [V.str (Str.ofString "folder"), V.int 1, V.int 0, V.ref p8]) := upd_same
  replace sB := sB.trans sx
  replace ed := sx _ _ ed
  replace e2 := sx _ _ e2
  replace eg := sx _ _ eg
  revert sx e9 sB ed e2 eg
  generalize upd H16 p9 (HO.tup [V.str (Str.ofString "folder"), V.int 1, V.int 0, V.ref p8]) = H17
  intro sx e9 sB ed e2 eg
  clear sx
  clear e9
  refine ⟨eg, [(.inl 4, .ref p7), (.inl 5, .ref p9)], rfl, (by show 2 ≤ 15; decide), ?_⟩
  have nd : g ≠ d := fun z => by rw [z, ed] at eg; cases eg
  have n3 : p2 ≠ g := fun z => by rw [z, eg] at e2; cases e2
  have hg6 : H6 g = none := by
    cases e : H6 g with
    | none => rfl
    | some o => rw [sG _ _ e] at hg; cases hg
  replace sB := same_over sB hg6 (HO.dK (mergeK [] [(Sum.inl 4, V.ref p7), (Sum.inl 5, V.ref p9)]))
  replace e2 : upd H17 g (HO.dK (mergeK [] [(Sum.inl 4, V.ref p7), (Sum.inl 5, V.ref p9)])) p2 = some (HO.tup [V.str (Str.ofString "folder"), V.int 1, V.int 0, V.ref ea]) := by rw [upd_ne n3]; exact e2
  replace ed : upd H17 g (HO.dK (mergeK [] [(Sum.inl 4, V.ref p7), (Sum.inl 5, V.ref p9)])) d = some (HO.dK (mergeK [] [(Sum.inl 2, V.ref p2), (Sum.inl 3, V.ref p5)])) := by rw [upd_ne nd.symm]; exact ed
  replace eg : upd H17 g (HO.dK (mergeK [] [(Sum.inl 4, V.ref p7), (Sum.inl 5, V.ref p9)])) g = some (HO.dK (mergeK [] [(Sum.inl 4, V.ref p7), (Sum.inl 5, V.ref p9)])) := upd_same
  revert sB e2 ed eg
  generalize upd H17 g (HO.dK (mergeK [] [(Sum.inl 4, V.ref p7), (Sum.inl 5, V.ref p9)])) = H18
  intro sB e2 ed eg
  refine ⟨g, _, _, rfl, ed, eg, nd.symm, (by show 2 + 2 ≤ sizeLine; decide), ?_⟩
  have sv : valV (mergeK (mergeK [] [(Sum.inl 2, V.ref p2), (Sum.inl 3, V.ref p5)]) (mergeK [] [(Sum.inl 4, V.ref p7), (Sum.inl 5, V.ref p9)])) (Sum.inl 2) = some (.ref p2) := rfl
  replace sB := same_over sB hd (HO.dK (mergeK (mergeK [] [(Sum.inl 2, V.ref p2), (Sum.inl 3, V.ref p5)]) (mergeK [] [(Sum.inl 4, V.ref p7), (Sum.inl 5, V.ref p9)])))
  replace e2 : upd H18 d (HO.dK (mergeK (mergeK [] [(Sum.inl 2, V.ref p2), (Sum.inl 3, V.ref p5)]) (mergeK [] [(Sum.inl 4, V.ref p7), (Sum.inl 5, V.ref p9)]))) p2 = some (HO.tup [V.str (Str.ofString "folder"), V.int 1, V.int 0, V.ref ea]) := by rw [upd_ne n2]; exact e2
  replace ed : upd H18 d (HO.dK (mergeK (mergeK [] [(Sum.inl 2, V.ref p2), (Sum.inl 3, V.ref p5)]) (mergeK [] [(Sum.inl 4, V.ref p7), (Sum.inl 5, V.ref p9)]))) d = some (HO.dK (mergeK (mergeK [] [(Sum.inl 2, V.ref p2), (Sum.inl 3, V.ref p5)]) (mergeK [] [(Sum.inl 4, V.ref p7), (Sum.inl 5, V.ref p9)]))) := upd_same
  revert sB e2 ed sv
  generalize mergeK (mergeK [] [(Sum.inl 2, V.ref p2), (Sum.inl 3, V.ref p5)]) (mergeK [] [(Sum.inl 4, V.ref p7), (Sum.inl 5, V.ref p9)]) = kvs
  generalize upd H18 d (HO.dK kvs) = H19
  intro sv sB e2 ed
  clear eg n3 nd n2 hg6 hg hd
  replace ew := sB _ _ ew
  replace eea := sB _ _ eea
  replace kts := kts.mono sB
  replace s1 := s1.trans sB
  clear sB
  refine ⟨⟨#[], s1 _ _ hPL, trivial, .inl rfl⟩, fun fl c' pm ctv H20 sx tbL ot hfl hfl' hc' => ?_⟩
  have itL : IsTab H19 PL := ⟨#[], s1 _ _ hPL⟩
  have up : ∀ b o, (∀ φ, o ≠ HO.ext φ) → H19 b = some o → H20 b = some o := fun b o no e => sx b o (fun z => by
    obtain ⟨ps, hp⟩ := itL
    rw [z, hp] at e
    cases e
    exact no _ rfl) e
  have hS20 := seq_sx itL sx (s1.seq hS)
  replace ew := up _ _ (by intro φ z; cases z) ew
  replace eea := up _ _ (by intro φ z; cases z) eea
  replace e2 := up _ _ (by intro φ z; cases z) e2
  replace ed := up _ _ (by intro φ z; cases z) ed
  replace kts := Ats.keepT (fun _ _ e => up _ _ (by intro φ z; cases z) e) nts kts
  clear up itL s1 ot
  refine fun x dx hx hdx ne => ⟨x, dx, .ref fl, rfl, upd_same, fun fr H21 keep e21 ef => ⟨rfl, ?_⟩⟩
  have s21 : Same H20 H21 := fun q u e => keep q u (ne_of_none e hx) (by rw [upd_ne (ne_of_none e hx), upd_ne (ne_of_none e hdx)]; exact e)
  refine ⟨_, rfl, 1, rfl, 31, rfl, a, _, rfl, s21.seq hS20, fun b hb => ?_⟩
  have sb := s21.trans (same_new hb (HO.lst (cutV (ns.map V.int) (some 1) (some 31))))
  have eb : upd H21 b (HO.lst (cutV (ns.map V.int) (some 1) (some 31))) b = some (HO.lst (cutV (ns.map V.int) (some 1) (some 31))) := upd_same
  have de : De c (upd H21 b (HO.lst (cutV (ns.map V.int) (some 1) (some 31)))) x fl fr := ⟨dx, same_new hb _ _ _ e21⟩
  replace ef := same_new hb (HO.lst (cutV (ns.map V.int) (some 1) (some 31))) _ _ ef
  revert sb eb de ef
  generalize upd H21 b (HO.lst (cutV (ns.map V.int) (some 1) (some 31))) = H22
  intro sb eb de ef
  replace ew := sb _ _ ew
  replace eea := sb _ _ eea
  replace e2 := sb _ _ e2
  replace ed := sb _ _ ed
  replace kts := kts.mono sb
  replace hfl' := sb _ _ hfl'
  replace hc' := sb _ _ hc'
  obtain ⟨ps, ePL, _⟩ := tbL
  replace ePL := sb _ _ ePL
  clear sb s21 e21 keep hS20 hx hdx ne hb hfl
  have lw0 : 1 ≤ w0.length ∧ w0.length ≤ 8 := isw_bd i0
  have lw1 : 1 ≤ w1.length ∧ w1.length ≤ 8 := isw_bd i1
  refine ⟨b, rfl, ⟨_, SqL.of eb⟩, ?_⟩
  refine for_list (K := K) (a := b) (xs := cutV (ns.map V.int) (some 1) (some 31)) (fun i σ H4 => Same H22 H4 ∧ ∃ o5 o6 o7 : Option V, σ = [some (.ref a), some (.ref wp), some (.ref ea), some (.ref d), some (.ref x), o5, o6, o7]) ⟨Same.refl _, _, _, _, rfl⟩ (fun i σ H4 _ h4 => SqL.of (h4.1 _ _ eb)) ?_ ?_
  · rintro i v σ H4 hv ⟨s4, o5, o6, o7, rfl⟩
    obtain ⟨z, rfl⟩ := cut_mem hv
    refine ⟨_, rfl, _, rfl, z, wp, w0, w1, rfl, s4 _ _ ew, lw0, lw1, fun r wo A H5 s5 er aA => ?_⟩
    refine ⟨_, rfl, r, wo, A, rfl, er, aA, fun en H6 s6 => ?_, fun o eo p H6 s6 ep => ?_⟩
    · exact ⟨_, rfl, rfl, _, rfl, iteT ⟨s4.trans (s5.trans s6), _, _, _, rfl⟩⟩
    · refine ⟨_, rfl, rfl, _, rfl, ?_⟩
      rw [decide_eq_false (show ¬ V.ref p = V.non by intro z; cases z)]
      refine iteF ⟨_, rfl, _, rfl, x, fl, fr, r, wo, A, o, rfl, de.mono (s4.trans (s5.trans s6)), s6 _ _ er, aA.mono s6, eo, fun pt H7 s7 ep2 => ?_⟩
      have gf := due_gf (aA.mono (s6.trans s7)) eo
      refine ⟨_, rfl, pt, p, outV o, rfl, ep2, s7 _ _ ep, out_len o, gf, fun H8 s8 => ⟨_, rfl, iteF ?_⟩⟩
      have sA := s4.trans (s5.trans (s6.trans (s7.trans s8)))
      clear gf er aA ep ep2 s5 s6 s7 s8 s4
      obtain ⟨dx8, h8⟩ := de.mono sA
      refine ⟨_, rfl, x, c.DE, dx8, _, _, rfl, h8, cf.clE, cf.rE, rfl, rfl, _, rfl, iteF ?_⟩
      refine ⟨_, rfl, x, dx8, _, rfl, h8, rfl, d, rfl, fun oc hc dc => ?_⟩
      have sN := same_new hc (HO.ext (objφ (s.heap.objs.size + 1) oc))
      refine ⟨x, fl, fr, d, .ref p2, ea, vs, rfl, (de.mono sA).mono sN, sN _ _ (sA _ _ ef), LooksOf.mk (t := lamL) okLL rfl hc (sA _ _ hfl') (sA _ _ hc') dc, ?_, ⟨p2, rfl, sN _ _ (sA _ _ e2)⟩, sN _ _ (sA _ _ eea), fun z H9 s9 kn => ?_⟩
      · have := DGet.k (k := .inl 2) (sN _ _ (sA _ _ ed))
        rw [sv] at this
        exact this
      have hc9 : H9 (s.heap.objs.size + 1) = some (.ext (objφ (s.heap.objs.size + 1) oc)) := s9 _ _ upd_same
      refine ⟨hc9, ?_⟩
      obtain ⟨pk, dk, rfl, ek⟩ := kn
      have nk : pk ≠ s.heap.objs.size + 1 := fun z => by rw [z, hc9] at ek; cases ek
      have s10 := same_del hc s9
      replace ek : del H9 (s.heap.objs.size + 1) pk = some (.ins c.KD dk (knF (.int 1) (.int 0) ea)) := by rw [del_ne nk]; exact ek
      revert s10 ek
      generalize del H9 (s.heap.objs.size + 1) = H10
      intro s10 ek
      replace sA := sA.trans s10
      clear s10 nk hc9 s9 sN hc h8
      refine ⟨pk, dk, _, rfl, ek, rfl, .ref pk, ea, rfl, ⟨pk, dk, rfl, ek⟩, fun ps' hps => ?_⟩
      have sx := same_new hps (HO.tup [V.str (Str.ofString "folder"), V.int 1, V.int 0, V.ref ea])
      have es : upd H10 ps' (HO.tup [V.str (Str.ofString "folder"), V.int 1, V.int 0, V.ref ea]) ps' = some (HO.tup [V.str (Str.ofString "folder"), V.int 1, V.int 0, V.ref ea]) := upd_same
      replace sA := sA.trans sx
      clear sx
      revert sA es
      generalize upd H10 ps' (HO.tup [V.str (Str.ofString "folder"), V.int 1, V.int 0, V.ref ea]) = H11
      intro es sA
      refine ⟨_, rfl, (by show 4 ≤ sizeLine; decide), fun pu hpu => ?_⟩
      have sx := same_new hpu (HO.tup [V.str (Str.ofString "folder"), V.int 1, V.int 0, V.ref ea])
      have eu : upd H11 pu (HO.tup [V.str (Str.ofString "folder"), V.int 1, V.int 0, V.ref ea]) pu = some (HO.tup [V.str (Str.ofString "folder"), V.int 1, V.int 0, V.ref ea]) := upd_same
      replace sA := sA.trans sx
      replace es := sx _ _ es
      clear sx
      revert sA es eu
      generalize upd H11 pu (HO.tup [V.str (Str.ofString "folder"), V.int 1, V.int 0, V.ref ea]) = H12
      intro eu sA es
      have tree : ∀ y, H12 y = some (HO.tup [V.str (Str.ofString "folder"), V.int 1, V.int 0, V.ref ea]) → At H12 (.tup [.str (Str.ofString "folder"), .int 1, .int 0, .tup ts]) (.ref y) := fun y hy => At.mkT hy (Ats.cons (At.str _) (Ats.cons (At.int _) (Ats.cons (At.int _) (Ats.cons (At.mkT (sA _ _ eea) (kts.mono sA)) (Ats.nil _)))))
      refine ⟨4, At.eqvS (l := [.str (Str.ofString "folder"), .int 1, .int 0, .tup ts]) ?_ ?_ (tree _ es) (tree _ eu), by decide, _, rfl, iteF ?_⟩
      · show (true && (true && (true && (nls ts && true)))) = true
        rw [nts]
        rfl
      · show max 0 (max 0 (max 0 (max (deps ts + 1) 0))) ≤ 4
        omega
      obtain ⟨dx9, h9⟩ := de.mono sA
      refine ⟨_, rfl, x, dx9, _, rfl, h9, rfl, x, fl, fr, rfl, ⟨dx9, h9⟩, sA _ _ ef, fun pn H13 s13 en => ⟨(by show 0 ≤ sizeLine; decide), fun pz hpz => ?_⟩⟩
      have sx := same_new hpz (HO.lst [])
      exact ⟨pn, pz, [], rfl, rfl, SqL.of (sx _ _ en), SqL.of upd_same, _, rfl, iteF ⟨sA.trans (s13.trans sx), _, _, _, rfl⟩⟩
  · rintro σ H4 ⟨s4, o5, o6, o7, rfl⟩
    exact q H4 ps (s4 _ _ ePL)
end
end K43
set_option maxHeartbeats 8000000
namespace K43
open PySem L2

theorem all_mk {l : PySem.W.OpenLaw} {w : World} {K : PySem.W.Frag} {h : Heap} {mg : Str → Option Value} {fa fWho fWth fWrd fNof fCll fKof fNbt fNsp fNcl fCel fMix fWds fOdp fPth fGpa fRow fGro fNum fLwi fGsp fAsk fDue fDoo fTol fKnd fSam fAli fLaw W NW NP NNP fINP NS NNS fINS NC NNC K0 fKIn KD fDIn fDSt DE fEIn fEfo fEdr fEpu fEtr fEho fEsh fEtw fEmo fEli fEvi fEne fEte : Addr} (X : K.In h) (G : h.Ns mainGlobals mg) (hfa : mg "law" = some (.ref fa))
    {odWho anWho odWth anWth odWrd anWrd odNof anNof odCll anCll odKof anKof odNbt anNbt odNsp anNsp odNcl anNcl odCel anCel odMix anMix odWds anWds odOdp anOdp odPth anPth odGpa anGpa odRow anRow odGro anGro odNum anNum odLwi anLwi odGsp anGsp odAsk anAsk odDue anDue odDoo anDoo odTol anTol odKnd anKnd odSam anSam odAli anAli odLaw anLaw odINP anINP odINS anINS odKIn anKIn odDIn anDIn odDSt anDSt odEIn anEIn odEfo anEfo odEdr anEdr odEpu anEpu odEtr anEtr odEho anEho odEsh anEsh odEtw anEtw odEmo anEmo odEli anEli odEvi anEvi odEne anEne odEte anEte odNW odNNC : Option Addr} {slWho slWth slWrd slNof slCll slKof slNbt slNsp slNcl slCel slMix slWds slOdp slPth slGpa slRow slGro slNum slLwi slGsp slAsk slDue slDoo slTol slKnd slSam slAli slLaw slINP slINS slKIn slDIn slDSt slEIn slEfo slEdr slEpu slEtr slEho slEsh slEtw slEmo slEli slEvi slEne slEte slNW slNNC : Array (Option Value)} {ocWho kVWho dcWho pmWho cdWho ctWho ocWth kVWth dcWth pmWth cdWth ctWth ocWrd kVWrd dcWrd pmWrd cdWrd ctWrd ocNof kVNof dcNof pmNof cdNof ctNof ocCll kVCll dcCll pmCll cdCll ctCll ocKof kVKof dcKof pmKof cdKof ctKof ocNbt kVNbt dcNbt pmNbt cdNbt ctNbt ocNsp kVNsp dcNsp pmNsp cdNsp ctNsp ocNcl kVNcl dcNcl pmNcl cdNcl ctNcl ocCel kVCel dcCel pmCel cdCel ctCel ocMix kVMix dcMix pmMix cdMix ctMix ocWds kVWds dcWds pmWds cdWds ctWds ocOdp kVOdp dcOdp pmOdp cdOdp ctOdp ocPth kVPth dcPth pmPth cdPth ctPth ocGpa kVGpa dcGpa pmGpa cdGpa ctGpa ocRow kVRow dcRow pmRow cdRow ctRow ocGro kVGro dcGro pmGro cdGro ctGro ocNum kVNum dcNum pmNum cdNum ctNum ocLwi kVLwi dcLwi pmLwi cdLwi ctLwi ocGsp kVGsp dcGsp pmGsp cdGsp ctGsp ocAsk kVAsk dcAsk pmAsk cdAsk ctAsk ocDue kVDue dcDue pmDue cdDue ctDue ocDoo kVDoo dcDoo pmDoo cdDoo ctDoo ocTol kVTol dcTol pmTol cdTol ctTol ocKnd kVKnd dcKnd pmKnd cdKnd ctKnd ocSam kVSam dcSam pmSam cdSam ctSam ocAli kVAli dcAli pmAli cdAli ctAli ocLaw kVLaw dcLaw pmLaw cdLaw ctLaw ocINP kVINP dcINP pmINP cdINP ctINP ocINS kVINS dcINS pmINS cdINS ctINS ocKIn kVKIn dcKIn pmKIn cdKIn ctKIn ocDIn kVDIn dcDIn pmDIn cdDIn ctDIn ocDSt kVDSt dcDSt pmDSt cdDSt ctDSt ocEIn kVEIn dcEIn pmEIn cdEIn ctEIn ocEfo kVEfo dcEfo pmEfo cdEfo ctEfo ocEdr kVEdr dcEdr pmEdr cdEdr ctEdr ocEpu kVEpu dcEpu pmEpu cdEpu ctEpu ocEtr kVEtr dcEtr pmEtr cdEtr ctEtr ocEho kVEho dcEho pmEho cdEho ctEho ocEsh kVEsh dcEsh pmEsh cdEsh ctEsh ocEtw kVEtw dcEtw pmEtw cdEtw ctEtw ocEmo kVEmo dcEmo pmEmo cdEmo ctEmo ocEli kVEli dcEli pmEli cdEli ctEli ocEvi kVEvi dcEvi pmEvi cdEvi ctEvi ocEne kVEne dcEne pmEne cdEne ctEne ocEte kVEte dcEte pmEte cdEte ctEte ocNW ocNNC : Value} {esNW esNNC : Array DictEntry} {epNW epNNC : Nat} {gt0 gt1 gt2 gt3 gt4 gt5 : Tok}
    {nmW qW nmNP qNP nmNS qNS nmNC qNC : Str} {bsW subW bsNP subNP bsNS subNS bsNC subNC : List Value} {hdW abW abNP abNS abNC : Bool} {snW snNP snNS snNC : List Str} {colW colNP colNS colNC : Option Bool} {ddW ddNP ddNS ddNC : Option Addr} {x0W x1W x2W x3W x5W x0NP x1NP x2NP x3NP x5NP x0NS x1NS x2NS x3NS x5NS x0NC x1NC x2NC x3NC x5NC : Option Value}
    (aWho : PySem.W.nsIn K mainGlobals "is_whole" = some (some (.ref fWho)))
    (lWho : K.lookup fWho = some ⟨ocWho, odWho, .func (PySem.W.fnOf "is_whole" "is_whole" (defArgs sWho) (defBody sWho) (defScope sWho) .none kVWho dcWho pmWho anWho cdWho ctWho), slWho⟩)
    (cWho : PySem.W.codeIn K cdWho "is_whole" = true)
    (kWho : PySem.W.keepIn K (.ref fWho) = true)
    (aWth : PySem.W.nsIn K mainGlobals "is_within" = some (some (.ref fWth)))
    (lWth : K.lookup fWth = some ⟨ocWth, odWth, .func (PySem.W.fnOf "is_within" "is_within" (defArgs sWth) (defBody sWth) (defScope sWth) .none kVWth dcWth pmWth anWth cdWth ctWth), slWth⟩)
    (cWth : PySem.W.codeIn K cdWth "is_within" = true)
    (kWth : PySem.W.keepIn K (.ref fWth) = true)
    (aWrd : PySem.W.nsIn K mainGlobals "is_word" = some (some (.ref fWrd)))
    (lWrd : K.lookup fWrd = some ⟨ocWrd, odWrd, .func (PySem.W.fnOf "is_word" "is_word" (defArgs sWrd) (defBody sWrd) (defScope sWrd) .none kVWrd dcWrd pmWrd anWrd cdWrd ctWrd), slWrd⟩)
    (cWrd : PySem.W.codeIn K cdWrd "is_word" = true)
    (kWrd : PySem.W.keepIn K (.ref fWrd) = true)
    (aNof : PySem.W.nsIn K mainGlobals "names_of" = some (some (.ref fNof)))
    (lNof : K.lookup fNof = some ⟨ocNof, odNof, .func (PySem.W.fnOf "names_of" "names_of" (defArgs sNof) (defBody sNof) (defScope sNof) .none kVNof dcNof pmNof anNof cdNof ctNof), slNof⟩)
    (cNof : PySem.W.codeIn K cdNof "names_of" = true)
    (kNof : PySem.W.keepIn K (.ref fNof) = true)
    (aCll : PySem.W.nsIn K mainGlobals "is_cell" = some (some (.ref fCll)))
    (lCll : K.lookup fCll = some ⟨ocCll, odCll, .func (PySem.W.fnOf "is_cell" "is_cell" (defArgs sCll) (defBody sCll) (defScope sCll) .none kVCll dcCll pmCll anCll cdCll ctCll), slCll⟩)
    (cCll : PySem.W.codeIn K cdCll "is_cell" = true)
    (kCll : PySem.W.keepIn K (.ref fCll) = true)
    (aKof : PySem.W.nsIn K mainGlobals "knot_of" = some (some (.ref fKof)))
    (lKof : K.lookup fKof = some ⟨ocKof, odKof, .func (PySem.W.fnOf "knot_of" "knot_of" (defArgs sKof) (defBody sKof) (defScope sKof) .none kVKof dcKof pmKof anKof cdKof ctKof), slKof⟩)
    (cKof : PySem.W.codeIn K cdKof "knot_of" = true)
    (kKof : PySem.W.keepIn K (.ref fKof) = true)
    (aNbt : PySem.W.nsIn K mainGlobals "names_below_top" = some (some (.ref fNbt)))
    (lNbt : K.lookup fNbt = some ⟨ocNbt, odNbt, .func (PySem.W.fnOf "names_below_top" "names_below_top" (defArgs sNbt) (defBody sNbt) (defScope sNbt) .none kVNbt dcNbt pmNbt anNbt cdNbt ctNbt), slNbt⟩)
    (cNbt : PySem.W.codeIn K cdNbt "names_below_top" = true)
    (kNbt : PySem.W.keepIn K (.ref fNbt) = true)
    (aNsp : PySem.W.nsIn K mainGlobals "need_span" = some (some (.ref fNsp)))
    (lNsp : K.lookup fNsp = some ⟨ocNsp, odNsp, .func (PySem.W.fnOf "need_span" "need_span" (defArgs sNsp) (defBody sNsp) (defScope sNsp) .none kVNsp dcNsp pmNsp anNsp cdNsp ctNsp), slNsp⟩)
    (cNsp : PySem.W.codeIn K cdNsp "need_span" = true)
    (kNsp : PySem.W.keepIn K (.ref fNsp) = true)
    (aNcl : PySem.W.nsIn K mainGlobals "need_cells" = some (some (.ref fNcl)))
    (lNcl : K.lookup fNcl = some ⟨ocNcl, odNcl, .func (PySem.W.fnOf "need_cells" "need_cells" (defArgs sNcl) (defBody sNcl) (defScope sNcl) .none kVNcl dcNcl pmNcl anNcl cdNcl ctNcl), slNcl⟩)
    (cNcl : PySem.W.codeIn K cdNcl "need_cells" = true)
    (kNcl : PySem.W.keepIn K (.ref fNcl) = true)
    (aCel : PySem.W.nsIn K mainGlobals "_law_at" = some (some (.ref fCel)))
    (lCel : K.lookup fCel = some ⟨ocCel, odCel, .func (PySem.W.fnOf "_law_at" "_law_at" (defArgs sCel) (defBody sCel) (defScope sCel) .none kVCel dcCel pmCel anCel cdCel ctCel), slCel⟩)
    (cCel : PySem.W.codeIn K cdCel "_law_at" = true)
    (kCel : PySem.W.keepIn K (.ref fCel) = true)
    (aMix : PySem.W.nsIn K mainGlobals "_law_mix" = some (some (.ref fMix)))
    (lMix : K.lookup fMix = some ⟨ocMix, odMix, .func (PySem.W.fnOf "_law_mix" "_law_mix" (defArgs sMix) (defBody sMix) (defScope sMix) .none kVMix dcMix pmMix anMix cdMix ctMix), slMix⟩)
    (cMix : PySem.W.codeIn K cdMix "_law_mix" = true)
    (kMix : PySem.W.keepIn K (.ref fMix) = true)
    (aWds : PySem.W.nsIn K mainGlobals "_law_words" = some (some (.ref fWds)))
    (lWds : K.lookup fWds = some ⟨ocWds, odWds, .func (PySem.W.fnOf "_law_words" "_law_words" (defArgs sWds) (defBody sWds) (defScope sWds) .none kVWds dcWds pmWds anWds cdWds ctWds), slWds⟩)
    (cWds : PySem.W.codeIn K cdWds "_law_words" = true)
    (kWds : PySem.W.keepIn K (.ref fWds) = true)
    (aOdp : PySem.W.nsIn K mainGlobals "_law_odd_path" = some (some (.ref fOdp)))
    (lOdp : K.lookup fOdp = some ⟨ocOdp, odOdp, .func (PySem.W.fnOf "_law_odd_path" "_law_odd_path" (defArgs sOdp) (defBody sOdp) (defScope sOdp) .none kVOdp dcOdp pmOdp anOdp cdOdp ctOdp), slOdp⟩)
    (cOdp : PySem.W.codeIn K cdOdp "_law_odd_path" = true)
    (kOdp : PySem.W.keepIn K (.ref fOdp) = true)
    (aPth : PySem.W.nsIn K mainGlobals "_law_path" = some (some (.ref fPth)))
    (lPth : K.lookup fPth = some ⟨ocPth, odPth, .func (PySem.W.fnOf "_law_path" "_law_path" (defArgs sPth) (defBody sPth) (defScope sPth) .none kVPth dcPth pmPth anPth cdPth ctPth), slPth⟩)
    (cPth : PySem.W.codeIn K cdPth "_law_path" = true)
    (kPth : PySem.W.keepIn K (.ref fPth) = true)
    (aGpa : PySem.W.nsIn K mainGlobals "_law_good_path" = some (some (.ref fGpa)))
    (lGpa : K.lookup fGpa = some ⟨ocGpa, odGpa, .func (PySem.W.fnOf "_law_good_path" "_law_good_path" (defArgs sGpa) (defBody sGpa) (defScope sGpa) .none kVGpa dcGpa pmGpa anGpa cdGpa ctGpa), slGpa⟩)
    (cGpa : PySem.W.codeIn K cdGpa "_law_good_path" = true)
    (kGpa : PySem.W.keepIn K (.ref fGpa) = true)
    (aRow : PySem.W.nsIn K mainGlobals "_law_row" = some (some (.ref fRow)))
    (lRow : K.lookup fRow = some ⟨ocRow, odRow, .func (PySem.W.fnOf "_law_row" "_law_row" (defArgs sRow) (defBody sRow) (defScope sRow) .none kVRow dcRow pmRow anRow cdRow ctRow), slRow⟩)
    (cRow : PySem.W.codeIn K cdRow "_law_row" = true)
    (kRow : PySem.W.keepIn K (.ref fRow) = true)
    (aGro : PySem.W.nsIn K mainGlobals "_law_good_row" = some (some (.ref fGro)))
    (lGro : K.lookup fGro = some ⟨ocGro, odGro, .func (PySem.W.fnOf "_law_good_row" "_law_good_row" (defArgs sGro) (defBody sGro) (defScope sGro) .none kVGro dcGro pmGro anGro cdGro ctGro), slGro⟩)
    (cGro : PySem.W.codeIn K cdGro "_law_good_row" = true)
    (kGro : PySem.W.keepIn K (.ref fGro) = true)
    (aNum : PySem.W.nsIn K mainGlobals "_law_number" = some (some (.ref fNum)))
    (lNum : K.lookup fNum = some ⟨ocNum, odNum, .func (PySem.W.fnOf "_law_number" "_law_number" (defArgs sNum) (defBody sNum) (defScope sNum) .none kVNum dcNum pmNum anNum cdNum ctNum), slNum⟩)
    (cNum : PySem.W.codeIn K cdNum "_law_number" = true)
    (kNum : PySem.W.keepIn K (.ref fNum) = true)
    (aLwi : PySem.W.nsIn K mainGlobals "_law_within" = some (some (.ref fLwi)))
    (lLwi : K.lookup fLwi = some ⟨ocLwi, odLwi, .func (PySem.W.fnOf "_law_within" "_law_within" (defArgs sLwi) (defBody sLwi) (defScope sLwi) .none kVLwi dcLwi pmLwi anLwi cdLwi ctLwi), slLwi⟩)
    (cLwi : PySem.W.codeIn K cdLwi "_law_within" = true)
    (kLwi : PySem.W.keepIn K (.ref fLwi) = true)
    (aGsp : PySem.W.nsIn K mainGlobals "_law_good_span" = some (some (.ref fGsp)))
    (lGsp : K.lookup fGsp = some ⟨ocGsp, odGsp, .func (PySem.W.fnOf "_law_good_span" "_law_good_span" (defArgs sGsp) (defBody sGsp) (defScope sGsp) .none kVGsp dcGsp pmGsp anGsp cdGsp ctGsp), slGsp⟩)
    (cGsp : PySem.W.codeIn K cdGsp "_law_good_span" = true)
    (kGsp : PySem.W.keepIn K (.ref fGsp) = true)
    (aAsk : PySem.W.nsIn K mainGlobals "_law_ask" = some (some (.ref fAsk)))
    (lAsk : K.lookup fAsk = some ⟨ocAsk, odAsk, .func (PySem.W.fnOf "_law_ask" "_law_ask" (defArgs sAsk) (defBody sAsk) (defScope sAsk) .none kVAsk dcAsk pmAsk anAsk cdAsk ctAsk), slAsk⟩)
    (cAsk : PySem.W.codeIn K cdAsk "_law_ask" = true)
    (kAsk : PySem.W.keepIn K (.ref fAsk) = true)
    (aDue : PySem.W.nsIn K mainGlobals "_law_due" = some (some (.ref fDue)))
    (lDue : K.lookup fDue = some ⟨ocDue, odDue, .func (PySem.W.fnOf "_law_due" "_law_due" (defArgs sDue) (defBody sDue) (defScope sDue) .none kVDue dcDue pmDue anDue cdDue ctDue), slDue⟩)
    (cDue : PySem.W.codeIn K cdDue "_law_due" = true)
    (kDue : PySem.W.keepIn K (.ref fDue) = true)
    (aDoo : PySem.W.nsIn K mainGlobals "_law_do" = some (some (.ref fDoo)))
    (lDoo : K.lookup fDoo = some ⟨ocDoo, odDoo, .func (PySem.W.fnOf "_law_do" "_law_do" (defArgs sDoo) (defBody sDoo) (defScope sDoo) .none kVDoo dcDoo pmDoo anDoo cdDoo ctDoo), slDoo⟩)
    (cDoo : PySem.W.codeIn K cdDoo "_law_do" = true)
    (kDoo : PySem.W.keepIn K (.ref fDoo) = true)
    (aTol : PySem.W.nsIn K mainGlobals "_law_told" = some (some (.ref fTol)))
    (lTol : K.lookup fTol = some ⟨ocTol, odTol, .func (PySem.W.fnOf "_law_told" "_law_told" (defArgs sTol) (defBody sTol) (defScope sTol) .none kVTol dcTol pmTol anTol cdTol ctTol), slTol⟩)
    (cTol : PySem.W.codeIn K cdTol "_law_told" = true)
    (kTol : PySem.W.keepIn K (.ref fTol) = true)
    (aKnd : PySem.W.nsIn K mainGlobals "_law_kind" = some (some (.ref fKnd)))
    (lKnd : K.lookup fKnd = some ⟨ocKnd, odKnd, .func (PySem.W.fnOf "_law_kind" "_law_kind" (defArgs sKnd) (defBody sKnd) (defScope sKnd) .none kVKnd dcKnd pmKnd anKnd cdKnd ctKnd), slKnd⟩)
    (cKnd : PySem.W.codeIn K cdKnd "_law_kind" = true)
    (kKnd : PySem.W.keepIn K (.ref fKnd) = true)
    (aSam : PySem.W.nsIn K mainGlobals "_law_same" = some (some (.ref fSam)))
    (lSam : K.lookup fSam = some ⟨ocSam, odSam, .func (PySem.W.fnOf "_law_same" "_law_same" (defArgs sSam) (defBody sSam) (defScope sSam) .none kVSam dcSam pmSam anSam cdSam ctSam), slSam⟩)
    (cSam : PySem.W.codeIn K cdSam "_law_same" = true)
    (kSam : PySem.W.keepIn K (.ref fSam) = true)
    (aAli : PySem.W.nsIn K mainGlobals "_law_alike" = some (some (.ref fAli)))
    (lAli : K.lookup fAli = some ⟨ocAli, odAli, .func (PySem.W.fnOf "_law_alike" "_law_alike" (defArgs sAli) (defBody sAli) (defScope sAli) .none kVAli dcAli pmAli anAli cdAli ctAli), slAli⟩)
    (cAli : PySem.W.codeIn K cdAli "_law_alike" = true)
    (kAli : PySem.W.keepIn K (.ref fAli) = true)
    (aLaw : PySem.W.nsIn K mainGlobals "law" = some (some (.ref fLaw)))
    (lLaw : K.lookup fLaw = some ⟨ocLaw, odLaw, .func (PySem.W.fnOf "law" "law" (defArgs sLaw) (defBody sLaw) (defScope sLaw) .none kVLaw dcLaw pmLaw anLaw cdLaw ctLaw), slLaw⟩)
    (cLaw : PySem.W.codeIn K cdLaw "law" = true)
    (kLaw : PySem.W.keepIn K (.ref fLaw) = true)
    (aW : PySem.W.nsIn K mainGlobals "WoodError" = some (some (.ref W)))
    (lW : K.lookup W = some (excClassObj nmW qW W NW bsW [.type "ValueError", .type "Exception", .type "BaseException", .type "object"] hdW snW subW abW colW ddW x0W x1W x2W x3W x5W "ValueError.__new__"))
    (tNW : K.lookup NW = some ⟨ocNW, odNW, .dict esNW epNW, slNW⟩)
    (tCW : (esNW.all fun e => match e.key with | .str _ _ => true | _ => false) = true)
    (tDW : PySem.W.nsIn K NW "__init__" = some none)
    (hn : PySem.W.specialIn K (.builtin "object.__class__") "__get__" = some (some (.builtin "getset_descriptor.__get__")))
    (tk : PySem.W.takesIn K (.builtin "object.__class__") = some true)
    (aNP : PySem.W.nsIn K mainGlobals "NoPath" = some (some (.ref NP)))
    (lNP : K.lookup NP = some (excClassObj nmNP qNP NP NNP bsNP [.ref W, .type "ValueError", .type "Exception", .type "BaseException", .type "object"] true snNP subNP abNP colNP ddNP x0NP x1NP x2NP x3NP x5NP "ValueError.__new__"))
    (kNP : PySem.W.keepIn K (.ref NP) = true)
    (saNP : PySem.W.findIn K (.ref NP) "__setattr__" = some (some (.builtin "object.__setattr__")))
    (gaNP : PySem.W.findIn K (.ref NP) "__getattribute__" = some (some (.builtin "BaseException.__getattribute__")))
    (gtNP : PySem.W.findIn K (.ref NP) "__getattr__" = some none)
    (caNP : PySem.W.findIn K (.ref NP) "__class__" = some (some (.builtin "object.__class__")))
    (naNP_0 : PySem.W.findIn K (.ref NP) "path" = some none)
    (iCNP : PySem.W.findIn K (.ref NP) "__init__" = some (some (.ref fINP)))
    (nINP : PySem.W.isFn K (.ref fINP) = true)
    (lINP : K.lookup fINP = some ⟨ocINP, odINP, .func (PySem.W.fnOf "__init__" "NoPath.__init__" (defArgs sNPi) (defBody sNPi) (defScope sNPi) .none kVINP dcINP pmINP anINP cdINP ctINP), slINP⟩)
    (cINP : PySem.W.codeIn K cdINP "NoPath.__init__" = true)
    (kINP : PySem.W.keepIn K (.ref fINP) = true)
    (aNS : PySem.W.nsIn K mainGlobals "NoSpan" = some (some (.ref NS)))
    (lNS : K.lookup NS = some (excClassObj nmNS qNS NS NNS bsNS [.ref W, .type "ValueError", .type "Exception", .type "BaseException", .type "object"] true snNS subNS abNS colNS ddNS x0NS x1NS x2NS x3NS x5NS "ValueError.__new__"))
    (kNS : PySem.W.keepIn K (.ref NS) = true)
    (saNS : PySem.W.findIn K (.ref NS) "__setattr__" = some (some (.builtin "object.__setattr__")))
    (gaNS : PySem.W.findIn K (.ref NS) "__getattribute__" = some (some (.builtin "BaseException.__getattribute__")))
    (gtNS : PySem.W.findIn K (.ref NS) "__getattr__" = some none)
    (caNS : PySem.W.findIn K (.ref NS) "__class__" = some (some (.builtin "object.__class__")))
    (naNS_0 : PySem.W.findIn K (.ref NS) "at" = some none)
    (naNS_1 : PySem.W.findIn K (.ref NS) "long" = some none)
    (iCNS : PySem.W.findIn K (.ref NS) "__init__" = some (some (.ref fINS)))
    (nINS : PySem.W.isFn K (.ref fINS) = true)
    (lINS : K.lookup fINS = some ⟨ocINS, odINS, .func (PySem.W.fnOf "__init__" "NoSpan.__init__" (defArgs sNSi) (defBody sNSi) (defScope sNSi) .none kVINS dcINS pmINS anINS cdINS ctINS), slINS⟩)
    (cINS : PySem.W.codeIn K cdINS "NoSpan.__init__" = true)
    (kINS : PySem.W.keepIn K (.ref fINS) = true)
    (aNC : PySem.W.nsIn K mainGlobals "NoCells" = some (some (.ref NC)))
    (lNC : K.lookup NC = some (excClassObj nmNC qNC NC NNC bsNC [.ref W, .type "ValueError", .type "Exception", .type "BaseException", .type "object"] true snNC subNC abNC colNC ddNC x0NC x1NC x2NC x3NC x5NC "ValueError.__new__"))
    (kNC : PySem.W.keepIn K (.ref NC) = true)
    (saNC : PySem.W.findIn K (.ref NC) "__setattr__" = some (some (.builtin "object.__setattr__")))
    (gaNC : PySem.W.findIn K (.ref NC) "__getattribute__" = some (some (.builtin "BaseException.__getattribute__")))
    (gtNC : PySem.W.findIn K (.ref NC) "__getattr__" = some none)
    (caNC : PySem.W.findIn K (.ref NC) "__class__" = some (some (.builtin "object.__class__")))
    (tNNC : K.lookup NNC = some ⟨ocNNC, odNNC, .dict esNNC epNNC, slNNC⟩)
    (tCNC : (esNNC.all fun e => match e.key with | .str _ _ => true | _ => false) = true)
    (tDNC : PySem.W.nsIn K NNC "__init__" = some none)
    (nd : (W :: [NP, NS, NC] : List Addr).Nodup)
    (aK0 : PySem.W.nsIn K mainGlobals "Knot" = some (some (.ref K0)))
    (pgK0 : PySem.W.plainGet K K0 Str.empty = true)
    (hdK0 : PySem.W.hasDictIn K K0 = true)
    (poK0 : PySem.W.plainOver K K0 = true)
    (saK0 : PySem.W.findIn K (.ref K0) "__setattr__" = some (some (.builtin "object.__setattr__")))
    (kK0 : PySem.W.keepIn K (.ref K0) = true)
    (mkK0 : PySem.W.makesIn K K0 = true)
    (iiK0 : PySem.W.findIn K (.ref K0) "__init__" = some (some (.ref fKIn)))
    (ifK0 : PySem.W.isFn K (.ref fKIn) = true)
    (lKIn : K.lookup fKIn = some ⟨ocKIn, odKIn, .func (PySem.W.fnOf "__init__" "Knot.__init__" (defArgs sKIn) (defBody sKIn) (defScope sKIn) .none kVKIn dcKIn pmKIn anKIn cdKIn ctKIn), slKIn⟩)
    (cKIn : PySem.W.codeIn K cdKIn "Knot.__init__" = true)
    (kKIn : PySem.W.keepIn K (.ref fKIn) = true)
    (aKD : PySem.W.nsIn K mainGlobals "FolderKnot" = some (some (.ref KD)))
    (pgKD : PySem.W.plainGet K KD Str.empty = true)
    (hdKD : PySem.W.hasDictIn K KD = true)
    (poKD : PySem.W.plainOver K KD = true)
    (saKD : PySem.W.findIn K (.ref KD) "__setattr__" = some (some (.builtin "object.__setattr__")))
    (kKD : PySem.W.keepIn K (.ref KD) = true)
    (naKD_0 : PySem.W.findIn K (.ref KD) "born" = some none)
    (naKD_1 : PySem.W.findIn K (.ref KD) "limit" = some none)
    (naKD_2 : PySem.W.findIn K (.ref KD) "entries" = some none)
    (mkKD : PySem.W.makesIn K KD = true)
    (iiKD : PySem.W.findIn K (.ref KD) "__init__" = some (some (.ref fDIn)))
    (ifKD : PySem.W.isFn K (.ref fDIn) = true)
    (lDIn : K.lookup fDIn = some ⟨ocDIn, odDIn, .func (PySem.W.fnOf "__init__" "FolderKnot.__init__" (defArgs sDIn) (defBody sDIn) (defScope sDIn) .none kVDIn dcDIn pmDIn anDIn cdDIn ctDIn), slDIn⟩)
    (cDIn : PySem.W.codeIn K cdDIn "FolderKnot.__init__" = true)
    (kDIn : PySem.W.keepIn K (.ref fDIn) = true)
    (amDSt : PySem.W.findIn K (.ref KD) "stuff" = some (some (.ref fDSt)))
    (fmDSt : PySem.W.isFn K (.ref fDSt) = true)
    (lDSt : K.lookup fDSt = some ⟨ocDSt, odDSt, .func (PySem.W.fnOf "stuff" "FolderKnot.stuff" (defArgs sDSt) (defBody sDSt) (defScope sDSt) .none kVDSt dcDSt pmDSt anDSt cdDSt ctDSt), slDSt⟩)
    (cDSt : PySem.W.codeIn K cdDSt "FolderKnot.stuff" = true)
    (kDSt : PySem.W.keepIn K (.ref fDSt) = true)
    (aDE : PySem.W.nsIn K mainGlobals "Deed" = some (some (.ref DE)))
    (pgDE : PySem.W.plainGet K DE Str.empty = true)
    (hdDE : PySem.W.hasDictIn K DE = true)
    (poDE : PySem.W.plainOver K DE = true)
    (saDE : PySem.W.findIn K (.ref DE) "__setattr__" = some (some (.builtin "object.__setattr__")))
    (kDE : PySem.W.keepIn K (.ref DE) = true)
    (naDE_0 : PySem.W.findIn K (.ref DE) "look" = some none)
    (naDE_1 : PySem.W.findIn K (.ref DE) "root" = some none)
    (naDE_2 : PySem.W.findIn K (.ref DE) "now" = some none)
    (naDE_3 : PySem.W.findIn K (.ref DE) "fresh" = some none)
    (mkDE : PySem.W.makesIn K DE = true)
    (iiDE : PySem.W.findIn K (.ref DE) "__init__" = some (some (.ref fEIn)))
    (ifDE : PySem.W.isFn K (.ref fEIn) = true)
    (lEIn : K.lookup fEIn = some ⟨ocEIn, odEIn, .func (PySem.W.fnOf "__init__" "Deed.__init__" (defArgs sEIn) (defBody sEIn) (defScope sEIn) .none kVEIn dcEIn pmEIn anEIn cdEIn ctEIn), slEIn⟩)
    (cEIn : PySem.W.codeIn K cdEIn "Deed.__init__" = true)
    (kEIn : PySem.W.keepIn K (.ref fEIn) = true)
    (amEfo : PySem.W.findIn K (.ref DE) "folder" = some (some (.ref fEfo)))
    (fmEfo : PySem.W.isFn K (.ref fEfo) = true)
    (lEfo : K.lookup fEfo = some ⟨ocEfo, odEfo, .func (PySem.W.fnOf "folder" "Deed.folder" (defArgs sEfo) (defBody sEfo) (defScope sEfo) .none kVEfo dcEfo pmEfo anEfo cdEfo ctEfo), slEfo⟩)
    (cEfo : PySem.W.codeIn K cdEfo "Deed.folder" = true)
    (kEfo : PySem.W.keepIn K (.ref fEfo) = true)
    (amEdr : PySem.W.findIn K (.ref DE) "drop" = some (some (.ref fEdr)))
    (fmEdr : PySem.W.isFn K (.ref fEdr) = true)
    (lEdr : K.lookup fEdr = some ⟨ocEdr, odEdr, .func (PySem.W.fnOf "drop" "Deed.drop" (defArgs sEdr) (defBody sEdr) (defScope sEdr) .none kVEdr dcEdr pmEdr anEdr cdEdr ctEdr), slEdr⟩)
    (cEdr : PySem.W.codeIn K cdEdr "Deed.drop" = true)
    (kEdr : PySem.W.keepIn K (.ref fEdr) = true)
    (amEpu : PySem.W.findIn K (.ref DE) "put" = some (some (.ref fEpu)))
    (fmEpu : PySem.W.isFn K (.ref fEpu) = true)
    (lEpu : K.lookup fEpu = some ⟨ocEpu, odEpu, .func (PySem.W.fnOf "put" "Deed.put" (defArgs sEpu) (defBody sEpu) (defScope sEpu) .none kVEpu dcEpu pmEpu anEpu cdEpu ctEpu), slEpu⟩)
    (cEpu : PySem.W.codeIn K cdEpu "Deed.put" = true)
    (kEpu : PySem.W.keepIn K (.ref fEpu) = true)
    (amEtr : PySem.W.findIn K (.ref DE) "trim" = some (some (.ref fEtr)))
    (fmEtr : PySem.W.isFn K (.ref fEtr) = true)
    (lEtr : K.lookup fEtr = some ⟨ocEtr, odEtr, .func (PySem.W.fnOf "trim" "Deed.trim" (defArgs sEtr) (defBody sEtr) (defScope sEtr) .none kVEtr dcEtr pmEtr anEtr cdEtr ctEtr), slEtr⟩)
    (cEtr : PySem.W.codeIn K cdEtr "Deed.trim" = true)
    (kEtr : PySem.W.keepIn K (.ref fEtr) = true)
    (amEho : PySem.W.findIn K (.ref DE) "hollow" = some (some (.ref fEho)))
    (fmEho : PySem.W.isFn K (.ref fEho) = true)
    (lEho : K.lookup fEho = some ⟨ocEho, odEho, .func (PySem.W.fnOf "hollow" "Deed.hollow" (defArgs sEho) (defBody sEho) (defScope sEho) .none kVEho dcEho pmEho anEho cdEho ctEho), slEho⟩)
    (cEho : PySem.W.codeIn K cdEho "Deed.hollow" = true)
    (kEho : PySem.W.keepIn K (.ref fEho) = true)
    (amEsh : PySem.W.findIn K (.ref DE) "share" = some (some (.ref fEsh)))
    (fmEsh : PySem.W.isFn K (.ref fEsh) = true)
    (lEsh : K.lookup fEsh = some ⟨ocEsh, odEsh, .func (PySem.W.fnOf "share" "Deed.share" (defArgs sEsh) (defBody sEsh) (defScope sEsh) .none kVEsh dcEsh pmEsh anEsh cdEsh ctEsh), slEsh⟩)
    (cEsh : PySem.W.codeIn K cdEsh "Deed.share" = true)
    (kEsh : PySem.W.keepIn K (.ref fEsh) = true)
    (amEtw : PySem.W.findIn K (.ref DE) "twin" = some (some (.ref fEtw)))
    (fmEtw : PySem.W.isFn K (.ref fEtw) = true)
    (lEtw : K.lookup fEtw = some ⟨ocEtw, odEtw, .func (PySem.W.fnOf "twin" "Deed.twin" (defArgs sEtw) (defBody sEtw) (defScope sEtw) .none kVEtw dcEtw pmEtw anEtw cdEtw ctEtw), slEtw⟩)
    (cEtw : PySem.W.codeIn K cdEtw "Deed.twin" = true)
    (kEtw : PySem.W.keepIn K (.ref fEtw) = true)
    (amEmo : PySem.W.findIn K (.ref DE) "move" = some (some (.ref fEmo)))
    (fmEmo : PySem.W.isFn K (.ref fEmo) = true)
    (lEmo : K.lookup fEmo = some ⟨ocEmo, odEmo, .func (PySem.W.fnOf "move" "Deed.move" (defArgs sEmo) (defBody sEmo) (defScope sEmo) .none kVEmo dcEmo pmEmo anEmo cdEmo ctEmo), slEmo⟩)
    (cEmo : PySem.W.codeIn K cdEmo "Deed.move" = true)
    (kEmo : PySem.W.keepIn K (.ref fEmo) = true)
    (amEli : PySem.W.findIn K (.ref DE) "set_limit" = some (some (.ref fEli)))
    (fmEli : PySem.W.isFn K (.ref fEli) = true)
    (lEli : K.lookup fEli = some ⟨ocEli, odEli, .func (PySem.W.fnOf "set_limit" "Deed.set_limit" (defArgs sEli) (defBody sEli) (defScope sEli) .none kVEli dcEli pmEli anEli cdEli ctEli), slEli⟩)
    (cEli : PySem.W.codeIn K cdEli "Deed.set_limit" = true)
    (kEli : PySem.W.keepIn K (.ref fEli) = true)
    (amEvi : PySem.W.findIn K (.ref DE) "view" = some (some (.ref fEvi)))
    (fmEvi : PySem.W.isFn K (.ref fEvi) = true)
    (lEvi : K.lookup fEvi = some ⟨ocEvi, odEvi, .func (PySem.W.fnOf "view" "Deed.view" (defArgs sEvi) (defBody sEvi) (defScope sEvi) .none kVEvi dcEvi pmEvi anEvi cdEvi ctEvi), slEvi⟩)
    (cEvi : PySem.W.codeIn K cdEvi "Deed.view" = true)
    (kEvi : PySem.W.keepIn K (.ref fEvi) = true)
    (amEne : PySem.W.findIn K (.ref DE) "news" = some (some (.ref fEne)))
    (fmEne : PySem.W.isFn K (.ref fEne) = true)
    (lEne : K.lookup fEne = some ⟨ocEne, odEne, .func (PySem.W.fnOf "news" "Deed.news" (defArgs sEne) (defBody sEne) (defScope sEne) .none kVEne dcEne pmEne anEne cdEne ctEne), slEne⟩)
    (cEne : PySem.W.codeIn K cdEne "Deed.news" = true)
    (kEne : PySem.W.keepIn K (.ref fEne) = true)
    (amEte : PySem.W.findIn K (.ref DE) "tell_news" = some (some (.ref fEte)))
    (fmEte : PySem.W.isFn K (.ref fEte) = true)
    (lEte : K.lookup fEte = some ⟨ocEte, odEte, .func (PySem.W.fnOf "tell_news" "Deed.tell_news" (defArgs sEte) (defBody sEte) (defScope sEte) .none kVEte dcEte pmEte anEte cdEte ctEte), slEte⟩)
    (cEte : PySem.W.codeIn K cdEte "Deed.tell_news" = true)
    (kEte : PySem.W.keepIn K (.ref fEte) = true)
    (gaK0 : PySem.W.specialIn K (.ref K0) "__getattribute__" = some (some (.builtin "type.__getattribute__")))
    (rdK0 : PySem.W.readsIn K K0 (.type "type") = true)
    (fcK0 : PySem.W.findCls K (.ref K0) (.type "type") "__init__" = some (.val (.ref fKIn)))
    (z0 : PySem.W.nsIn K mainGlobals "isinstance" = some none)
    (z1 : PySem.W.nsIn K mainGlobals "int" = some none)
    (z2 : PySem.W.nsIn K mainGlobals "bool" = some none)
    (z3 : PySem.W.nsIn K mainGlobals "str" = some none)
    (z4 : PySem.W.nsIn K mainGlobals "len" = some none)
    (z5 : PySem.W.nsIn K mainGlobals "range" = some none)
    (z6 : PySem.W.nsIn K mainGlobals "tuple" = some none)
    (z7 : PySem.W.nsIn K mainGlobals "list" = some none)
    (z8 : PySem.W.nsIn K mainGlobals "sorted" = some none)
    (z9 : PySem.W.nsIn K mainGlobals "all" = some none)
    (z10 : PySem.W.nsIn K mainGlobals "zip" = some none)
    (gl0 : PySem.W.nsIn K mainGlobals "SIGNS" = some (some (.str sigS gt0)))
    (gl1 : PySem.W.nsIn K mainGlobals "MOST_SIGNS" = some (some (.int 8 gt1)))
    (gl2 : PySem.W.nsIn K mainGlobals "MOST_NAMES" = some (some (.int 6 gt2)))
    (gl3 : PySem.W.nsIn K mainGlobals "MOST_CELLS" = some (some (.int 40 gt3)))
    (gl4 : PySem.W.nsIn K mainGlobals "MOST_CELL" = some (some (.int 999999 gt4)))
    (gl5 : PySem.W.nsIn K mainGlobals "MOST_LIMIT" = some (some (.int 999 gt5)))
    (eLaw : cdLaw = .ref 981) :
    ∃ fd : FuncData, (∀ (s : Shared) (v : Value), BindsTo s fd ⟨[v], []⟩ [("_law_script", v)]) ∧ ∀ base : Heap, K.In base → base.Ns mainGlobals mg → (∀ t ∈ ([(981, 977)] : List (Addr × Addr)), PySem.W.CodeHd base t.1 t.2) → BltIn base mg → FnOk l.prog w K mg base CX0 9 fa fd ["_law_script"] (spLaw 977 K) := by
  have e := hfa.symm.trans (PySem.W.mg_of X G aLaw)
  cases e
  have T : Txt mg := ⟨PySem.W.mg_none_of X G z0, PySem.W.mg_none_of X G z1, PySem.W.mg_none_of X G z2, PySem.W.mg_none_of X G z3, PySem.W.mg_none_of X G z4, PySem.W.mg_none_of X G z5, PySem.W.mg_none_of X G z6, PySem.W.mg_none_of X G z7, PySem.W.mg_none_of X G z8, PySem.W.mg_none_of X G z9, PySem.W.mg_none_of X G z10, ⟨_, PySem.W.mg_of X G gl0⟩, ⟨_, PySem.W.mg_of X G gl1⟩, ⟨_, PySem.W.mg_of X G gl2⟩, ⟨_, PySem.W.mg_of X G gl3⟩, ⟨_, PySem.W.mg_of X G gl4⟩, ⟨_, PySem.W.mg_of X G gl5⟩⟩
  have FWho := fun_mk (st := sWho) lWho cWho kWho
  have hWho : Has K mg "is_whole" sWho ["thing"] fWho _ := ⟨FWho, FWho.binds (ps := ["thing"]) fun _ _ _ _ _ _ us hl => match us, hl with | [_], _ => rfl, PySem.W.mg_of X G aWho⟩
  have FWth := fun_mk (st := sWth) lWth cWth kWth
  have hWth : Has K mg "is_within" sWth ["thing", "low", "high"] fWth _ := ⟨FWth, FWth.binds (ps := ["thing", "low", "high"]) fun _ _ _ _ _ _ us hl => match us, hl with | [_, _, _], _ => rfl, PySem.W.mg_of X G aWth⟩
  have FWrd := fun_mk (st := sWrd) lWrd cWrd kWrd
  have hWrd : Has K mg "is_word" sWrd ["thing"] fWrd _ := ⟨FWrd, FWrd.binds (ps := ["thing"]) fun _ _ _ _ _ _ us hl => match us, hl with | [_], _ => rfl, PySem.W.mg_of X G aWrd⟩
  have FNof := fun_mk (st := sNof) lNof cNof kNof
  have hNof : Has K mg "names_of" sNof ["path"] fNof _ := ⟨FNof, FNof.binds (ps := ["path"]) fun _ _ _ _ _ _ us hl => match us, hl with | [_], _ => rfl, PySem.W.mg_of X G aNof⟩
  have FCll := fun_mk (st := sCll) lCll cCll kCll
  have hCll : Has K mg "is_cell" sCll ["thing"] fCll _ := ⟨FCll, FCll.binds (ps := ["thing"]) fun _ _ _ _ _ _ us hl => match us, hl with | [_], _ => rfl, PySem.W.mg_of X G aCll⟩
  have FKof := fun_mk (st := sKof) lKof cKof kKof
  have hKof : Has K mg "knot_of" sKof ["stuff"] fKof _ := ⟨FKof, FKof.binds (ps := ["stuff"]) fun _ _ _ _ _ _ us hl => match us, hl with | [_], _ => rfl, PySem.W.mg_of X G aKof⟩
  have FNbt := fun_mk (st := sNbt) lNbt cNbt kNbt
  have hNbt : Has K mg "names_below_top" sNbt ["path"] fNbt _ := ⟨FNbt, FNbt.binds (ps := ["path"]) fun _ _ _ _ _ _ us hl => match us, hl with | [_], _ => rfl, PySem.W.mg_of X G aNbt⟩
  have FNsp := fun_mk (st := sNsp) lNsp cNsp kNsp
  have hNsp : Has K mg "need_span" sNsp ["at", "long"] fNsp _ := ⟨FNsp, FNsp.binds (ps := ["at", "long"]) fun _ _ _ _ _ _ us hl => match us, hl with | [_, _], _ => rfl, PySem.W.mg_of X G aNsp⟩
  have FNcl := fun_mk (st := sNcl) lNcl cNcl kNcl
  have hNcl : Has K mg "need_cells" sNcl ["cells"] fNcl _ := ⟨FNcl, FNcl.binds (ps := ["cells"]) fun _ _ _ _ _ _ us hl => match us, hl with | [_], _ => rfl, PySem.W.mg_of X G aNcl⟩
  have FCel := fun_mk (st := sCel) lCel cCel kCel
  have hCel : Has K mg "_law_at" sCel ["_law_script", "_law_k"] fCel _ := ⟨FCel, FCel.binds (ps := ["_law_script", "_law_k"]) fun _ _ _ _ _ _ us hl => match us, hl with | [_, _], _ => rfl, PySem.W.mg_of X G aCel⟩
  have FMix := fun_mk (st := sMix) lMix cMix kMix
  have hMix : Has K mg "_law_mix" sMix ["_law_cell", "_law_k"] fMix _ := ⟨FMix, FMix.binds (ps := ["_law_cell", "_law_k"]) fun _ _ _ _ _ _ us hl => match us, hl with | [_, _], _ => rfl, PySem.W.mg_of X G aMix⟩
  have FWds := fun_mk (st := sWds) lWds cWds kWds
  have hWds : Has K mg "_law_words" sWds ["_law_cell", "_law_many"] fWds _ := ⟨FWds, FWds.binds (ps := ["_law_cell", "_law_many"]) fun _ _ _ _ _ _ us hl => match us, hl with | [_, _], _ => rfl, PySem.W.mg_of X G aWds⟩
  have FOdp := fun_mk (st := sOdp) lOdp cOdp kOdp
  have hOdp : Has K mg "_law_odd_path" sOdp ["_law_cell", "_law_word"] fOdp _ := ⟨FOdp, FOdp.binds (ps := ["_law_cell", "_law_word"]) fun _ _ _ _ _ _ us hl => match us, hl with | [_, _], _ => rfl, PySem.W.mg_of X G aOdp⟩
  have FPth := fun_mk (st := sPth) lPth cPth kPth
  have hPth : Has K mg "_law_path" sPth ["_law_cell", "_law_words_here"] fPth _ := ⟨FPth, FPth.binds (ps := ["_law_cell", "_law_words_here"]) fun _ _ _ _ _ _ us hl => match us, hl with | [_, _], _ => rfl, PySem.W.mg_of X G aPth⟩
  have FGpa := fun_mk (st := sGpa) lGpa cGpa kGpa
  have hGpa : Has K mg "_law_good_path" sGpa ["_law_path_here", "_law_top"] fGpa _ := ⟨FGpa, FGpa.binds (ps := ["_law_path_here", "_law_top"]) fun _ _ _ _ _ _ us hl => match us, hl with | [_, _], _ => rfl, PySem.W.mg_of X G aGpa⟩
  have FRow := fun_mk (st := sRow) lRow cRow kRow
  have hRow : Has K mg "_law_row" sRow ["_law_cell"] fRow _ := ⟨FRow, FRow.binds (ps := ["_law_cell"]) fun _ _ _ _ _ _ us hl => match us, hl with | [_], _ => rfl, PySem.W.mg_of X G aRow⟩
  have FGro := fun_mk (st := sGro) lGro cGro kGro
  have hGro : Has K mg "_law_good_row" sGro ["_law_row_here"] fGro _ := ⟨FGro, FGro.binds (ps := ["_law_row_here"]) fun _ _ _ _ _ _ us hl => match us, hl with | [_], _ => rfl, PySem.W.mg_of X G aGro⟩
  have FNum := fun_mk (st := sNum) lNum cNum kNum
  have hNum : Has K mg "_law_number" sNum ["_law_cell"] fNum _ := ⟨FNum, FNum.binds (ps := ["_law_cell"]) fun _ _ _ _ _ _ us hl => match us, hl with | [_], _ => rfl, PySem.W.mg_of X G aNum⟩
  have FLwi := fun_mk (st := sLwi) lLwi cLwi kLwi
  have hLwi : Has K mg "_law_within" sLwi ["_law_number_here", "_law_low", "_law_high"] fLwi _ := ⟨FLwi, FLwi.binds (ps := ["_law_number_here", "_law_low", "_law_high"]) fun _ _ _ _ _ _ us hl => match us, hl with | [_, _, _], _ => rfl, PySem.W.mg_of X G aLwi⟩
  have FGsp := fun_mk (st := sGsp) lGsp cGsp kGsp
  have hGsp : Has K mg "_law_good_span" sGsp ["_law_at_here", "_law_long"] fGsp _ := ⟨FGsp, FGsp.binds (ps := ["_law_at_here", "_law_long"]) fun _ _ _ _ _ _ us hl => match us, hl with | [_, _], _ => rfl, PySem.W.mg_of X G aGsp⟩
  have FAsk := fun_mk (st := sAsk) lAsk cAsk kAsk
  have hAsk : Has K mg "_law_ask" sAsk ["_law_cell", "_law_words_here"] fAsk _ := ⟨FAsk, FAsk.binds (ps := ["_law_cell", "_law_words_here"]) fun _ _ _ _ _ _ us hl => match us, hl with | [_, _], _ => rfl, PySem.W.mg_of X G aAsk⟩
  have FDue := fun_mk (st := sDue) lDue cDue kDue
  have hDue : Has K mg "_law_due" sDue ["_law_ask_here"] fDue _ := ⟨FDue, FDue.binds (ps := ["_law_ask_here"]) fun _ _ _ _ _ _ us hl => match us, hl with | [_], _ => rfl, PySem.W.mg_of X G aDue⟩
  have FDoo := fun_mk (st := sDoo) lDoo cDoo kDoo
  have hDoo : Has K mg "_law_do" sDoo ["_law_deed", "_law_ask_here"] fDoo _ := ⟨FDoo, FDoo.binds (ps := ["_law_deed", "_law_ask_here"]) fun _ _ _ _ _ _ us hl => match us, hl with | [_, _], _ => rfl, PySem.W.mg_of X G aDoo⟩
  have FTol := fun_mk (st := sTol) lTol cTol kTol
  have hTol : Has K mg "_law_told" sTol ["_law_deed", "_law_ask_here"] fTol _ := ⟨FTol, FTol.binds (ps := ["_law_deed", "_law_ask_here"]) fun _ _ _ _ _ _ us hl => match us, hl with | [_, _], _ => rfl, PySem.W.mg_of X G aTol⟩
  have FKnd := fun_mk (st := sKnd) lKnd cKnd kKnd
  have hKnd : Has K mg "_law_kind" sKnd ["_law_thing"] fKnd _ := ⟨FKnd, FKnd.binds (ps := ["_law_thing"]) fun _ _ _ _ _ _ us hl => match us, hl with | [_], _ => rfl, PySem.W.mg_of X G aKnd⟩
  have FSam := fun_mk (st := sSam) lSam cSam kSam
  have hSam : Has K mg "_law_same" sSam ["_law_one", "_law_other"] fSam _ := ⟨FSam, FSam.binds (ps := ["_law_one", "_law_other"]) fun _ _ _ _ _ _ us hl => match us, hl with | [_, _], _ => rfl, PySem.W.mg_of X G aSam⟩
  have FAli := fun_mk (st := sAli) lAli cAli kAli
  have hAli : Has K mg "_law_alike" sAli ["_law_told_here", "_law_due_here"] fAli _ := ⟨FAli, FAli.binds (ps := ["_law_told_here", "_law_due_here"]) fun _ _ _ _ _ _ us hl => match us, hl with | [_, _], _ => rfl, PySem.W.mg_of X G aAli⟩
  have FLaw := fun_mk (st := sLaw) lLaw cLaw kLaw
  have oW : XOb K W tailVE := ⟨_, _, _, _, _, _, _, _, _, _, _, _, _, _, _, lW⟩
  have tlW : PySem.W.tailIn K tailVE (.ref W :: tailVE) = true := tail_own lW (ns_ok tNW tCW) tDW (tail_ve K)
  have oNP : XOb K NP (wl W) := ⟨_, _, _, _, _, _, _, _, _, _, _, _, _, _, _, lNP⟩
  have clNP : XCls K NP := ⟨⟨_, by unfold PySem.W.clsIn; rw [lNP], .own NP (.own W .ve), rfl⟩, saNP, gaNP, gtNP, caNP, hn, tk⟩
  have FINP := fun_mk (st := sNPi) lINP cINP kINP
  have hNP : XHas K mg "NoPath" sNPi NP (wl W) fINP _ ["self", "path"] := ⟨⟨oNP, tlW, iCNP, nINP, kNP⟩, clNP, (by simp [wl, tailVE]), PySem.W.mg_of X G aNP, FINP, FINP.binds (ps := ["self", "path"]) fun _ _ _ _ _ _ us hl => match us, hl with | [_, _], _ => rfl⟩
  have oNS : XOb K NS (wl W) := ⟨_, _, _, _, _, _, _, _, _, _, _, _, _, _, _, lNS⟩
  have clNS : XCls K NS := ⟨⟨_, by unfold PySem.W.clsIn; rw [lNS], .own NS (.own W .ve), rfl⟩, saNS, gaNS, gtNS, caNS, hn, tk⟩
  have FINS := fun_mk (st := sNSi) lINS cINS kINS
  have hNS : XHas K mg "NoSpan" sNSi NS (wl W) fINS _ ["self", "at", "long"] := ⟨⟨oNS, tlW, iCNS, nINS, kNS⟩, clNS, (by simp [wl, tailVE]), PySem.W.mg_of X G aNS, FINS, FINS.binds (ps := ["self", "at", "long"]) fun _ _ _ _ _ _ us hl => match us, hl with | [_, _, _], _ => rfl⟩
  have oNC : XOb K NC (wl W) := ⟨_, _, _, _, _, _, _, _, _, _, _, _, _, _, _, lNC⟩
  have clNC : XCls K NC := ⟨⟨_, by unfold PySem.W.clsIn; rw [lNC], .own NC (.own W .ve), rfl⟩, saNC, gaNC, gtNC, caNC, hn, tk⟩
  have hNC : X0Has K mg "NoCells" NC (wl W) := ⟨⟨oNC, tail_own lNC (ns_ok tNNC tCNC) tDNC tlW, kNC⟩, oNC, (by simp [wl, tailVE]), PySem.W.mg_of X G aNC⟩
  have clK0 : Cls K K0 := ⟨pgK0, hdK0, poK0, saK0⟩
  have FKIn := fun_mk (st := sKIn) lKIn cKIn kKIn
  have KInbd := FKIn.binds (ps := ["self", "born"]) fun _ _ _ _ _ _ us hl => match us, hl with | [_, _], _ => rfl
  have KInmk : Mk K K0 fKIn := ⟨mkK0, iiK0, ifK0, kK0⟩
  have KInnm : mg "Knot" = some (.ref K0) := PySem.W.mg_of X G aK0
  have clKD : Cls K KD := ⟨pgKD, hdKD, poKD, saKD⟩
  have FDIn := fun_mk (st := sDIn) lDIn cDIn kDIn
  have DInbd := FDIn.binds (ps := ["self", "born", "limit", "entries"]) fun _ _ _ _ _ _ us hl => match us, hl with | [_, _, _, _], _ => rfl
  have DInmk : Mk K KD fDIn := ⟨mkKD, iiKD, ifKD, kKD⟩
  have DInnm : mg "FolderKnot" = some (.ref KD) := PySem.W.mg_of X G aKD
  have FDSt := fun_mk (st := sDSt) lDSt cDSt kDSt
  have hDSt : MHas K KD "stuff" "FolderKnot.stuff" sDSt ["self"] fDSt _ := ⟨FDSt, FDSt.binds (ps := ["self"]) fun _ _ _ _ _ _ us hl => match us, hl with | [_], _ => rfl, ⟨amDSt, fmDSt, kDSt⟩⟩
  have clDE : Cls K DE := ⟨pgDE, hdDE, poDE, saDE⟩
  have FEIn := fun_mk (st := sEIn) lEIn cEIn kEIn
  have EInbd := FEIn.binds (ps := ["self", "look", "root", "now"]) fun _ _ _ _ _ _ us hl => match us, hl with | [_, _, _, _], _ => rfl
  have EInmk : Mk K DE fEIn := ⟨mkDE, iiDE, ifDE, kDE⟩
  have EInnm : mg "Deed" = some (.ref DE) := PySem.W.mg_of X G aDE
  have FEfo := fun_mk (st := sEfo) lEfo cEfo kEfo
  have hEfo : MHas K DE "folder" "Deed.folder" sEfo ["self", "path"] fEfo _ := ⟨FEfo, FEfo.binds (ps := ["self", "path"]) fun _ _ _ _ _ _ us hl => match us, hl with | [_, _], _ => rfl, ⟨amEfo, fmEfo, kEfo⟩⟩
  have FEdr := fun_mk (st := sEdr) lEdr cEdr kEdr
  have hEdr : MHas K DE "drop" "Deed.drop" sEdr ["self", "path"] fEdr _ := ⟨FEdr, FEdr.binds (ps := ["self", "path"]) fun _ _ _ _ _ _ us hl => match us, hl with | [_, _], _ => rfl, ⟨amEdr, fmEdr, kEdr⟩⟩
  have FEpu := fun_mk (st := sEpu) lEpu cEpu kEpu
  have hEpu : MHas K DE "put" "Deed.put" sEpu ["self", "path", "at", "cells"] fEpu _ := ⟨FEpu, FEpu.binds (ps := ["self", "path", "at", "cells"]) fun _ _ _ _ _ _ us hl => match us, hl with | [_, _, _, _], _ => rfl, ⟨amEpu, fmEpu, kEpu⟩⟩
  have FEtr := fun_mk (st := sEtr) lEtr cEtr kEtr
  have hEtr : MHas K DE "trim" "Deed.trim" sEtr ["self", "path", "size"] fEtr _ := ⟨FEtr, FEtr.binds (ps := ["self", "path", "size"]) fun _ _ _ _ _ _ us hl => match us, hl with | [_, _, _], _ => rfl, ⟨amEtr, fmEtr, kEtr⟩⟩
  have FEho := fun_mk (st := sEho) lEho cEho kEho
  have hEho : MHas K DE "hollow" "Deed.hollow" sEho ["self", "path", "at", "long"] fEho _ := ⟨FEho, FEho.binds (ps := ["self", "path", "at", "long"]) fun _ _ _ _ _ _ us hl => match us, hl with | [_, _, _, _], _ => rfl, ⟨amEho, fmEho, kEho⟩⟩
  have FEsh := fun_mk (st := sEsh) lEsh cEsh kEsh
  have hEsh : MHas K DE "share" "Deed.share" sEsh ["self", "path", "at", "long", "to", "to_at"] fEsh _ := ⟨FEsh, FEsh.binds (ps := ["self", "path", "at", "long", "to", "to_at"]) fun _ _ _ _ _ _ us hl => match us, hl with | [_, _, _, _, _, _], _ => rfl, ⟨amEsh, fmEsh, kEsh⟩⟩
  have FEtw := fun_mk (st := sEtw) lEtw cEtw kEtw
  have hEtw : MHas K DE "twin" "Deed.twin" sEtw ["self", "path", "to"] fEtw _ := ⟨FEtw, FEtw.binds (ps := ["self", "path", "to"]) fun _ _ _ _ _ _ us hl => match us, hl with | [_, _, _], _ => rfl, ⟨amEtw, fmEtw, kEtw⟩⟩
  have FEmo := fun_mk (st := sEmo) lEmo cEmo kEmo
  have hEmo : MHas K DE "move" "Deed.move" sEmo ["self", "path", "to"] fEmo _ := ⟨FEmo, FEmo.binds (ps := ["self", "path", "to"]) fun _ _ _ _ _ _ us hl => match us, hl with | [_, _, _], _ => rfl, ⟨amEmo, fmEmo, kEmo⟩⟩
  have FEli := fun_mk (st := sEli) lEli cEli kEli
  have hEli : MHas K DE "set_limit" "Deed.set_limit" sEli ["self", "path", "many"] fEli _ := ⟨FEli, FEli.binds (ps := ["self", "path", "many"]) fun _ _ _ _ _ _ us hl => match us, hl with | [_, _, _], _ => rfl, ⟨amEli, fmEli, kEli⟩⟩
  have FEvi := fun_mk (st := sEvi) lEvi cEvi kEvi
  have hEvi : MHas K DE "view" "Deed.view" sEvi ["self", "place"] fEvi _ := ⟨FEvi, FEvi.binds (ps := ["self", "place"]) fun _ _ _ _ _ _ us hl => match us, hl with | [_, _], _ => rfl, ⟨amEvi, fmEvi, kEvi⟩⟩
  have FEne := fun_mk (st := sEne) lEne cEne kEne
  have hEne : MHas K DE "news" "Deed.news" sEne ["self"] fEne _ := ⟨FEne, FEne.binds (ps := ["self"]) fun _ _ _ _ _ _ us hl => match us, hl with | [_], _ => rfl, ⟨amEne, fmEne, kEne⟩⟩
  have FEte := fun_mk (st := sEte) lEte cEte kEte
  have hEte : MHas K DE "tell_news" "Deed.tell_news" sEte ["self", "place", "told"] fEte _ := ⟨FEte, FEte.binds (ps := ["self", "place", "told"]) fun _ _ _ _ _ _ us hl => match us, hl with | [_, _, _], _ => rfl, ⟨amEte, fmEte, kEte⟩⟩
  refine ⟨PySem.W.fnOf "law" "law" (defArgs sLaw) (defBody sLaw) (defScope sLaw) .none kVLaw dcLaw pmLaw anLaw cdLaw ctLaw, fun s v => .of_eq rfl, fun base _ _ hC B => ?_⟩
  have nd2 := nd
  simp only [List.nodup_cons, List.mem_cons, List.not_mem_nil, or_false, not_or, not_false_eq_true, List.nodup_nil, and_true] at nd2
  obtain ⟨⟨w1, w2, w3⟩, ⟨g1, g2⟩, g3⟩ := nd2
  let c : Cl := ⟨K0, KD, DE, W, NP, NS, NC⟩
  have cf : CF K mg c := ⟨clKD, clDE, naKD_0, naKD_1, naKD_2, naDE_0, naDE_1, naDE_2, naDE_3, KInnm, DInnm, EInnm, oW, PySem.W.mg_of X G aW, oNP, clNP, PySem.W.mg_of X G aNP, naNP_0, oNS, clNS, PySem.W.mg_of X G aNS, naNS_0, naNS_1, oNC, PySem.W.mg_of X G aNC, g1, g2, g3, Ne.symm w1, Ne.symm w2, Ne.symm w3⟩
  have KIncm : CMeth K c.K0 "__init__" fKIn := ⟨gaK0, rdK0, fcK0, kKIn⟩
  have GNP : FnOk l.prog w K mg base CX0 1 fINP _ ["self", "path"] (spX c.NP "path") := ok_NPi FINP clNP (show NoAttr K NP "path" from naNP_0)
  have GNS : FnOk l.prog w K mg base CX0 1 fINS _ ["self", "at", "long"] (spX2 c.NS "at" "long") := ok_NSi FINS clNS (show NoAttr K NS "at" from naNS_0) (show NoAttr K NS "long" from naNS_1)
  have GWho : FnOk l.prog w K mg base CX0 1 fWho _ ["thing"] spWho0 := ok_Who FWho T
  have GWth : FnOk l.prog w K mg base CX0 2 fWth _ ["thing", "low", "high"] spWth0 := ok_Wth FWth hWho GWho
  have GWrd : FnOk l.prog w K mg base CX0 1 fWrd _ ["thing"] spWrd := ok_Wrd FWrd T
  have GCll : FnOk l.prog w K mg base CX0 3 fCll _ ["thing"] spCll := ok_Cll FCll hWth GWth T
  have GNof : FnOk l.prog w K mg base (CXw l.prog w) 4 fNof _ ["path"] (spNof c) := ok_Nof (c := c) FNof hWrd GWrd hNP GNP T
  have GNbt : FnOk l.prog w K mg base (CXw l.prog w) 5 fNbt _ ["path"] (spNbt c) := ok_Nbt (c := c) FNbt hNof GNof hNP GNP T
  have GNsp : FnOk l.prog w K mg base (CXw l.prog w) 4 fNsp _ ["at", "long"] (spNsp c) := ok_Nsp (c := c) FNsp hWth GWth hNS GNS T
  have GNcl : FnOk l.prog w K mg base (CXw l.prog w) 4 fNcl _ ["cells"] (spNcl c) := ok_Ncl (c := c) FNcl hCll GCll hNC T
  have GEfo : FnOk l.prog w K mg base (CXw l.prog w) 6 fEfo _ ["self", "path"] (spE1 c) := ok_Efo FEfo hNbt GNbt
  have GEdr : FnOk l.prog w K mg base (CXw l.prog w) 6 fEdr _ ["self", "path"] (spE1 c) := ok_Edr FEdr hNbt GNbt
  have GEtw : FnOk l.prog w K mg base (CXw l.prog w) 6 fEtw _ ["self", "path", "to"] (spE2 c) := ok_Etw FEtw hNbt GNbt
  have GEmo : FnOk l.prog w K mg base (CXw l.prog w) 6 fEmo _ ["self", "path", "to"] (spE2 c) := ok_Emo FEmo hNbt GNbt
  have GEpu : FnOk l.prog w K mg base (CXw l.prog w) 6 fEpu _ ["self", "path", "at", "cells"] (spEpu c) := ok_Epu FEpu hNbt GNbt hNcl GNcl hNsp GNsp T
  have GEtr : FnOk l.prog w K mg base (CXw l.prog w) 6 fEtr _ ["self", "path", "size"] (spEtr c false 40) := ok_Etr (c := c) FEtr hNbt GNbt hWth GWth hNS GNS T
  have GEli : FnOk l.prog w K mg base (CXw l.prog w) 6 fEli _ ["self", "path", "many"] (spEtr c true 999) := ok_Eli (c := c) FEli hNof GNof hWth GWth hNS GNS T
  have GEho : FnOk l.prog w K mg base (CXw l.prog w) 6 fEho _ ["self", "path", "at", "long"] (spEho c) := ok_Eho FEho hNbt GNbt hNsp GNsp
  have GEsh : FnOk l.prog w K mg base (CXw l.prog w) 6 fEsh _ ["self", "path", "at", "long", "to", "to_at"] (spEsh c) := ok_Esh FEsh hNbt GNbt hNsp GNsp
  have GLwi : FnOk l.prog w K mg base CX0 1 fLwi _ ["_law_number_here", "_law_low", "_law_high"] spWth0 := ok_Lwi FLwi T
  have GGsp : FnOk l.prog w K mg base CX0 2 fGsp _ ["_law_at_here", "_law_long"] spGsp := ok_Gsp FGsp hLwi GLwi
  have GGro : FnOk l.prog w K mg base CX0 2 fGro _ ["_law_row_here"] spGro := ok_Gro FGro hLwi GLwi T
  have GGpa : FnOk l.prog w K mg base CX0 1 fGpa _ ["_law_path_here", "_law_top"] spGpa := ok_Gpa FGpa T
  have GNum : FnOk l.prog w K mg base CX0 1 fNum _ ["_law_cell"] spNum := ok_Num FNum T
  have GRow : FnOk l.prog w K mg base CX0 1 fRow _ ["_law_cell"] spRow := ok_Row FRow T
  have GOdp : FnOk l.prog w K mg base CX0 1 fOdp _ ["_law_cell", "_law_word"] spOdp := ok_Odp FOdp T
  have GPth : FnOk l.prog w K mg base CX0 2 fPth _ ["_law_cell", "_law_words_here"] spPth := ok_Pth FPth hOdp GOdp T
  have GCel : FnOk l.prog w K mg base CX0 1 fCel _ ["_law_script", "_law_k"] (spCel K) := ok_Cel FCel T
  have GMix : FnOk l.prog w K mg base CX0 1 fMix _ ["_law_cell", "_law_k"] spMix := ok_Mix FMix T
  have GWds : FnOk l.prog w K mg base CX0 2 fWds _ ["_law_cell", "_law_many"] spWds := ok_Wds FWds hMix GMix T
  have GAsk : FnOk l.prog w K mg base CX0 3 fAsk _ ["_law_cell", "_law_words_here"] spAsk := ok_Ask FAsk hMix GMix hPth GPth hNum GNum hRow GRow
  have GDue : FnOk l.prog w K mg base CX0 3 fDue _ ["_law_ask_here"] spDue := ok_Due FDue hGpa GGpa hGro GGro hGsp GGsp hLwi GLwi T
  have GDoo : FnOk l.prog w K mg base (CXw l.prog w) 7 fDoo _ ["_law_deed", "_law_ask_here"] (spDoo c) := ok_Doo FDoo cf hEfo GEfo hEpu GEpu hEtr GEtr hEho GEho hEsh GEsh hEtw GEtw hEmo GEmo hEdr GEdr hEli GEli
  have GTol : FnOk l.prog w K mg base CX0 8 fTol _ ["_law_deed", "_law_ask_here"] (spTol c) := ok_Tol FTol cf hDoo GDoo
  have GKnd : FnOk l.prog w K mg base CX0 1 fKnd _ ["_law_thing"] spKnd := ok_Knd FKnd T
  have GSam : FnOk l.prog w K mg base CX0 2 fSam _ ["_law_one", "_law_other"] spSam := ok_Sam FSam hKnd GKnd
  have GAli : FnOk l.prog w K mg base CX0 3 fAli _ ["_law_told_here", "_law_due_here"] spAli := ok_Ali FAli hSam GSam T
  have GKIn : FnOk l.prog w K mg base CX0 1 fKIn _ ["self", "born"] (spKIn K) := ok_KIn FKIn
  have GDIn : FnOk l.prog w K mg base CX0 2 fDIn _ ["self", "born", "limit", "entries"] (spDIn c) := ok_DIn FDIn cf KIncm GKIn KInbd T
  have GKof : FnOk l.prog w K mg base CX0 4 fKof _ ["stuff"] (spKof c) := ok_Kof FKof cf DInmk DInnm DInbd GDIn
  have GDSt : FnOk l.prog w K mg base CX0 1 fDSt _ ["self"] (spDSt c) := ok_DSt FDSt cf
  have GEIn : FnOk l.prog w K mg base CX0 1 fEIn _ ["self", "look", "root", "now"] (spEIn c) := ok_EIn FEIn cf
  have GEvi : FnOk l.prog w K mg base CX0 6 fEvi _ ["self", "place"] (spEvi c) := ok_Evi FEvi cf hKof GKof
  have GEte : FnOk l.prog w K mg base CX0 1 fEte _ ["self", "place", "told"] (spEte c) := ok_Ete FEte cf
  have GEne : FnOk l.prog w K mg base CX0 2 fEne _ ["self"] (spEne c) := ok_Ene FEne cf hEte GEte T
  exact ok_law FLaw eLaw (hC _ (List.mem_cons_self ..)) B cf hCel GCel hWds GWds hAsk GAsk hDue GDue hTol GTol hAli GAli EInmk EInnm EInbd GEIn hEvi GEvi hEne GEne hDSt GDSt T
theorem walkL {l : PySem.W.OpenLaw} {q : Program} {loose : List Str} {XP : (Str → Option Value) → Heap → Prop} {YP : World → Heap → Prop} {d : DefRec} {K : Params → PySem.W.Frag} (hn : l.most = some 63) (hdf : d.params.defaults = [])
    (hY : ∀ (w : World) (h : Heap), YP w h → (K w.params).In h ∧ PySem.W.TabsAt [(981, 977)] h) (hTK : ∀ (w : World), ∀ t ∈ ([(981, 977)] : List (Addr × Addr)), (K w.params).lookup t.2 = none)
    (F : ∀ (w : World) (mg : Str → Option Value) (fa : Addr) (h : Heap), (K w.params).In h → h.Ns mainGlobals mg → mg d.name = some (.ref fa) →
      ∃ fd : FuncData, (∀ (s : Shared) (u : Value), BindsTo s fd ⟨[u], []⟩ [("_law_script", u)]) ∧ ∀ base : Heap, (K w.params).In base → base.Ns mainGlobals mg → (∀ t ∈ ([(981, 977)] : List (Addr × Addr)), PySem.W.CodeHd base t.1 t.2) → BltIn base mg → FnOk l.prog w (K w.params) mg base CX0 9 fa fd ["_law_script"] (spLaw 977 (K w.params))) :
    PySem.W.WalkO q loose XP YP l.row.toRowW d [] (fun f vs => PySem.call f vs) :=
  L2.walk_tab (n := 63) (k := 9) (x := "_law_script") (CX := fun _ => CX0) (sp := fun w => spLaw 977 (K w.params)) (tabs := [(981, 977)]) hn (by decide) hdf ⟨fun _ => rfl, by decide, by decide⟩ hY hTK F
    (fun _ _ a ns hl hS hT => ⟨a, ns, rfl, hS, hl, hT _ (List.mem_cons_self ..), fun _ ps e => ⟨rfl, List.forall_mem_cons.mpr ⟨⟨ps, e⟩, fun _ h => nomatch h⟩⟩⟩) fun _ _ _ _ _ z => z
end K43
open PySem PySem.W PyProof.Rows
set_option maxRecDepth 100000
set_option maxHeartbeats 0
def PySem.W.Fast.tw10438690241644897654 : Unit := ()
def PySem.W.Fast.tw10166105484301575855 : Unit := ()
def PySem.W.Fast.tw11550712077707995178 : Unit := ()
def PySem.W.Fast.tw1287461145347433980 : Unit := ()
def PySem.W.Fast.tw17663466618720143656 : Unit := ()
def PySem.W.Fast.tw17472233153543317831 : Unit := ()
def PySem.W.Fast.tw12563890654850658479 : Unit := ()
def PySem.W.Fast.tw11607914098102365349 : Unit := ()
def PySem.W.Fast.tw11510738159639023411 : Unit := ()
def PySem.W.Fast.tw15290957012649839726 : Unit := ()
def PySem.W.Fast.tw10889483178283394743 : Unit := ()
def PySem.W.Fast.tw15308562356119258755 : Unit := ()
def PySem.W.Fast.tw4714716047027158452 : Unit := ()
def PySem.W.Fast.tw13180052894357222807 : Unit := ()
def PySem.W.Fast.tw6041525097596908840 : Unit := ()
def PySem.W.Fast.tw6597672023360854066 : Unit := ()
def PySem.W.Fast.tw8559602609110950447 : Unit := ()
def PySem.W.Fast.tw3284598286812567682 : Unit := ()
def PySem.W.Fast.tw60596822699740292 : Unit := ()
def PySem.W.Fast.tw5749159211613595503 : Unit := ()
def PySem.W.Fast.tw12179201237616065525 : Unit := ()
def PySem.W.Fast.tw18440736815893935028 : Unit := ()
def PySem.W.Fast.tw13441248664300612230 : Unit := ()
def PySem.W.Fast.tw6210787143531056931 : Unit := ()
def PySem.W.Fast.tw12196630520005375233 : Unit := ()
def PySem.W.Fast.tw7921331754002875249 : Unit := ()
def PySem.W.Fast.tw4967065151972999131 : Unit := ()
def PySem.W.Fast.tw8609854733987331610 : Unit := ()
def PySem.W.Fast.tw14038036527936595384 : Unit := ()
def PySem.W.Fast.tw6878356238095868525 : Unit := ()
def PySem.W.Fast.tw8657168096113278994 : Unit := ()
def PySem.W.Fast.tw17610246279908584756 : Unit := ()
def PySem.W.Fast.tw5890138005919404318 : Unit := ()
def PySem.W.Fast.tw6017791940379050921 : Unit := ()
def PySem.W.Fast.tw10218072878660509417 : Unit := ()
def PySem.W.Fast.tw3535060307231446831 : Unit := ()
def PySem.W.Fast.tw16677004711012038544 : Unit := ()
def PySem.W.Fast.tw3341253508410405995 : Unit := ()
def PySem.W.Fast.tw6709224907826407174 : Unit := ()
def PySem.W.Fast.tw3941295472048758948 : Unit := ()
def PySem.W.Fast.tw6601521630007515305 : Unit := ()
def PySem.W.Fast.tw15786613110266069015 : Unit := ()
def PySem.W.Fast.tw3491337766490269379 : Unit := ()
def PySem.W.Fast.tw7356381822035082066 : Unit := ()
def PySem.W.Fast.tw11383351084766371162 : Unit := ()
def PySem.W.Fast.tw8942448396189615659 : Unit := ()
def PySem.W.Fast.tw2803689480454948715 : Unit := ()
def PySem.W.Fast.tw15703987361004585465 : Unit := ()
def PySem.W.Fast.tw16169707608112512419 : Unit := ()
def PySem.W.Fast.tw17978212964687166786 : Unit := ()
def PySem.W.Fast.tw12235184072562706164 : Unit := ()
def PySem.W.Fast.tw1621765951290142358 : Unit := ()
def PySem.W.Fast.tw9136650257539472306 : Unit := ()
def PySem.W.Fast.tw15640787014048687779 : Unit := ()
def PySem.W.Fast.tw11833167286658820891 : Unit := ()
def PySem.W.Fast.tw1572514822217211135 : Unit := ()
def PySem.W.Fast.tw8037844866235008910 : Unit := ()
def PySem.W.Fast.tw8007008190510680390 : Unit := ()
def PySem.W.Fast.tw7506977924795920779 : Unit := ()
def PySem.W.Fast.tw16392281639230450076 : Unit := ()
def PySem.W.Fast.tw4050850538604211005 : Unit := ()
def PySem.W.Fast.tw1441934764021583988 : Unit := ()
def PySem.W.Fast.tw798702908444342495 : Unit := ()
def PySem.W.Fast.tw9810845717766130426 : Unit := ()
def PySem.W.Fast.tw5593890364962198600 : Unit := ()
def PySem.W.Fast.tw699284992590539931 : Unit := ()
def PySem.W.Fast.tw16380195598309621676 : Unit := ()
def PySem.W.Fast.tw18319414675944240899 : Unit := ()
def PySem.W.Fast.tw17410798191924263699 : Unit := ()
def PySem.W.Fast.tw12722623729283494207 : Unit := ()
def PySem.W.Fast.tw71036396875987304 : Unit := ()
def PySem.W.Fast.tw5203134561171325089 : Unit := ()
def PySem.W.Fast.tw2395628144980172834 : Unit := ()
def PySem.W.Fast.tw8247337576219661675 : Unit := ()
def PySem.W.Fast.tw10052453064642961530 : Unit := ()
def PySem.W.Fast.tw14246155848974272146 : Unit := ()
def PySem.W.Fast.tw16482123480517399012 : Unit := ()
def PySem.W.Fast.tw1300479521756872562 : Unit := ()
def PySem.W.Fast.tw7335043047530596071 : Unit := ()
def PySem.W.Fast.tw7353080741149687860 : Unit := ()
def PySem.W.Fast.tw12389563375276787714 : Unit := ()
def PySem.W.Fast.tw15298494188549125069 : Unit := ()
def PySem.W.Fast.tw1770918556827874325 : Unit := ()
def PySem.W.Fast.tw8460773170171200169 : Unit := ()
def PySem.W.Fast.tw2080681913579495833 : Unit := ()
def PySem.W.Fast.tw2248348633759067192 : Unit := ()
def PySem.W.Fast.tw14072478419714830431 : Unit := ()
def PySem.W.Fast.tw16358314211516978561 : Unit := ()
def PySem.W.Fast.tw3897425881774029122 : Unit := ()
def PySem.W.Fast.tw5796018268369821631 : Unit := ()
def PySem.W.Fast.tw17735445316256080665 : Unit := ()
def PySem.W.Fast.tw7731098568770838973 : Unit := ()
def PySem.W.Fast.tw691362879577313997 : Unit := ()
def PySem.W.Fast.tw7987908768116832160 : Unit := ()
def PySem.W.Fast.tw4888223590023421527 : Unit := ()
def PySem.W.Fast.tw8782664195309196736 : Unit := ()
def PySem.W.Fast.tw8316134113371889128 : Unit := ()
def PySem.W.Fast.tw14072448968549351743 : Unit := ()
def PySem.W.Fast.tw2629367145299440823 : Unit := ()
def PySem.W.Fast.tw16735330929702106715 : Unit := ()
def PySem.W.Fast.tw214179417718369991 : Unit := ()
def PySem.W.Fast.tw4720850239922618 : Unit := ()
def PySem.W.Fast.tw14809100176381250602 : Unit := ()
def PySem.W.Fast.tw656330703899025607 : Unit := ()
def PySem.W.Fast.tw17534089407764564098 : Unit := ()
def PySem.W.Fast.tw701044689154182253 : Unit := ()
def PySem.W.Fast.tw12542833421960786265 : Unit := ()
def PySem.W.Fast.tw5483952931907569106 : Unit := ()
def PySem.W.Fast.tw16306460632230427926 : Unit := ()
def PySem.W.Fast.tw2903577951823022305 : Unit := ()
def PySem.W.Fast.tw1448801114862114313 : Unit := ()
def PySem.W.Fast.tw148542811465586893 : Unit := ()
def PySem.W.Fast.tw9014538280142282039 : Unit := ()
def PySem.W.Fast.tw7020303219985961579 : Unit := ()
def PySem.W.Fast.tw18369590978180881572 : Unit := ()
def PySem.W.Fast.tw9592560115772302153 : Unit := ()
def PySem.W.Fast.tw12999957421676292566 : Unit := ()
def PySem.W.Fast.tw12532798158961309930 : Unit := ()
def PySem.W.Fast.tw391962479119166764 : Unit := ()
def PySem.W.Fast.tw6853755491670645446 : Unit := ()
def PySem.W.Fast.tw11533870811567611453 : Unit := ()
def PySem.W.Fast.tw12662869893883129540 : Unit := ()
def PySem.W.Fast.tw17524723758220398465 : Unit := ()
def PySem.W.Fast.tw14065317662191785884 : Unit := ()
def PySem.W.Fast.tw3442901316463454560 : Unit := ()
def PySem.W.Fast.tw11005426869282219796 : Unit := ()
def PySem.W.Fast.tw3023485988837925695 : Unit := ()
def PySem.W.Fast.tw8974056372972332412 : Unit := ()
def PySem.W.Fast.tw8181509574391728590 : Unit := ()
def PySem.W.Fast.tw8030246591915081213 : Unit := ()
def PySem.W.Fast.tw2013775276758776001 : Unit := ()
def PySem.W.Fast.tw4682051872061107741 : Unit := ()
def PySem.W.Fast.tw7628945093427192190 : Unit := ()
def PySem.W.Fast.tw964590523412134894 : Unit := ()
def PySem.W.Fast.tw17902049111662455739 : Unit := ()
def PySem.W.Fast.tw17583367916176820456 : Unit := ()
def PySem.W.Fast.tw12988073425209030725 : Unit := ()
def PySem.W.Fast.tw1699608544419887104 : Unit := ()
def PySem.W.Fast.tw18173206922457324462 : Unit := ()
def PySem.W.Fast.tw14759632450187521060 : Unit := ()
def PySem.W.Fast.tw13948575324144026096 : Unit := ()
def PySem.W.Fast.tw18358701704120023065 : Unit := ()
def PySem.W.Fast.tw1996640943161369497 : Unit := ()
def PySem.W.Fast.tw7674893865463587884 : Unit := ()
def PySem.W.Fast.tw14547241402828873088 : Unit := ()
def PySem.W.Fast.tw625767198631983012 : Unit := ()
def PySem.W.Fast.tw17829569757995723143 : Unit := ()
def PySem.W.Fast.tw2739873089401881847 : Unit := ()
def PySem.W.Fast.tw5886271301603347854 : Unit := ()
def PySem.W.Fast.tw2321884212298781810 : Unit := ()
def PySem.W.Fast.tw11641774434195149454 : Unit := ()
def PySem.W.Fast.tw16475194014312469904 : Unit := ()
def PySem.W.Fast.tw15472694278941200024 : Unit := ()
def PySem.W.Fast.tw2235945163022986561 : Unit := ()
def PySem.W.Fast.tw12901663732207773369 : Unit := ()
def PySem.W.Fast.tw11527420658842797324 : Unit := ()
def PySem.W.Fast.tw11967236297202803763 : Unit := ()
def PySem.W.Fast.tw15674166890232459362 : Unit := ()
def PySem.W.Fast.tw14814057326686253071 : Unit := ()
def PySem.W.Fast.tw16009708416427504966 : Unit := ()
def PySem.W.Fast.tw10225220036288549624 : Unit := ()
def PySem.W.Fast.tw12785591529169130724 : Unit := ()
def PySem.W.Fast.tw15841981844670424157 : Unit := ()
def PySem.W.Fast.tw4484395857994680949 : Unit := ()
def PySem.W.Fast.tw3147234746869214533 : Unit := ()
def PySem.W.Fast.tw4389156231240396491 : Unit := ()
def PySem.W.Fast.tw15309997272542886378 : Unit := ()
def PySem.W.Fast.tw12116852733993913796 : Unit := ()
def PySem.W.Fast.tw14418857535738758024 : Unit := ()
def PySem.W.Fast.tw2904026844476696853 : Unit := ()
def PySem.W.Fast.tw18149480662574133730 : Unit := ()
def PySem.W.Fast.tw6065902386442065955 : Unit := ()
def PySem.W.Fast.tw13633957609438592869 : Unit := ()
def PySem.W.Fast.tw13637453456282970030 : Unit := ()
def PySem.W.Fast.tw5526017222095172488 : Unit := ()
def PySem.W.Fast.tw13228502367772359839 : Unit := ()
def PySem.W.Fast.tw17259844588015959359 : Unit := ()
def PySem.W.Fast.tw14249780365317775737 : Unit := ()
def PySem.W.Fast.tw12937239822097969459 : Unit := ()
def PySem.W.Fast.tw5841051652942002528 : Unit := ()
def PySem.W.Fast.tw2004157561786783936 : Unit := ()
def PySem.W.Fast.tw737768082881419225 : Unit := ()
def PySem.W.Fast.tw15119825215858539550 : Unit := ()
def PySem.W.Fast.tw942520374583495578 : Unit := ()
def PySem.W.Fast.tw4731786379941840826 : Unit := ()
def PySem.W.Fast.tw16833104112061735229 : Unit := ()
def PySem.W.Fast.tw8442272191535816763 : Unit := ()
def PySem.W.Fast.tw8061971792066103560 : Unit := ()
def PySem.W.Fast.tw2594131499517507096 : Unit := ()
def PySem.W.Fast.tw4102973959861136611 : Unit := ()
def PySem.W.Fast.tw14391601058894594507 : Unit := ()
def PySem.W.Fast.tw1542073671354758474 : Unit := ()
def PySem.W.Fast.tw17690322107634518171 : Unit := ()
def PySem.W.Fast.tw11946289110099426301 : Unit := ()
def PySem.W.Fast.tw10370416314465048090 : Unit := ()
def PySem.W.Fast.tw5099186524683257685 : Unit := ()
def PySem.W.Fast.tw460291257328211857 : Unit := ()
def PySem.W.Fast.tw2035028634859486267 : Unit := ()
def PySem.W.Fast.tw16416523129634462617 : Unit := ()
def PySem.W.Fast.tw252143275370284727 : Unit := ()
def PySem.W.Fast.tw766761459029524602 : Unit := ()
def PySem.W.Fast.tw16377349259165846478 : Unit := ()
def PySem.W.Fast.tw17750040992287914778 : Unit := ()
def PySem.W.Fast.tw7180420041954397773 : Unit := ()
def PySem.W.Fast.tw2863793023710881049 : Unit := ()
def PySem.W.Fast.tw7710240273098644730 : Unit := ()
def PySem.W.Fast.tw5326879567775542993 : Unit := ()
def PySem.W.Fast.tw17011772096641466741 : Unit := ()
def PySem.W.Fast.tw14007926192696500122 : Unit := ()
def PySem.W.Fast.tw5469282048144468161 : Unit := ()
def PySem.W.Fast.tw1759607530564022248 : Unit := ()
def PySem.W.Fast.tw1366906975427058357 : Unit := ()
def PySem.W.Fast.tw2197910467536471323 : Unit := ()
def PySem.W.Fast.tw8148400395199202019 : Unit := ()
def PySem.W.Fast.tw3576358802788042383 : Unit := ()
def PySem.W.Fast.tw17230484323538675141 : Unit := ()
def PySem.W.Fast.tw9613949597822006987 : Unit := ()
def PySem.W.Fast.tw12252515241363484823 : Unit := ()
def PySem.W.Fast.tw4858104793863945224 : Unit := ()
def PySem.W.Fast.tw24400870845896698 : Unit := ()
def PySem.W.Fast.tw5076244801261890104 : Unit := ()
def PySem.W.Fast.tw10038650572867607930 : Unit := ()
def PySem.W.Fast.tw10807821028200976784 : Unit := ()
def PySem.W.Fast.tw1019233705196480660 : Unit := ()
def PySem.W.Fast.tw15381533874098961195 : Unit := ()
def PySem.W.Fast.tw545959935369712174 : Unit := ()
def PySem.W.Fast.tw18264404561496199668 : Unit := ()
def PySem.W.Fast.tw10248618171844923891 : Unit := ()
def PySem.W.Fast.tw11537939536288567192 : Unit := ()
def PySem.W.Fast.tw1116020848545023086 : Unit := ()
def PySem.W.Fast.tw3552163973650123011 : Unit := ()
def PySem.W.Fast.tw3875074879707760591 : Unit := ()
def PySem.W.Fast.tw7643774592711743337 : Unit := ()
def PySem.W.Fast.tw15269679554362065542 : Unit := ()
def PySem.W.Fast.tw14010772778915865515 : Unit := ()
def PySem.W.Fast.tw10366073742472436154 : Unit := ()
def PySem.W.Fast.tw15963055521293787504 : Unit := ()
def PySem.W.Fast.tw13136251469736136828 : Unit := ()
def PySem.W.Fast.tw6924136230427763197 : Unit := ()
def PySem.W.Fast.tw11659759357935964869 : Unit := ()
def PySem.W.Fast.tw5045261968317137299 : Unit := ()
def PySem.W.Fast.tw3339003863520376917 : Unit := ()
def PySem.W.Fast.tw15850076475273836352 : Unit := ()
def PySem.W.Fast.tw648240388171419414 : Unit := ()
def PySem.W.Fast.tw9357945361420999551 : Unit := ()
def PySem.W.Fast.tw10287397483041499310 : Unit := ()
def PySem.W.Fast.tw13475122783151414471 : Unit := ()
def PySem.W.Fast.tw6878647308544347465 : Unit := ()
def PySem.W.Fast.tw9545294059497264263 : Unit := ()
def PySem.W.Fast.tw16993603170150008379 : Unit := ()
def PySem.W.Fast.tw11255326188795130370 : Unit := ()
def PySem.W.Fast.tw4061816685443224602 : Unit := ()
def PySem.W.Fast.tw4095965398047868128 : Unit := ()
def PySem.W.Fast.tw16358386579427872476 : Unit := ()
def PySem.W.Fast.tw10210461600810675228 : Unit := ()
def PySem.W.Fast.tw9229877476094708422 : Unit := ()
def PySem.W.Fast.tw2458056768738875532 : Unit := ()
def PySem.W.Fast.tw16310187846869374575 : Unit := ()
def PySem.W.Fast.tw17620318711298810425 : Unit := ()
def PySem.W.Fast.tw2634349814841558715 : Unit := ()
def PySem.W.Fast.tw444795664729136099 : Unit := ()
def PySem.W.Fast.tw7839058926150912564 : Unit := ()
def PySem.W.Fast.tw2138691215930801043 : Unit := ()
def PySem.W.Fast.tw14118721935028762484 : Unit := ()
def PySem.W.Fast.tw16120793846555189456 : Unit := ()
def PySem.W.Fast.tw13583956604993615187 : Unit := ()
def PySem.W.Fast.tw10449367798077945661 : Unit := ()
def PySem.W.Fast.tw15919568596618727378 : Unit := ()
def PySem.W.Fast.tw2946925110766081201 : Unit := ()
def PySem.W.Fast.tw2856673532878825375 : Unit := ()
def PySem.W.Fast.tw6882932381555568558 : Unit := ()
def PySem.W.Fast.tw15191684787538654837 : Unit := ()
def PySem.W.Fast.tw12487225800456647576 : Unit := ()
def PySem.W.Fast.tw351840633409294321 : Unit := ()
def PySem.W.Fast.tw2504106584675640793 : Unit := ()
def PySem.W.Fast.tw5975658920503365038 : Unit := ()
def PySem.W.Fast.tw9674018880978248120 : Unit := ()
def PySem.W.Fast.tw3058854099068373286 : Unit := ()
def PySem.W.Fast.tw7931516125502168815 : Unit := ()
def PySem.W.Fast.tw5161752559514864330 : Unit := ()
def PySem.W.Fast.tw6343257514236028091 : Unit := ()
def PySem.W.Fast.tw9361561108338973544 : Unit := ()
def PySem.W.Fast.tw5855284335631823860 : Unit := ()
def PySem.W.Fast.tw13541813905857488043 : Unit := ()
def PySem.W.Fast.tw17085162759796919539 : Unit := ()
def PySem.W.Fast.tw14192132442147221038 : Unit := ()
def PySem.W.Fast.tw829620504728739976 : Unit := ()
def PySem.W.Fast.tw11452109247559154547 : Unit := ()
def PySem.W.Fast.tw13083907447320103092 : Unit := ()
def PySem.W.Fast.tw1175653619410087521 : Unit := ()
def PySem.W.Fast.tw8672388530371047552 : Unit := ()
def PySem.W.Fast.tw10568370980224352152 : Unit := ()
def PySem.W.Fast.tw4323680745435260610 : Unit := ()
def PySem.W.Fast.tw1916916936538843690 : Unit := ()
def PySem.W.Fast.tw7701617337839032299 : Unit := ()
def PySem.W.Fast.tw9507222735495581434 : Unit := ()
def PySem.W.Fast.tw17904118889581088113 : Unit := ()
def PySem.W.Fast.tw14839800998250797747 : Unit := ()
def PySem.W.Fast.tw3887044847417710750 : Unit := ()
def PySem.W.Fast.tw8372444357584707363 : Unit := ()
def PySem.W.Fast.tw17784095717647740279 : Unit := ()
def PySem.W.Fast.tw8351968021625651537 : Unit := ()
def PySem.W.Fast.tw11034618411135405124 : Unit := ()
def PySem.W.Fast.tw5062556725732702602 : Unit := ()
def PySem.W.Fast.tw9020177651551802361 : Unit := ()
def PySem.W.Fast.tw7470205836524160892 : Unit := ()
def PySem.W.Fast.tw9154884440009048187 : Unit := ()
def PySem.W.Fast.tw9639023714097096507 : Unit := ()
def PySem.W.Fast.tw18106950829600974178 : Unit := ()
def PySem.W.Fast.tw7605922790524466051 : Unit := ()
def PySem.W.Fast.tw9497393478091005493 : Unit := ()
def PySem.W.Fast.tw3387617423143544680 : Unit := ()
def PySem.W.Fast.tw7055188335831931157 : Unit := ()
def PySem.W.Fast.tw13245084316492749823 : Unit := ()
def PySem.W.Fast.tw2171557923901738203 : Unit := ()
def PySem.W.Fast.tw7943603993423709094 : Unit := ()
def PySem.W.Fast.tw16832543446149494473 : Unit := ()
def PySem.W.Fast.tw11555539902018737372 : Unit := ()
def PySem.W.Fast.tw17125760786799562919 : Unit := ()
def PySem.W.Fast.tw4257690773526596394 : Unit := ()
def PySem.W.Fast.tw13878178879267078974 : Unit := ()
def PySem.W.Fast.tw10629277038652869030 : Unit := ()
def PySem.W.Fast.tw8513880639906401625 : Unit := ()
def PySem.W.Fast.tw10275712952807486132 : Unit := ()
def PySem.W.Fast.tw3306351965367537383 : Unit := ()
def PySem.W.Fast.tw11254373809096020470 : Unit := ()
def PySem.W.Fast.tw1481743991343869781 : Unit := ()
def PySem.W.Fast.tw5851878755588835875 : Unit := ()
def PySem.W.Fast.tw6625199342630637516 : Unit := ()
def PySem.W.Fast.tw7379623294961795060 : Unit := ()
def PySem.W.Fast.tw9185343802163884822 : Unit := ()
def PySem.W.Fast.tw16253949440045297363 : Unit := ()
def PySem.W.Fast.tw8291359009599730159 : Unit := ()
def PySem.W.Fast.tw9315247421851626397 : Unit := ()
def PySem.W.Fast.tw11928344705796304552 : Unit := ()
def PySem.W.Fast.tw27958407080012530 : Unit := ()
def PySem.W.Fast.tw12589057545010237060 : Unit := ()
def PySem.W.Fast.tw1770086985453597198 : Unit := ()
def PySem.W.Fast.tw11962077402071995727 : Unit := ()
def PySem.W.Fast.tw15307645285646287794 : Unit := ()
def PySem.W.Fast.tw18192631758565498293 : Unit := ()
def PySem.W.Fast.tw2363848767088883801 : Unit := ()
def PySem.W.Fast.tw16430784552409549824 : Unit := ()
def PySem.W.Fast.tw8607720135590560973 : Unit := ()
def PySem.W.Fast.tw5063862853723895666 : Unit := ()
def PySem.W.Fast.tw11585789095423307836 : Unit := ()
def PySem.W.Fast.tw5672096262086008306 : Unit := ()
def PySem.W.Fast.tw4777567695933702479 : Unit := ()
def PySem.W.Fast.tw6124823645061223563 : Unit := ()
def PySem.W.Fast.tw3965528358950279447 : Unit := ()
def PySem.W.Fast.tw16953184502911522202 : Unit := ()
def PySem.W.Fast.tw11842706928650653298 : Unit := ()
def PySem.W.Fast.tw9216854662146240394 : Unit := ()
def PySem.W.Fast.tw17335507821562939325 : Unit := ()
def PySem.W.Fast.tw1454135906864031825 : Unit := ()
def PySem.W.Fast.tw7339842064765333978 : Unit := ()
def PySem.W.Fast.tw11846125296680073688 : Unit := ()
def PySem.W.Fast.tw99449502601153583 : Unit := ()
def PySem.W.Fast.tw17855384827639625159 : Unit := ()
def PySem.W.Fast.tw7012395727102853709 : Unit := ()
def PySem.W.Fast.tw5104546202153113197 : Unit := ()
def PySem.W.Fast.tw6538631480252054381 : Unit := ()
def PySem.W.Fast.tw145058812391292698 : Unit := ()
def PySem.W.Fast.tw5560941798815406622 : Unit := ()
def PySem.W.Fast.tw13493193207819698262 : Unit := ()
def PySem.W.Fast.tw7470703253676564378 : Unit := ()
def PySem.W.Fast.tw7623490569444010422 : Unit := ()
def PySem.W.Fast.tw1061985034156941736 : Unit := ()
def PySem.W.Fast.tw11953187911854523537 : Unit := ()
def PySem.W.Fast.tw6559731155404781073 : Unit := ()
def PySem.W.Fast.tw5322056678427107613 : Unit := ()
def PySem.W.Fast.tw11454474326310512339 : Unit := ()
def PySem.W.Fast.tw14368762009870053811 : Unit := ()
def PySem.W.Fast.tw9688222319945111501 : Unit := ()
def PySem.W.Fast.tw10129525407684337290 : Unit := ()
def PySem.W.Fast.tw2417337553219745485 : Unit := ()
def PySem.W.Fast.tw12727828443320982697 : Unit := ()
def PySem.W.Fast.tw568427955432218645 : Unit := ()
def PySem.W.Fast.tw7801767227665806214 : Unit := ()
def PySem.W.Fast.tw3123037867295531769 : Unit := ()
def PySem.W.Fast.tw15727594892978203045 : Unit := ()
def PySem.W.Fast.tw12724480316650024366 : Unit := ()
def PySem.W.Fast.tw11253964065661116493 : Unit := ()
def PySem.W.Fast.tw18285494219765368331 : Unit := ()
def PySem.W.Fast.tw18171828096947558390 : Unit := ()
def PySem.W.Fast.tw15507207902750299740 : Unit := ()
def PySem.W.Fast.tw10101677895030822535 : Unit := ()
def PySem.W.Fast.tw12067050500526582521 : Unit := ()
def PySem.W.Fast.tw5406095934734034276 : Unit := ()
def PySem.W.Fast.tw11957662675096298209 : Unit := ()
def PySem.W.Fast.tw2345663702160216780 : Unit := ()
def PySem.W.Fast.tw12724342523458127792 : Unit := ()
def PySem.W.Fast.tw14628008596645690591 : Unit := ()
def PySem.W.Fast.tw15691554080364828511 : Unit := ()
def PySem.W.Fast.tw680321127378978759 : Unit := ()
def PySem.W.Fast.tw16768111682503959975 : Unit := ()
def PySem.W.Fast.tw10514869883630066474 : Unit := ()
def PySem.W.Fast.tw10128235448398172912 : Unit := ()
def PySem.W.Fast.tw9066133893073173146 : Unit := ()
def PySem.W.Fast.tw11570548212126832802 : Unit := ()
def PySem.W.Fast.tw18223256837412399465 : Unit := ()
def PySem.W.Fast.tw2699793641109602358 : Unit := ()
def PySem.W.Fast.tw7073565458557221324 : Unit := ()
def PySem.W.Fast.tw11458492424100732981 : Unit := ()
def PySem.W.Fast.tw16561965691605362879 : Unit := ()
def PySem.W.Fast.tw7651201519944978389 : Unit := ()
def PySem.W.Fast.tw13725793424818890106 : Unit := ()
def PySem.W.Fast.tw12660654435032280076 : Unit := ()
def PySem.W.Fast.tw7031987458651209673 : Unit := ()
def PySem.W.Fast.tw10974643106261589166 : Unit := ()
def PySem.W.Fast.tw13669881712578682558 : Unit := ()
def PySem.W.Fast.tw673413948520804891 : Unit := ()
def PySem.W.Fast.tw12310950830942218520 : Unit := ()
def PySem.W.Fast.tw6177604667722335439 : Unit := ()
def PySem.W.Fast.tw11326979978755639507 : Unit := ()
def PySem.W.Fast.tw13655081465673669455 : Unit := ()
def PySem.W.Fast.tw10409907067181091039 : Unit := ()
def PySem.W.Fast.tw1875953565401190545 : Unit := ()
def PySem.W.Fast.tw10949020113353873131 : Unit := ()
def PySem.W.Fast.tw18116608763237928509 : Unit := ()
def PySem.W.Fast.tw7512186111897719522 : Unit := ()
def PySem.W.Fast.tw984753450727058255 : Unit := ()
def PySem.W.Fast.tw13726353170414044491 : Unit := ()
def PySem.W.Fast.tw1712032508170964112 : Unit := ()
def PySem.W.Fast.tw9306226769609545577 : Unit := ()
def PySem.W.Fast.tw10367829055653383210 : Unit := ()
def PySem.W.Fast.tw2188493136006392562 : Unit := ()
def PySem.W.Fast.tw8557383771287371347 : Unit := ()
def PySem.W.Fast.tw17319833397886036515 : Unit := ()
def PySem.W.Fast.tw9188963127042095985 : Unit := ()
def PySem.W.Fast.tw1713891774661526217 : Unit := ()
def PySem.W.Fast.tw13972851287451931974 : Unit := ()
def PySem.W.Fast.tw15161628581471674403 : Unit := ()
def PySem.W.Fast.tw10496802620838426668 : Unit := ()
def PySem.W.Fast.tw2301664324148562372 : Unit := ()
def PySem.W.Fast.tw1347975123289765902 : Unit := ()
def PySem.W.Fast.tw10359130024276188850 : Unit := ()
def PySem.W.Fast.tw12901353366675029175 : Unit := ()
def PySem.W.Fast.tw8477341682304608457 : Unit := ()
def PySem.W.Fast.tw9929886677547254117 : Unit := ()
def PySem.W.Fast.tw7215833012700926205 : Unit := ()
def PySem.W.Fast.tw786634352213519036 : Unit := ()
def PySem.W.Fast.tw3404681078549021555 : Unit := ()
def PySem.W.Fast.tw16934754329383796085 : Unit := ()
def PySem.W.Fast.tw15291083885955610476 : Unit := ()
def PySem.W.Fast.tw895259437906480445 : Unit := ()
def PySem.W.Fast.tw1238286950592533444 : Unit := ()
def PySem.W.Fast.tw4916692771526221334 : Unit := ()
def PySem.W.Fast.tw15640232889479170580 : Unit := ()
def PySem.W.Fast.tw3967711883872010594 : Unit := ()
def PySem.W.Fast.tw4601756808841068647 : Unit := ()
def PySem.W.Fast.tw16666512268896736750 : Unit := ()
def PySem.W.Fast.tw1465453614914690706 : Unit := ()
def PySem.W.Fast.tw12266577829674323300 : Unit := ()
def PySem.W.Fast.tw10995501320117491464 : Unit := ()
def PySem.W.Fast.tw12762287209421428867 : Unit := ()
def PySem.W.Fast.tw5357405283486141500 : Unit := ()
def PySem.W.Fast.tw1522667307433257101 : Unit := ()
def PySem.W.Fast.tw3911957048390971076 : Unit := ()
def PySem.W.Fast.tw5946718886551259088 : Unit := ()
def PySem.W.Fast.tw6145867321295252846 : Unit := ()
def PySem.W.Fast.tw3665376459165397873 : Unit := ()
def PySem.W.Fast.tw4679167812092907560 : Unit := ()
def PySem.W.Fast.tw11028317110226624030 : Unit := ()
def PySem.W.Fast.tw18135181196635738978 : Unit := ()
def PySem.W.Fast.tw5537878057226518185 : Unit := ()
def PySem.W.Fast.tw9492904100848040163 : Unit := ()
def PySem.W.Fast.tw8767815217809598199 : Unit := ()
def PySem.W.Fast.tw1024375048780601649 : Unit := ()
def PySem.W.Fast.tw14326828546135492271 : Unit := ()
def PySem.W.Fast.tw8617295083126820529 : Unit := ()
def PySem.W.Fast.tw171541885276163602 : Unit := ()
def PySem.W.Fast.tw15714606875418275803 : Unit := ()
def PySem.W.Fast.tw9544689630502904286 : Unit := ()
def PySem.W.Fast.tw9025702723366279603 : Unit := ()
def PySem.W.Fast.tw14446480621998451125 : Unit := ()
def PySem.W.Fast.tw1793079967040105064 : Unit := ()
def PySem.W.Fast.tw4904308146536163593 : Unit := ()
def PySem.W.Fast.tw16368028157156714555 : Unit := ()
def PySem.W.Fast.tw9851463337823452662 : Unit := ()
def PySem.W.Fast.tw5400235328342845008 : Unit := ()
def PySem.W.Fast.tw2879843566798361842 : Unit := ()
def PySem.W.Fast.tw803804711808194054 : Unit := ()
def PySem.W.Fast.tw5390226190394078263 : Unit := ()
def PySem.W.Fast.tw13906678520854126353 : Unit := ()
def PySem.W.Fast.tw2081840047468135661 : Unit := ()
def PySem.W.Fast.tw17661467336326588910 : Unit := ()
def PySem.W.Fast.tw1539056268808090124 : Unit := ()
def PySem.W.Fast.tw4803401231251447537 : Unit := ()
def PySem.W.Fast.tw3287879884372015231 : Unit := ()
def PySem.W.Fast.tw13566124772638116584 : Unit := ()
def PySem.W.Fast.tw13435297911925065220 : Unit := ()
def PySem.W.Fast.tw7032168567782226561 : Unit := ()
def PySem.W.Fast.tw13130442917099931645 : Unit := ()
def PySem.W.Fast.tw12549282800948364645 : Unit := ()
def PySem.W.Fast.tw17275802995723102135 : Unit := ()
def PySem.W.Fast.tw18126925300673212278 : Unit := ()
def PySem.W.Fast.tw9789918834117160120 : Unit := ()
def PySem.W.Fast.tw5730527866779054090 : Unit := ()
def PySem.W.Fast.tw7164335708824927178 : Unit := ()
def PySem.W.Fast.tw2468477630731542386 : Unit := ()
def PySem.W.Fast.tw4234922650833186120 : Unit := ()
def PySem.W.Fast.tw16297777546871635767 : Unit := ()
def PySem.W.Fast.tw15748887866666530447 : Unit := ()
def PySem.W.Fast.tw16617747769871461699 : Unit := ()
def PySem.W.Fast.tw15368235393246963445 : Unit := ()
def PySem.W.Fast.tw131486630423892013 : Unit := ()
def PySem.W.Fast.tw1337167852578724012 : Unit := ()
def PySem.W.Fast.tw3658736710712553808 : Unit := ()
def PySem.W.Fast.tw5629598349402138501 : Unit := ()
def PySem.W.Fast.tw15607863546104739930 : Unit := ()
def PySem.W.Fast.tw2563590116449891356 : Unit := ()
def PySem.W.Fast.tw284540882140600446 : Unit := ()
def PySem.W.Fast.tw682646489402299990 : Unit := ()
def PySem.W.Fast.tw16488072660732833570 : Unit := ()
def PySem.W.Fast.tw2472656228246191113 : Unit := ()
def PySem.W.Fast.tw14533866666928934406 : Unit := ()
def PySem.W.Fast.tw5377206758152352662 : Unit := ()
def PySem.W.Fast.tw3779275622889607960 : Unit := ()
def PySem.W.Fast.tw9298346005304543744 : Unit := ()
def PySem.W.Fast.tw15265959150561772821 : Unit := ()
def PySem.W.Fast.tw9981058103377915075 : Unit := ()
def PySem.W.Fast.tw393298462827159539 : Unit := ()
def PySem.W.Fast.tw10414934048982669648 : Unit := ()
def PySem.W.Fast.tw1088446061339258148 : Unit := ()
def PySem.W.Fast.tw12225178024790856313 : Unit := ()
def PySem.W.Fast.tw7293414442086021709 : Unit := ()
def PySem.W.Fast.tw15699784497052415313 : Unit := ()
def PySem.W.Fast.tw86032070325234040 : Unit := ()
def PySem.W.Fast.tw13111718759335435519 : Unit := ()
def PySem.W.Fast.tw3900111376257549282 : Unit := ()
def PySem.W.Fast.tw3747877393633792254 : Unit := ()
def PySem.W.Fast.tw6900985877971554741 : Unit := ()
def PySem.W.Fast.tw2038144027762419343 : Unit := ()
def PySem.W.Fast.tw16429682200923061127 : Unit := ()
def PySem.W.Fast.tw18040846750055128402 : Unit := ()
def PySem.W.Fast.tw5684669525300329127 : Unit := ()
def PySem.W.Fast.tw10269494675005527263 : Unit := ()
def PySem.W.Fast.tw3535406461579341257 : Unit := ()
def PySem.W.Fast.tw7141085394776422477 : Unit := ()
def PySem.W.Fast.tw17522191046791203363 : Unit := ()
def PySem.W.Fast.tw11774075394373283023 : Unit := ()
def PySem.W.Fast.tw15115205679191152580 : Unit := ()
def PySem.W.Fast.tw615350389165951278 : Unit := ()
def PySem.W.Fast.tw9061768844824846778 : Unit := ()
def PySem.W.Fast.tw4046738427397556279 : Unit := ()
def PySem.W.Fast.tw645947923963086408 : Unit := ()
def PySem.W.Fast.tw8246342806299853236 : Unit := ()
def PySem.W.Fast.tw6369844947558402481 : Unit := ()
def PySem.W.Fast.tw261574154021410332 : Unit := ()
def PySem.W.Fast.tw3422723552796725350 : Unit := ()
def PySem.W.Fast.tw3345820826290388495 : Unit := ()
def PySem.W.Fast.tw98259809809659037 : Unit := ()
def PySem.W.Fast.tw13229869359721839852 : Unit := ()
def PySem.W.Fast.tw12268281907046359584 : Unit := ()
def PySem.W.Fast.tw5085970655452404166 : Unit := ()
def PySem.W.Fast.tw10032235854603728058 : Unit := ()
def PySem.W.Fast.tw10300409872394307135 : Unit := ()
def PySem.W.Fast.tw431340852246275391 : Unit := ()
def PySem.W.Fast.tw8509822679666272926 : Unit := ()
def PySem.W.Fast.tw11112673523161762581 : Unit := ()
def PySem.W.Fast.tw10827698141483477121 : Unit := ()
def PySem.W.Fast.tw1841069698433537665 : Unit := ()
def PySem.W.Fast.tw5960615889871679597 : Unit := ()
def PySem.W.Fast.tw11907521451767358413 : Unit := ()
def PySem.W.Fast.tw18154291900496445608 : Unit := ()
def PySem.W.Fast.tw3431301876673011104 : Unit := ()
def PySem.W.Fast.tw5487550406479830642 : Unit := ()
def PySem.W.Fast.tw10437965380941206065 : Unit := ()
def PySem.W.Fast.tw904734086541876666 : Unit := ()
def PySem.W.Fast.tw8075516296028450693 : Unit := ()
def PySem.W.Fast.tw9700631846669294339 : Unit := ()
def PySem.W.Fast.tw5743558822080112480 : Unit := ()
def PySem.W.Fast.tw11777714518401821453 : Unit := ()
def PySem.W.Fast.tw11424896133337345942 : Unit := ()
def PySem.W.Fast.tw8357324550346416256 : Unit := ()
def PySem.W.Fast.tw12363568999926922726 : Unit := ()
def PySem.W.Fast.tw17740295496217272539 : Unit := ()
def PySem.W.Fast.tw14306271654266084510 : Unit := ()
def PySem.W.Fast.tw12915442611630312158 : Unit := ()
def PySem.W.Fast.tw5227422913615306372 : Unit := ()
def PySem.W.Fast.tw5361695369679074089 : Unit := ()
def PySem.W.Fast.tw10145820286827812909 : Unit := ()
def PySem.W.Fast.tw3752496408097566350 : Unit := ()
def PySem.W.Fast.tw6932272325786026964 : Unit := ()
def PySem.W.Fast.tw3763323124070510847 : Unit := ()
def PySem.W.Fast.tw16598363739626147466 : Unit := ()
def PySem.W.Fast.tw16593828162121461343 : Unit := ()
def PySem.W.Fast.tw3727647276214182492 : Unit := ()
def PySem.W.Fast.tw9388407849879393255 : Unit := ()
def PySem.W.Fast.tw8539420613058741402 : Unit := ()
def PySem.W.Fast.tw5334920417620354813 : Unit := ()
def PySem.W.Fast.tw12554424688697874201 : Unit := ()
def PySem.W.Fast.tw15594025178248243932 : Unit := ()
def PySem.W.Fast.tw9948994331218593350 : Unit := ()
def PySem.W.Fast.tw3827318395543813777 : Unit := ()
def PySem.W.Fast.tw14204508108885212486 : Unit := ()
def PySem.W.Fast.tw6823989963613680278 : Unit := ()
def PySem.W.Fast.tw9847762357336711947 : Unit := ()
def PySem.W.Fast.tw8681374395801229247 : Unit := ()
def PySem.W.Fast.tw14067268983932679827 : Unit := ()
def PySem.W.Fast.tw7925411368391995817 : Unit := ()
def PySem.W.Fast.tw12575144518802569898 : Unit := ()
def PySem.W.Fast.tw4637901235744354347 : Unit := ()
def PySem.W.Fast.tw11644890052891194192 : Unit := ()
def PySem.W.Fast.tw12141652599011230663 : Unit := ()
def PySem.W.Fast.tw16300767919269210429 : Unit := ()
def PySem.W.Fast.tw7467144159959114621 : Unit := ()
def PySem.W.Fast.tw7356208461096118551 : Unit := ()
def PySem.W.Fast.tw5331862631756730481 : Unit := ()
def PySem.W.Fast.tw3954509411762306333 : Unit := ()
def PySem.W.Fast.tw13604736875581914680 : Unit := ()
def PySem.W.Fast.tw17058068628533845091 : Unit := ()
def PySem.W.Fast.tw3966791684032224946 : Unit := ()
def PySem.W.Fast.tw3217012079637805451 : Unit := ()
def PySem.W.Fast.tw15240602921204387140 : Unit := ()
def PySem.W.Fast.tw15187673405046708475 : Unit := ()
def PySem.W.Fast.tw15271361601198143045 : Unit := ()
def PySem.W.Fast.tw8870871019215385360 : Unit := ()
def PySem.W.Fast.tw8988530177469992821 : Unit := ()
def PySem.W.Fast.tw9948247705804427820 : Unit := ()
def PySem.W.Fast.tw7710942824560977200 : Unit := ()
def PySem.W.Fast.tw10672755998644653422 : Unit := ()
def PySem.W.Fast.tw13516214117257189993 : Unit := ()
def PySem.W.Fast.tw12305522238313230310 : Unit := ()
def PySem.W.Fast.tw11183729636611151322 : Unit := ()
def PySem.W.Fast.tw13996327810187131034 : Unit := ()
def PySem.W.Fast.tw6455055303398956045 : Unit := ()
def PySem.W.Fast.tw6623027386263440142 : Unit := ()
def PySem.W.Fast.tw5493902208361272247 : Unit := ()
def PySem.W.Fast.tw5396178419642736776 : Unit := ()
def PySem.W.Fast.tw12022116185952587794 : Unit := ()
def PySem.W.Fast.tw14654128704175690992 : Unit := ()
def PySem.W.Fast.tw6630251980595399723 : Unit := ()
def PySem.W.Fast.tw3274997234108937549 : Unit := ()
def PySem.W.Fast.tw3021090625854942438 : Unit := ()
def PySem.W.Fast.tw2982286722204980176 : Unit := ()
def PySem.W.Fast.tw14178453470007023295 : Unit := ()
def PySem.W.Fast.tw3687691968714191386 : Unit := ()
def PySem.W.Fast.tw2886958316827754986 : Unit := ()
def PySem.W.Fast.tw18271690182427943640 : Unit := ()
def PySem.W.Fast.tw2648951935591720501 : Unit := ()
def PySem.W.Fast.tw4330263541912609423 : Unit := ()
def PySem.W.Fast.tw4519879114559677125 : Unit := ()
def PySem.W.Fast.tw7443613315467646320 : Unit := ()
def PySem.W.Fast.tw492138186687993808 : Unit := ()
def PySem.W.Fast.tw12799404304561144797 : Unit := ()
def PySem.W.Fast.tw12498041931026498434 : Unit := ()
def PySem.W.Fast.tw14613351943254175305 : Unit := ()
def PySem.W.Fast.tw29750289837596625 : Unit := ()
def PySem.W.Fast.tw18398926385554375811 : Unit := ()
def PySem.W.Fast.tw6451956401365603903 : Unit := ()
def PySem.W.Fast.tw14000023752244254420 : Unit := ()
def PySem.W.Fast.tw11813883696449493744 : Unit := ()
def PySem.W.Fast.tw5004108256534122844 : Unit := ()
def PySem.W.Fast.tw12296648557083639073 : Unit := ()
def PySem.W.Fast.tw16744990636727133762 : Unit := ()
def PySem.W.Fast.tw8917140794059041565 : Unit := ()
def PySem.W.Fast.tw3284143235705117156 : Unit := ()
def PySem.W.Fast.tw2452660399104445635 : Unit := ()
def PySem.W.Fast.tw1805257811477179733 : Unit := ()
def PySem.W.Fast.tw1156261423411546360 : Unit := ()
def PySem.W.Fast.tw8137809691988092115 : Unit := ()
def PySem.W.Fast.tw936693392775926033 : Unit := ()
def PySem.W.Fast.tw16270251905531397036 : Unit := ()
def PySem.W.Fast.tw17329676969203944680 : Unit := ()
def PySem.W.Fast.tw1606566941323279084 : Unit := ()
def PySem.W.Fast.tw14189511470125149724 : Unit := ()
def PySem.W.Fast.tw12399459251968157233 : Unit := ()
def PySem.W.Fast.tw17329576192334937064 : Unit := ()
def PySem.W.Fast.tw8259688397156852500 : Unit := ()
def PySem.W.Fast.tw8319518383423782075 : Unit := ()
def PySem.W.Fast.tw17420374285555542995 : Unit := ()
def PySem.W.Fast.tw2628426802811219908 : Unit := ()
def PySem.W.Fast.tw16192317013595329190 : Unit := ()
def PySem.W.Fast.tw10631318222892711981 : Unit := ()
def PySem.W.Fast.tw3327668332688577230 : Unit := ()
def PySem.W.Fast.tw5521181281356536111 : Unit := ()
def PySem.W.Fast.tw14936045798184225415 : Unit := ()
def PySem.W.Fast.tw4332267416320605962 : Unit := ()
def PySem.W.Fast.tw2448750465489794543 : Unit := ()
def PySem.W.Fast.tw11323983448296456429 : Unit := ()
def PySem.W.Fast.tw4371659085205369841 : Unit := ()
def PySem.W.Fast.tw5916545045954430934 : Unit := ()
def PySem.W.Fast.tw1228302407553395352 : Unit := ()
def PySem.W.Fast.tw8966279275693522294 : Unit := ()
def PySem.W.Fast.tw5781883761417016276 : Unit := ()
def PySem.W.Fast.tw3717372973700184102 : Unit := ()
def PySem.W.Fast.tw5450797742706169461 : Unit := ()
def PySem.W.Fast.tw14785156618833412122 : Unit := ()
def PySem.W.Fast.tw6769262567846106524 : Unit := ()
def PySem.W.Fast.tw3724559611974606505 : Unit := ()
def PySem.W.Fast.tw8128974987774114752 : Unit := ()
def PySem.W.Fast.tw13789317682810797718 : Unit := ()
def PySem.W.Fast.tw10860667451891590408 : Unit := ()
def PySem.W.Fast.tw11476194637791916309 : Unit := ()
def PySem.W.Fast.tw9151107777486236331 : Unit := ()
def PySem.W.Fast.tw8949999221515114880 : Unit := ()
def PySem.W.Fast.tw17491275098950806298 : Unit := ()
def PySem.W.Fast.tw4858567015620925956 : Unit := ()
def PySem.W.Fast.tw813122598165791121 : Unit := ()
def PySem.W.Fast.tw15735431538081420448 : Unit := ()
def PySem.W.Fast.tw3393007805359527588 : Unit := ()
def PySem.W.Fast.tw3589320343238667900 : Unit := ()
def PySem.W.Fast.tw14057506007348770349 : Unit := ()
def PySem.W.Fast.tw15393042802620182888 : Unit := ()
def PySem.W.Fast.tw17512188548703826736 : Unit := ()
def PySem.W.Fast.tw15592326625356849638 : Unit := ()
def PySem.W.Fast.tw9944569342676076720 : Unit := ()
def PySem.W.Fast.tw14854921237016081975 : Unit := ()
def PySem.W.Fast.tw1198967885754438730 : Unit := ()
def PySem.W.Fast.tw14449214640647195478 : Unit := ()
def PySem.W.Fast.tw6352472910227080029 : Unit := ()
def PySem.W.Fast.tw243953017922636794 : Unit := ()
def PySem.W.Fast.tw3807704400860258335 : Unit := ()
def PySem.W.Fast.tw1122945089057193662 : Unit := ()
def PySem.W.Fast.tw14898191037489897227 : Unit := ()
def PySem.W.Fast.tw11343047999310308588 : Unit := ()
def PySem.W.Fast.tw4370161197348365004 : Unit := ()
def PySem.W.Fast.tw14298827481741591114 : Unit := ()
def PySem.W.Fast.tw3713712111875783641 : Unit := ()
def PySem.W.Fast.tw15880577183266719822 : Unit := ()
def PySem.W.Fast.tw8921954425983849872 : Unit := ()
def PySem.W.Fast.tw3825573056920320646 : Unit := ()
def PySem.W.Fast.tw858720607984455390 : Unit := ()
def PySem.W.Fast.tw4533947609028862305 : Unit := ()
def PySem.W.Fast.tw14435354868498662741 : Unit := ()
def PySem.W.Fast.tw7256080795019785359 : Unit := ()
def PySem.W.Fast.tw5724580421798768815 : Unit := ()
def PySem.W.Fast.tw16441111955994708316 : Unit := ()
def PySem.W.Fast.tw3131487737912962717 : Unit := ()
def PySem.W.Fast.tw6823141755905914788 : Unit := ()
def PySem.W.Fast.tw8473767491492773097 : Unit := ()
def PySem.W.Fast.tw12975372972744648644 : Unit := ()
def PySem.W.Fast.tw15945630547846497644 : Unit := ()
def PySem.W.Fast.tw17916783970339496028 : Unit := ()
def PySem.W.Fast.tw14694363035206100910 : Unit := ()
def PySem.W.Fast.tw16549759310087696947 : Unit := ()
def PySem.W.Fast.tw4380748510296063346 : Unit := ()
def PySem.W.Fast.tw5941090978423652354 : Unit := ()
def PySem.W.Fast.tw8756854852928308408 : Unit := ()
def PySem.W.Fast.tw2104346338123214308 : Unit := ()
def PySem.W.Fast.tw6673604481624156474 : Unit := ()
def PySem.W.Fast.tw8360373893881683159 : Unit := ()
def PySem.W.Fast.tw17922041713170143397 : Unit := ()
def PySem.W.Fast.tw17816161948980488920 : Unit := ()
def PySem.W.Fast.tw14771727575279769670 : Unit := ()
def PySem.W.Fast.tw14466120250258730819 : Unit := ()
def PySem.W.Fast.tw13437209546334127040 : Unit := ()
def PySem.W.Fast.tw5276801827013709278 : Unit := ()
def PySem.W.Fast.tw1141360745025739482 : Unit := ()
def PySem.W.Fast.tw12994181391097756111 : Unit := ()
def PySem.W.Fast.tw15533803945964937620 : Unit := ()
def PySem.W.Fast.tw6204731547718687034 : Unit := ()
def PySem.W.Fast.tw15323513746223838593 : Unit := ()
def PySem.W.Fast.tw11867933976212133180 : Unit := ()
def PySem.W.Fast.tw14661727979121842830 : Unit := ()
def PySem.W.Fast.tw7981294869626712914 : Unit := ()
def PySem.W.Fast.tw7291089139073572387 : Unit := ()
def PySem.W.Fast.tw6573808868875869575 : Unit := ()
def PySem.W.Fast.tw17036949200324885162 : Unit := ()
def PySem.W.Fast.tw7839725185415429463 : Unit := ()
def PySem.W.Fast.tw14971040256303693129 : Unit := ()
def PySem.W.Fast.tw16263760123102445789 : Unit := ()
def PySem.W.Fast.tw12543899775963248607 : Unit := ()
def PySem.W.Fast.tw11197409109502651797 : Unit := ()
def PySem.W.Fast.tw7839338179553379271 : Unit := ()
def PySem.W.Fast.tw3936938055488049096 : Unit := ()
def PySem.W.Fast.tw2612158301482517786 : Unit := ()
def PySem.W.Fast.tw16544310657371550001 : Unit := ()
def PySem.W.Fast.tw12781382430660643180 : Unit := ()
def PySem.W.Fast.tw11575494431306806217 : Unit := ()
def PySem.W.Fast.tw14252644349001477781 : Unit := ()
def PySem.W.Fast.tw7236590736881762376 : Unit := ()
def PySem.W.Fast.tw12285045155129923060 : Unit := ()
def PySem.W.Fast.tw15447763175181654232 : Unit := ()
def PySem.W.Fast.tw13778095649000460906 : Unit := ()
def PySem.W.Fast.tw17664652274695790555 : Unit := ()
def PySem.W.Fast.tw4886862503334196994 : Unit := ()
def PySem.W.Fast.tw231169897708070021 : Unit := ()
def PySem.W.Fast.tw17262531662821127903 : Unit := ()
def PySem.W.Fast.tw2977256919070806076 : Unit := ()
def PySem.W.Fast.tw12631787562021208376 : Unit := ()
def PySem.W.Fast.tw15349984152160692272 : Unit := ()
def PySem.W.Fast.tw9630929362073832296 : Unit := ()
def PySem.W.Fast.tw13744704267676232570 : Unit := ()
def PySem.W.Fast.tw15359339390314637615 : Unit := ()
def PySem.W.Fast.tw6796376695246064477 : Unit := ()
def PySem.W.Fast.tw4693575439661511692 : Unit := ()
def PySem.W.Fast.tw7081570622165551194 : Unit := ()
def PySem.W.Fast.tw1041896408897130845 : Unit := ()
def PySem.W.Fast.tw13367921046956778745 : Unit := ()
def PySem.W.Fast.tw11211346906296725892 : Unit := ()
def PySem.W.Fast.tw1584213198896460955 : Unit := ()
def PySem.W.Fast.tw8428210354330859877 : Unit := ()
def PySem.W.Fast.tw5103099506915442190 : Unit := ()
def PySem.W.Fast.tw7131857215718079162 : Unit := ()
def PySem.W.Fast.tw2241948835475974507 : Unit := ()
def PySem.W.Fast.tw14201339100072949835 : Unit := ()
def PySem.W.Fast.tw4235845448560373871 : Unit := ()
def PySem.W.Fast.tw14306075967903327187 : Unit := ()
def PySem.W.Fast.tw7488652210728948885 : Unit := ()
def PySem.W.Fast.tw14225643092084012494 : Unit := ()
def PySem.W.Fast.tw17116863972757552729 : Unit := ()
def PySem.W.Fast.tw12278499229436462404 : Unit := ()
def PySem.W.Fast.tw17121863748139338196 : Unit := ()
def PySem.W.Fast.tw17375691168626036133 : Unit := ()
def PySem.W.Fast.tw8370266993774249897 : Unit := ()
def PySem.W.Fast.tw18278773175961044883 : Unit := ()
def PySem.W.Fast.tw15450481119849048221 : Unit := ()
def PySem.W.Fast.tw11807010597707409943 : Unit := ()
def PySem.W.Fast.tw887081664291983597 : Unit := ()
def PySem.W.Fast.tw3595067819631970623 : Unit := ()
def PySem.W.Fast.tw14587939085316130931 : Unit := ()
def PySem.W.Fast.tw3735586928577494889 : Unit := ()
def PySem.W.Fast.tw10244537007326313857 : Unit := ()
def PySem.W.Fast.tw15093969854857711810 : Unit := ()
def PySem.W.Fast.tw5701585493722423348 : Unit := ()
def PySem.W.Fast.tw6346454406463132133 : Unit := ()
def PySem.W.Fast.tw4877731621873835940 : Unit := ()
def PySem.W.Fast.tw11854578198358114813 : Unit := ()
def PySem.W.Fast.tw11152519778231185815 : Unit := ()
def PySem.W.Fast.tw17634017985290977159 : Unit := ()
def PySem.W.Fast.tw1227862643808198864 : Unit := ()
def PySem.W.Fast.tw8954283474371310670 : Unit := ()
def PySem.W.Fast.tw5921822286266353317 : Unit := ()
def PySem.W.Fast.tw9250388249425832115 : Unit := ()
def PySem.W.Fast.tw8869561143812459074 : Unit := ()
def PySem.W.Fast.tw14755845894040860998 : Unit := ()
def PySem.W.Fast.tw17119905838738723018 : Unit := ()
def PySem.W.Fast.tw3625922501774274157 : Unit := ()
def PySem.W.Fast.tw3810699989672633593 : Unit := ()
def PySem.W.Fast.tw4066911863347630584 : Unit := ()
def PySem.W.Fast.tw16638535866696391184 : Unit := ()
def PySem.W.Fast.tw567838698875136963 : Unit := ()
def PySem.W.Fast.tw6816987832060390926 : Unit := ()
def PySem.W.Fast.tw13355357976587004185 : Unit := ()
def PySem.W.Fast.tw11368469996321707744 : Unit := ()
def PySem.W.Fast.tw18019268188633396463 : Unit := ()
def PySem.W.Fast.tw10277822680899668657 : Unit := ()
def PySem.W.Fast.tw18136975174741721871 : Unit := ()
def PySem.W.Fast.tw4924515560923499053 : Unit := ()
def PySem.W.Fast.tw1909325692222413454 : Unit := ()
def PySem.W.Fast.tw16629814226411312768 : Unit := ()
def PySem.W.Fast.tw10622429698594226436 : Unit := ()
def PySem.W.Fast.tw14661486079485332329 : Unit := ()
def PySem.W.Fast.tw1128843767076378909 : Unit := ()
def PySem.W.Fast.tw5042677468724212604 : Unit := ()
def PySem.W.Fast.tw10244340076823924273 : Unit := ()
def PySem.W.Fast.tw1817318501164225672 : Unit := ()
def PySem.W.Fast.tw3231270993746638458 : Unit := ()
def PySem.W.Fast.tw14231909727369599173 : Unit := ()
def PySem.W.Fast.tw1109838836116151568 : Unit := ()
def PySem.W.Fast.tw11782395950365766474 : Unit := ()
def PySem.W.Fast.tw12357360460284387976 : Unit := ()
def PySem.W.Fast.tw17882089523712019750 : Unit := ()
def PySem.W.Fast.tw15635128436773728716 : Unit := ()
def PySem.W.Fast.tw15923995156642835893 : Unit := ()
def PySem.W.Fast.tw10280518820527952667 : Unit := ()
def PySem.W.Fast.tw3004405029852462490 : Unit := ()
def PySem.W.Fast.tw10778500978318773806 : Unit := ()
def PySem.W.Fast.tw6313426075427486500 : Unit := ()
def PySem.W.Fast.tw6159395330454383150 : Unit := ()
def PySem.W.Fast.tw18387032289509845287 : Unit := ()
def PySem.W.Fast.tw13643297718799224772 : Unit := ()
def PySem.W.Fast.tw13605226666167897815 : Unit := ()
def PySem.W.Fast.tw11203578665008327661 : Unit := ()
def PySem.W.Fast.tw9059334526001586360 : Unit := ()
def PySem.W.Fast.tw11440016226991314743 : Unit := ()
def PySem.W.Fast.tw13374827750720980066 : Unit := ()
def PySem.W.Fast.tw3957231273468038805 : Unit := ()
def PySem.W.Fast.tw5507533223069288792 : Unit := ()
def PySem.W.Fast.tw1634206351334189491 : Unit := ()
def PySem.W.Fast.tw6292380360895042104 : Unit := ()
def PySem.W.Fast.tw7143486293942771413 : Unit := ()
def PySem.W.Fast.tw11045487206246586669 : Unit := ()
def PySem.W.Fast.tw11640235266351195298 : Unit := ()
def PySem.W.Fast.tw9816787009445498119 : Unit := ()
def PySem.W.Fast.tw9605596154873196012 : Unit := ()
def PySem.W.Fast.tw17385972634991448870 : Unit := ()
def PySem.W.Fast.tw11133443081352198831 : Unit := ()
def PySem.W.Fast.tw1800535070084615195 : Unit := ()
def PySem.W.Fast.tw15593773634737387409 : Unit := ()
def PySem.W.Fast.tw12670552855083637157 : Unit := ()
def PySem.W.Fast.tw3017783568406934011 : Unit := ()
def PySem.W.Fast.tw13928153800417835971 : Unit := ()
def PySem.W.Fast.tw16461883080506176581 : Unit := ()
def PySem.W.Fast.tw10270749671782640157 : Unit := ()
def PySem.W.Fast.tw16156212679768971599 : Unit := ()
def PySem.W.Fast.tw15217001451324505808 : Unit := ()
def PySem.W.Fast.tw1887784020729990975 : Unit := ()
def PySem.W.Fast.tw1452287198144546179 : Unit := ()
def PySem.W.Fast.tw4931577086323962617 : Unit := ()
def PySem.W.Fast.tw9931683465494621738 : Unit := ()
def PySem.W.Fast.tw8526479647775646565 : Unit := ()
def PySem.W.Fast.tw11995292686331508644 : Unit := ()
def PySem.W.Fast.tw2943384772506233610 : Unit := ()
def PySem.W.Fast.tw2268516318382630159 : Unit := ()
def PySem.W.Fast.tw6335215084296597286 : Unit := ()
def PySem.W.Fast.tw14813917946816499444 : Unit := ()
def PySem.W.Fast.tw8713077390334960036 : Unit := ()
def PySem.W.Fast.tw4339619910938826607 : Unit := ()
def PySem.W.Fast.tw6784953200896291409 : Unit := ()
def PySem.W.Fast.tw10350714551615597500 : Unit := ()
def PySem.W.Fast.tw2462786723500789365 : Unit := ()
def PySem.W.Fast.tw13226553717293282114 : Unit := ()
def PySem.W.Fast.tw8817789230444655025 : Unit := ()
def PySem.W.Fast.tw16812336543646839496 : Unit := ()
def PySem.W.Fast.tw5017878356216754723 : Unit := ()
def PySem.W.Fast.tw16117374951689426307 : Unit := ()
def PySem.W.Fast.tw1314448931327324630 : Unit := ()
def PySem.W.Fast.tw10687863518142504614 : Unit := ()
def PySem.W.Fast.tw6028749348703366749 : Unit := ()
def PySem.W.Fast.tw1791971066033958925 : Unit := ()
def PySem.W.Fast.tw17488206328463927411 : Unit := ()
def PySem.W.Fast.tw533187966964136745 : Unit := ()
def PySem.W.Fast.tw14532424235371840855 : Unit := ()
def PySem.W.Fast.tw10798526928125336584 : Unit := ()
def PySem.W.Fast.tw3180861840887885105 : Unit := ()
def PySem.W.Fast.tw15804510146334540 : Unit := ()
def PySem.W.Fast.tw11602722008308107974 : Unit := ()
def PySem.W.Fast.tw9140658664715574687 : Unit := ()
def PySem.W.Fast.tw10317562799271875693 : Unit := ()
def PySem.W.Fast.tw2916578227766860395 : Unit := ()
def PySem.W.Fast.tw16775406686222575112 : Unit := ()
def PySem.W.Fast.tw3260872683677494484 : Unit := ()
def PySem.W.Fast.tw6842398207213474268 : Unit := ()
def PySem.W.Fast.tw15090501351037468722 : Unit := ()
def PySem.W.Fast.tw16614722992263715842 : Unit := ()
def PySem.W.Fast.tw11482431504728405761 : Unit := ()
def PySem.W.Fast.tw432626235750555811 : Unit := ()
def PySem.W.Fast.tw116422391512501988 : Unit := ()
def PySem.W.Fast.tw3480659553543869480 : Unit := ()
def PySem.W.Fast.tw4957022617566658301 : Unit := ()
def PySem.W.Fast.tw12171322277528236507 : Unit := ()
def PySem.W.Fast.tw14565755505424113789 : Unit := ()
def PySem.W.Fast.tw5152525677659383488 : Unit := ()
def PySem.W.Fast.tw4535128550673271411 : Unit := ()
def PySem.W.Fast.tw15829150286154748542 : Unit := ()
def PySem.W.Fast.tw15911772293026383505 : Unit := ()
def PySem.W.Fast.tw3457599779462056415 : Unit := ()
def PySem.W.Fast.tw8066146613694924348 : Unit := ()
def PySem.W.Fast.tw6018841660849686852 : Unit := ()
def PySem.W.Fast.tw11625634369483676662 : Unit := ()
def PySem.W.Fast.tw7920416260597841501 : Unit := ()
def PySem.W.Fast.tw4974405245470371640 : Unit := ()
def PySem.W.Fast.tw18209050046965182985 : Unit := ()
def PySem.W.Fast.tw13853314948355953174 : Unit := ()
def PySem.W.Fast.tw10397619308679628219 : Unit := ()
def PySem.W.Fast.tw6969162433762462633 : Unit := ()
def PySem.W.Fast.tw17753522328998671529 : Unit := ()
def PySem.W.Fast.tw14166238148735635008 : Unit := ()
def PySem.W.Fast.tw3148752346995106772 : Unit := ()
def PySem.W.Fast.tw13024680701328233123 : Unit := ()
def PySem.W.Fast.tw14720674367085582267 : Unit := ()
def PySem.W.Fast.tw7567254953599040964 : Unit := ()
def PySem.W.Fast.tw11880188229143845826 : Unit := ()
def PySem.W.Fast.tw3571929980701761763 : Unit := ()
def PySem.W.Fast.tw1845651704695060148 : Unit := ()
def PySem.W.Fast.tw11958630482152614159 : Unit := ()
def PySem.W.Fast.tw5997625937234009122 : Unit := ()
def PySem.W.Fast.tw10210521814921351819 : Unit := ()
def PySem.W.Fast.tw6836941853154182949 : Unit := ()
def PySem.W.Fast.tw1272839182570635311 : Unit := ()
def PySem.W.Fast.tw10691889219581298911 : Unit := ()
def PySem.W.Fast.tw2352532677084754699 : Unit := ()
def PySem.W.Fast.tw3873072194343101372 : Unit := ()
def PySem.W.Fast.tw5122164055997991019 : Unit := ()
def PySem.W.Fast.tw8534740433357785944 : Unit := ()
def PySem.W.Fast.tw6864398506749028300 : Unit := ()
def PySem.W.Fast.tw476039649621406612 : Unit := ()
def PySem.W.Fast.tw13449139805441158412 : Unit := ()
def PySem.W.Fast.tw18019572426407061968 : Unit := ()
def PySem.W.Fast.tw14772338803715057713 : Unit := ()
def PySem.W.Fast.tw1789538065444866919 : Unit := ()
def PySem.W.Fast.tw9298477475300995143 : Unit := ()
def PySem.W.Fast.tw16480727468350942487 : Unit := ()
def PySem.W.Fast.tw5502530996856735340 : Unit := ()
def PySem.W.Fast.tw15524764853826304221 : Unit := ()
def PySem.W.Fast.tw3042734303411415555 : Unit := ()
def PySem.W.Fast.tw5081223965155051290 : Unit := ()
def PySem.W.Fast.tw17272788191037762054 : Unit := ()
def PySem.W.Fast.tw3134704215597931594 : Unit := ()
def PySem.W.Fast.tw13620044303050691050 : Unit := ()
def PySem.W.Fast.tw16628683506078924161 : Unit := ()
def PySem.W.Fast.tw13483981799213056661 : Unit := ()
def PySem.W.Fast.tw15448804563247643047 : Unit := ()
def PySem.W.Fast.tw4644688020190827638 : Unit := ()
def PySem.W.Fast.tw9312719296867329195 : Unit := ()
def PySem.W.Fast.tw10005335483967013951 : Unit := ()
def PySem.W.Fast.tw14434194802142175110 : Unit := ()
def PySem.W.Fast.tw10795625909641367659 : Unit := ()
def PySem.W.Fast.tw1465705807793680614 : Unit := ()
def PySem.W.Fast.tw17262814404029225502 : Unit := ()
def PySem.W.Fast.tw4180105043455883661 : Unit := ()
def PySem.W.Fast.tw8483879336912583694 : Unit := ()
def PySem.W.Fast.tw5096667859818799682 : Unit := ()
def PySem.W.Fast.tw9236756128834346145 : Unit := ()
def PySem.W.Fast.tw9155554393036866939 : Unit := ()
def PySem.W.Fast.tw1102095880168387383 : Unit := ()
def PySem.W.Fast.tw11876051443055778464 : Unit := ()
def PySem.W.Fast.tw12354644141663885077 : Unit := ()
def PySem.W.Fast.tw17359298587411820107 : Unit := ()
def PySem.W.Fast.tw9019157796151117191 : Unit := ()
def PySem.W.Fast.tw10751645203125020892 : Unit := ()
def PySem.W.Fast.tw10144406105445524443 : Unit := ()
def PySem.W.Fast.tw15274698828332925587 : Unit := ()
def PySem.W.Fast.tw11971411377895737858 : Unit := ()
def PySem.W.Fast.tw5838290075855383935 : Unit := ()
def PySem.W.Fast.tw3641744259825658030 : Unit := ()
def PySem.W.Fast.tw14231624173657939815 : Unit := ()
def PySem.W.Fast.tw5060888421144548861 : Unit := ()
def PySem.W.Fast.tw5183904100448183345 : Unit := ()
def PySem.W.Fast.tw10729893484700802831 : Unit := ()
def PySem.W.Fast.tw17903429465632700735 : Unit := ()
def PySem.W.Fast.tw9322917938491531355 : Unit := ()
def PySem.W.Fast.tw2853385583057637291 : Unit := ()
def PySem.W.Fast.tw14135693893688398664 : Unit := ()
def PySem.W.Fast.tw18080609259849462680 : Unit := ()
def PySem.W.Fast.tw7040004144695988967 : Unit := ()
def PySem.W.Fast.tw12912109326682648968 : Unit := ()
def PySem.W.Fast.tw5589029624604523258 : Unit := ()
def PySem.W.Fast.tw5974430706530329924 : Unit := ()
def PySem.W.Fast.tw8665072134889355076 : Unit := ()
def PySem.W.Fast.tw8362121192651518290 : Unit := ()
def PySem.W.Fast.tw4048194039624494451 : Unit := ()
def PySem.W.Fast.tw8548210283199563002 : Unit := ()
def PySem.W.Fast.tw9670486582395735029 : Unit := ()
def PySem.W.Fast.tw4793944590672043328 : Unit := ()
def PySem.W.Fast.tw6142061181071034697 : Unit := ()
def PySem.W.Fast.tw17768433419533614218 : Unit := ()
def PySem.W.Fast.tw4721109124061146619 : Unit := ()
def PySem.W.Fast.tw10311614503950044849 : Unit := ()
def PySem.W.Fast.tw8172078263653532147 : Unit := ()
def PySem.W.Fast.tw13445846160791957507 : Unit := ()
def PySem.W.Fast.tw16140312495460924880 : Unit := ()
def PySem.W.Fast.tw17543325018033214058 : Unit := ()
def PySem.W.Fast.tw3519974415899542911 : Unit := ()
def PySem.W.Fast.tw11914860965091414774 : Unit := ()
def PySem.W.Fast.tw16532768512768140415 : Unit := ()
def PySem.W.Fast.tw6345121541408238556 : Unit := ()
def PySem.W.Fast.tw7135932628260370731 : Unit := ()
def PySem.W.Fast.tw13601681091238304662 : Unit := ()
def PySem.W.Fast.tw12869863757881459886 : Unit := ()
def PySem.W.Fast.tw10217317556843783362 : Unit := ()
def PySem.W.Fast.tw14326576505943452516 : Unit := ()
def PySem.W.Fast.tw12323211477724020002 : Unit := ()
def PySem.W.Fast.tw5870753020492526220 : Unit := ()
def PySem.W.Fast.tw239173695349894280 : Unit := ()
def PySem.W.Fast.tw14882095535483632800 : Unit := ()
def PySem.W.Fast.tw13891946054926477028 : Unit := ()
def PySem.W.Fast.tw12645743670966321195 : Unit := ()
def PySem.W.Fast.tw5237774463411239413 : Unit := ()
def PySem.W.Fast.tw5708575158278894528 : Unit := ()
def PySem.W.Fast.tw11620427983646940043 : Unit := ()
def PySem.W.Fast.tw16858933208221872064 : Unit := ()
def PySem.W.Fast.tw4980988881804121831 : Unit := ()
def PySem.W.Fast.tw17265975626106465727 : Unit := ()
def PySem.W.Fast.tw10496848580272634798 : Unit := ()
def PySem.W.Fast.tw13866525113961906168 : Unit := ()
def PySem.W.Fast.tw10693559320230596809 : Unit := ()
def PySem.W.Fast.tw12217166420254476162 : Unit := ()
open_top K43hd for PySem.Challenge.rw_clonewood_k43_odd_arguments
theorem PySem.Challenge.cw_clonewood_k43_odd_arguments_holds : PySem.Challenge.rw_clonewood_k43_odd_arguments.Holds := by
  refine K43hd ?_
  k_fill
  refine K43.walkL (l := PySem.Challenge.rw_clonewood_k43_odd_arguments) rfl rfl (fun w h Y => ⟨PySem.W.km_in_of Y, List.forall_mem_cons.mpr ⟨⟨PySem.W.codeHd_of_K (c := 981) (P := 977) (PySem.W.km_in_of Y) (by kernel_rfl), PySem.W.km_tabs_of Y 977 (List.mem_cons_of_mem _ (List.mem_cons_of_mem _ (List.mem_cons_of_mem _ (List.mem_cons_self ..))))⟩, fun _ h => nomatch h⟩⟩) (fun w => List.forall_mem_cons.mpr ⟨by kernel_rfl, fun _ h => nomatch h⟩) ?F
  case F =>
    intro w mg fa h KX G hmg
    refine' K43.all_mk KX G hmg ?aWho ?lWho ?cWho ?kWho ?aWth ?lWth ?cWth ?kWth ?aWrd ?lWrd ?cWrd ?kWrd ?aNof ?lNof ?cNof ?kNof ?aCll ?lCll ?cCll ?kCll ?aKof ?lKof ?cKof ?kKof ?aNbt ?lNbt ?cNbt ?kNbt ?aNsp ?lNsp ?cNsp ?kNsp ?aNcl ?lNcl ?cNcl ?kNcl ?aCel ?lCel ?cCel ?kCel ?aMix ?lMix ?cMix ?kMix ?aWds ?lWds ?cWds ?kWds ?aOdp ?lOdp ?cOdp ?kOdp ?aPth ?lPth ?cPth ?kPth ?aGpa ?lGpa ?cGpa ?kGpa ?aRow ?lRow ?cRow ?kRow ?aGro ?lGro ?cGro ?kGro ?aNum ?lNum ?cNum ?kNum ?aLwi ?lLwi ?cLwi ?kLwi ?aGsp ?lGsp ?cGsp ?kGsp ?aAsk ?lAsk ?cAsk ?kAsk ?aDue ?lDue ?cDue ?kDue ?aDoo ?lDoo ?cDoo ?kDoo ?aTol ?lTol ?cTol ?kTol ?aKnd ?lKnd ?cKnd ?kKnd ?aSam ?lSam ?cSam ?kSam ?aAli ?lAli ?cAli ?kAli ?aLaw ?lLaw ?cLaw ?kLaw ?aW ?lW ?tNW ?tCW ?tDW ?hn ?tk ?aNP ?lNP ?kNP ?saNP ?gaNP ?gtNP ?caNP ?naNP_0 ?iCNP ?nINP ?lINP ?cINP ?kINP ?aNS ?lNS ?kNS ?saNS ?gaNS ?gtNS ?caNS ?naNS_0 ?naNS_1 ?iCNS ?nINS ?lINS ?cINS ?kINS ?aNC ?lNC ?kNC ?saNC ?gaNC ?gtNC ?caNC ?tNNC ?tCNC ?tDNC ?nd ?aK0 ?pgK0 ?hdK0 ?poK0 ?saK0 ?kK0 ?mkK0 ?iiK0 ?ifK0 ?lKIn ?cKIn ?kKIn ?aKD ?pgKD ?hdKD ?poKD ?saKD ?kKD ?naKD_0 ?naKD_1 ?naKD_2 ?mkKD ?iiKD ?ifKD ?lDIn ?cDIn ?kDIn ?amDSt ?fmDSt ?lDSt ?cDSt ?kDSt ?aDE ?pgDE ?hdDE ?poDE ?saDE ?kDE ?naDE_0 ?naDE_1 ?naDE_2 ?naDE_3 ?mkDE ?iiDE ?ifDE ?lEIn ?cEIn ?kEIn ?amEfo ?fmEfo ?lEfo ?cEfo ?kEfo ?amEdr ?fmEdr ?lEdr ?cEdr ?kEdr ?amEpu ?fmEpu ?lEpu ?cEpu ?kEpu ?amEtr ?fmEtr ?lEtr ?cEtr ?kEtr ?amEho ?fmEho ?lEho ?cEho ?kEho ?amEsh ?fmEsh ?lEsh ?cEsh ?kEsh ?amEtw ?fmEtw ?lEtw ?cEtw ?kEtw ?amEmo ?fmEmo ?lEmo ?cEmo ?kEmo ?amEli ?fmEli ?lEli ?cEli ?kEli ?amEvi ?fmEvi ?lEvi ?cEvi ?kEvi ?amEne ?fmEne ?lEne ?cEne ?kEne ?amEte ?fmEte ?lEte ?cEte ?kEte ?gaK0 ?rdK0 ?fcK0 ?z0 ?z1 ?z2 ?z3 ?z4 ?z5 ?z6 ?z7 ?z8 ?z9 ?z10 ?gl0 ?gl1 ?gl2 ?gl3 ?gl4 ?gl5 ?eLaw
    (case aWho => k_is)
    (case lWho => k_is)
    (case cWho => k_is)
    (case kWho => k_is)
    (case aWth => k_is)
    (case lWth => k_is)
    (case cWth => k_is)
    (case kWth => k_is)
    (case aWrd => k_is)
    (case lWrd => k_is)
    (case cWrd => k_is)
    (case kWrd => k_is)
    (case aNof => k_is)
    (case lNof => k_is)
    (case cNof => k_is)
    (case kNof => k_is)
    (case aCll => k_is)
    (case lCll => k_is)
    (case cCll => k_is)
    (case kCll => k_is)
    (case aKof => k_is)
    (case lKof => k_is)
    (case cKof => k_is)
    (case kKof => k_is)
    (case aNbt => k_is)
    (case lNbt => k_is)
    (case cNbt => k_is)
    (case kNbt => k_is)
    (case aNsp => k_is)
    (case lNsp => k_is)
    (case cNsp => k_is)
    (case kNsp => k_is)
    (case aNcl => k_is)
    (case lNcl => k_is)
    (case cNcl => k_is)
    (case kNcl => k_is)
    (case aCel => k_is)
    (case lCel => k_is)
    (case cCel => k_is)
    (case kCel => k_is)
    (case aMix => k_is)
    (case lMix => k_is)
    (case cMix => k_is)
    (case kMix => k_is)
    (case aWds => k_is)
    (case lWds => k_is)
    (case cWds => k_is)
    (case kWds => k_is)
    (case aOdp => k_is)
    (case lOdp => k_is)
    (case cOdp => k_is)
    (case kOdp => k_is)
    (case aPth => k_is)
    (case lPth => k_is)
    (case cPth => k_is)
    (case kPth => k_is)
    (case aGpa => k_is)
    (case lGpa => k_is)
    (case cGpa => k_is)
    (case kGpa => k_is)
    (case aRow => k_is)
    (case lRow => k_is)
    (case cRow => k_is)
    (case kRow => k_is)
    (case aGro => k_is)
    (case lGro => k_is)
    (case cGro => k_is)
    (case kGro => k_is)
    (case aNum => k_is)
    (case lNum => k_is)
    (case cNum => k_is)
    (case kNum => k_is)
    (case aLwi => k_is)
    (case lLwi => k_is)
    (case cLwi => k_is)
    (case kLwi => k_is)
    (case aGsp => k_is)
    (case lGsp => k_is)
    (case cGsp => k_is)
    (case kGsp => k_is)
    (case aAsk => k_is)
    (case lAsk => k_is)
    (case cAsk => k_is)
    (case kAsk => k_is)
    (case aDue => k_is)
    (case lDue => k_is)
    (case cDue => k_is)
    (case kDue => k_is)
    (case aDoo => k_is)
    (case lDoo => k_is)
    (case cDoo => k_is)
    (case kDoo => k_is)
    (case aTol => k_is)
    (case lTol => k_is)
    (case cTol => k_is)
    (case kTol => k_is)
    (case aKnd => k_is)
    (case lKnd => k_is)
    (case cKnd => k_is)
    (case kKnd => k_is)
    (case aSam => k_is)
    (case lSam => k_is)
    (case cSam => k_is)
    (case kSam => k_is)
    (case aAli => k_is)
    (case lAli => k_is)
    (case cAli => k_is)
    (case kAli => k_is)
    (case aLaw => k_is)
    (case lLaw => k_is)
    (case cLaw => k_is)
    (case kLaw => k_is)
    (case aW => k_is)
    (case lW => k_is)
    (case tNW => k_is)
    (case tCW => first | rfl | decide | simp)
    (case tDW => k_is)
    (case hn => k_is)
    (case tk => k_is)
    (case aNP => k_is)
    (case lNP => k_is)
    (case kNP => k_is)
    (case saNP => k_is)
    (case gaNP => k_is)
    (case gtNP => k_is)
    (case caNP => k_is)
    (case naNP_0 => k_is)
    (case iCNP => k_is)
    (case nINP => k_is)
    (case lINP => k_is)
    (case cINP => k_is)
    (case kINP => k_is)
    (case aNS => k_is)
    (case lNS => k_is)
    (case kNS => k_is)
    (case saNS => k_is)
    (case gaNS => k_is)
    (case gtNS => k_is)
    (case caNS => k_is)
    (case naNS_0 => k_is)
    (case naNS_1 => k_is)
    (case iCNS => k_is)
    (case nINS => k_is)
    (case lINS => k_is)
    (case cINS => k_is)
    (case kINS => k_is)
    (case aNC => k_is)
    (case lNC => k_is)
    (case kNC => k_is)
    (case saNC => k_is)
    (case gaNC => k_is)
    (case gtNC => k_is)
    (case caNC => k_is)
    (case tNNC => k_is)
    (case tCNC => first | rfl | decide | simp)
    (case tDNC => k_is)
    (case nd => first | decide | decide +kernel)
    (case aK0 => k_is)
    (case pgK0 => k_is)
    (case hdK0 => k_is)
    (case poK0 => k_is)
    (case saK0 => k_is)
    (case kK0 => k_is)
    (case mkK0 => k_is)
    (case iiK0 => k_is)
    (case ifK0 => k_is)
    (case lKIn => k_is)
    (case cKIn => k_is)
    (case kKIn => k_is)
    (case aKD => k_is)
    (case pgKD => k_is)
    (case hdKD => k_is)
    (case poKD => k_is)
    (case saKD => k_is)
    (case kKD => k_is)
    (case naKD_0 => k_is)
    (case naKD_1 => k_is)
    (case naKD_2 => k_is)
    (case mkKD => k_is)
    (case iiKD => k_is)
    (case ifKD => k_is)
    (case lDIn => k_is)
    (case cDIn => k_is)
    (case kDIn => k_is)
    (case amDSt => k_is)
    (case fmDSt => k_is)
    (case lDSt => k_is)
    (case cDSt => k_is)
    (case kDSt => k_is)
    (case aDE => k_is)
    (case pgDE => k_is)
    (case hdDE => k_is)
    (case poDE => k_is)
    (case saDE => k_is)
    (case kDE => k_is)
    (case naDE_0 => k_is)
    (case naDE_1 => k_is)
    (case naDE_2 => k_is)
    (case naDE_3 => k_is)
    (case mkDE => k_is)
    (case iiDE => k_is)
    (case ifDE => k_is)
    (case lEIn => k_is)
    (case cEIn => k_is)
    (case kEIn => k_is)
    (case amEfo => k_is)
    (case fmEfo => k_is)
    (case lEfo => k_is)
    (case cEfo => k_is)
    (case kEfo => k_is)
    (case amEdr => k_is)
    (case fmEdr => k_is)
    (case lEdr => k_is)
    (case cEdr => k_is)
    (case kEdr => k_is)
    (case amEpu => k_is)
    (case fmEpu => k_is)
    (case lEpu => k_is)
    (case cEpu => k_is)
    (case kEpu => k_is)
    (case amEtr => k_is)
    (case fmEtr => k_is)
    (case lEtr => k_is)
    (case cEtr => k_is)
    (case kEtr => k_is)
    (case amEho => k_is)
    (case fmEho => k_is)
    (case lEho => k_is)
    (case cEho => k_is)
    (case kEho => k_is)
    (case amEsh => k_is)
    (case fmEsh => k_is)
    (case lEsh => k_is)
    (case cEsh => k_is)
    (case kEsh => k_is)
    (case amEtw => k_is)
    (case fmEtw => k_is)
    (case lEtw => k_is)
    (case cEtw => k_is)
    (case kEtw => k_is)
    (case amEmo => k_is)
    (case fmEmo => k_is)
    (case lEmo => k_is)
    (case cEmo => k_is)
    (case kEmo => k_is)
    (case amEli => k_is)
    (case fmEli => k_is)
    (case lEli => k_is)
    (case cEli => k_is)
    (case kEli => k_is)
    (case amEvi => k_is)
    (case fmEvi => k_is)
    (case lEvi => k_is)
    (case cEvi => k_is)
    (case kEvi => k_is)
    (case amEne => k_is)
    (case fmEne => k_is)
    (case lEne => k_is)
    (case cEne => k_is)
    (case kEne => k_is)
    (case amEte => k_is)
    (case fmEte => k_is)
    (case lEte => k_is)
    (case cEte => k_is)
    (case kEte => k_is)
    (case gaK0 => k_is)
    (case rdK0 => k_is)
    (case fcK0 => k_is)
    (case z0 => k_is)
    (case z1 => k_is)
    (case z2 => k_is)
    (case z3 => k_is)
    (case z4 => k_is)
    (case z5 => k_is)
    (case z6 => k_is)
    (case z7 => k_is)
    (case z8 => k_is)
    (case z9 => k_is)
    (case z10 => k_is)
    (case gl0 => k_is)
    (case gl1 => k_is)
    (case gl2 => k_is)
    (case gl3 => k_is)
    (case gl4 => k_is)
    (case gl5 => k_is)
    (case eLaw => rfl)
#print axioms PySem.Challenge.cw_clonewood_k43_odd_arguments_holds
