import PyProof.Rows.All
import Wide.All
import OpenK.AllK
import Wide.FinOn
import Lean
import PyProof.EqAt
import PyProof.EqKinds
import PyProof.NeKinds
import PyProof.TupleCall
import PySem.Challenge.RW_clonewood_k21_knots_of_three_kinds
import PyProof.SetKind
import PyProof.Rows.SetFrom
import KE.KDictList
import KE.KEqDict
import OpenK.KCls
import PyProof.Rows.Range3
set_option tactic.hygienic false
set_option genInjectivity false
set_option genSizeOfSpec false
set_option bootstrap.genMatcherCode false
set_option Elab.async false
set_option linter.all false
set_option maxRecDepth 100000
namespace L2
open PySem PySem.Spec PyProof.Rows
abbrev Key:=Sum Int Str
def keyIs:Key→Value→Bool
  | .inl k,v=>Value.isInt k v
  | .inr x,v=>Value.isStrOf x v
def keyH (w:World):Key→Int
  | .inl k=>hashInt k
  | .inr x=>hashStr w x
theorem keyIs_shape:∀ {k:Key} {v:Value},keyIs k v = true→(∃ i t,k = Sum.inl i∧v = Value.int i t)∨(∃ x t,k = Sum.inr x∧v = Value.str x t)
  | .inl i,v,h=>by
    obtain ⟨t,e⟩:=Value.isInt_shape (k:=i) (v:=v) h
    exact .inl ⟨i,t,rfl,e⟩
  | .inr x,v,h=>by
    obtain ⟨t,e⟩:=Value.isStrOf_shape (x:=x) (v:=v) h
    exact .inr ⟨x,t,rfl,e⟩
theorem keyIs_int (i:Int) (t:Tok):keyIs (.inl i) (.int i t) = true:=by simp [keyIs,Value.isInt]
theorem keyIs_str (x:Str) (t:Tok):keyIs (.inr x) (.str x t) = true:=by simp [keyIs,Value.isStrOf]
theorem key_ll (a b:Int):decide ((Sum.inl a:Key) = Sum.inl b) = (a == b):=by
  by_cases e:a = b
  · subst e; simp
  · have h:¬ (Sum.inl a:Key) = Sum.inl b:=fun q=>e (Sum.inl.inj q)
    rw [decide_eq_false h]
    exact (beq_eq_false_iff_ne.mpr e).symm
theorem key_rr (a b:Str):decide ((Sum.inr a:Key) = Sum.inr b) = decide (a = b):=by
  by_cases e:a = b
  · subst e; simp
  · have h:¬ (Sum.inr a:Key) = Sum.inr b:=fun q=>e (Sum.inr.inj q)
    rw [decide_eq_false h,decide_eq_false e]
theorem key_lr (a:Int) (b:Str):decide ((Sum.inl a:Key) = Sum.inr b) = false:=decide_eq_false (fun q=>nomatch q)
theorem key_rl (a:Str) (b:Int):decide ((Sum.inr a:Key) = Sum.inl b) = false:=decide_eq_false (fun q=>nomatch q)
def mixKind (prog:Program) (w:World):PySem.KeyKind prog w Key where
  is:=keyIs
  hash:=keyH w
  inj:=fun v a b ha hb=>by
    rcases keyIs_shape ha with ⟨i,t,rfl,rfl⟩ | ⟨x,t,rfl,rfl⟩
    · rcases keyIs_shape hb with ⟨j,u,rfl,e⟩ | ⟨y,u,rfl,e⟩
      · injection e with e1 _; rw [e1]
      · exact nomatch e
    · rcases keyIs_shape hb with ⟨j,u,rfl,e⟩ | ⟨y,u,rfl,e⟩
      · exact nomatch e
      · injection e with e1 _; rw [e1]
  byValue:=fun k v h=>by
    rcases keyIs_shape h with ⟨i,t,rfl,rfl⟩ | ⟨x,t,rfl,rfl⟩ <;> rfl
  pyHash:=fun hv h=>by
    rcases keyIs_shape hv with ⟨i,t,rfl,rfl⟩ | ⟨x,t,rfl,rfl⟩
    · exact wpAny_pyHash_int h
    · exact wpAny_pyHash_str h
  eqBool:=fun hu hv h=>by
    rcases keyIs_shape hu with ⟨i,t,rfl,rfl⟩ | ⟨x,t,rfl,rfl⟩
    · rcases keyIs_shape hv with ⟨j,u,rfl,rfl⟩ | ⟨y,u,rfl,rfl⟩
      · rw [key_ll] at h; exact wpAny_eqBool_int h
      · rw [key_lr] at h; exact SeqAt.EqAt.int_str i t y u _ _ _ _ h
    · rcases keyIs_shape hv with ⟨j,u,rfl,rfl⟩ | ⟨y,u,rfl,rfl⟩
      · rw [key_rl] at h; exact SeqAt.EqAt.str_int x t j u _ _ _ _ h
      · rw [key_rr] at h; exact wpAny_eqBool_str h
  «strs»:=fun k x t v h=>by
    rcases keyIs_shape h with ⟨i,u,rfl,e⟩ | ⟨y,u,rfl,e⟩
    · exact nomatch e
    · injection e with e1 _
      subst e1
      cases v <;> rfl
theorem mixKind_int (prog:Program) (w:World) (i:Int) (t:Tok):(mixKind prog w).is (.inl i) (.int i t) = true:=keyIs_int i t
theorem mixKind_str (prog:Program) (w:World) (x:Str) (t:Tok):(mixKind prog w).is (.inr x) (.str x t) = true:=keyIs_str x t
end L2
namespace L2
open PySem PySem.Spec PyProof.Rows
set_option genInjectivity true in
inductive V where
  | non | bl (b:Bool) | int (i:Int) | str (x:Str) | byt (b:Array UInt8) | flt (b:UInt64) | ref (a:Addr) | ty (n:String)
  deriving DecidableEq
def RelV:V→Value→Prop
  | .non,u=>u = Value.none
  | .bl b,u=>u = Value.bool b
  | .int i,u=>∃ t,u = Value.int i t
  | .str x,u=>∃ t,u = Value.str x t
  | .byt b,u=>∃ t,u = Value.bytes b t
  | .flt b,u=>∃ t,u = Value.float b t
  | .ref a,u=>u = Value.ref a
  | .ty n,u=>u = Value.type n
abbrev Vals:List V→List Value→Prop:=Paired RelV
theorem Vals.length {xs:List V} {us:List Value} (r:Vals xs us):xs.length = us.length:=Paired.length r
theorem Vals.get:∀ {xs:List V} {us:List Value} {i:Nat} {x:V},Vals xs us→xs[i]? = some x→∃ u,us[i]? = some u∧RelV x u
  | _,_,_,_,.nil,e=>by simp at e
  | _,_,0,_,.cons r _,e=>by simp at e; subst e; exact ⟨_,rfl,r⟩
  | _,_,i + 1,x,.cons _ t,e=>by
    obtain ⟨u,h1,h2⟩:=Vals.get (i:=i) (x:=x) t (by simpa using e)
    exact ⟨u,by simpa using h1,h2⟩
theorem Vals.set {x:V} {u:Value} (r:RelV x u):∀ {xs:List V} {us:List Value} (i:Nat),Vals xs us→Vals (xs.set i x) (us.set i u)
  | _,_,_,.nil=>.nil
  | _,_,0,.cons _ t=>.cons r t
  | _,_,i + 1,.cons q t=>.cons q (Vals.set r i t)
theorem Vals.append:∀ {xs ys:List V} {us ws:List Value},Vals xs us→Vals ys ws→Vals (xs ++ ys) (us ++ ws)
  | _,_,_,_,.nil,s=>s
  | _,_,_,_,.cons r t,s=>.cons r (Vals.append t s)
theorem Vals.take:∀ {xs:List V} {us:List Value} (n:Nat),Vals xs us→Vals (xs.take n) (us.take n)
  | _,_,0,_=>.nil
  | _,_,_ + 1,.nil=>.nil
  | _,_,n + 1,.cons r t=>.cons r (Vals.take n t)
theorem Vals.drop:∀ {xs:List V} {us:List Value} (n:Nat),Vals xs us→Vals (xs.drop n) (us.drop n)
  | _,_,0,r=>r
  | _,_,_ + 1,.nil=>.nil
  | _,_,n + 1,.cons _ t=>Vals.drop n t
def RelO:Option V→Option Value→Prop
  | some v,some u=>RelV v u
  | none,none=>True
  | _,_=>False
def KV {κ:Type}:List (κ×V)→List (κ×Value)→Prop:=Paired fun (p:κ×V) (q:κ×Value)=>p.1 = q.1∧RelV p.2 q.2
def kV:Key→V
  | .inl i=>.int i
  | .inr x=>.str x
inductive HO where
  | lst (xs:List V)
  | tup (xs:List V)
  | dK (kvs:List (Key×V)) | dT (kvs:List (List Key×V))
  | set (S:Int→Bool) (n:Nat)
  | ins (C dx:Addr) (fs:List (Str×V))
  | own (x:Addr)
  | xd (fs:List (Str×V))
  | met (f x:Addr)
  | rng (lo hi:Int)
  | frz (o:Obj) (u:HO)
  | tbl (ps:Array Value)
  | ext (φ:Heap→Prop)
abbrev Hp:=Addr→Option HO
def upd (H:Hp) (a:Addr) (o:HO):Hp:=fun b=>if b = a then some o else H b
theorem upd_same {H:Hp} {a:Addr} {o:HO}:upd H a o a = some o:=by unfold upd; rw [if_pos rfl]
theorem upd_ne {H:Hp} {a b:Addr} {o:HO} (h:b ≠ a):upd H a o b = H b:=by unfold upd; rw [if_neg h]
theorem ne_of {H:Hp} {a b:Addr} {o u:HO} (h:H a = some o) (h':H b = some u) (d:o ≠ u):a ≠ b:=by
  intro e; subst e; rw [h] at h'; exact d (Option.some.inj h')
theorem ne_of_none {H:Hp} {a b:Addr} {o:HO} (h:H a = some o) (h':H b = none):a ≠ b:=by
  intro e; subst e; rw [h] at h'; cases h'
section
variable (P:Program) (w:World)
def ObjOk (H:Hp) (h:Heap) (a:Addr):HO→Prop
  | .lst xs=>xs.length ≤ sizeLine∧∃ (its:List Value) (n:Nat),Vals xs its∧h.get? a = some { cls:=.type "list",data:=.seq its.toArray n }
  | .tup xs=>xs.length ≤ sizeLine∧∃ its:List Value,Vals xs its∧IsTup h a its.toArray
  | .dK kvs=>kvs.length ≤ sizeLine∧(a == sysModules) = false∧∃ vs,KV kvs vs∧h.DictOf (mixKind P w) a vs
  | .dT kvs=>kvs.length ≤ sizeLine∧(a == sysModules) = false∧∃ xs:List (List Key×Addr×Value),
      Paired (fun (p:List Key×V) (q:List Key×Addr×Value)=>p.1 = q.1∧H q.2.1 = some (.tup (p.1.map kV))∧RelV p.2 q.2.2) kvs xs ∧
      ∃ o es ep,h.get? a = some o∧o.ExactDict∧o.data = .dict es ep∧es.toList = xs.map (entryOfKey (tupleKind (mixKind P w)))∧(xs.map (·.1)).Nodup
  | .set S n=>h.SetOf (intKind P w) a S n
  | .ins C dx fs=>H dx = some (.own a)∧fs.length ≤ 1000∧dx ≠ a∧h.get? a = some (PySem.W.instObj C dx) ∧
      ∃ mA,h.Ns1 dx mA∧(∀ f,RelO (fs.lookup f) (mA f))∧PySem.Within mA (fs.map (·.1))
  | .own _=>∃ o,h.get? a = some o
  | .xd fs=>∃ mA,h.Ns1 a mA∧∀ f,RelO (fs.lookup f) (mA f)
  | .rng lo hi=>∃ t u v,h.get? a = some { cls:=.type "range",data:=.fields #[.int lo t,.int hi u,.int 1 v] }
  | .frz o u=>h.get? a = some o∧ObjOk H h a u
  | .tbl ps=>h.get? a = some { cls:=.none,data:=.fields ps }
  | .met f x=>h.get? a = some (PySem.W.methodObj (.ref f) (.ref x))
  | .ext φ=>φ h∧(∃ o,h.get? a = some o)∧∀ h1 h2:Heap,φ h1→(∀ o,h1.get? a = some o→h2.get? a = some o)→φ h2
def HOk (H:Hp) (h:Heap):Prop:=∀ a o,H a = some o→ObjOk P w H h a o
end
section
variable {P:Program} {w:World} {H H':Hp} {h h':Heap} {a:Addr} {o:HO}
theorem ObjOk.lt (x:ObjOk P w H h a o):a < h.objs.size:=by
  cases o with
  | lst xs=>obtain ⟨_,_,_,_,e⟩:=x; exact Heap.lt_size e
  | tup xs=>obtain ⟨_,_,_,p⟩:=x; exact p.lt
  | dK kvs=>obtain ⟨_,_,_,_,o,_,_,e,_⟩:=x; exact Heap.lt_size e
  | dT kvs=>obtain ⟨_,_,_,_,o,_,_,e,_⟩:=x; exact Heap.lt_size e
  | set S n=>obtain ⟨o,_,_,_,e,_⟩:=x; exact Heap.lt_size e
  | ins C dx fs=>obtain ⟨_,_,_,e,_⟩:=x; exact Heap.lt_size e
  | own y=>obtain ⟨_,e⟩:=x; exact Heap.lt_size e
  | xd fs=>obtain ⟨_,⟨_,_,_,e,_⟩,_⟩:=x; exact Heap.lt_size e
  | rng lo hi=>obtain ⟨_,_,_,e⟩:=x; exact Heap.lt_size e
  | frz ob u=>obtain ⟨e,_⟩:=x; exact Heap.lt_size e
  | tbl ps=>exact Heap.lt_size (show h.get? a = some _ from x)
  | met f y=>exact Heap.lt_size (show h.get? a = some _ from x)
  | ext φ=>obtain ⟨_,⟨_,e⟩,_⟩:=x; exact Heap.lt_size e
theorem Paired.mapP {α β:Type} {F G:α→β→Prop}:∀ {l₁:List α} {l₂:List β},Paired F l₁ l₂→(∀ a b,F a b→G a b)→Paired G l₁ l₂
  | _,_,.nil,_=>.nil
  | _,_,.cons r t,f=>.cons (f _ _ r) (Paired.mapP t f)
theorem ObjOk.stay (x:ObjOk P w H h a o) (k:∀ b u,(b = a∨H b = some (.own a))→h.get? b = some u→h'.get? b = some u)
    (ho:∀ b,H b = some (.own a)→H' b = some (.own a)) (ht:∀ b xs,H b = some (.tup xs)→H' b = some (.tup xs)):ObjOk P w H' h' a o:=by
  induction o with
  | lst xs=>obtain ⟨z,its,n,r,e⟩:=x; exact ⟨z,its,n,r,k _ _ (.inl rfl) e⟩
  | tup xs=>obtain ⟨z,its,r,ob,e,c⟩:=x; exact ⟨z,its,r,ob,k _ _ (.inl rfl) e,c⟩
  | dK kvs=>obtain ⟨z,y,vs,r,ob,es,ep,e,c⟩:=x; exact ⟨z,y,vs,r,ob,es,ep,k _ _ (.inl rfl) e,c⟩
  | dT kvs =>
    obtain ⟨z,y,xs,r,ob,es,ep,e,c⟩:=x
    exact ⟨z,y,xs,Paired.mapP r fun p q z=>⟨z.1,ht _ _ z.2.1,z.2.2⟩,ob,es,ep,k _ _ (.inl rfl) e,c⟩
  | set S n=>obtain ⟨ob,es,ep,t,e,c⟩:=x; exact ⟨ob,es,ep,t,k _ _ (.inl rfl) e,c⟩
  | ins C dx fs =>
    obtain ⟨d,z,ne,e,mA,⟨od,es,ep,e2,c⟩,r⟩:=x
    exact ⟨ho _ d,z,ne,k _ _ (.inl rfl) e,mA,⟨od,es,ep,k _ _ (.inr d) e2,c⟩,r⟩
  | own y=>obtain ⟨ob,e⟩:=x; exact ⟨ob,k _ _ (.inl rfl) e⟩
  | xd fs=>obtain ⟨mA,⟨od,es,ep,e,c⟩,r⟩:=x; exact ⟨mA,⟨od,es,ep,k _ _ (.inl rfl) e,c⟩,r⟩
  | rng lo hi=>obtain ⟨t,u,v,e⟩:=x; exact ⟨t,u,v,k _ _ (.inl rfl) e⟩
  | frz ob u ih=>obtain ⟨e,q⟩:=x; exact ⟨k _ _ (.inl rfl) e,ih q⟩
  | tbl ps =>
    have e:h.get? a = some { cls:=.none,data:=.fields ps }:=x
    show h'.get? a = some { cls:=.none,data:=.fields ps }
    exact k a _ (.inl rfl) e
  | met f y =>
    have e:h.get? a = some (PySem.W.methodObj (.ref f) (.ref y)):=x
    show h'.get? a = some (PySem.W.methodObj (.ref f) (.ref y))
    exact k a _ (.inl rfl) e
  | ext φ=>obtain ⟨p,⟨o,e⟩,st⟩:=x; exact ⟨st _ _ p fun o q=>k _ _ (.inl rfl) q,⟨o,k _ _ (.inl rfl) e⟩,st⟩
theorem HOk.lt (x:HOk P w H h) (e:H a = some o):a < h.objs.size:=(x a o e).lt
theorem HOk.fresh (x:HOk P w H h) (e:h.objs.size ≤ a):H a = none:=by
  cases q:H a with
  | none=>rfl
  | some u=>exact absurd (Nat.lt_of_lt_of_le (x.lt q) e) (Nat.lt_irrefl _)
theorem HOk.kept (x:HOk P w H h) (k:∀ b u,h.get? b = some u→h'.get? b = some u):HOk P w H h':=fun a o e =>
  (x a o e).stay (fun b u _ q=>k b u q) (fun _ q=>q) fun _ _ q=>q
theorem HOk.laid (x:HOk P w H h) (k:∀ b u,h.get? b = some u→h'.get? b = some u) (hp:h.objs.size ≤ a) (new:ObjOk P w (upd H a o) h' a o):HOk P w (upd H a o) h':=fun b u e=>by
  have hn:=x.fresh hp
  by_cases hb:b = a
  · subst hb; rw [upd_same] at e; cases e; exact new
  · rw [upd_ne hb] at e
    exact (x b u e).stay (fun c v _ q=>k c v q) (fun c q=>by rw [upd_ne (ne_of_none q hn)]; exact q) fun c xs q=>by rw [upd_ne (ne_of_none q hn)]; exact q
end
def Rd (H:Hp) (a:Addr) (u:HO):Prop:=H a = some u∨∃ o,H a = some (.frz o u)
theorem Rd.ok {P:Program} {w:World} {H:Hp} {h:Heap} {a:Addr} {u:HO} (r:Rd H a u) (x:HOk P w H h):ObjOk P w H h a u:=by
  rcases r with r | ⟨o,r⟩
  · exact x a u r
  · obtain ⟨_,q⟩:=x a _ r
    exact q
def Mut:Option HO→Prop
  | some (.lst _)=>True
  | some (.dK _)=>True
  | some (.dT _)=>True
  | some (.set _ _)=>True
  | some (.ins _ _ _)=>True
  | some (.ext _)=>True
  | _=>False
section
variable {P:Program} {w:World} {H:Hp} {h h':Heap} {x e:Addr} {o':HO}
theorem HOk.write (ok:HOk P w H h) (mu:Mut (H x)) (he:e = x∨H e = some (.own x)) (k:∀ b u,b ≠ e→h.get? b = some u→h'.get? b = some u) (heo:∃ u,h'.get? e = some u)
    (new:ObjOk P w (upd H x o') h' x o'):HOk P w (upd H x o') h':=fun b u q=>by
  have nown:∀ c y,H c = some (.own y)→c ≠ x:=fun c y r z=>by subst z; rw [r] at mu; exact mu
  have ntup:∀ c xs,H c = some (.tup xs)→c ≠ x:=fun c xs r z=>by subst z; rw [r] at mu; exact mu
  by_cases hb:b = x
  · subst hb; rw [upd_same] at q; cases q; exact new
  · rw [upd_ne hb] at q
    by_cases hbe:b = e
    · have q':H b = some (.own x):=by
        rcases he with z | z
        · exact absurd (hbe.trans z) hb
        · rw [hbe]; exact z
      rw [q] at q'; cases q'
      obtain ⟨v,hv⟩:=heo
      exact ⟨v,by rw [hbe]; exact hv⟩
    · refine (ok b u q).stay (fun c v hc r=>k c v ?_ r) (fun c r=>by rw [upd_ne (nown c b r)]; exact r) fun c xs r=>by rw [upd_ne (ntup c xs r)]; exact r
      rcases hc with rfl | hc
      · exact hbe
      · rintro rfl
        rcases he with z | z
        · exact nown c b hc z
        · rw [hc] at z; cases z; exact hb rfl
end
structure Un (fs ex:List Addr) (H H':Hp) (h h':Heap):Prop where
  keep:∀ b o,h.get? b = some o→H b = none→b ∉ fs→b ∉ ex→h'.get? b = some o
  slot:∀ b o,h.get? b = some o→H b = none→b ∈ fs→b ∉ ex→∃ sl,h'.get? b = some { o with slots:=sl }
  free:∀ b o,h.get? b = some o→H b = none→b ∉ ex→H' b = none
  there:∀ b o,h.get? b = some o→b ∉ ex→∃ o',h'.get? b = some o'
  tups:∀ b xs,H b = some (.tup xs)→H' b = some (.tup xs)
  frzs:∀ b o u,H b = some (.frz o u)→H' b = some (.frz o u)
  tbls:∀ b ps,H b = some (.tbl ps)→∃ more,H' b = some (.tbl (ps ++ more))
section
variable {fs fs' ex ex':List Addr} {H H1 H2:Hp} {h h1 h2 h':Heap} {a x e:Addr} {o:HO}
theorem Un.any (u:Un fs ex H H1 h h1) {b:Addr} {ob:Obj} (q:h.get? b = some ob) (n:H b = none) (hx:b ∉ ex):∃ sl,h1.get? b = some { ob with slots:=sl }:=by
  by_cases hb:b ∈ fs
  · exact u.slot b ob q n hb hx
  · exact ⟨ob.slots,u.keep b ob q n hb hx⟩
theorem Un.kept (k:∀ b u,h.get? b = some u→h'.get? b = some u):Un fs ex H H h h' :=
  ⟨fun b ob q _ _ _=>k b ob q,fun b ob q _ _ _=>⟨ob.slots,k b ob q⟩,fun _ _ _ n _=>n,fun b ob q _=>⟨ob,k b ob q⟩,fun _ _ q=>q,fun _ _ _ q=>q,fun _ ps q=>⟨#[],by rw [q]; simp⟩⟩
theorem Un.refl:Un fs ex H H h h:=Un.kept fun _ _ q=>q
theorem Un.laid (k:∀ b u,h.get? b = some u→h'.get? b = some u) (hp:h.objs.size ≤ a) (hn:H a = none):Un fs ex H (upd H a o) h h' where
  keep:=fun b u q _ _ _=>k b u q
  slot:=fun b u q _ _ _=>⟨u.slots,k b u q⟩
  free:=fun b u q n _=>by rw [upd_ne (Nat.ne_of_lt (Nat.lt_of_lt_of_le (Heap.lt_size q) hp))]; exact n
  there:=fun b u q _=>⟨u,k b u q⟩
  tups:=fun b xs q=>by rw [upd_ne (ne_of_none q hn)]; exact q
  frzs:=fun b u xs q=>by rw [upd_ne (ne_of_none q hn)]; exact q
  tbls:=fun b ps q=>⟨#[],by rw [upd_ne (ne_of_none q hn),q]; simp⟩
theorem Un.write (mu:Mut (H x)) (he:e = x∨H e = some (.own x)) (k:∀ b u,b ≠ e→h.get? b = some u→h'.get? b = some u) (heo:∃ u,h'.get? e = some u):Un fs ex H (upd H x o) h h':=by
  have hx:∀ b,H b = none→b ≠ x:=fun b n z=>by subst z; rw [n] at mu; exact mu
  have hb:∀ b,H b = none→b ≠ e:=fun b n z=>by
    subst z
    rcases he with r | r
    · exact hx b n r
    · rw [n] at r; cases r
  have hm:∀ b u,H b = some u→¬ Mut (some u)→b ≠ x:=fun b u q nm z=>by subst z; rw [q] at mu; exact nm mu
  refine ⟨fun b u q n _ _=>k b u (hb b n) q,fun b u q n _ _=>⟨u.slots,k b u (hb b n) q⟩,fun b u q n _=>by rw [upd_ne (hx b n)]; exact n,fun b u q _=>?_,
    fun b xs q=>by rw [upd_ne (hm b _ q fun z=>z)]; exact q,fun b u xs q=>by rw [upd_ne (hm b _ q fun z=>z)]; exact q,fun b ps q=>⟨#[],by rw [upd_ne (hm b _ q fun z=>z),q]; simp⟩⟩
  by_cases hbe:b = e
  · subst hbe; exact heo
  · exact ⟨u,k b u hbe q⟩
end
def trk (h:Heap) (H:Hp):List Addr:=(List.range h.objs.size).filter fun a=>(H a).isSome
def hidT (h:Heap) (H:Hp):Heap:=PySem.W.hideAll h (trk h H)
theorem hidT_size (h:Heap) (H:Hp):(hidT h H).objs.size = h.objs.size:=PySem.W.hideAll_size _ _
theorem hidT_get {h:Heap} {H:Hp} {b:Addr} {o:Obj} (e:h.get? b = some o) (n:H b = none):(hidT h H).get? b = some o :=
  PySem.W.hideAll_get _ e fun hm=>by
    have q:(H b).isSome = true:=(List.mem_filter.mp hm).2
    rw [n] at q; simp at q
theorem of_hidT {h:Heap} {H:Hp} {b:Addr} {o:Obj} (e:(hidT h H).get? b = some o):h.get? b = some o∧H b = none:=by
  have e':h.get? b = some o:=PySem.W.of_hideAll (trk h H) e
  refine ⟨e',?_⟩
  cases q:H b with
  | none=>rfl
  | some x =>
    have hm:b ∈ trk h H:=List.mem_filter.mpr ⟨List.mem_range.mpr (Heap.lt_size e'),by simp [q]⟩
    have z:(hidT h H).get? b = none:=PySem.W.hideAll_none (trk h H) hm
    rw [z] at e; cases e
end L2
namespace L2
open PySem PySem.Spec PyProof.Rows
structure Mod (K:PySem.W.Frag) (mg:Str→Option Value) (base:Heap):Prop where
  kin:K.In base
  glob:base.Ns mainGlobals mg
  blt:∃ mb,base.Ns builtinsNs mb∧∀ x:Str,x ≠ "__name__"→mb x = bootBuiltins x
  nolimit:base.NoLimit
structure Cx where
  prog:Program
  w:World
  K:PySem.W.Frag
  mg:Str→Option Value
  base:Heap
  A:Around
  N:List Str
  s₀:Shared
  H₀:Hp
  env:Env
  outer:List Env
  stack:List Env
  ex:List Addr
  fn:Str→Bool
  calm:Bool
  pn:List (Addr×Obj)
  xe:Value→Shared→Prop
def frs (l:List Env):List Addr:=l.filterMap (·.frame)
abbrev Cx.fs (X:Cx):List Addr:=frs X.outer
def Vis (sc:Scope) (x:Str):Prop:=sc.names.lookup x = some .local∨sc.names.lookup x = some .cell∨sc.names.lookup x = some .free
def Loc (sc:Scope) (x:Str):Prop:=sc.names.lookup x = some .local∨sc.names.lookup x = some .cell
def Look (env:Env) (h:Heap) (m:Str→Option Value) (x:Str) (u:Value):Prop :=
  (env.kindOf x = some .local∧m x = some u)∨((env.kindOf x = some .cell∨env.kindOf x = some .free)∧∃ c,env.cells.lookup x = some c∧h.IsCell c (some u))
structure Cx.Ok (X:Cx):Prop where
  mod:Mod X.K X.mg X.base
  kind:X.env.scope.kind = .function
  glob:X.env.globals = mainGlobals
  blt:X.env.builtins = builtinsNs
  above:X.s₀.heap.objs.size ≤ X.env.locals
  inj:∀ x y c,X.env.cells.lookup x = some c→X.env.cells.lookup y = some c→x = y
  has:∀ x,(X.env.kindOf x = some .cell∨X.env.kindOf x = some .free)→∃ c,X.env.cells.lookup x = some c
  cab:∀ x c,X.fn x = true→X.env.cells.lookup x = some c→X.s₀.heap.objs.size ≤ c
  hd:X.calm = true→X.A.handled = none
  frames:X.A.frames = some X.stack
  stk:X.stack = X.outer∨(X.stack = X.env :: X.outer∧X.env.frame = some X.env.locals)
  exf:∀ b ∈ X.ex,b ≠ X.env.locals∧∀ x c,X.env.cells.lookup x = some c→c ≠ b
  bs:∀ b o,X.base.get? b = some o→X.s₀.heap.get? b = some o∧X.H₀ b = none
  bsz:X.base.objs.size ≤ X.s₀.heap.objs.size
  noex:∀ b o,X.base.get? b = some o→b ∉ X.ex
  exfs:∀ b ∈ X.ex,b ∉ X.fs
  funs:X.s₀.heap.FunFrames X.base X.outer
  frf:∀ b ∈ X.fs,X.H₀ b = none
structure Inv (X:Cx) (pins:List (Addr×Obj)) (σ:List (Option V)) (H:Hp) (s:Shared):Prop where
  ok:X.Ok
  os:s.os = X.s₀.os
  bare:AllBare s.gens
  base:Un X.fs X.ex X.H₀ H X.s₀.heap s.heap
  loc:∃ m,s.heap.Ns X.env.locals m∧∀ (i:Nat) (x:Str) (v:V),X.N[i]? = some x→σ[i]? = some (some v)→Vis X.env.scope x→∃ u,RelV v u∧Look X.env s.heap m x u
  cell:∀ x c,X.env.cells.lookup x = some c→∃ v,s.heap.IsCell c v
  free:H X.env.locals = none
  freeC:∀ x c,X.env.cells.lookup x = some c→H c = none
  pin:∀ p ∈ X.pn ++ pins,s.heap.get? p.1 = some p.2∧H p.1 = none∧p.1 ≠ X.env.locals∧p.1 ∉ X.fs∧∀ v,p.2.data ≠ .cell v
  hok:HOk X.prog X.w H s.heap
  len:σ.length = X.N.length
section
variable {X:Cx} {pins:List (Addr×Obj)} {σ:List (Option V)} {H H':Hp} {s:Shared} {h':Heap}
theorem Cx.Ok.nofr (ok:X.Ok) {b:Addr} {o:Obj} (e:X.base.get? b = some o):b ∉ X.fs:=fun hb=>by
  have:=(ok.funs.mem hb).1
  rw [e] at this; cases this
theorem Inv.bs (I:Inv X pins σ H s):∀ b o,X.base.get? b = some o→s.heap.get? b = some o∧H b = none:=fun b o e =>
  ⟨I.base.keep b o (I.ok.bs b o e).1 (I.ok.bs b o e).2 (I.ok.nofr e) (I.ok.noex b o e),I.base.free b o (I.ok.bs b o e).1 (I.ok.bs b o e).2 (I.ok.noex b o e)⟩
theorem Inv.bk (I:Inv X pins σ H s):∀ b o,X.base.get? b = some o→s.heap.get? b = some o:=fun b o e=>(I.bs b o e).1
theorem Inv.mod (I:Inv X pins σ H s):Mod X.K X.mg X.base:=I.ok.mod
theorem Inv.kIn (I:Inv X pins σ H s):X.K.In s.heap:=I.ok.mod.kin.keeps I.bk
theorem Inv.lt (I:Inv X pins σ H s):X.env.locals < s.heap.objs.size:=let ⟨_,hn,_⟩:=I.loc; hn.lt
theorem Inv.sz (I:Inv X pins σ H s):X.s₀.heap.objs.size ≤ s.heap.objs.size:=Nat.le_trans I.ok.above (Nat.le_of_lt I.lt)
theorem Inv.nofs (I:Inv X pins σ H s) {a:Addr} (h:s.heap.objs.size ≤ a):a ∉ X.fs:=fun hb=>by
  obtain ⟨_,o,ho,_⟩:=I.ok.funs.mem hb
  exact absurd (Nat.lt_of_lt_of_le (Heap.lt_size ho) (Nat.le_trans I.sz h)) (Nat.lt_irrefl _)
theorem Inv.cne (I:Inv X pins σ H s):∀ x c,X.env.cells.lookup x = some c→c ≠ X.env.locals:=fun x c e z=>by
  obtain ⟨v,o,ho,hd⟩:=I.cell x c e
  obtain ⟨m,⟨o',es,ep,ho',hd',_⟩,_⟩:=I.loc
  rw [z,ho'] at ho; cases ho; rw [hd'] at hd; cases hd
theorem Inv.funs (I:Inv X pins σ H s):s.heap.FunFrames X.base X.outer:=by
  have all:∀ (l:List Env),(∀ b ∈ frs l,b ∈ X.fs)→X.s₀.heap.FunFrames X.base l→s.heap.FunFrames X.base l:=by
    intro l
    induction l with
    | nil=>intro _ _; trivial
    | cons env r ih =>
      intro hs hl
      obtain ⟨hk,⟨L,o,hf,hn,ho,hd⟩,hr⟩:=hl
      have hL:L ∈ X.fs:=hs L (by unfold frs; rw [List.filterMap_cons,hf]; exact List.mem_cons_self)
      obtain ⟨sl,e⟩:=I.base.slot L o ho (I.ok.frf L hL) hL fun z=>I.ok.exfs L z hL
      exact ⟨hk,⟨L,_,hf,hn,e,hd⟩,ih (fun b hb=>hs b (by unfold frs; rw [List.filterMap_cons,hf]; exact List.mem_cons_of_mem _ hb)) hr⟩
  exact all X.outer (fun _ hb=>hb) I.ok.funs
theorem Inv.stack (I:Inv X pins σ H s):s.heap.FunFrames X.base X.stack:=by
  rcases I.ok.stk with e | ⟨e,hf⟩
  · rw [e]; exact I.funs
  · rw [e]
    obtain ⟨m,hn,_⟩:=I.loc
    refine .cons (by rw [I.ok.kind]; decide) hf hn ?_ I.funs
    exact Heap.get?_none_of_le (Nat.le_trans I.ok.bsz I.ok.above)
theorem Inv.stkSub (I:Inv X pins σ H s):∀ b ∈ frs X.stack,b ∈ X.env.locals :: X.fs:=fun b hb=>by
  rcases I.ok.stk with e | ⟨e,hf⟩
  · rw [e] at hb; exact List.mem_cons_of_mem _ hb
  · rw [e] at hb
    unfold frs at hb
    rw [List.filterMap_cons,hf] at hb
    exact hb
theorem Inv.stkFree (I:Inv X pins σ H s):∀ b ∈ frs X.stack,H b = none:=fun b hb=>by
  rcases List.mem_cons.mp (I.stkSub b hb) with e | hb
  · rw [e]; exact I.free
  · obtain ⟨_,o,ho,_⟩:=I.ok.funs.mem hb
    exact I.base.free b o ho (I.ok.frf b hb) fun z=>I.ok.exfs b z hb
theorem Inv.step {g':Array GenState} {t':Nat} {d':Drawn} {ch:List Addr} (I:Inv X pins σ H s)
    (hch:∀ b ∈ ch,(b ∈ X.ex∨X.s₀.heap.objs.size ≤ b)∧b ≠ X.env.locals∧(∀ x c,X.env.cells.lookup x = some c→c ≠ b)∧∀ p ∈ X.pn ++ pins,p.1 ≠ b)
    (keep:∀ b o,b ≠ X.env.locals→b ∉ X.fs→b ∉ ch→s.heap.get? b = some o→H b = none→h'.get? b = some o)
    (slot:∀ b o,b ≠ X.env.locals→b ∈ X.fs→b ∉ ch→s.heap.get? b = some o→H b = none→∃ sl,h'.get? b = some { o with slots:=sl }) (free:∀ b o,b ∉ ch→s.heap.get? b = some o→H b = none→H' b = none)
    (there:∀ b o,b ∉ ch→s.heap.get? b = some o→∃ o',h'.get? b = some o')
    (tups:∀ b xs,H b = some (.tup xs)→H' b = some (.tup xs)) (frzs:∀ b o u,H b = some (.frz o u)→H' b = some (.frz o u)) (tbls:∀ b ps,H b = some (.tbl ps)→∃ more,H' b = some (.tbl (ps ++ more)))
    (ns:∀ m,s.heap.Ns X.env.locals m→h'.Ns X.env.locals m) (hok:HOk X.prog X.w H' h') (hg:AllBare g') :
    Inv X pins σ H' { s with heap:=h',gens:=g',drawn:=d',toks:=t' }:=by
  have neL:∀ b o,X.s₀.heap.get? b = some o→b ≠ X.env.locals:=fun b o e=>Nat.ne_of_lt (Nat.lt_of_lt_of_le (Heap.lt_size e) I.ok.above)
  have neC:∀ b o,X.s₀.heap.get? b = some o→b ∉ X.ex→b ∉ ch:=fun b o e hx hb=>by
    rcases (hch b hb).1 with z | z
    · exact hx z
    · exact absurd (Nat.lt_of_lt_of_le (Heap.lt_size e) z) (Nat.lt_irrefl _)
  have cellK:∀ x c,X.env.cells.lookup x = some c→∀ v,s.heap.IsCell c v→h'.IsCell c v:=fun x c e v ⟨o,ho,hd⟩=>by
    have nch:c ∉ ch:=fun z=>(hch c z).2.2.1 x c e rfl
    by_cases hc:c ∈ X.fs
    · obtain ⟨sl,q⟩:=slot c o (I.cne x c e) hc nch ho (I.freeC x c e)
      exact ⟨_,q,hd⟩
    · exact ⟨o,keep c o (I.cne x c e) hc nch ho (I.freeC x c e),hd⟩
  refine ⟨I.ok,I.os,hg,⟨fun b o e n hb hx=>?_,fun b o e n hb hx=>?_,fun b o e n hx=>?_,fun b o e hx=>?_,fun b xs e=>tups b xs (I.base.tups b xs e),fun b o xs e=>frzs b o xs (I.base.frzs b o xs e),fun b ps e=>?_⟩,?_,fun x c e=>?_,?_,fun x c e=>?_,fun p hp=>?_,hok,I.len⟩
  · exact keep b o (neL b o e) hb (neC b o e hx) (I.base.keep b o e n hb hx) (I.base.free b o e n hx)
  · obtain ⟨sl,e1⟩:=I.base.slot b o e n hb hx
    obtain ⟨sl',e2⟩:=slot b _ (neL b o e) hb (neC b o e hx) e1 (I.base.free b o e n hx)
    exact ⟨sl',e2⟩
  · obtain ⟨o',e1⟩:=I.base.there b o e hx
    exact free b o' (neC b o e hx) e1 (I.base.free b o e n hx)
  · obtain ⟨o',e1⟩:=I.base.there b o e hx
    exact there b o' (neC b o e hx) e1
  · obtain ⟨m1,e1⟩:=I.base.tbls b ps e
    obtain ⟨m2,e2⟩:=tbls b _ e1
    exact ⟨m1 ++ m2,by rw [e2,Array.append_assoc]⟩
  · obtain ⟨m,hn,hl⟩:=I.loc
    refine ⟨m,ns m hn,fun i x v e1 e2 e3=>?_⟩
    obtain ⟨u,r,l⟩:=hl i x v e1 e2 e3
    refine ⟨u,r,?_⟩
    rcases l with l | ⟨k,c,e,z⟩
    · exact .inl l
    · exact .inr ⟨k,c,e,cellK x c e _ z⟩
  · obtain ⟨v,z⟩:=I.cell x c e
    exact ⟨v,cellK x c e v z⟩
  · obtain ⟨m,⟨o,_,_,ho,_⟩,_⟩:=I.loc
    exact free _ o (fun z=>(hch _ z).2.1 rfl) ho I.free
  · obtain ⟨v,o,ho,hd⟩:=I.cell x c e
    exact free c o (fun z=>(hch c z).2.2.1 x c e rfl) ho (I.freeC x c e)
  · obtain ⟨e,n,ne,nf,d⟩:=I.pin p hp
    have nch:p.1 ∉ ch:=fun z=>(hch p.1 z).2.2.2 p hp rfl
    exact ⟨keep p.1 p.2 ne nf nch e n,free p.1 p.2 nch e n,ne,nf,d⟩
theorem Inv.un {t':Nat} (I:Inv X pins σ H s) (u:Un X.fs [] H H' s.heap h') (hok:HOk X.prog X.w H' h'):Inv X pins σ H' { s with heap:=h',toks:=t' }:=by
  obtain ⟨m,⟨o,es,ep,ho,r⟩,_⟩:=id I.loc
  obtain ⟨sl,hL⟩:=u.any ho I.free (by simp)
  exact I.step (g':=s.gens) (d':=s.drawn) (ch:=[]) (fun _ z=>nomatch z) (fun b o _ hb _ e n=>u.keep b o e n hb (by simp)) (fun b o _ hb _ e n=>u.slot b o e n hb (by simp)) (fun b o _ e n=>u.free b o e n (by simp)) (fun b o _ e=>u.there b o e (by simp)) u.tups u.frzs u.tbls (fun m' hm=>by
    obtain ⟨o',es',ep',ho',r'⟩:=hm
    rw [ho] at ho'; cases ho'
    exact ⟨_,es',ep',hL,r'⟩) hok I.bare
theorem Inv.call {g':Array GenState} {t':Nat} {d':Drawn} {ch:List Addr} (I:Inv X pins σ H s) (u:Un (frs X.stack) ch H H' s.heap h') (hok:HOk X.prog X.w H' h') (hg:AllBare g')
    (hch:∀ b ∈ ch,(b ∈ X.ex∨X.s₀.heap.objs.size ≤ b)∧b ≠ X.env.locals∧(∀ x c,X.env.cells.lookup x = some c→c ≠ b)∧∀ p ∈ X.pn ++ pins,p.1 ≠ b) :
    Inv X pins σ H' { s with heap:=h',gens:=g',drawn:=d',toks:=t' }:=by
  obtain ⟨m,⟨o,es,ep,ho,r⟩,_⟩:=id I.loc
  obtain ⟨sl,hL⟩:=u.any ho I.free fun z=>(hch _ z).2.1 rfl
  exact I.step (ch:=ch) hch (fun b o hL hb hc e n=>u.keep b o e n (fun z=>(List.mem_cons.mp (I.stkSub b z)).elim hL hb) hc) (fun b o _ _ hc e n=>u.any e n hc) (fun b o hc e n=>u.free b o e n hc) (fun b o hc e=>u.there b o e hc) u.tups u.frzs u.tbls (fun m' hm=>by
    obtain ⟨o',es',ep',ho',r'⟩:=hm
    rw [ho] at ho'; cases ho'
    exact ⟨_,es',ep',hL,r'⟩) hok hg
theorem Inv.turned {t':Nat} {it:Addr} (I:Inv X pins σ H s) (k:∀ b o,b ≠ it→s.heap.get? b = some o→h'.get? b = some o) (hn:H it = none) (hL:it ≠ X.env.locals)
    (h1:it ∈ X.ex∨X.s₀.heap.objs.size ≤ it) (h2:∀ x c,X.env.cells.lookup x = some c→c ≠ it) (h3:∀ p ∈ X.pn ++ pins,p.1 ≠ it):Inv X pins σ H { s with heap:=h',toks:=t' }:=by
  have nit:∀ b u,H b = some u→b ≠ it:=fun b u e z=>by rw [z,hn] at e; cases e
  refine I.step (g':=s.gens) (d':=s.drawn) (ch:=[it]) (fun b hb=>?_) (fun b o _ _ hc e _=>k b o (fun z=>hc (by simp [z])) e) (fun b o _ _ hc e _=>⟨o.slots,k b o (fun z=>hc (by simp [z])) e⟩) (fun _ _ _ _ n=>n)
    (fun b o hc e=>⟨o,k b o (fun z=>hc (by simp [z])) e⟩) (fun _ _ e=>e) (fun _ _ _ e=>e) (fun b ps e=>⟨#[],by rw [e]; simp⟩) (fun m hm=>?_) (fun b u e=>?_) I.bare
  · have e:b = it:=by simpa using hb
    subst e
    exact ⟨h1,hL,h2,h3⟩
  · obtain ⟨o,es,ep,ho,r⟩:=hm
    exact ⟨o,es,ep,k _ o (Ne.symm hL) ho,r⟩
  · refine (I.hok b u e).stay (fun c v hc q=>k c v ?_ q) (fun _ q=>q) fun _ _ q=>q
    rcases hc with z | z
    · rw [z]; exact nit b u e
    · exact nit c _ z
theorem Inv.tok (I:Inv X pins σ H s) (t:Nat):Inv X pins σ H { s with toks:=t }:=I.un (h':=s.heap) (t':=t) Un.refl I.hok
theorem Inv.kept {t':Nat} (I:Inv X pins σ H s) (k:∀ b u,s.heap.get? b = some u→h'.get? b = some u):Inv X pins σ H { s with heap:=h',toks:=t' }:=I.un (Un.kept k) (I.hok.kept k)
theorem Inv.laid {a:Addr} {o:HO} {t':Nat} (I:Inv X pins σ H s) (k:∀ b u,s.heap.get? b = some u→h'.get? b = some u) (hp:s.heap.objs.size ≤ a) (new:ObjOk X.prog X.w (upd H a o) h' a o) :
    Inv X pins σ (upd H a o) { s with heap:=h',toks:=t' }:=I.un (Un.laid k hp (I.hok.fresh hp)) (I.hok.laid k hp new)
theorem Inv.write {x e:Addr} {o:HO} {t':Nat} (I:Inv X pins σ H s) (mu:Mut (H x)) (he:e = x∨H e = some (.own x)) (k:∀ b u,b ≠ e→s.heap.get? b = some u→h'.get? b = some u) (heo:∃ u,h'.get? e = some u)
    (new:ObjOk X.prog X.w (upd H x o) h' x o):Inv X pins σ (upd H x o) { s with heap:=h',toks:=t' }:=I.un (Un.write mu he k heo) (I.hok.write mu he k heo new)
theorem Inv.pins_of {pins':List (Addr×Obj)} (I:Inv X pins σ H s) (h:∀ p ∈ pins',s.heap.get? p.1 = some p.2∧H p.1 = none∧p.1 ≠ X.env.locals∧p.1 ∉ X.fs∧∀ v,p.2.data ≠ .cell v):Inv X pins' σ H s :=
  ⟨I.ok,I.os,I.bare,I.base,I.loc,I.cell,I.free,I.freeC,fun p hp=>(List.mem_append.mp hp).elim (fun z=>I.pin p (List.mem_append_left _ z)) (h p),I.hok,I.len⟩
theorem nodup_ix {N:List Str} (hN:N.Nodup) {i j:Nat} {x:Str} (a:N[i]? = some x) (b:N[j]? = some x):i = j:=by
  obtain ⟨h1,e1⟩:=List.getElem?_eq_some_iff.mp a
  obtain ⟨h2,e2⟩:=List.getElem?_eq_some_iff.mp b
  exact (List.getElem_inj hN).mp (e1.trans e2.symm)
theorem store_ok2 {M:Model} {A:Around} {E:Value→Shared→Prop} {i:Nat} {x:Str} {v:V} {u:Value} {Q:Unit→Shared→Prop} (I:Inv X pins σ H s) (hN:X.N.Nodup) (hi:X.N[i]? = some x) (hx:Loc X.env.scope x) (r:RelV v u)
    (h:∀ s',Inv X pins (σ.set i (some v)) H s'→(∃ a,Heap.SameBut a s.heap s'.heap∧(a = X.env.locals∨X.env.cells.lookup x = some a))→Q () s') (hf:X.fn x = true∨X.env.scope.names.lookup x = some .local:=by first | exact .inl rfl | exact .inr rfl | assumption):wpAny M A (storeName X.env x u) Q E s:=by
  obtain ⟨m,hn,hl⟩:=id I.loc
  have hcls:(X.env.scope.kind == .class || (X.env.scope.kind == .module && X.env.locals != X.env.globals)) = false:=by rw [I.ok.kind]; rfl
  have hiσ:i < σ.length:=by rw [I.len]; exact (List.getElem?_eq_some_iff.mp hi).1
  have cne:=I.cne
  have tracked:∀ {a:Addr} {h':Heap},(∃ o,s.heap.get? a = some o∧H a = none)→Heap.SameBut a s.heap h'→HOk X.prog X.w H h':=fun {a h'} ha hs b ob e=>by
    obtain ⟨_,_,hfree⟩:=ha
    refine (I.hok b ob e).stay (fun c w' hc q=>(hs.2 c ?_).trans q) (fun _ q=>q) fun _ _ q=>q
    rintro rfl
    rcases hc with rfl | hc
    · rw [hfree] at e; cases e
    · rw [hfree] at hc; cases hc
  rcases hx with hk | hk
  · refine wpAny_storeName_local hk hn (fun h' hn' hs=>?_) hcls
    obtain ⟨oL,_,_,hoL,_⟩:=id hn
    refine h _ ⟨I.ok,I.os,I.bare,⟨fun b o e n hb hx=>?_,fun b o e n hb hx=>?_,I.base.free,fun b o e hx=>?_,I.base.tups,I.base.frzs,I.base.tbls⟩,⟨_,hn',fun j y v' e1 e2 e3=>?_⟩,fun y c e=>?_,I.free,I.freeC,fun p hp=>?_,tracked ⟨oL,hoL,I.free⟩ hs,by simpa using I.len⟩ ⟨_,hs,.inl rfl⟩
    · exact (hs.2 b (Nat.ne_of_lt (Nat.lt_of_lt_of_le (Heap.lt_size e) I.ok.above))).trans (I.base.keep b o e n hb hx)
    · obtain ⟨sl,e1⟩:=I.base.slot b o e n hb hx
      exact ⟨sl,(hs.2 b (Nat.ne_of_lt (Nat.lt_of_lt_of_le (Heap.lt_size e) I.ok.above))).trans e1⟩
    · obtain ⟨o',e1⟩:=I.base.there b o e hx
      exact ⟨o',(hs.2 b (Nat.ne_of_lt (Nat.lt_of_lt_of_le (Heap.lt_size e) I.ok.above))).trans e1⟩
    · by_cases hj:j = i
      · subst hj
        rw [hi] at e1; cases e1
        rw [List.getElem?_set_self hiσ] at e2
        cases e2
        exact ⟨u,r,.inl ⟨hk,by simp⟩⟩
      · rw [List.getElem?_set_ne (Ne.symm hj)] at e2
        obtain ⟨u',r',q⟩:=hl j y v' e1 e2 e3
        refine ⟨u',r',?_⟩
        rcases q with ⟨k,e⟩ | ⟨k,c,e,z⟩
        · refine .inl ⟨k,?_⟩
          have:y ≠ x:=fun e=>hj (nodup_ix hN e1 (e ▸ hi))
          simp [this,e]
        · exact .inr ⟨k,c,e,z.sameBut hs (cne y c e)⟩
    · obtain ⟨w',z⟩:=I.cell y c e
      exact ⟨w',z.sameBut hs (cne y c e)⟩
    · obtain ⟨e,n,ne,nf,d⟩:=I.pin p hp
      exact ⟨(hs.2 p.1 ne).trans e,n,ne,nf,d⟩
  · have hfn:X.fn x = true:=by
      rcases hf with z | z
      · exact z
      · rw [z] at hk; cases hk
    obtain ⟨c,hc⟩:=I.ok.has x (.inl hk)
    obtain ⟨w',z⟩:=I.cell x c hc
    refine wpAny_storeName_cell I.ok.kind hk hc z (fun h' hc' hs=>?_)
    obtain ⟨oc,hoc,hocd⟩:=id z
    refine h { s with heap:=h' } ⟨I.ok,I.os,I.bare,⟨fun b o e n hb hx=>?_,fun b o e n hb hx=>?_,I.base.free,fun b o e hx=>?_,I.base.tups,I.base.frzs,I.base.tbls⟩,⟨m,hn.sameBut hs (Ne.symm (cne x c hc)),fun j y v' e1 e2 e3=>?_⟩,fun y c' e=>?_,I.free,I.freeC,fun p hp=>?_,tracked ⟨oc,hoc,I.freeC x c hc⟩ hs,by simpa using I.len⟩ ⟨c,hs,.inr hc⟩
    · exact (hs.2 b (Nat.ne_of_lt (Nat.lt_of_lt_of_le (Heap.lt_size e) (I.ok.cab x c hfn hc)))).trans (I.base.keep b o e n hb hx)
    · obtain ⟨sl,e1⟩:=I.base.slot b o e n hb hx
      exact ⟨sl,(hs.2 b (Nat.ne_of_lt (Nat.lt_of_lt_of_le (Heap.lt_size e) (I.ok.cab x c hfn hc)))).trans e1⟩
    · obtain ⟨o',e1⟩:=I.base.there b o e hx
      exact ⟨o',(hs.2 b (Nat.ne_of_lt (Nat.lt_of_lt_of_le (Heap.lt_size e) (I.ok.cab x c hfn hc)))).trans e1⟩
    · by_cases hj:j = i
      · subst hj
        rw [hi] at e1; cases e1
        rw [List.getElem?_set_self hiσ] at e2
        cases e2
        exact ⟨u,r,.inr ⟨.inl hk,c,hc,hc'⟩⟩
      · rw [List.getElem?_set_ne (Ne.symm hj)] at e2
        obtain ⟨u',r',q⟩:=hl j y v' e1 e2 e3
        refine ⟨u',r',?_⟩
        rcases q with q | ⟨k,c',e,z'⟩
        · exact .inl q
        · refine .inr ⟨k,c',e,z'.sameBut hs ?_⟩
          rintro rfl
          exact hj (nodup_ix hN e1 (I.ok.inj _ _ _ e hc ▸ hi))
    · by_cases hcc:c' = c
      · subst hcc; exact ⟨_,hc'⟩
      · obtain ⟨w2,z2⟩:=I.cell y c' e
        exact ⟨w2,z2.sameBut hs hcc⟩
    · obtain ⟨e,n,ne,nf,d⟩:=I.pin p hp
      refine ⟨(hs.2 p.1 ?_).trans e,n,ne,nf,d⟩
      intro q
      rw [q,hoc] at e
      have q':oc = p.2:=Option.some.inj e
      exact d w' (by rw [← q']; exact hocd)
theorem store_ok {M:Model} {A:Around} {E:Value→Shared→Prop} {i:Nat} {x:Str} {v:V} {u:Value} {Q:Unit→Shared→Prop} (I:Inv X pins σ H s) (hN:X.N.Nodup) (hi:X.N[i]? = some x) (hx:Loc X.env.scope x) (r:RelV v u)
    (h:∀ s',Inv X pins (σ.set i (some v)) H s'→Q () s') (hf:X.fn x = true∨X.env.scope.names.lookup x = some .local:=by first | exact .inl rfl | exact .inr rfl | assumption):wpAny M A (storeName X.env x u) Q E s :=
  store_ok2 I hN hi hx r (fun s' I' _=>h s' I') hf
end
abbrev XK:=Value→Option Addr→Hp→Prop
abbrev St:=List (Option V)
abbrev VK:=V→Hp→Prop
abbrev TE:=St→Hp→VK→Prop
abbrev TT:=St→Hp→(Bool→Hp→Prop)→Prop
abbrev TA:=St→Hp→(List V→Hp→Prop)→Prop
structure Ends where
  nx:St→Hp→Prop
  rt:VK
  bk:St→Hp→Prop:=fun _ _=>False
  ct:St→Hp→Prop:=fun _ _=>False
abbrev TS:=Ends→St→Hp→Prop
def EP (X:Cx) (pins:List (Addr×Obj)) (σ:St) (Q:VK) (u:Value) (s':Shared):Prop:=∃ v H',Inv X pins σ H' s'∧RelV v u∧Q v H'
def TP (X:Cx) (pins:List (Addr×Obj)) (σ:St) (Q:Bool→Hp→Prop) (b:Bool) (s':Shared):Prop:=∃ H',Inv X pins σ H' s'∧Q b H'
def AP (X:Cx) (pins:List (Addr×Obj)) (σ:St) (Q:List V→Hp→Prop) (us:List Value) (s':Shared):Prop:=∃ vs H',Inv X pins σ H' s'∧Vals vs us∧Q vs H'
def SP (X:Cx) (pins:List (Addr×Obj)) (D:Ends) (f:Flow) (s':Shared):Prop :=
  match f with
  | .next=>∃ σ' H',Inv X pins σ' H' s'∧D.nx σ' H'
  | .brk=>∃ σ' H',Inv X pins σ' H' s'∧D.bk σ' H'
  | .cont=>∃ σ' H',Inv X pins σ' H' s'∧D.ct σ' H'
  | .ret u=>∃ v σ' H',Inv X pins σ' H' s'∧RelV v u∧D.rt v H'
def PE (X:Cx) (e:Expr) (t:TE):Prop :=
  ∀ (pins:List (Addr×Obj)) (s:Shared) (σ:St) (H:Hp) (Q:VK),Inv X pins σ H s→t σ H Q→wpAny (model X.prog X.w) X.A (eval e X.env) (EP X pins σ Q) X.xe s
def PT (X:Cx) (e:Expr) (t:TT):Prop :=
  ∀ (pins:List (Addr×Obj)) (s:Shared) (σ:St) (H:Hp) (Q:Bool→Hp→Prop),Inv X pins σ H s→t σ H Q→wpAny (model X.prog X.w) X.A (isTrue e X.env (eval e X.env)) (TP X pins σ Q) X.xe s
def PW (X:Cx) (e:Expr) (t:TT):Prop :=
  ∀ (whole:Sem Value) (pins:List (Addr×Obj)) (s:Shared) (σ:St) (H:Hp) (Q:Bool→Hp→Prop),Inv X pins σ H s→t σ H Q→wpAny (model X.prog X.w) X.A (isTrue e X.env whole) (TP X pins σ Q) X.xe s
theorem PW.pt {X:Cx} {e:Expr} {t:TT} (h:PW X e t):PT X e t:=h _
def PA (X:Cx) (es:List Expr) (t:TA):Prop :=
  ∀ (pos:Pos) (pins:List (Addr×Obj)) (s:Shared) (σ:St) (H:Hp) (Q:List V→Hp→Prop),Inv X pins σ H s→t σ H Q→wpAny (model X.prog X.w) X.A (spliced (backTo pos (starEach es X.env))) (AP X pins σ Q) X.xe s
def PS (X:Cx) (st:Stmt) (t:TS):Prop :=
  ∀ (pins:List (Addr×Obj)) (s:Shared) (σ:St) (H:Hp) (D:Ends),Inv X pins σ H s→t D σ H→wpAny (model X.prog X.w) X.A (exec st X.env) (SP X pins D) X.xe s
def PSs (X:Cx) (st:List Stmt) (t:TS):Prop :=
  ∀ (pins:List (Addr×Obj)) (s:Shared) (σ:St) (H:Hp) (D:Ends),Inv X pins σ H s→t D σ H→wpAny (model X.prog X.w) X.A (execs st X.env) (SP X pins D) X.xe s
theorem thn {α:Type} {t:Sem α} {Q Q':α→Shared→Prop} {M:Model} {A:Around} {E:Value→Shared→Prop} {s:Shared} (h:wpAny M A t Q E s) (hQ:∀ a s,Q a s→Q' a s):wpAny M A t Q' E s:=wpAny_mono h hQ fun _ _ x=>x
end L2
namespace L2
open PySem PySem.Spec PyProof.Rows
section
variable {X:Cx}
theorem bin {a b:Expr} {ta tb:TE} (ha:PE X a ta) (hb:PE X b tb) {pins:List (Addr×Obj)} {s:Shared} {σ:St} {H:Hp} {R:V→V→Hp→Prop} (I:Inv X pins σ H s) (h:ta σ H fun x H1=>tb σ H1 fun y H2=>R x y H2)
    {α:Type} {Q:α→Shared→Prop} {f:Value→Value→Sem α}
    (hf:∀ v u s2 x y H2,Inv X pins σ H2 s2→RelV x v→RelV y u→R x y H2→wpAny (model X.prog X.w) X.A (f v u) Q X.xe s2) :
    wpAny (model X.prog X.w) X.A (eval a X.env) (fun v s₁=>wpAny (model X.prog X.w) X.A (eval b X.env) (fun u s₂=>wpAny (model X.prog X.w) X.A (f v u) Q X.xe s₂) X.xe s₁) X.xe s:=by
  refine thn (ha pins s σ H _ I h) fun v s1 ⟨x,H1,I1,r1,q1⟩=>?_
  refine thn (hb pins s1 σ H1 _ I1 q1) fun u s2 ⟨y,H2,I2,r2,q2⟩=>?_
  exact hf v u s2 x y H2 I2 r1 r2 q2
def tVar (i:Nat):TE:=fun σ H Q=>∃ v,σ[i]? = some (some v)∧Q v H
def tC (v:V):TE:=fun _ H Q=>Q v H
theorem pe_var {i:Nat} {x:Str} {pos:Pos} (hN:X.N[i]? = some x) (hv:Vis X.env.scope x) (hd:(x == ("__debug__":Str)) = false:=by decide) (hcd:(x == ("__classdict__":Str)) = false:=by decide):PE X (.Name x pos) (tVar i):=by
  intro pins s σ H Q I h
  obtain ⟨v,e,h⟩:=h
  obtain ⟨m,hn,hl⟩:=I.loc
  obtain ⟨u,r,l⟩:=hl i x v hN e hv
  have fin:EP X pins σ Q u s:=⟨v,H,I,r,h⟩
  rcases l with ⟨hk,hm⟩ | ⟨hk,c,hc,hcell⟩
  · exact wpAny_Name (wpAny_loadName_local I.ok.kind hk hn hm fin) hd
  · rcases hk with hk | hk
    · exact wpAny_Name (wpAny_loadName_cell I.ok.kind hk hc hcell fin) hd
    · exact wpAny_Name (wpAny_loadName_free I.ok.kind hk hc hcell fin hcd) hd
theorem pe_int {i j pos}:PE X (.Constant (.int i) j pos) (tC (.int i)):=fun _ _ _ H _ I h=>wpAny_Constant_int ⟨.int i,H,I.tok _,⟨_,rfl⟩,h⟩
theorem pe_bl {b j pos}:PE X (.Constant (.bool b) j pos) (tC (.bl b)):=fun _ _ _ H _ I h=>Constant_bool ⟨.bl b,H,I,rfl,h⟩
theorem pe_non {j pos}:PE X (.Constant .none j pos) (tC .non):=fun _ _ _ H _ I h=>Constant_none ⟨.non,H,I,rfl,h⟩
theorem pe_str {x j pos}:PE X (.Constant (.str x) j pos) (tC (.str x)):=fun _ _ _ H _ I h=>Calls.Constant_str ⟨.str x,H,I.tok _,⟨_,rfl⟩,h⟩
def Gl (X:Cx) (x:Str):Prop:=X.env.kindOf x = some .globalImplicit
theorem ld_glob {E:Value→Shared→Prop} {pins:List (Addr×Obj)} {s:Shared} {σ:St} {H:Hp} {x:Str} {u:Value} {pos:Pos} {Q:Value→Shared→Prop} (I:Inv X pins σ H s) (hg:Gl X x) (hm:X.mg x = some u) (h:Q u s)
    (hd:(x == ("__debug__":Str)) = false:=by decide):wpAny (model X.prog X.w) X.A (eval (.Name x pos) X.env) Q E s :=
  Calls.Name_function_global I.ok.kind hg (Calls.loadGlobal_global (by rw [I.ok.glob]; exact I.mod.glob.keeps I.bk) hm h) hd
theorem ld_blt {E:Value→Shared→Prop} {pins:List (Addr×Obj)} {s:Shared} {σ:St} {H:Hp} {x:Str} {u:Value} {pos:Pos} {Q:Value→Shared→Prop} (I:Inv X pins σ H s) (hg:Gl X x) (hm:X.mg x = none) (hv:bootBuiltins x = some u) (h:Q u s)
    (hn:x ≠ "__name__":=by decide) (hd:(x == ("__debug__":Str)) = false:=by decide):wpAny (model X.prog X.w) X.A (eval (.Name x pos) X.env) Q E s:=by
  obtain ⟨mb,h1,h2⟩:=I.mod.blt
  exact Calls.Name_function_global I.ok.kind hg (Calls.loadGlobal_builtin (by rw [I.ok.glob]; exact I.mod.glob.keeps I.bk) hm (by rw [I.ok.blt]; exact h1.keeps I.bk) ((h2 x hn).trans hv) h) hd
theorem pe_glob {x:Str} {v:V} {u:Value} {pos:Pos} (hg:Gl X x) (hm:X.mg x = some u) (r:RelV v u) (hd:(x == ("__debug__":Str)) = false:=by decide):PE X (.Name x pos) (tC v) :=
  fun _ _ _ H _ I h=>ld_glob I hg hm ⟨v,H,I,r,h⟩ hd
theorem pe_bltn {x:Str} {v:V} {u:Value} {pos:Pos} (hg:Gl X x) (hm:X.mg x = none) (hv:bootBuiltins x = some u) (r:RelV v u) (hn:x ≠ "__name__":=by decide) (hd:(x == ("__debug__":Str)) = false:=by decide):PE X (.Name x pos) (tC v) :=
  fun _ _ _ H _ I h=>ld_blt I hg hm hv ⟨v,H,I,r,h⟩ hn hd
variable {a b:Expr} {ta tb:TE} {pos:Pos}
def PC (X:Cx) (op:CmpOp) (a b:Expr) (t:TE):Prop :=
  ∀ (pins:List (Addr×Obj)) (s:Shared) (σ:St) (H:Hp) (Q:VK),Inv X pins σ H s→t σ H Q →
    wpAny (model X.prog X.w) X.A (eval a X.env) (fun v s₁=>wpAny (model X.prog X.w) X.A (eval b X.env) (fun u s₂=>wpAny (model X.prog X.w) X.A (compareOp op v u) (EP X pins σ Q) X.xe s₂) X.xe s₁) X.xe s
def tB (t:TE):TT:=fun σ H Q=>t σ H fun x H1=>∃ c,x = .bl c∧Q c H1
theorem pt_cmp {op:CmpOp} {t:TE} (h:PC X op a b t) (h1:behindInMarks op b = false:=by first | exact nobehind _ (by decide) (by decide) | rfl):PT X (.Compare a [op] [b] pos) (tB t):=by
  intro pins s σ H Q I hw
  refine wpAny_isTrue_Compare1 (thn (h pins s σ H _ I hw) fun v s1 h1=>thn h1 fun u s2 h2=>thn h2 fun c s3 ⟨x,H1,I1,r1,q1⟩=>?_) h1
  obtain ⟨d,rfl,q⟩:=q1
  cases r1
  exact wpAny_truthy_bool ⟨H1,I1,q⟩
theorem pt_val {e:Expr} {t:TE} (h:PE X e t) (he:∀ whole,isTrue e X.env whole = (do let v ← whole; standAt e.pos; holding [v] (truthy v)):=by intro _; rfl):PT X e (tB t):=by
  intro pins s σ H Q I hw
  refine isTrue_plain (thn (h pins s σ H _ I hw) fun v s1 ⟨x,H1,I1,r1,q1⟩=>?_) (he _)
  obtain ⟨d,rfl,q⟩:=q1
  cases r1
  exact wpAny_truthy_bool ⟨H1,I1,q⟩
variable {tA tB':TT} {rest:List Expr}
def tAnd (t u:TT):TT:=fun σ H Q=>t σ H fun c H1=>if c = true then u σ H1 Q else Q false H1
def tOr (t u:TT):TT:=fun σ H Q=>t σ H fun c H1=>if c = true then Q true H1 else u σ H1 Q
def tNot (t:TT):TT:=fun σ H Q=>t σ H fun c H1=>Q (!c) H1
theorem pw_and1 (ha:PT X a tA):PW X (.BoolOp .And [a] pos) tA:=by
  intro wh pins s σ H Q I h
  refine isTrue_and (thn (ha pins s σ H Q I h) fun c s1 e=>?_)
  cases c with
  | true=>exact isTrue_and_nil e
  | false=>exact e
theorem pw_or1 (ha:PT X a tA):PW X (.BoolOp .Or [a] pos) tA:=by
  intro wh pins s σ H Q I h
  refine isTrue_or (thn (ha pins s σ H Q I h) fun c s1 e=>?_)
  cases c with
  | false=>exact isTrue_or_nil e
  | true=>exact e
theorem pw_and (ha:PT X a tA) (hb:PW X (.BoolOp .And (b :: rest) pos) tB'):PW X (.BoolOp .And (a :: b :: rest) pos) (tAnd tA tB'):=by
  intro wh pins s σ H Q I h
  refine isTrue_and (thn (ha pins s σ H _ I h) fun c s1 ⟨H1,I1,q1⟩=>?_)
  cases c with
  | true=>exact hb wh pins s1 σ H1 Q I1 q1
  | false=>exact ⟨H1,I1,q1⟩
theorem pw_or (ha:PT X a tA) (hb:PW X (.BoolOp .Or (b :: rest) pos) tB'):PW X (.BoolOp .Or (a :: b :: rest) pos) (tOr tA tB'):=by
  intro wh pins s σ H Q I h
  refine isTrue_or (thn (ha pins s σ H _ I h) fun c s1 ⟨H1,I1,q1⟩=>?_)
  cases c with
  | true=>exact ⟨H1,I1,q1⟩
  | false=>exact hb wh pins s1 σ H1 Q I1 q1
theorem pt_not (ha:PT X a tA):PT X (.UnaryOp .Not a pos) (tNot tA):=by
  intro pins s σ H Q I h
  exact isTrue_not (ha pins s σ H (fun c H1=>Q (!c) H1) I h)
def tAndV (ta tb:TE):TE:=fun σ H Q=>ta σ H fun x H1=>∃ c,x = .bl c∧if c = true then tb σ H1 Q else Q (.bl false) H1
theorem pe_one {op} {t:TE} (h:PE X a t):PE X (.BoolOp op [a] pos) t:=fun pins s σ H Q I hw=>BoolOp_one (h pins s σ H Q I hw)
theorem pe_and (ha:PE X a ta) (hb:PE X (.BoolOp .And (b :: rest) pos) tb):PE X (.BoolOp .And (a :: b :: rest) pos) (tAndV ta tb):=by
  intro pins s σ H Q I h
  refine BoolOp_and (thn (ha pins s σ H _ I h) fun v s1 ⟨x,H1,I1,r1,q1⟩=>?_)
  obtain ⟨c,rfl,q1⟩:=q1
  cases r1
  refine wpAny_truthy_bool ?_
  cases c with
  | true=>exact hb pins s1 σ H1 Q I1 q1
  | false=>exact ⟨.bl false,H1,I1,rfl,q1⟩
end
end L2
namespace L2
open PySem PySem.Spec PyProof.Rows
def SqL (K:PySem.W.Frag) (H:Hp) (a:Addr) (xs:List V):Prop :=
  Rd H a (.lst xs) ∨
    ∃ (o:Obj) (its:Array Value) (n:Nat),K.lookup a = some o∧o.cls = .type "list"∧o.dict = none∧o.data = .seq its n∧its.size ≤ sizeLine∧Vals xs its.toList
def SqT (K:PySem.W.Frag) (H:Hp) (a:Addr) (xs:List V):Prop :=
  Rd H a (.tup xs) ∨
    ∃ (o:Obj) (its:Array Value) (n:Nat),K.lookup a = some o∧o.cls = .type "tuple"∧o.data = .seq its n∧its.size ≤ sizeLine∧Vals xs its.toList
def absV:Value→Option V
  | .none=>some .non
  | .bool b=>some (.bl b)
  | .int i _=>some (.int i)
  | .str x _=>some (.str x)
  | .bytes b _=>some (.byt b)
  | .float b _=>some (.flt b)
  | .ref a=>some (.ref a)
  | .type n=>some (.ty n)
  | _=>none
theorem RelV.abs {x:V} {u:Value} (r:RelV x u):absV u = some x:=by
  cases x with
  | non=>cases r; rfl
  | bl _=>cases r; rfl
  | int _=>obtain ⟨t,rfl⟩:=r; rfl
  | str _=>obtain ⟨t,rfl⟩:=r; rfl
  | byt _=>obtain ⟨t,rfl⟩:=r; rfl
  | flt _=>obtain ⟨t,rfl⟩:=r; rfl
  | ref _=>cases r; rfl
  | ty _=>cases r; rfl
theorem RelV.inj {x y:V} {u:Value} (r:RelV x u) (q:RelV y u):x = y:=Option.some.inj (r.abs.symm.trans q.abs)
theorem Vals.inj:∀ {xs ys:List V} {us:List Value},Vals xs us→Vals ys us→xs = ys
  | _,_,_,.nil,.nil=>rfl
  | _,_,_,.cons r t,.cons r' t'=>by rw [r.inj r',Vals.inj t t']
section
variable {X:Cx} {pins:List (Addr×Obj)} {σ:St} {H:Hp} {s:Shared} {a:Addr} {xs ys:List V}
theorem SqL.of {K:PySem.W.Frag} (h:H a = some (.lst xs)):SqL K H a xs:=.inl (.inl h)
theorem SqT.of {K:PySem.W.Frag} (h:H a = some (.tup xs)):SqT K H a xs:=.inl (.inl h)
theorem Inv.list (I:Inv X pins σ H s) (h:SqL X.K H a xs):∃ its:List Value,Vals xs its∧PlainL s.heap a its.toArray∧xs.length ≤ sizeLine:=by
  rcases h with h | ⟨o,its,n,hk,hc,hd,hs,hz,r⟩
  · obtain ⟨z,its,n,r,e⟩:=h.ok I.hok
    exact ⟨its,r,⟨_,n,e,rfl,rfl,rfl⟩,z⟩
  · refine ⟨its.toList,r,⟨o,n,I.kIn a o hk,hc,hd,by simpa using hs⟩,?_⟩
    have e:=r.length
    simp only [Array.length_toList] at e
    lia
theorem Inv.tuple (I:Inv X pins σ H s) (h:SqT X.K H a xs):∃ its:List Value,Vals xs its∧IsTup s.heap a its.toArray∧xs.length ≤ sizeLine:=by
  rcases h with h | ⟨o,its,n,hk,hc,hs,hz,r⟩
  · obtain ⟨z,its,r,p⟩:=h.ok I.hok
    exact ⟨its,r,p,z⟩
  · refine ⟨its.toList,r,⟨o,I.kIn a o hk,hc,n,by simpa using hs⟩,?_⟩
    have e:=r.length
    simp only [Array.length_toList] at e
    lia
theorem Inv.list_inj (I:Inv X pins σ H s) (h:SqL X.K H a xs) (h':SqL X.K H a ys):xs = ys:=by
  obtain ⟨its,r,⟨o,n,e,_,_,d⟩,_⟩:=I.list h
  obtain ⟨its',r',⟨o',n',e',_,_,d'⟩,_⟩:=I.list h'
  rw [e] at e'; cases e'
  rw [d] at d'
  injection d' with d1 _
  have:its = its':=by simpa using congrArg Array.toList d1
  subst this
  exact r.inj r'
theorem Inv.tuple_inj (I:Inv X pins σ H s) (h:SqT X.K H a xs) (h':SqT X.K H a ys):xs = ys:=by
  obtain ⟨its,r,⟨o,e,_,n,d⟩,_⟩:=I.tuple h
  obtain ⟨its',r',⟨o',e',_,n',d'⟩,_⟩:=I.tuple h'
  rw [e] at e'; cases e'
  rw [d] at d'
  injection d' with d1 _
  have:its = its':=by simpa using congrArg Array.toList d1
  subst this
  exact r.inj r'
end
abbrev Cx.wish (X:Cx) (E:Value→Shared→Prop):Cx:={ X with xe:=E }
abbrev Cx.nox (X:Cx):Cx:=X.wish fun _ _=>False
theorem Cx.Ok.wish {X:Cx} (ok:X.Ok) (E:Value→Shared→Prop):(X.wish E).Ok :=
  ⟨ok.mod,ok.kind,ok.glob,ok.blt,ok.above,ok.inj,ok.has,ok.cab,ok.hd,ok.frames,ok.stk,ok.exf,ok.bs,ok.bsz,ok.noex,ok.exfs,ok.funs,ok.frf⟩
theorem Cx.Ok.unwish {X:Cx} {E:Value→Shared→Prop} (ok:(X.wish E).Ok):X.Ok :=
  ⟨ok.mod,ok.kind,ok.glob,ok.blt,ok.above,ok.inj,ok.has,ok.cab,ok.hd,ok.frames,ok.stk,ok.exf,ok.bs,ok.bsz,ok.noex,ok.exfs,ok.funs,ok.frf⟩
section
variable {X:Cx} {pins:List (Addr×Obj)} {σ:St} {H:Hp} {s:Shared} {E:Value→Shared→Prop}
theorem Inv.wish (I:Inv X pins σ H s) (E:Value→Shared→Prop):Inv (X.wish E) pins σ H s:=⟨I.ok.wish E,I.os,I.bare,I.base,I.loc,I.cell,I.free,I.freeC,I.pin,I.hok,I.len⟩
theorem Inv.unwish (I:Inv (X.wish E) pins σ H s):Inv X pins σ H s:=⟨I.ok.unwish,I.os,I.bare,I.base,I.loc,I.cell,I.free,I.freeC,I.pin,I.hok,I.len⟩
theorem SP.unwish {D:Ends} {f:Flow} {s':Shared} (h:SP (X.wish E) pins D f s'):SP X pins D f s':=by
  cases f with
  | next=>obtain ⟨σ',H',I,q⟩:=h; exact ⟨σ',H',I.unwish,q⟩
  | brk=>obtain ⟨σ',H',I,q⟩:=h; exact ⟨σ',H',I.unwish,q⟩
  | cont=>obtain ⟨σ',H',I,q⟩:=h; exact ⟨σ',H',I.unwish,q⟩
  | ret u=>obtain ⟨v,σ',H',I,r,q⟩:=h; exact ⟨v,σ',H',I.unwish,r,q⟩
theorem PSs.nox {st:List Stmt} {t:TS} (h:PSs X.nox st t):PSs X st t:=fun pins s σ H D I hw =>
  wpAny_mono (h pins s σ H D (I.wish _) hw) (fun _ _ q=>q.unwish) fun _ _ z=>False.elim z
end
section
variable {X:Cx} {st:Stmt} {rest:List Stmt} {t u:TS} {e:Expr} {te:TE} {pos:Pos}
def tNext:TS:=fun D σ H=>D.nx σ H
def tSeq (t u:TS):TS:=fun D σ H=>t { D with nx:=u D } σ H
theorem pss_nil:PSs X [] tNext:=fun _ _ σ H _ I h=>wpAny_execs_nil ⟨σ,H,I,h⟩
theorem pss_cons (h1:PS X st t) (h2:PSs X rest u):PSs X (st :: rest) (tSeq t u):=by
  intro pins s σ H D I h
  refine wpAny_execs_cons (thn (h1 pins s σ H { D with nx:=u D } I h) fun f s1 q=>?_)
  cases f with
  | next =>
    obtain ⟨σ',H',I',q⟩:=q
    exact h2 pins s1 σ' H' D I' q
  | ret v=>exact q
  | brk=>exact q
  | cont=>exact q
theorem pss_one (h1:PS X st t):PSs X [st] t:=by
  intro pins s σ H D I h
  refine wpAny_execs_cons (thn (h1 pins s σ H D I h) fun f s1 q=>?_)
  cases f with
  | next=>exact wpAny_execs_nil q
  | ret v=>exact q
  | brk=>exact q
  | cont=>exact q
theorem Inv.quiet {pins:List (Addr×Obj)} {σ:St} {H:Hp} {s:Shared} (I:Inv X pins σ H s):interactive X.env = false:=by simp [interactive,I.ok.kind]
def tDrop (te:TE):TS:=fun D σ H=>te σ H fun _ H1=>D.nx σ H1
theorem ps_expr (he:PE X e te) (hs:swapsWith e none pos.line X.env = pure false:=by rfl):PS X (.Expr e pos) (tDrop te):=by
  intro pins s σ H D I h
  exact wpAny_Expr_any (thn (he pins s σ H _ I h) fun v s1 ⟨x,H1,I1,r1,q1⟩=>⟨σ,H1,I1,q1⟩) I.quiet hs
def tRet (te:TE):TS:=fun D σ H=>te σ H D.rt
theorem ps_ret (he:PE X e te):PS X (.Return (some e) pos) (tRet te):=by
  intro pins s σ H D I h
  exact wpAny_Return_some (thn (he pins s σ H _ I h) fun v s1 ⟨x,H1,I1,r1,q1⟩=>⟨x,σ,H1,I1,r1,q1⟩)
def tIfS (c:TT) (t u:TS):TS:=fun D σ H=>c σ H fun b H1=>if b = true then t D σ H1 else u D σ H1
theorem ps_if {c:Expr} {a b:List Stmt} {tc:TT} (hc:PT X c tc) (ha:PSs X a t) (hb:PSs X b u):PS X (.If c a b pos) (tIfS tc t u):=by
  intro pins s σ H D I h
  refine wpAny_If (thn (hc pins s σ H _ I h) fun d s1 ⟨H1,I1,q1⟩=>?_)
  cases d with
  | true=>exact ha pins s1 σ H1 D I1 q1
  | false=>exact hb pins s1 σ H1 D I1 q1
end
abbrev TG:=V→St→Hp→(St→Hp→Prop)→Prop
abbrev TGs:=List V→St→Hp→(St→Hp→Prop)→Prop
def PG (X:Cx) (target:Expr) (t:TG):Prop :=
  ∀ (pins:List (Addr×Obj)) (s:Shared) (σ:St) (H:Hp) (v:V) (u:Value) (Q:St→Hp→Prop),Inv X pins σ H s→RelV v u→t v σ H Q →
    wpAny (model X.prog X.w) X.A (assign target X.env u) (fun _ s'=>∃ σ' H',Inv X pins σ' H' s'∧Q σ' H') X.xe s
def PGs (X:Cx) (ts:List Expr) (t:TGs):Prop :=
  ∀ (pins:List (Addr×Obj)) (s:Shared) (σ:St) (H:Hp) (vs:List V) (us:List Value) (Q:St→Hp→Prop),Inv X pins σ H s→Vals vs us→t vs σ H Q →
    wpAny (model X.prog X.w) X.A (assignInOrder ((assignEach ts X.env).map (·.2)) us) (fun _ s'=>∃ σ' H',Inv X pins σ' H' s'∧Q σ' H') X.xe s
abbrev TSet:=V→V→V→Hp→(Hp→Prop)→Prop
def PSet (X:Cx) (t:TSet):Prop :=
  ∀ (pins:List (Addr×Obj)) (s:Shared) (σ:St) (H:Hp) (o i v:V) (ov iv u:Value) (Q:Hp→Prop),Inv X pins σ H s→RelV o ov→RelV i iv→RelV v u→t o i v H Q →
    wpAny (model X.prog X.w) X.A (setItem ov iv u) (fun _ s'=>∃ H',Inv X pins σ H' s'∧Q H') X.xe s
section
variable {X:Cx} {pos:Pos}
def gName (i:Nat):TG:=fun v σ H Q=>Q (σ.set i (some v)) H
theorem pg_name {i:Nat} {x:Str} (hN:X.N.Nodup) (hi:X.N[i]? = some x) (hx:Loc X.env.scope x) (hf:X.fn x = true∨X.env.scope.names.lookup x = some .local:=by first | exact .inl rfl | exact .inr rfl | assumption):PG X (.Name x pos) (gName i):=by
  intro pins s σ H v u Q I r h
  exact wpAny_assign_Name (store_ok I hN hi hx r (fun s' I'=>⟨_,H,I',h⟩) hf)
def gNil:TGs:=fun vs σ H Q=>vs = []∧Q σ H
def gCons (t:TG) (u:TGs):TGs:=fun vs σ H Q=>∃ v r,vs = v :: r∧t v σ H fun σ' H'=>u r σ' H' Q
theorem pgs_nil:PGs X [] gNil:=by
  intro pins s σ H vs us Q I r h
  obtain ⟨e,h⟩:=h
  subst e
  cases r
  exact assignInOrder_nil ⟨σ,H,I,h⟩
theorem pgs_cons {e:Expr} {es:List Expr} {t:TG} {u:TGs} (h1:PG X e t) (h2:PGs X es u)
    (hs:(assignEach (e :: es) X.env).map (·.2) = assign e X.env :: (assignEach es X.env).map (·.2):=by rfl):PGs X (e :: es) (gCons t u):=by
  intro pins s σ H vs us Q I r h
  obtain ⟨v,vr,e1,h⟩:=h
  subst e1
  cases r with
  | cons r rr =>
    rw [hs]
    refine assignInOrder_cons (thn (h1 pins s σ H _ _ _ I r h) fun _ s1 ⟨σ1,H1,I1,q1⟩=>?_)
    exact h2 pins s1 σ1 H1 _ _ Q I1 rr q1
def gTup (K:PySem.W.Frag) (n:Nat) (t:TGs):TG:=fun v σ H Q=>∃ a xs,v = .ref a∧SqT K H a xs∧xs.length = n∧t xs σ H Q
theorem pg_tup {es:List Expr} {k:Nat} {t:TGs} {n:Nat} (hc:X.calm = true) (h:PGs X es t)
    (hn:(assignEach es X.env).length = n:=by rfl) (hst:(assignEach es X.env).findIdx? (·.1) = none:=by rfl):PG X (.Tuple es k pos) (gTup X.K n t):=by
  intro pins s σ H v u Q I r hw
  obtain ⟨a,xs,e1,hq,hl,hw⟩:=hw
  subst e1
  cases r
  obtain ⟨its,rv,ht,hz⟩:=I.tuple hq
  refine assign_Tuple_tuple (I.ok.hd hc) ht (by simp [hn,← hl,rv.length]) hst fun h' hx=>?_
  have I1:Inv X pins σ H { s with heap:=h' }:=I.kept (t':=s.toks) fun b o e=>hx b o (Nat.ne_of_lt (Heap.lt_size e)) e
  exact h pins _ σ H xs _ Q I1 (by simpa using rv) hw
def gSub (to ti:TE) (t:TSet):TG:=fun v σ H Q=>to σ H fun o H1=>ti σ H1 fun i H2=>t o i v H2 fun H3=>Q σ H3
theorem pg_sub {o i:Expr} {to ti:TE} {t:TSet} (ho:PE X o to) (hi:PE X i ti) (hs:PSet X t)
    (ha:∀ v,assign (.Subscript o i pos) X.env v = (do
      let ov ← holding [v] (eval o X.env)
      let iv ← holding [v,ov] (eval i X.env)
      standAt pos
      holding [v,ov,iv] (setItem ov iv v)
      release [v,ov,iv] []):=by intro _; rfl):PG X (.Subscript o i pos) (gSub to ti t):=by
  intro pins s σ H v u Q I r h
  rw [ha]
  refine wpAny_bind (wpAny_holding (thn (ho pins s σ H _ I h) fun ov s1 ⟨x,H1,I1,r1,q1⟩=>?_))
  refine wpAny_bind (wpAny_holding (thn (hi pins s1 σ H1 _ I1 q1) fun iv s2 ⟨y,H2,I2,r2,q2⟩=>?_))
  refine wpAny_bind (wpAny_standAt (wpAny_bind (wpAny_holding (thn (hs pins s2 σ H2 x y v ov iv u _ I2 r1 r2 r q2) fun _ s3 ⟨H3,I3,q3⟩=>?_))))
  exact wpAny_release ⟨σ,H3,I3,q3⟩
def tAsg (te:TE) (g:TG):TS:=fun D σ H=>te σ H fun x H1=>g x σ H1 D.nx
theorem ps_asg {tg e:Expr} {te:TE} {g:TG} (he:PE X e te) (hg:PG X tg g) (hs:swapsWithSole [tg] e pos.line X.env = pure false:=by rfl) (hw:swappedStores [tg] e X.env = pure none:=by rfl)
    (h1:(assignEach [tg] X.env).map (·.2) = [assign tg X.env]:=by rfl):PS X (.Assign [tg] e pos) (tAsg te g):=by
  intro pins s σ H D I h
  refine wpAny_Assign_stores (thn (he pins s σ H _ I h) fun v s1 ⟨x,H1,I1,r1,q1⟩=>?_) hs hw
  rw [h1]
  exact thn (hg pins s1 σ H1 x v _ I1 r1 q1) fun _ s2 q=>q
theorem ps_set {i:Nat} {x:Str} {e:Expr} {te:TE} {pos':Pos} (hN:X.N.Nodup) (hi:X.N[i]? = some x) (hx:Loc X.env.scope x) (he:PE X e te) (hs:swapsWith e (some (.Name x pos')) pos.line X.env = pure false:=by rfl) (hf:X.fn x = true∨X.env.scope.names.lookup x = some .local:=by first | exact .inl rfl | exact .inr rfl | assumption) :
    PS X (.Assign [.Name x pos'] e pos) (tAsg te (gName i)):=by
  intro pins s σ H D I h
  refine wpAny_Assign_Name (thn (he pins s σ H _ I h) fun v s1 ⟨y,H1,I1,r1,q1⟩=>?_) hs
  exact store_ok I1 hN hi hx r1 (fun s2 I2=>⟨_,H1,I2,q1⟩) hf
end
section
variable {X:Cx} {pos:Pos}
end
structure It where
  go:Nat→Hp→Prop
  yld:Nat→Hp→V→Hp→Prop
  stop:Nat→Hp→Prop
def FpOk (X:Cx) (pins:List (Addr×Obj)) (H:Hp) (b:Addr):Prop :=
  H b = none∧b ≠ X.env.locals∧b ∉ X.fs∧(b ∈ X.ex∨X.s₀.heap.objs.size ≤ b)∧(∀ x c,X.env.cells.lookup x = some c→c ≠ b)∧∀ p ∈ X.pn ++ pins,p.1 ≠ b
theorem Inv.fpOk {X:Cx} {pins:List (Addr×Obj)} {σ:St} {H H':Hp} {s:Shared} {b:Addr} (I:Inv X pins σ H s) (hb:s.heap.objs.size ≤ b) (hn:H' b = none):FpOk X pins H' b:=by
  refine ⟨hn,Nat.ne_of_gt (Nat.lt_of_lt_of_le I.lt hb),I.nofs hb,.inr (Nat.le_trans I.sz hb),fun x c e z=>?_,fun p hp z=>?_⟩
  · obtain ⟨v,q⟩:=I.cell x c e
    exact absurd (Nat.lt_of_lt_of_le q.lt (by rw [z]; exact hb)) (Nat.lt_irrefl _)
  · exact absurd (Nat.lt_of_lt_of_le (Heap.lt_size (I.pin p hp).1) (by rw [z]; exact hb)) (Nat.lt_irrefl _)
def HandQ (X:Cx) (s:Shared):Prop:=∃ (ea:Addr) (o:Obj) (vs:Array Value),X.A.handled = some (.ref ea)∧s.heap.get? ea = some o∧o.data = .fields vs∧vs[2]? = some .none
def EndQ (hb:Bool) (X:Cx) (s:Shared):Prop:=X.A.handled = none∨(hb = true∧HandQ X s)
theorem EndQ.none {X:Cx} {s:Shared} (h:EndQ false X s):X.A.handled = Option.none:=by
  rcases h with h | ⟨z,_⟩
  · exact h
  · cases z
structure Turn (P:Program) (w:World) (K:PySem.W.Frag) (tg:Expr) (J:It) (fp:List Addr) (it:Addr) (tn:Nat→Heap→Prop) (hb:Bool:=false):Prop where
  mem:it ∈ fp
  obj:∀ i h,tn i h→∀ b ∈ fp,∃ o,h.get? b = some o∧∀ v,o.data ≠ .cell v
  keep:∀ i h h',tn i h→(∀ b ∈ fp,∀ o,h.get? b = some o→h'.get? b = some o)→tn i h'
  item:∀ (X:Cx),X.prog = P→X.w = w→X.K = K→∀ (s:Shared),EndQ hb X s→∀ (i:Nat) (pins:List (Addr×Obj)) (σ:St) (H:Hp) (E:Value→Shared→Prop),Inv X pins σ H s→(∀ b ∈ fp,FpOk X pins H b)→tn i s.heap→J.go i H →
    wpAny (model P w) X.A (pyNext (.ref it)) (fun r s1=>∃ u,r = some u ∧
      wpAny (model P w) X.A (letOwnedTupleGo tg (.ref it) u) (fun _ s2=>∃ x H',Inv X pins σ H' s2∧RelV x u∧J.yld i H x H'∧tn (i + 1) s2.heap∧∀ b ∈ fp,H' b = none) E s1) E s
  done:∀ (X:Cx),X.prog = P→X.w = w→X.K = K→∀ (s:Shared),EndQ hb X s→∀ (i:Nat) (pins:List (Addr×Obj)) (σ:St) (H:Hp) (E:Value→Shared→Prop),Inv X pins σ H s→(∀ b ∈ fp,FpOk X pins H b)→tn i s.heap→J.stop i H →
    wpAny (model P w) X.A (pyNext (.ref it)) (fun r s1=>r = none∧Inv X pins σ H s1) E s
  self:∀ (A:Around) (i:Nat) (s:Shared) (Q:Value→Shared→Prop) (E:Value→Shared→Prop),tn i s.heap→Q (.ref it) s→wpAny (model P w) A (pyIter (.ref it)) Q E s
abbrev TI:=St→Hp→(It→Hp→Prop)→Prop
def PIE (X:Cx) (pins:List (Addr×Obj)) (σ:St) (tg:Expr) (R:It→Hp→Prop) (hb:Bool) (itv:Value) (s2:Shared):Prop :=
  ∃ (it:Addr) (fp:List Addr) (tn:Nat→Heap→Prop) (J:It) (H':Hp),itv = .ref it∧Inv X pins σ H' s2∧Turn X.prog X.w X.K tg J fp it tn hb∧tn 0 s2.heap∧(∀ b ∈ fp,FpOk X pins H' b)∧R J H'
def PI (X:Cx) (tg iter:Expr) (wi:TI) (hb:Bool:=false):Prop :=
  ∀ (pins:List (Addr×Obj)) (s:Shared) (σ:St) (H:Hp) (R:It→Hp→Prop),Inv X pins σ H s→wi σ H R →
    wpAny (model X.prog X.w) X.A (eval iter X.env) (fun v s1=>wpAny (model X.prog X.w) X.A (pyIter v) (PIE X pins σ tg R hb) X.xe s1) X.xe s
theorem go_of {M:Model} {A:Around} {E:Value→Shared→Prop} {s:Shared} {tg:Expr} {it:Addr} {u:Value} {o:Obj} {n:String} {vs:Array Value} {Q:Unit→Shared→Prop} (ho:s.heap.get? it = some o) (hc:o.cls = .type n) (hd:o.data = .fields vs)
    (hn:["enumerate","zip","dict_itemiterator","dict_reverseitemiterator","odict_iterator","itertools.zip_longest","itertools.pairwise"].contains n = false) (hQ:Q () s):wpAny M A (letOwnedTupleGo tg (.ref it) u) Q E s:=by
  unfold letOwnedTupleGo
  cases tg <;> first
    | exact wpAny_pure hQ
    | (cases u <;> first
        | exact wpAny_pure hQ
        | (refine wpAny_bind (wpAny_load ho ?_)
           rw [hc,hd]
           show wpAny M A (if (["enumerate","zip","dict_itemiterator","dict_reverseitemiterator","odict_iterator","itertools.zip_longest","itertools.pairwise"].contains n && vs[0]? == some (rawInt _)) = true then _ else _) Q E s
           rw [if_neg (by intro h; rw [hn,Bool.false_and] at h; cases h)]
           exact wpAny_pure hQ))
def Itl (K:PySem.W.Frag) (a:Addr):It :=
  ⟨fun i H=>∃ xs x,SqL K H a xs∧xs[i]? = some x,fun i H x H'=>H' = H∧∀ xs,SqL K H a xs→xs[i]? = some x,fun i H=>∃ xs,SqL K H a xs∧xs.length ≤ i⟩
def Itt (K:PySem.W.Frag) (a:Addr):It :=
  ⟨fun i H=>∃ xs x,SqT K H a xs∧xs[i]? = some x,fun i H x H'=>H' = H∧∀ xs,SqT K H a xs→xs[i]? = some x,fun i H=>∃ xs,SqT K H a xs∧xs.length ≤ i⟩
def Itr (lo:Int) (n:Nat):It:=⟨fun i _=>i < n,fun i H x H'=>H' = H∧x = .int (lo + i),fun i _=>n ≤ i⟩
theorem turn_list {P:Program} {w:World} {K:PySem.W.Frag} {tg:Expr} (a it:Addr):Turn P w K tg (Itl K a) [it] it (fun i h=>h.IsListIter it a i) where
  mem:=by simp
  obj:=fun i h st b hb=>by
    have e:b = it:=by simpa using hb
    subst e
    obtain ⟨o,e,c,d⟩:=st
    exact ⟨o,e,fun v z=>by rw [d] at z; cases z⟩
  keep:=fun i h h' st k=>st.at fun o e=>k it (by simp) o e
  item:=by
    intro X hP hw hK s hc i pins σ H E I hf st hg
    subst hP hw hK
    obtain ⟨xs,x,hq,hx⟩:=hg
    obtain ⟨its,rv,p,hz⟩:=I.list hq
    obtain ⟨u,hu,ru⟩:=rv.get hx
    obtain ⟨f0,f1,f2,f3,f4,f5⟩:=hf it (by simp)
    refine wpAny_pyNext_list_item st p.isList (x:=u) (by simpa using hu) fun h' st' sb=>?_
    have I1:Inv X pins σ H { s with heap:=h' }:=I.turned (t':=s.toks) (fun b o hb e=>(sb.2 b hb).trans e) f0 f1 f3 f4 f5
    obtain ⟨o,e,c,d⟩:=id st'
    exact ⟨u,rfl,go_of (s:={ s with heap:=h' }) e c d (by decide) ⟨x,H,I1,ru,⟨rfl,fun ys hy=>by rw [I.list_inj hy hq]; exact hx⟩,st',fun b hb=>(hf b hb).1⟩⟩
  done:=by
    intro X hP hw hK s hc i pins σ H E I hf st hg
    subst hP hw hK
    obtain ⟨xs,hq,hx⟩:=hg
    obtain ⟨its,rv,p,hz⟩:=I.list hq
    obtain ⟨f0,f1,f2,f3,f4,f5⟩:=hf it (by simp)
    have hl:=rv.length
    exact wpAny_pyNext_list_end hc.none st p.isList (by simp; lia) fun h' eb=>⟨rfl,I.turned (t':=s.toks) (fun b o hb e=>eb b o hb e) f0 f1 f3 f4 f5⟩
  self:=fun _ _ _ _ _ st h=>wpAny_pyIter_listiter st h
theorem turn_tuple {P:Program} {w:World} {K:PySem.W.Frag} {tg:Expr} (a it:Addr):Turn P w K tg (Itt K a) [it] it (fun i h=>h.IsTupleIter it a i) where
  mem:=by simp
  obj:=fun i h st b hb=>by
    have e:b = it:=by simpa using hb
    subst e
    obtain ⟨o,e,c,d⟩:=st
    exact ⟨o,e,fun v z=>by rw [d] at z; cases z⟩
  keep:=fun i h h' st k=>st.at fun o e=>k it (by simp) o e
  item:=by
    intro X hP hw hK s hc i pins σ H E I hf st hg
    subst hP hw hK
    obtain ⟨xs,x,hq,hx⟩:=hg
    obtain ⟨its,rv,p,hz⟩:=I.tuple hq
    obtain ⟨u,hu,ru⟩:=rv.get hx
    obtain ⟨f0,f1,f2,f3,f4,f5⟩:=hf it (by simp)
    refine wpAny_pyNext_tuple_item st (show s.heap.IsTuple a its.toArray from p) (x:=u) (by simpa using hu) fun h' st' sb=>?_
    have I1:Inv X pins σ H { s with heap:=h' }:=I.turned (t':=s.toks) (fun b o hb e=>(sb.2 b hb).trans e) f0 f1 f3 f4 f5
    obtain ⟨o,e,c,d⟩:=id st'
    exact ⟨u,rfl,go_of (s:={ s with heap:=h' }) e c d (by decide) ⟨x,H,I1,ru,⟨rfl,fun ys hy=>by rw [I.tuple_inj hy hq]; exact hx⟩,st',fun b hb=>(hf b hb).1⟩⟩
  done:=by
    intro X hP hw hK s hc i pins σ H E I hf st hg
    subst hP hw hK
    obtain ⟨xs,hq,hx⟩:=hg
    obtain ⟨its,rv,p,hz⟩:=I.tuple hq
    obtain ⟨f0,f1,f2,f3,f4,f5⟩:=hf it (by simp)
    have hl:=rv.length
    exact wpAny_pyNext_tuple_end hc.none st (show s.heap.IsTuple a its.toArray from p) (by simp; lia) fun h' eb=>⟨rfl,I.turned (t':=s.toks) (fun b o hb e=>eb b o hb e) f0 f1 f3 f4 f5⟩
  self:=fun _ _ _ _ _ st h=>wpAny_pyIter_tupleiter st h
section
variable {prog:Program} {w:World} {A:Around} {E:Value→Shared→Prop} {s:Shared} {e ea it:Addr} {o oe:Obj} {us vs:Array Value}
theorem ent_unchain:entryFor table "proto.unchain" = some Builtin.«proto.unchain»:=entryFor_of_tree (by kernel_rfl)
theorem raise_hand {α:Type} {Q:α→Shared→Prop} (hh:A.handled = some (.ref ea)) (hea:s.heap.get? ea = some oe) (hd:oe.data = .fields vs) (h2:vs[2]? = some .none) (he:s.heap.get? e = some o) (hde:o.data = .fields us) (hsz:2 < us.size) (hne:ea ≠ e)
    (hE:E (.ref e) { s with heap:=s.heap.update e (Obj.mapFields (·.setIfInBounds 2 (.ref ea))) }):wpAny (model prog w) A (raiseNew (.ref e):Sem α) Q E s:=by
  have n:(Value.ref ea != Value.ref e) = true:=by simp [hne]
  unfold raiseNew
  refine wpAny_bind (wpAny_handled ?_)
  rw [hh]
  show wpAny _ _ (if (Value.ref ea != Value.ref e) = true then _ else _) _ _ _
  rw [if_pos n]
  refine wpAny_bind (wpAny_holding (wpAny_runValue (codeAny_builtin ent_unchain ?_)))
  show wpAny _ _ (field (.ref ea) 2 >>= _) _ _ _
  refine wpAny_bind (wpAny_field hea hd h2 ?_)
  show wpAny _ _ (if (Value.none == Value.none) = true then _ else _) _ _ _
  rw [if_pos (show (Value.none == Value.none) = true from rfl)]
  refine wpAny_pure ?_
  exact wpAny_bind (wpAny_setField he hde hsz (wpAny_throw hE))
theorem range_end_hand {x left step:Int} {Q:Option Value→Shared→Prop} (hh:A.handled = some (.ref ea)) (hea:s.heap.get? ea = some oe) (hd:oe.data = .fields vs) (h2:vs[2]? = some .none) (hit:IsRangeIter s.heap it x left step) (hleft:left ≤ 0)
    (hQ:∀ h',Heap.ExtBut it s.heap h'→Q none { s with heap:=h' }):wpAny (model prog w) A (pyNext (.ref it)) Q E s:=by
  have hT:s.TypeIs (.ref it) "range_iterator":=⟨_,hit,rfl⟩
  have lt:=Heap.lt_size hea
  unfold pyNext; refine wpAny_bind (wpAny_attempt (wpAny_callSpecial?_slot (name:=Str.ofString "__next__") hT F.slot_range_iterator_next (wpAny_call_entry F.slot_range_iterator_next hT F.entry_range_iterator_next ?_ (F.args_range_iterator_next_1 _))))
  show wpAny _ _ (field (.ref it) 0 >>= _) _ _ s; refine wpAny_bind (wpAny_field hit rfl (x:=rawInt x) rfl ?_); show wpAny _ _ (field (.ref it) 1 >>= _) _ _ s; refine wpAny_bind (wpAny_field hit rfl (x:=rawInt left) rfl ?_)
  show wpAny _ _ (field (.ref it) 2 >>= _) _ _ s; refine wpAny_bind (wpAny_field hit rfl (x:=rawInt step) rfl ?_); show wpAny _ _ (if left ≤ 0 then _ else _) _ _ s; rw [if_pos hleft]
  refine wpAny_bind (wpAny_rule (wpAny_bind ?_)); show wpAny _ _ (newExc (.type "StopIteration") [] >>= _) _ _ _; refine wpAny_bind ?_; simp only [newExc,newTuple]
  refine wpAny_bind (wpAny_newObj_type ?_ (by size_fits)); refine wpAny_bind (m:=firstArgMember _ _) (wpAny_of_eq (a:=Value.none) (by first | rfl | (simp only [firstArgMember]; rfl)) ?_); refine wpAny_newObj_type ?_ (by size_fits)
  refine raise_hand (oe:=oe) (vs:=vs) (by first | exact hh | exact (show A.in1.handled = _ from hh)) (Heap.get?_push_of_some _ (Heap.get?_push_of_some _ hea)) hd h2 (Heap.get?_push_size _ rfl) rfl (by simp; lia) (Nat.ne_of_lt (by rw [Heap.size_push]; exact Nat.lt_succ_of_lt lt)) ?_
  refine wpAny_bind (wpAny_isInstance (T:="StopIteration") (b:=true) ⟨_,Heap.get?_update_self _ (Heap.get?_push_size _ rfl) rfl,rfl⟩ isSubtype_stop ?_)
  refine wpAny_pure (hQ _ fun b ob hb q=>?_)
  rw [Heap.get?_update_other _ _ (Nat.ne_of_gt (by rw [Heap.size_push]; exact Nat.lt_succ_of_lt (Heap.lt_size q)))]
  exact Heap.get?_push_of_some _ (Heap.get?_push_of_some _ q)
end
theorem turn_range {P:Program} {w:World} {K:PySem.W.Frag} {tg:Expr} (it:Addr) (lo:Int) (n:Nat) {hb:Bool}:Turn P w K tg (Itr lo n) [it] it (fun i h=>IsRangeIter h it (lo + (i:Nat) * 1) ((n:Int) - (i:Nat)) 1) hb where
  mem:=by simp
  obj:=fun i h st b hb=>by
    have e:b = it:=by simpa using hb
    subst e
    exact ⟨_,st,fun v z=>by
      have z':Data.fields _ = Data.cell v:=z
      cases z'⟩
  keep:=fun i h h' st k=>k it (by simp) _ st
  item:=by
    intro X hP hw hK s hc i pins σ H E I hf st hg
    subst hP hw hK
    obtain ⟨f0,f1,f2,f3,f4,f5⟩:=hf it (by simp)
    have hi:i < n:=hg
    refine wpAny_pyNext_range_item st (by lia) fun h' st' sb=>?_
    have I1:Inv X pins σ H { s with heap:=h',toks:=s.toks + 1 }:=I.turned (fun b o hb e=>(sb.2 b hb).trans e) f0 f1 f3 f4 f5
    have e1:lo + ((i:Nat):Int) * 1 + 1 = lo + ((i + 1:Nat):Int) * 1:=by lia
    have e2:(n:Int) - ((i:Nat):Int) - 1 = (n:Int) - ((i + 1:Nat):Int):=by lia
    rw [e1,e2] at st'
    refine ⟨_,rfl,go_of (s:={ s with heap:=h',toks:=s.toks + 1 }) (n:="range_iterator") st' rfl rfl (by decide) ⟨.int (lo + i),H,I1,⟨s.toks,?_⟩,⟨rfl,rfl⟩,st',fun b hb=>(hf b hb).1⟩⟩
    rw [Int.mul_one]
  done:=by
    intro X hP hw hK s hc i pins σ H E I hf st hg
    subst hP hw hK
    obtain ⟨f0,f1,f2,f3,f4,f5⟩:=hf it (by simp)
    have hi:(n:Int) - ((i:Nat):Int) ≤ 0:=by have:n ≤ i:=hg; lia
    rcases hc with hc | ⟨_,ea,o,vs,h1,h2,h3,h4⟩
    · exact wpAny_pyNext_range_end hc st hi fun h' eb=>⟨rfl,I.turned (t':=s.toks) (fun b o hb e=>eb b o hb e) f0 f1 f3 f4 f5⟩
    · exact range_end_hand h1 h2 h3 h4 st hi fun h' eb=>⟨rfl,I.turned (t':=s.toks) (fun b o hb e=>eb b o hb e) f0 f1 f3 f4 f5⟩
  self:=fun _ _ _ _ _ st h=>wpAny_pyIter_rangeiter st h
end L2
namespace L2
open PySem PySem.Spec PyProof.Rows
section
variable {X:Cx} {tg:Expr}
def iList (K:PySem.W.Frag) (tl:TE):TI:=fun σ H R=>tl σ H fun x H1=>∃ a,x = .ref a∧(∃ xs,SqL K H1 a xs)∧R (Itl K a) H1
theorem pi_list {l:Expr} {tl:TE} (hl:PE X l tl):PI X tg l (iList X.K tl):=by
  intro pins s σ H R I h
  refine thn (hl pins s σ H _ I h) fun v s1 ⟨x,H1,I1,r1,q1⟩=>?_
  obtain ⟨a,e,⟨xs,hq⟩,q⟩:=q1
  subst e
  cases r1
  obtain ⟨its,rv,p,hz⟩:=I1.list hq
  refine wpAny_pyIter_list p.isList ?_
  refine ⟨s1.heap.objs.size,[s1.heap.objs.size],_,_,H1,rfl,I1.kept (t':=s1.toks) fun b o e=>Heap.get?_push_of_some _ e,turn_list a _,⟨_,Heap.get?_push_size _ rfl,rfl,rfl⟩,fun b hb=>?_,q⟩
  have e:b = s1.heap.objs.size:=by simpa using hb
  subst e
  exact I1.fpOk (Nat.le_refl _) (I1.hok.fresh (Nat.le_refl _))
theorem range_it {hb:Bool} {pins:List (Addr×Obj)} {σ:St} {H:Hp} {s:Shared} {R:It→Hp→Prop} {E:Value→Shared→Prop} {lo hi:Int} {t u v:Tok} {tk:Nat} (I:Inv X pins σ H s) (h1:-(2 ^ 62) ≤ lo) (h2:lo < 2 ^ 62) (h3:-(2 ^ 62) ≤ hi) (h4:hi < 2 ^ 62)
    (q:R (Itr lo (hi - lo).toNat) H):wpAny (model X.prog X.w) X.A (pyIter (.ref s.heap.objs.size)) (PIE X pins σ tg R hb) E { s with heap:=s.heap.push { cls:=.type "range",data:=.fields #[.int lo t,.int hi u,.int 1 v] },toks:=tk }:=by
  refine wpAny_pyIter_range (IsRange.new ..) (small_one h1 h2 h3 h4) ?_
  have I1:Inv X pins σ H { s with heap:=s.heap.push { cls:=.type "range",data:=.fields #[.int lo t,.int hi u,.int 1 v] },toks:=tk }:=I.kept fun b o e=>Heap.get?_push_of_some _ e
  refine ⟨(s.heap.push { cls:=.type "range",data:=.fields #[.int lo t,.int hi u,.int 1 v] }).objs.size,[(s.heap.push { cls:=.type "range",data:=.fields #[.int lo t,.int hi u,.int 1 v] }).objs.size],_,_,H,rfl,
    I1.kept (t':=tk) fun b o e=>Heap.get?_push_of_some _ e,turn_range _ lo (hi - lo).toNat,?_,fun b hb=>?_,q⟩
  · have e1:lo + ((0:Nat):Int) * 1 = lo:=by simp
    have e2:(((hi - lo).toNat:Nat):Int) - ((0:Nat):Int) = Builtin.Range.rangeSize lo hi 1:=by rw [rangeSize_one]; split <;> lia
    show IsRangeIter _ _ (lo + ((0:Nat):Int) * 1) ((((hi - lo).toNat:Nat):Int) - ((0:Nat):Int)) 1
    rw [e1,e2]
    exact Heap.get?_push_size _ rfl
  · have e:b = (s.heap.push { cls:=.type "range",data:=.fields #[.int lo t,.int hi u,.int 1 v] }).objs.size:=by simpa using hb
    subst e
    exact I1.fpOk (Nat.le_refl _) (I1.hok.fresh (Nat.le_refl _))
def iRng1 (ta:TA):TI:=fun σ H R=>ta σ H fun vs H1=>∃ j:Int,vs = [.int j]∧-(2 ^ 62) ≤ j∧j < 2 ^ 62∧R (Itr 0 j.toNat) H1
theorem pi_range1 {hb:Bool} {a:Expr} {ta:TA} {p pos:Pos} (hg:Gl X "range") (hm:X.mg "range" = none) (ha:PA X [a] ta) (hs:starEach [a] X.env = [(false,eval a X.env)]:=by rfl):PI X tg (.Call (.Name "range" p) [a] [] pos) (iRng1 ta) hb:=by
  intro pins s σ H R I h
  refine Call_ (ld_blt I hg hm boot_range (PyProof.Rows.callWith_type1 (thn (ha pos pins s σ H _ I h) fun us s1 ⟨vs,H1,I1,r1,q1⟩=>?_) hs rfl))
  obtain ⟨j,e,q1,q2,q⟩:=q1
  subst e
  cases r1 with
  | cons r rr =>
    cases rr
    obtain ⟨t,rfl⟩:=r
    exact call_range_1 (range_it I1 (by lia) (by lia) q1 q2 (by simpa using q))
def tFor (wi:TI) (g:TG) (tb:TS):TS:=fun D σ H=>wi σ H fun J H1=>∃ W:Nat→Nat→St→Hp→Prop,(∃ m,W 0 m σ H1)∧∀ i m σ H,W i m σ H →
  (J.stop i H∧D.nx σ H)∨(J.go i H∧∃ N:St→Hp→Prop,(∀ σ' H',N σ' H'→∃ m',m' < m∧W (i + 1) m' σ' H')∧∀ x H',J.yld i H x H'→g x σ H' fun σ2 H2=>tb { D with nx:=N,ct:=N,bk:=D.nx } σ2 H2)
def pinsAt (fp:List Addr) (h:Heap):List (Addr×Obj):=fp.filterMap fun b=>(h.get? b).map fun o=>(b,o)
theorem mem_pinsAt {fp:List Addr} {h:Heap} {b:Addr} {o:Obj} (hb:b ∈ fp) (e:h.get? b = some o):(b,o) ∈ pinsAt fp h:=List.mem_filterMap.mpr ⟨b,hb,by rw [e]; rfl⟩
theorem of_pinsAt {fp:List Addr} {h:Heap} {p:Addr×Obj} (hp:p ∈ pinsAt fp h):p.1 ∈ fp∧h.get? p.1 = some p.2:=by
  obtain ⟨b,hb,e⟩:=List.mem_filterMap.mp hp
  cases q:h.get? b with
  | none=>rw [q] at e; cases e
  | some o =>
    rw [q] at e
    have e':(b,o) = p:=Option.some.inj e
    subst e'
    exact ⟨hb,q⟩
theorem Inv.pinned {pins:List (Addr×Obj)} {σ:St} {H:Hp} {s:Shared} {fp:List Addr} (I:Inv X pins σ H s) (hf:∀ b ∈ fp,FpOk X pins H b) (ho:∀ b ∈ fp,∃ o,s.heap.get? b = some o∧∀ v,o.data ≠ .cell v):Inv X (pins ++ pinsAt fp s.heap) σ H s :=
  I.pins_of fun p hp=>(List.mem_append.mp hp).elim (fun z=>I.pin p (List.mem_append_right _ z)) fun z=>by
    obtain ⟨hb,e⟩:=of_pinsAt z
    obtain ⟨f0,f1,f2,_⟩:=hf p.1 hb
    obtain ⟨o,e',d⟩:=ho p.1 hb
    rw [e] at e'; cases e'
    exact ⟨e,f0,f1,f2,d⟩
theorem Inv.unpinned {pins pl:List (Addr×Obj)} {σ:St} {H:Hp} {s:Shared} (I:Inv X (pins ++ pl) σ H s):Inv X pins σ H s:=I.pins_of fun p hp=>I.pin p (List.mem_append_right _ (List.mem_append_left _ hp))
theorem ps_for {iter:Expr} {body:List Stmt} {wi:TI} {g:TG} {tb:TS} {pos:Pos} (hp:PassesOwn (model X.prog X.w) X.A X.env X.xe) (hc:X.calm = true) (hi:PI X tg iter wi) (hg:PG X tg g) (hb:PSs X body tb)
    (hs:∀ x,foldedSetIterable iter X.env x = pure x:=by intro _; rfl):PS X (.For tg iter body [] pos) (tFor wi g tb):=by
  intro pins s σ H D I h
  refine wpAny_For (thn (hi pins s σ H _ I h) fun v s1 h1=>thn h1 fun itv s2 h2=>?_) hs
  obtain ⟨it,fp,tn,J,H2,e,I2,T,st2,f2,W,⟨m0,w0⟩,turn⟩:=h2
  subst e
  have stat:∀ {H':Hp},(∀ b ∈ fp,H' b = none)→∀ b ∈ fp,FpOk X pins H' b:=fun hn b hb=>⟨hn b hb,(f2 b hb).2⟩
  refine codeAny_forLoop_any (fun n s'=>∃ i σ' H',Inv X pins σ' H' s'∧tn i s'.heap∧(∀ b ∈ fp,H' b = none)∧W i n σ' H') ?_ m0 ⟨0,σ,H2,I2,st2,fun b hb=>(f2 b hb).1,w0⟩
  rintro n s3 ⟨i,σ3,H3,I3,st3,fr3,w3⟩
  rcases turn i n σ3 H3 w3 with ⟨stop,qn⟩ | ⟨go,N,hN,step⟩
  · refine wpAny_passesOwn hp (thn (T.done X rfl rfl rfl s3 (.inl (I3.ok.hd hc)) i pins σ3 H3 X.xe I3 (stat fr3) st3 stop) fun r s4 ⟨hr,I4⟩=>?_)
    subst hr
    exact wpAny_execs_nil ⟨σ3,H3,I4,qn⟩
  · refine wpAny_passesOwn hp (thn (T.item X rfl rfl rfl s3 (.inl (I3.ok.hd hc)) i pins σ3 H3 X.xe I3 (stat fr3) st3 go) fun r s4 ⟨u,hr,h4⟩=>?_)
    subst hr
    refine wpAny_passesOwn hp (thn h4 fun _ s5 ⟨x,H5,I5,r5,y5,st5,fr5⟩=>?_)
    have I5':=I5.pinned (stat fr5) (T.obj _ _ st5)
    refine wpAny_passesOwn hp (thn (hg _ s5 σ3 H5 x u _ I5' r5 (step x H5 y5)) fun _ s6 ⟨σ6,H6,I6,q6⟩=>?_)
    refine wpAny_passesOwn hp (thn (hb _ s6 σ6 H6 _ I6 q6) fun f s7 q7=>?_)
    have again:∀ {σ7:St} {H7:Hp},Inv X (pins ++ pinsAt fp s5.heap) σ7 H7 s7→N σ7 H7→∃ m,m < n∧∃ i σ' H',Inv X pins σ' H' s7∧tn i s7.heap∧(∀ b ∈ fp,H' b = none)∧W i m σ' H':=fun {σ7 H7} I7 n7=>by
      obtain ⟨m',hm,w7⟩:=hN σ7 H7 n7
      refine ⟨m',hm,i + 1,σ7,H7,I7.unpinned,T.keep _ _ _ st5 fun b hb o e=>(I7.pin (b,o) (List.mem_append_right _ (List.mem_append_right _ (mem_pinsAt hb e)))).1,fun b hb=>?_,w7⟩
      obtain ⟨o,e,d⟩:=T.obj _ _ st5 b hb
      exact (I7.pin (b,o) (List.mem_append_right _ (List.mem_append_right _ (mem_pinsAt hb e)))).2.1
    cases f with
    | next=>obtain ⟨σ7,H7,I7,n7⟩:=q7; exact again I7 n7
    | cont=>obtain ⟨σ7,H7,I7,n7⟩:=q7; exact again I7 n7
    | brk=>obtain ⟨σ7,H7,I7,q7⟩:=q7; exact ⟨σ7,H7,I7.unpinned,q7⟩
    | ret v=>obtain ⟨x7,σ7,H7,I7,r7,q7⟩:=q7; exact ⟨x7,σ7,H7,I7.unpinned,r7,q7⟩
end
theorem for_list {K:PySem.W.Frag} {a:Addr} {xs:List V} {g:TG} {tb:TS} {D:Ends} {σ:St} {H:Hp} (Pv:Nat→St→Hp→Prop) (h0:Pv 0 σ H) (hl:∀ i σ H,i ≤ xs.length→Pv i σ H→SqL K H a xs)
    (hs:∀ i x σ H,xs[i]? = some x→Pv i σ H→g x σ H fun σ2 H2=>tb { D with nx:=Pv (i + 1),ct:=Pv (i + 1),bk:=D.nx } σ2 H2) (hd:∀ σ H,Pv xs.length σ H→D.nx σ H) :
    ∃ W:Nat→Nat→St→Hp→Prop,(∃ m,W 0 m σ H)∧∀ i m σ H,W i m σ H →
      ((Itl K a).stop i H∧D.nx σ H)∨((Itl K a).go i H∧∃ N:St→Hp→Prop,(∀ σ' H',N σ' H'→∃ m',m' < m∧W (i + 1) m' σ' H')∧∀ x H',(Itl K a).yld i H x H'→g x σ H' fun σ2 H2=>tb { D with nx:=N,ct:=N,bk:=D.nx } σ2 H2):=by
  refine ⟨fun i m σ H=>m = xs.length - i∧i ≤ xs.length∧Pv i σ H,⟨xs.length,by simp,Nat.zero_le _,h0⟩,?_⟩
  rintro i m σ H ⟨rfl,hi,p⟩
  have q:=hl i σ H hi p
  by_cases hlt:i < xs.length
  · refine .inr ⟨⟨xs,xs[i],q,by simp [hlt]⟩,Pv (i + 1),fun σ' H' p'=>⟨xs.length - (i + 1),by lia,rfl,hlt,p'⟩,fun x H' y=>?_⟩
    obtain ⟨e,y⟩:=y
    subst e
    exact hs i x σ _ (y xs q) p
  · have e:i = xs.length:=by lia
    subst e
    exact .inl ⟨⟨xs,q,Nat.le_refl _⟩,hd σ H p⟩
theorem for_tup {K:PySem.W.Frag} {a:Addr} {xs:List V} {g:TG} {tb:TS} {D:Ends} {σ:St} {H:Hp} (Pv:Nat→St→Hp→Prop) (h0:Pv 0 σ H) (hl:∀ i σ H,i ≤ xs.length→Pv i σ H→SqT K H a xs)
    (hs:∀ i x σ H,xs[i]? = some x→Pv i σ H→g x σ H fun σ2 H2=>tb { D with nx:=Pv (i + 1),ct:=Pv (i + 1),bk:=D.nx } σ2 H2) (hd:∀ σ H,Pv xs.length σ H→D.nx σ H) :
    ∃ W:Nat→Nat→St→Hp→Prop,(∃ m,W 0 m σ H)∧∀ i m σ H,W i m σ H →
      ((Itt K a).stop i H∧D.nx σ H)∨((Itt K a).go i H∧∃ N:St→Hp→Prop,(∀ σ' H',N σ' H'→∃ m',m' < m∧W (i + 1) m' σ' H')∧∀ x H',(Itt K a).yld i H x H'→g x σ H' fun σ2 H2=>tb { D with nx:=N,ct:=N,bk:=D.nx } σ2 H2):=by
  refine ⟨fun i m σ H=>m = xs.length - i∧i ≤ xs.length∧Pv i σ H,⟨xs.length,by simp,Nat.zero_le _,h0⟩,?_⟩
  rintro i m σ H ⟨rfl,hi,p⟩
  have q:=hl i σ H hi p
  by_cases hlt:i < xs.length
  · refine .inr ⟨⟨xs,xs[i],q,by simp [hlt]⟩,Pv (i + 1),fun σ' H' p'=>⟨xs.length - (i + 1),by lia,rfl,hlt,p'⟩,fun x H' y=>?_⟩
    obtain ⟨e,y⟩:=y
    subst e
    exact hs i x σ _ (y xs q) p
  · have e:i = xs.length:=by lia
    subst e
    exact .inl ⟨⟨xs,q,Nat.le_refl _⟩,hd σ H p⟩
theorem for_range {lo:Int} {n:Nat} {g:TG} {tb:TS} {D:Ends} {σ:St} {H:Hp} (Pv:Nat→St→Hp→Prop) (h0:Pv 0 σ H)
    (hs:∀ i σ H,i < n→Pv i σ H→g (.int (lo + i)) σ H fun σ2 H2=>tb { D with nx:=Pv (i + 1),ct:=Pv (i + 1),bk:=D.nx } σ2 H2) (hd:∀ σ H,Pv n σ H→D.nx σ H) :
    ∃ W:Nat→Nat→St→Hp→Prop,(∃ m,W 0 m σ H)∧∀ i m σ H,W i m σ H →
      ((Itr lo n).stop i H∧D.nx σ H)∨((Itr lo n).go i H∧∃ N:St→Hp→Prop,(∀ σ' H',N σ' H'→∃ m',m' < m∧W (i + 1) m' σ' H')∧∀ x H',(Itr lo n).yld i H x H'→g x σ H' fun σ2 H2=>tb { D with nx:=N,ct:=N,bk:=D.nx } σ2 H2):=by
  refine ⟨fun i m σ H=>m = n - i∧i ≤ n∧Pv i σ H,⟨n,by simp,Nat.zero_le _,h0⟩,?_⟩
  rintro i m σ H ⟨rfl,hi,p⟩
  by_cases hlt:i < n
  · refine .inr ⟨hlt,Pv (i + 1),fun σ' H' p'=>⟨n - (i + 1),by lia,rfl,hlt,p'⟩,fun x H' y=>?_⟩
    obtain ⟨e,y⟩:=y
    subst e y
    exact hs i σ _ hlt p
  · have e:i = n:=by lia
    subst e
    exact .inl ⟨Nat.le_refl _,hd σ H p⟩
end L2
namespace L2
open PySem PySem.Spec PyProof.Rows
abbrev R2:=V→V→Hp→VK→Prop
def OpR (X:Cx) (f:Value→Value→Sem Value) (r:R2):Prop :=
  ∀ (pins:List (Addr×Obj)) (s:Shared) (σ:St) (H:Hp) (x y:V) (v u:Value) (Q:VK),Inv X pins σ H s→RelV x v→RelV y u→r x y H Q →
    wpAny (model X.prog X.w) X.A (f v u) (EP X pins σ Q) X.xe s
def UnR (X:Cx) (f:Value→Sem Value) (r:V→Hp→VK→Prop):Prop :=
  ∀ (pins:List (Addr×Obj)) (s:Shared) (σ:St) (H:Hp) (x:V) (v:Value) (Q:VK),Inv X pins σ H s→RelV x v→r x H Q →
    wpAny (model X.prog X.w) X.A (f v) (EP X pins σ Q) X.xe s
def CallR (X:Cx) (f:Value) (r:List V→Hp→VK→Prop):Prop :=
  ∀ (pins:List (Addr×Obj)) (s:Shared) (σ:St) (H:Hp) (xs:List V) (us:List Value) (Q:VK),Inv X pins σ H s→Vals xs us→r xs H Q →
    wpAny (model X.prog X.w) X.A (call f us) (EP X pins σ Q) X.xe s
def tOp (r:R2) (ta tb:TE):TE:=fun σ H Q=>ta σ H fun x H1=>tb σ H1 fun y H2=>r x y H2 Q
def tUn (r:V→Hp→VK→Prop) (ta:TE):TE:=fun σ H Q=>ta σ H fun x H1=>r x H1 Q
def rI (C:Int→Int→Prop) (g:Int→Int→V):R2:=fun x y H Q=>∃ i j,x = .int i∧y = .int j∧C i j∧Q (g i j) H
def rI0 (g:Int→Int→V):R2:=fun x y H Q=>∃ i j,x = .int i∧y = .int j∧Q (g i j) H
def rU (g:Int→V):V→Hp→VK→Prop:=fun x H Q=>∃ i,x = .int i∧Q (g i) H
section
variable {X:Cx} {a b c:Expr} {ta tb tc:TE} {pos:Pos}
theorem binT (ha:PE X a ta) (hb:PE X b tb) {pins:List (Addr×Obj)} {s:Shared} {σ:St} {H:Hp} {R:V→V→Hp→Prop} (I:Inv X pins σ H s)
    (h:ta σ H fun x H1=>tb σ H1 fun y H2=>R x y H2) {Q:Value→Shared→Prop} {f:Value→Value→Sem Value}
    (hf:∀ v u s2 x y H2,Inv X pins σ H2 s2→RelV x v→RelV y u→R x y H2→wpAny (model X.prog X.w) X.A (f v u) Q X.xe s2) :
    wpAny (model X.prog X.w) X.A (eval a X.env) (fun v s₁=>wpAny (model X.prog X.w) X.A (eval b X.env) (fun u s₂=>wpAny (model X.prog X.w) X.A (f v u) Q X.xe s₂) X.xe s₁) X.xe s:=by
  refine thn (ha pins s σ H _ I h) fun v s1 ⟨x,H1,I1,r1,q1⟩=>?_
  refine thn (hb pins s1 σ H1 _ I1 q1) fun u s2 ⟨y,H2,I2,r2,q2⟩=>?_
  exact hf v u s2 x y H2 I2 r1 r2 q2
theorem pe_op {op:Operator} {r:R2} (ho:OpR X (binaryOp op) r) (ha:PE X a ta) (hb:PE X b tb):PE X (.BinOp a op b pos) (tOp r ta tb):=by
  intro pins s σ H Q I h
  exact wpAny_BinOp (binT ha hb I h fun v u s2 x y H2 I2 rx ry q=>ho pins s2 σ H2 x y v u Q I2 rx ry q)
theorem pe_un {op:UnaryOp} {r:V→Hp→VK→Prop} (ho:UnR X (unaryOp op) r) (ha:PE X a ta):PE X (.UnaryOp op a pos) (tUn r ta):=by
  intro pins s σ H Q I h
  exact UnaryOp_ (thn (ha pins s σ H _ I h) fun v s1 ⟨x,H1,I1,r1,q1⟩=>ho pins s1 σ H1 x v Q I1 r1 q1)
theorem opI {f:Value→Value→Sem Value} {C:Int→Int→Prop} {g:Int→Int→Int}
    (rule:∀ (i j:Int) (t u:Tok) (s:Shared) (Q:Value→Shared→Prop) (E:Value→Shared→Prop),C i j→Q (.int (g i j) s.toks) { s with toks:=s.toks + 1 }→wpAny (model X.prog X.w) X.A (f (.int i t) (.int j u)) Q E s) :
    OpR X f (rI C fun i j=>.int (g i j)):=by
  intro pins s σ H x y v u Q I rx ry h
  obtain ⟨i,j,rfl,rfl,hc,q⟩:=h
  obtain ⟨t,rfl⟩:=rx
  obtain ⟨t',rfl⟩:=ry
  exact rule i j t t' s _ _ hc ⟨.int (g i j),H,I.tok _,⟨_,rfl⟩,q⟩
theorem opI0 {f:Value→Value→Sem Value} {g:Int→Int→Int}
    (rule:∀ (i j:Int) (t u:Tok) (s:Shared) (Q:Value→Shared→Prop) (E:Value→Shared→Prop),Q (.int (g i j) s.toks) { s with toks:=s.toks + 1 }→wpAny (model X.prog X.w) X.A (f (.int i t) (.int j u)) Q E s) :
    OpR X f (rI0 fun i j=>.int (g i j)):=by
  intro pins s σ H x y v u Q I rx ry h
  obtain ⟨i,j,rfl,rfl,q⟩:=h
  obtain ⟨t,rfl⟩:=rx
  obtain ⟨t',rfl⟩:=ry
  exact rule i j t t' s _ _ ⟨.int (g i j),H,I.tok _,⟨_,rfl⟩,q⟩
theorem opB0 {f:Value→Value→Sem Value} {g:Int→Int→Bool}
    (rule:∀ (i j:Int) (t u:Tok) (s:Shared) (Q:Value→Shared→Prop) (E:Value→Shared→Prop),Q (.bool (g i j)) s→wpAny (model X.prog X.w) X.A (f (.int i t) (.int j u)) Q E s) :
    OpR X f (rI0 fun i j=>.bl (g i j)):=by
  intro pins s σ H x y v u Q I rx ry h
  obtain ⟨i,j,rfl,rfl,q⟩:=h
  obtain ⟨t,rfl⟩:=rx
  obtain ⟨t',rfl⟩:=ry
  exact rule i j t t' s _ _ ⟨.bl (g i j),H,I,rfl,q⟩
def CDiv (i j:Int):Prop:=0 < j∧j < 1073741824
def CMul (i j:Int):Prop:=(-(2 ^ 64) < i∧i < 2 ^ 64)∨(-(2 ^ 64) < j∧j < 2 ^ 64)
theorem CMul.ok {i j:Int} (h:CMul i j):IntMulOk i j:=by
  rcases h with ⟨h1,h2⟩ | ⟨h1,h2⟩
  · exact .of_left (intBits_le_64 h1 h2)
  · exact .of_right (intBits_le_64 h1 h2)
theorem op_add:OpR X (binaryOp .Add) (rI0 fun i j=>.int (i + j)):=opI0 fun _ _ _ _ _ _ _ q=>add_int q
theorem op_sub:OpR X (binaryOp .Sub) (rI0 fun i j=>.int (i - j)):=opI0 fun _ _ _ _ _ _ _ q=>sub_int q
theorem op_mul:OpR X (binaryOp .Mult) (rI CMul fun i j=>.int (i * j)):=opI fun _ _ _ _ _ _ _ hc q=>mul_int q hc.ok
theorem op_fdiv:OpR X (binaryOp .FloorDiv) (rI CDiv fun i j=>.int (i / j)):=opI fun i j _ _ _ _ _ hc q=>by
  have h1:(0:Int) < j:=hc.1
  have h2:j < 1073741824:=hc.2
  exact floordiv_int (by lia) (by rw [Int.fdiv_eq_ediv_of_nonneg i (by lia)]; exact q) (.inl (PyProof.noPylong_small (by lia)))
theorem op_mod:OpR X (binaryOp .Mod) (rI (fun _ j=>0 < j) fun i j=>.int (i % j)):=opI fun i j _ _ _ _ _ hc q=>by
  have h1:(0:Int) < j:=hc
  exact mod_int' (by lia) (by rw [Int.fmod_eq_emod_of_nonneg i (by lia)]; exact q)
theorem unI {f:Value→Sem Value} {g:Int→Int}
    (rule:∀ (i:Int) (t:Tok) (s:Shared) (Q:Value→Shared→Prop) (E:Value→Shared→Prop),Q (.int (g i) s.toks) { s with toks:=s.toks + 1 }→wpAny (model X.prog X.w) X.A (f (.int i t)) Q E s) :
    UnR X f (rU fun i=>.int (g i)):=by
  intro pins s σ H x v Q I rx h
  obtain ⟨i,rfl,q⟩:=h
  obtain ⟨t,rfl⟩:=rx
  exact rule i t s _ _ ⟨.int (g i),H,I.tok _,⟨_,rfl⟩,q⟩
theorem un_neg:UnR X (unaryOp .USub) (rU fun i=>.int (-i)):=unI fun _ _ _ _ _ q=>neg_int q
end
def scal:V→V→Bool
  | .non,.non=>true | .non,.int _=>true | .int _,.non=>true | .non,.bl _=>true | .bl _,.non=>true | .non,.str _=>true | .str _,.non=>true
  | .int _,.int _=>true | .bl _,.bl _=>true | .str _,.str _=>true | .byt _,.byt _=>true
  | .int _,.str _=>true | .str _,.int _=>true | .bl _,.str _=>true | .str _,.bl _=>true
  | _,_=>false
def rEq:R2:=fun x y H Q=>scal x y = true∧Q (.bl (decide (x = y))) H
def rNe:R2:=fun x y H Q=>scal x y = true∧Q (.bl (!decide (x = y))) H
theorem dec_int {i j:Int}:decide (V.int i = V.int j) = (i == j):=by
  rw [Bool.eq_iff_iff]
  simp
theorem dec_bl {i j:Bool}:decide (V.bl i = V.bl j) = (i == j):=by
  rw [Bool.eq_iff_iff]
  simp
theorem dec_str {i j:Str}:decide (V.str i = V.str j) = (i == j):=by
  rw [Bool.eq_iff_iff]
  simp
theorem dec_byt {i j:Array UInt8}:decide (V.byt i = V.byt j) = (i.toList == j.toList):=by
  rw [Bool.eq_iff_iff]
  cases i
  cases j
  simp
section
variable {X:Cx} {a b c:Expr} {ta tb tc:TE} {pos:Pos}
theorem fin_bl {pins:List (Addr×Obj)} {σ:St} {H:Hp} {s:Shared} {Q:VK} {k k':Bool} (I:Inv X pins σ H s) (q:Q (.bl k) H) (e:k = k'):EP X pins σ Q (.bool k') s:=by
  subst e
  exact ⟨.bl k,H,I,rfl,q⟩
theorem op_eq:OpR X (compareOp .Eq) rEq:=by
  intro pins s σ H x y v u Q I rx ry h
  obtain ⟨hs,q⟩:=h
  cases x with
  | non =>
    cases rx
    cases y with
    | non=>cases ry; exact PySem.EqNone.eq_none_none (fin_bl I q (by simp))
    | bl j=>cases ry; exact PySem.EqNone.eq_none_bool (fin_bl I q (by simp))
    | int j=>obtain ⟨t',rfl⟩:=ry; exact PySem.EqNone.eq_none_int (fin_bl I q (by simp))
    | str j=>obtain ⟨t',rfl⟩:=ry; exact PySem.EqNone.eq_none_str (fin_bl I q (by simp))
    | _=>exact absurd (show false = true from hs) Bool.false_ne_true
  | bl i =>
    cases rx
    cases y with
    | non=>cases ry; exact PySem.EqNone.eq_bool_none (fin_bl I q (by simp))
    | bl j=>cases ry; exact eq_bool (fin_bl I q dec_bl)
    | str j=>obtain ⟨t',rfl⟩:=ry; exact PySem.EqMixed.eq_bool_str (fin_bl I q (by simp))
    | _=>exact absurd (show false = true from hs) Bool.false_ne_true
  | int i =>
    obtain ⟨t,rfl⟩:=rx
    cases y with
    | non=>cases ry; exact PySem.EqNone.eq_int_none (fin_bl I q (by simp))
    | int j=>obtain ⟨t',rfl⟩:=ry; exact eq_int (fin_bl I q dec_int)
    | str j=>obtain ⟨t',rfl⟩:=ry; exact PySem.EqMixed.eq_int_str (fin_bl I q (by simp))
    | _=>exact absurd (show false = true from hs) Bool.false_ne_true
  | str i =>
    obtain ⟨t,rfl⟩:=rx
    cases y with
    | non=>cases ry; exact PySem.EqNone.eq_str_none (fin_bl I q (by simp))
    | bl j=>cases ry; exact PySem.EqMixed.eq_str_bool (fin_bl I q (by simp))
    | int j=>obtain ⟨t',rfl⟩:=ry; exact PySem.EqMixed.eq_str_int (fin_bl I q (by simp))
    | str j=>obtain ⟨t',rfl⟩:=ry; exact eq_str (fin_bl I q dec_str)
    | _=>exact absurd (show false = true from hs) Bool.false_ne_true
  | byt i =>
    obtain ⟨t,rfl⟩:=rx
    cases y with
    | byt j=>obtain ⟨t',rfl⟩:=ry; exact PySem.W.eq_bytes (fin_bl I q dec_byt)
    | _=>exact absurd (show false = true from hs) Bool.false_ne_true
  | _=>cases y <;> exact absurd (show false = true from hs) Bool.false_ne_true
theorem op_ne:OpR X (compareOp .NotEq) rNe:=by
  intro pins s σ H x y v u Q I rx ry h
  obtain ⟨hs,q⟩:=h
  cases x with
  | non =>
    cases rx
    cases y with
    | non=>cases ry; exact PySem.EqNone.ne_none_none (fin_bl I q (by simp))
    | bl j=>cases ry; exact PySem.EqNone.ne_none_bool (fin_bl I q (by simp))
    | int j=>obtain ⟨t',rfl⟩:=ry; exact PySem.EqNone.ne_none_int (fin_bl I q (by simp))
    | str j=>obtain ⟨t',rfl⟩:=ry; exact PySem.EqNone.ne_none_str (fin_bl I q (by simp))
    | _=>exact absurd (show false = true from hs) Bool.false_ne_true
  | bl i =>
    cases rx
    cases y with
    | non=>cases ry; exact PySem.EqNone.ne_bool_none (fin_bl I q (by simp))
    | bl j=>cases ry; exact ne_bool (fin_bl I q (congrArg not dec_bl))
    | str j=>obtain ⟨t',rfl⟩:=ry; exact PySem.EqMixed.ne_bool_str (fin_bl I q (by simp))
    | _=>exact absurd (show false = true from hs) Bool.false_ne_true
  | int i =>
    obtain ⟨t,rfl⟩:=rx
    cases y with
    | non=>cases ry; exact PySem.EqNone.ne_int_none (fin_bl I q (by simp))
    | int j=>obtain ⟨t',rfl⟩:=ry; exact ne_int (fin_bl I q (congrArg not dec_int))
    | str j=>obtain ⟨t',rfl⟩:=ry; exact PySem.EqMixed.ne_int_str (fin_bl I q (by simp))
    | _=>exact absurd (show false = true from hs) Bool.false_ne_true
  | str i =>
    obtain ⟨t,rfl⟩:=rx
    cases y with
    | non=>cases ry; exact PySem.EqNone.ne_str_none (fin_bl I q (by simp))
    | bl j=>cases ry; exact PySem.EqMixed.ne_str_bool (fin_bl I q (by simp))
    | int j=>obtain ⟨t',rfl⟩:=ry; exact PySem.EqMixed.ne_str_int (fin_bl I q (by simp))
    | str j=>obtain ⟨t',rfl⟩:=ry; exact ne_str (fin_bl I q (congrArg not dec_str))
    | _=>exact absurd (show false = true from hs) Bool.false_ne_true
  | byt i =>
    obtain ⟨t,rfl⟩:=rx
    cases y with
    | byt j=>obtain ⟨t',rfl⟩:=ry; exact PySem.W.ne_bytes (fin_bl I q (congrArg not dec_byt))
    | _=>exact absurd (show false = true from hs) Bool.false_ne_true
  | _=>cases y <;> exact absurd (show false = true from hs) Bool.false_ne_true
theorem op_lt:OpR X (compareOp .Lt) (rI0 fun i j=>.bl (decide (i < j))):=opB0 fun _ _ _ _ _ _ _ q=>lt_int q
theorem op_gt:OpR X (compareOp .Gt) (rI0 fun i j=>.bl (decide (j < i))):=opB0 fun _ _ _ _ _ _ _ q=>gt_int q
theorem nomark (b:Expr) {op:CmpOp} (h:op ≠ .In:=by decide) (h2:op ≠ .NotIn:=by decide):behindInMarks op b = false:=by
  have e1:(op == CmpOp.In) = false:=by cases op <;> first | rfl | exact absurd rfl h
  have e2:(op == CmpOp.NotIn) = false:=by cases op <;> first | rfl | exact absurd rfl h2
  cases b <;> simp [behindInMarks,e1,e2]
theorem pe_cmpR {op:CmpOp} {r:R2} (ho:OpR X (compareOp op) r) (ha:PE X a ta) (hb:PE X b tb) (hm:behindInMarks op b = false):PE X (.Compare a [op] [b] pos) (tOp r ta tb):=by
  intro pins s σ H Q I h
  exact wpAny_Compare1 (binT ha hb I h fun v u s2 x y H2 I2 rx ry q=>ho pins s2 σ H2 x y v u Q I2 rx ry q) hm
def tTest (t:TE):TT:=fun σ H Q=>t σ H fun x H'=>∃ k,x = .bl k∧Q k H'
theorem pt_cmpR {op:CmpOp} {r:R2} (ho:OpR X (compareOp op) r) (ha:PE X a ta) (hb:PE X b tb) (hm:behindInMarks op b = false):PT X (.Compare a [op] [b] pos) (tTest (tOp r ta tb)):=by
  intro pins s σ H Q I h
  refine wpAny_isTrue_Compare1 (thn (ha pins s σ H _ I h) fun v s1 ⟨x,H1,I1,r1,q1⟩=>thn (hb pins s1 σ H1 _ I1 q1) fun u s2 ⟨y,H2,I2,r2,q2⟩ =>
    thn (ho pins s2 σ H2 x y v u _ I2 r1 r2 q2) fun c s3 ⟨z,H3,I3,r3,k,e,q3⟩=>?_) hm
  subst e
  cases r3
  exact wpAny_truthy_bool ⟨H3,I3,q3⟩
theorem line63:(sizeLine:Nat) < 2 ^ 63:=by rw [sizeLine_eq]; decide
theorem op_add_str:OpR X (binaryOp .Add) (fun x y H Q=>∃ i j,x = .str i∧y = .str j∧i.length + j.length ≤ sizeLine∧Q (.str (i ++ j)) H):=by
  intro pins s σ H x y v u Q I rx ry h
  obtain ⟨i,j,rfl,rfl,hz,q⟩:=h
  obtain ⟨t,rfl⟩:=rx
  obtain ⟨t',rfl⟩:=ry
  exact add_str (fun t' tk=>⟨.str (i ++ j),H,I.tok _,⟨_,rfl⟩,q⟩) hz
theorem vals1 {x:V} {us:List Value} (r:Vals [x] us):∃ u,us = [u]∧RelV x u:=by
  cases r with
  | cons r1 r2=>cases r2; exact ⟨_,rfl,r1⟩
theorem vals2 {x y:V} {us:List Value} (r:Vals [x,y] us):∃ u w',us = [u,w']∧RelV x u∧RelV y w':=by
  cases r with
  | cons r1 r2 =>
    cases r2 with
    | cons r3 r4=>cases r4; exact ⟨_,_,rfl,r1,r3⟩
theorem call_min2 (hc:X.calm = true):CallR X (.builtin "min") (fun xs H Q=>∃ i j,xs = [.int i,.int j]∧Q (.int (if j < i then j else i)) H):=by
  intro pins s σ H xs us Q I r h
  obtain ⟨i,j,rfl,q⟩:=h
  obtain ⟨u,w',rfl,⟨t,rfl⟩,⟨t',rfl⟩⟩:=vals2 r
  refine min_two_ints (I.ok.hd hc) fun h' tk k=>⟨_,H,I.kept k,?_,q⟩
  by_cases hj:j < i
  · rw [if_pos hj,if_pos hj]; exact ⟨_,rfl⟩
  · rw [if_neg hj,if_neg hj]; exact ⟨_,rfl⟩
end
end L2
namespace L2
open PySem PySem.Spec PyProof.Rows
structure ObjM (h:Heap) (x dx C:Addr) (mA:Str→Option Value):Prop where
  obj:h.get? x = some (PySem.W.instObj C dx)
  ns:h.Ns1 dx mA
  ne:dx ≠ x
set_option tactic.hygienic true in
theorem lookIn_ns {h:Heap} {dx:Addr} {mA:Str→Option Value} (n:h.Ns1 dx mA):∃ od,h.get? dx = some od∧∀ name,PySem.W.lookIn name od = some (mA name):=by
  obtain ⟨o,es,ep,ho,hd,hk,_,hm⟩:=n
  refine ⟨o,ho,fun name=>?_⟩
  have e:=hm name
  unfold nsFind findBy at e
  rw [← Array.find?_toList] at e
  unfold PySem.W.lookIn
  rw [hd]
  dsimp only
  split
  · rename_i y q
    rw [q] at e
    exact congrArg some e
  · rename_i q
    rw [q] at e
    have a:es.toList.any (·.refKey) = false:=by
      rw [List.any_eq_false]
      intro y hy
      obtain ⟨z,t,hkey⟩:=hk y (Array.mem_toList_iff.mp hy)
      simp [DictEntry.refKey,hkey]
    have a':¬ es.toList.any (·.refKey) = true:=by rw [a]; exact Bool.false_ne_true
    rw [if_neg a']
    exact congrArg some e
theorem ObjM.look {h:Heap} {x dx C:Addr} {mA:Str→Option Value} (I:ObjM h x dx C mA):∃ od,PySem.W.InstAt h x (PySem.W.instObj C dx) C (some od)∧∀ name,PySem.W.lookIn name od = some (mA name) :=
  let ⟨od,ho,hl⟩:=lookIn_ns I.ns
  ⟨od,⟨I.obj,rfl,rfl,ho⟩,hl⟩
section
variable {prog:Program} {w:World} {A:Around} {E:Value→Shared→Prop} {s:Shared} {K:PySem.W.Frag} {x dx C f:Addr} {mA:Str→Option Value} {name:Str} {v:Value}
theorem get_map {expr:Bool} {Q:Value→Shared→Prop} (X:K.In s.heap) (I:ObjM s.heap x dx C mA) (hg:PySem.W.plainGet K C name = true) (hh:PySem.W.hasDictIn K C = true)
    (ha:PySem.W.findIn K (.ref C) name = some none) (hv:mA name = some v) (hv':PySem.W.handedIn v = true) (h:Q v { s with toks:=s.toks + 1 }) :
    wpAny (model prog w) A (getAttr (.ref x) name expr) Q E s:=by
  obtain ⟨od,J,hl⟩:=I.look
  exact PySem.W.get_value X J (PySem.W.plainGet_of hg).1 (PySem.W.findObj_own hh ha rfl (by rw [hl,hv])) hv' h
theorem get_meth {pl:Sem Bool} {Q:Value×List Value→Shared→Prop} (X:K.In s.heap) (I:ObjM s.heap x dx C mA) (hg:PySem.W.plainGet K C name = true)
    (hf:PySem.W.findIn K (.ref C) name = some (some (.ref f))) (ht:PySem.W.isFn K (.ref f) = true) (hv:mA name = none) (h:Q (.ref f,[.ref x]) s) :
    wpAny (model prog w) A (getMethod (.ref x) name pl) Q E s:=by
  obtain ⟨od,J,hl⟩:=I.look
  exact PySem.W.method_fn X J (PySem.W.plainGet_of hg).1 (PySem.W.plainGet_of hg).2 hf (beq_iff_eq.mp ht) (by show (PySem.W.lookIn name od).map (·.isSome) = some false; rw [hl,hv]; rfl) h
theorem set_map {ns:List Str} {Q:Unit→Shared→Prop} (X:K.In s.heap) (I:ObjM s.heap x dx C mA)
    (hs:PySem.W.findIn K (.ref C) "__setattr__" = some (some (.builtin "object.__setattr__"))) (hp:PySem.W.plainOver K C = true) (ht:PySem.W.takerIn K C name = some none) (hh:PySem.W.hasDictIn K C = true)
    (hw:PySem.Within mA ns) (hsz:ns.length ≤ sizeLine)
    (h:∀ h',ObjM h' x dx C (fun y=>if y = name then some v else mA y)→Heap.SameBut dx s.heap h'→Q () { s with heap:=h',toks:=s.toks + 2 }) :
    wpAny (model prog w) A (setAttr (.ref x) name v) Q E s:=by
  obtain ⟨od,J,hl⟩:=I.look
  refine PySem.W.set_plain X J hs (PySem.W.osa_open (s:={ s with toks:=s.toks + 1 }) (r:=none) X J hp ht fun b=>?_)
  obtain ⟨cd,hc,hd'⟩:=PySem.W.any_some hh
  have hx:s.heap.get? x = some ⟨.ref C,some dx,.plain,#[]⟩:=I.obj
  refine wpAny_bind (wpAny_pure (wpAny_bind (wpAny_bind (wpAny_loadPart hx (wpAny_bind (PySem.W.Looks.here (s:={ s with toks:=s.toks + 1 }) (PySem.W.looks_clsIn X hc) ?_))))))
  rw [hd']
  refine wpAny_pure (a:=some dx) (wpAny_bind (wpAny_pure (wpAny_bind ?_)))
  refine wpAny_nsSet1 (s:={ s with toks:=s.toks + 1 }) I.ns fun h' hn2 hs2=>?_
  obtain ⟨oD,esD,epD,hoD,hdD,hcD⟩:=hn2.count (PySem.Within.cons name v hw)
  refine wpAny_bind (wpAny_lookBehind hoD (by rw [hdD]; exact pastItsLine_dict (Nat.le_trans hcD (by rw [List.length_cons]; lia))) ?_)
  exact wpAny_pure (h _ ⟨(hs2.2 _ (Ne.symm I.ne)).trans I.obj,hn2,I.ne⟩ hs2)
theorem make_map {R:Result→Shared→Prop} {vs:List Value} {kw:List (Str×Value)} (X:K.In s.heap) (hm:PySem.W.makesIn K C = true)
    (hi:PySem.W.findIn K (.ref C) "__init__" = some (some (.ref f))) (hf:PySem.W.typeIn K (.ref f) = some (.type "function"))
    (h:codeAny (model prog w) (A.under (.builtin "type.__call__" ⟨.ref C :: vs,kw⟩)) (.call (.ref f) ⟨.ref (s.heap.objs.size + 1) :: vs,kw⟩) (PySem.W.InitBack (s.heap.objs.size + 1) R)
      { s with heap:=(s.heap.push PySem.W.emptyDict).push (PySem.W.instObj C s.heap.objs.size) }) :
    codeAny (model prog w) A (.call (.ref C) ⟨vs,kw⟩) R s:=by
  obtain ⟨hh,g,d,t,os⟩:=s
  exact PySem.W.make_core (PySem.W.makes_of X hm) (PySem.W.looks_findIn X hi) (fun self=>PySem.W.bind_fn X self hf) (.inl rfl) h
end
def putF (f:Str) (v:V):List (Str×V)→List (Str×V)
  | []=>[(f,v)]
  | (g,x) :: r=>if g = f then (g,v) :: r else (g,x) :: putF f v r
theorem lookup_putF (f g:Str) (v:V):∀ fs:List (Str×V),(putF f v fs).lookup g = if g = f then some v else fs.lookup g
  | []=>by
    show List.lookup g [(f,v)] = _
    by_cases h:g = f
    · have hb:(g == f) = true:=beq_iff_eq.mpr h
      simp only [List.lookup,hb,if_pos h]
    · have hb:(g == f) = false:=beq_eq_false_iff_ne.mpr h
      simp only [List.lookup,hb,if_neg h]
  | (k,x) :: r=>by
    have ih:=lookup_putF f g v r
    rw [show putF f v ((k,x) :: r) = (if k = f then (k,v) :: r else (k,x) :: putF f v r) from rfl]
    by_cases hk:k = f
    · rw [if_pos hk]
      by_cases h:g = k
      · have hb:(g == k) = true:=beq_iff_eq.mpr h
        simp only [List.lookup,hb,if_pos (h.trans hk)]
      · have hb:(g == k) = false:=beq_eq_false_iff_ne.mpr h
        simp only [List.lookup,hb,if_neg (fun e:g = f=>h (e.trans hk.symm))]
    · rw [if_neg hk]
      by_cases h:g = k
      · have hb:(g == k) = true:=beq_iff_eq.mpr h
        simp only [List.lookup,hb,if_neg (fun e:g = f=>hk (h.symm.trans e))]
      · have hb:(g == k) = false:=beq_eq_false_iff_ne.mpr h
        simp only [List.lookup,hb]
        exact ih
theorem keys_putF (f:Str) (v:V):∀ fs:List (Str×V),f ∈ (putF f v fs).map (·.1)∧∀ g,g ∈ fs.map (·.1)→g ∈ (putF f v fs).map (·.1)
  | []=>⟨by simp [putF],fun g h=>by simp at h⟩
  | (k,x) :: r=>by
    obtain ⟨i1,i2⟩:=keys_putF f v r
    rw [show putF f v ((k,x) :: r) = (if k = f then (k,v) :: r else (k,x) :: putF f v r) from rfl]
    by_cases hk:k = f
    · rw [if_pos hk]
      subst hk
      exact ⟨by simp,fun g h=>by simpa using h⟩
    · rw [if_neg hk]
      refine ⟨?_,fun g h=>?_⟩
      · rw [List.map_cons]
        exact List.mem_cons_of_mem _ i1
      · rw [List.map_cons] at h ⊢
        rcases List.mem_cons.mp h with e | e
        · exact List.mem_cons.mpr (.inl e)
        · exact List.mem_cons_of_mem _ (i2 g e)
theorem length_putF (f:Str) (v:V):∀ fs:List (Str×V),(putF f v fs).length ≤ fs.length + 1
  | []=>by simp [putF]
  | (k,x) :: r=>by
    have ih:=length_putF f v r
    rw [show putF f v ((k,x) :: r) = (if k = f then (k,v) :: r else (k,x) :: putF f v r) from rfl]
    by_cases hk:k = f
    · rw [if_pos hk,List.length_cons,List.length_cons]; lia
    · rw [if_neg hk,List.length_cons,List.length_cons]; lia
theorem RelO.some_of {v:V} {o:Option Value} (r:RelO (some v) o):∃ u,o = some u∧RelV v u:=by
  cases o with
  | none=>exact (show False from r).elim
  | some u=>exact ⟨u,rfl,r⟩
theorem RelO.none_of {o:Option Value} (r:RelO none o):o = none:=by
  cases o with
  | none=>rfl
  | some u=>exact (show False from r).elim
theorem handed_of {v:V} {u:Value} (r:RelV v u):PySem.W.handedIn u = true:=by
  cases v with
  | non=>cases (show u = Value.none from r); rfl
  | bl b=>cases (show u = Value.bool b from r); rfl
  | int i=>obtain ⟨t,e⟩:=(show ∃ t,u = Value.int i t from r); cases e; rfl
  | str x=>obtain ⟨t,e⟩:=(show ∃ t,u = Value.str x t from r); cases e; rfl
  | byt b=>obtain ⟨t,e⟩:=(show ∃ t,u = Value.bytes b t from r); cases e; rfl
  | flt b=>obtain ⟨t,e⟩:=(show ∃ t,u = Value.float b t from r); cases e; rfl
  | ref a=>cases (show u = Value.ref a from r); rfl
  | ty n=>cases (show u = Value.type n from r); rfl
section
variable {P:Program} {w:World} {H H':Hp} {h h':Heap} {a C dx:Addr} {fs fs':List (Str×V)}
theorem ins_get (hok:HOk P w H h) (e:H a = some (.ins C dx fs)):∃ mA,ObjM h a dx C mA∧(∀ f,RelO (fs.lookup f) (mA f))∧PySem.Within mA (fs.map (·.1))∧fs.length ≤ 1000∧H dx = some (.own a):=by
  obtain ⟨d,z,ne,ob,mA,n,r,q⟩:=(show ObjOk P w H h a (.ins C dx fs) from hok a _ e)
  exact ⟨mA,⟨ob,n,ne⟩,r,q,z,d⟩
end
structure Cls (K:PySem.W.Frag) (C:Addr):Prop where
  pg:PySem.W.plainGet K C Str.empty = true
  hd:PySem.W.hasDictIn K C = true
  po:PySem.W.plainOver K C = true
  sa:PySem.W.findIn K (.ref C) "__setattr__" = some (some (.builtin "object.__setattr__"))
theorem Cls.get {K:PySem.W.Frag} {C:Addr} (c:Cls K C) (f:Str):PySem.W.plainGet K C f = true:=c.pg
def NoAttr (K:PySem.W.Frag) (C:Addr) (f:Str):Prop:=PySem.W.findIn K (.ref C) f = some none
theorem NoAttr.taker {K:PySem.W.Frag} {C:Addr} {f:Str} (n:NoAttr K C f):PySem.W.takerIn K C f = some none:=by
  unfold PySem.W.takerIn
  rw [show PySem.W.findIn K (.ref C) f = some none from n]
  rfl
structure Meth (K:PySem.W.Frag) (C:Addr) (m:Str) (f:Addr):Prop where
  at_:PySem.W.findIn K (.ref C) m = some (some (.ref f))
  fn:PySem.W.isFn K (.ref f) = true
  kp:PySem.W.keepIn K (.ref f) = true
section
variable {X:Cx} {pins:List (Addr×Obj)} {σ:St} {H:Hp} {s:Shared} {a C dx:Addr} {fs:List (Str×V)} {f:Str} {v:V} {A:Around} {E:Value→Shared→Prop}
theorem getattr_ok {b:Bool} {Q:Value→Shared→Prop} (I:Inv X pins σ H s) (e:H a = some (.ins C dx fs)) (c:Cls X.K C) (n:NoAttr X.K C f) (l:fs.lookup f = some v)
    (h:∀ u s',Inv X pins σ H s'→RelV v u→Q u s'):wpAny (model X.prog X.w) A (getAttr (.ref a) f b) Q E s:=by
  obtain ⟨mA,O,r,_,_,_⟩:=ins_get I.hok e
  obtain ⟨u,hu,ru⟩:=RelO.some_of (v:=v) (o:=mA f) (by rw [← l]; exact r f)
  exact get_map I.kIn O (c.get f) c.hd n hu (handed_of ru) (h u _ (I.tok _) ru)
theorem getmeth_ok {m:Str} {g:Addr} {pl:Sem Bool} {Q:Value×List Value→Shared→Prop} (I:Inv X pins σ H s) (e:H a = some (.ins C dx fs)) (c:Cls X.K C) (k:Meth X.K C m g) (l:fs.lookup m = none)
    (h:Q (.ref g,[.ref a]) s):wpAny (model X.prog X.w) A (getMethod (.ref a) m pl) Q E s:=by
  obtain ⟨mA,O,r,_,_,_⟩:=ins_get I.hok e
  have hn:mA m = none:=RelO.none_of (by rw [← l]; exact r m)
  exact get_meth I.kIn O (c.get m) k.at_ k.fn hn h
theorem setattr_ok {y:V} {u:Value} {Q:Unit→Shared→Prop} (I:Inv X pins σ H s) (e:H a = some (.ins C dx fs)) (c:Cls X.K C) (n:NoAttr X.K C f) (hl:fs.length < 1000) (ry:RelV y u)
    (h:∀ s',Inv X pins σ (upd H a (.ins C dx (putF f y fs))) s'→Q () s'):wpAny (model X.prog X.w) A (setAttr (.ref a) f u) Q E s:=by
  obtain ⟨mA,O,r,wi,_,ho⟩:=ins_get I.hok e
  have hz:(fs.map (·.1)).length ≤ sizeLine:=by rw [List.length_map,sizeLine_eq]; lia
  refine set_map I.kIn O c.sa c.po n.taker c.hd wi hz fun h' O' sb=>h _ ?_
  have hd:∃ o,h'.get? dx = some o:=let ⟨o,_,_,e',_⟩:=O'.ns; ⟨o,e'⟩
  refine I.write (x:=a) (e:=dx) (by rw [e]; exact True.intro) (.inr ho) (fun b q hb z=>(sb.2 b hb).trans z) hd ?_
  refine ⟨by rw [upd_ne O.ne]; exact ho,?_,O.ne,O'.obj,_,O'.ns,fun g=>?_,fun g hg=>?_⟩
  · have:=length_putF f y fs; lia
  · show RelO ((putF f y fs).lookup g) (if g = f then some u else mA g)
    rw [lookup_putF]
    by_cases q:g = f
    · rw [if_pos q,if_pos q]; exact ry
    · rw [if_neg q,if_neg q]; exact r g
  · by_cases q:g = f
    · rw [q]; exact (keys_putF f y fs).1
    · refine (keys_putF f y fs).2 g (wi g fun z=>hg ?_)
      show (if g = f then some u else mA g) = none
      rw [if_neg q]; exact z
theorem Inv.made (I:Inv X pins σ H s):Inv X pins σ (upd (upd H s.heap.objs.size (.own (s.heap.objs.size + 1))) (s.heap.objs.size + 1) (.ins C s.heap.objs.size []))
    { s with heap:=(s.heap.push PySem.W.emptyDict).push (PySem.W.instObj C s.heap.objs.size) }:=by
  have e1:(s.heap.push PySem.W.emptyDict).get? s.heap.objs.size = some PySem.W.emptyDict:=Heap.get?_push_size s.heap rfl
  have e2:((s.heap.push PySem.W.emptyDict).push (PySem.W.instObj C s.heap.objs.size)).get? (s.heap.objs.size + 1) = some (PySem.W.instObj C s.heap.objs.size):=by
    have:=Heap.get?_push_size (s.heap.push PySem.W.emptyDict) (o:=PySem.W.instObj C s.heap.objs.size) rfl
    rwa [Heap.size_push] at this
  have e3:(s.heap.push PySem.W.emptyDict).Ns s.heap.objs.size (fun _=>none):=⟨PySem.W.emptyDict,#[],_,e1,rfl,(fun e he=>absurd he (by simp)),fun _=>rfl⟩
  have I1:=I.laid (a:=s.heap.objs.size) (o:=.own (s.heap.objs.size + 1)) (h':=s.heap.push PySem.W.emptyDict) (t':=s.toks) (fun b u q=>Heap.get?_push_of_some _ q) (Nat.le_refl _) ⟨_,e1⟩
  refine I1.laid (a:=s.heap.objs.size + 1) (o:=.ins C s.heap.objs.size []) (t':=s.toks) (fun b u q=>Heap.get?_push_of_some _ q) (Nat.le_of_eq (Heap.size_push _ _)) ?_
  have ne:s.heap.objs.size ≠ s.heap.objs.size + 1:=Nat.ne_of_lt (Nat.lt_succ_self _)
  refine ⟨by rw [upd_ne ne,upd_same],Nat.zero_le _,ne,e2,fun _=>none,(Heap.Ns1.of_empty e3).at fun o q=>Heap.get?_push_of_some _ q,fun _=>True.intro,fun y hy=>absurd rfl hy⟩
theorem attr_of {prog:Program} {w:World} {env:Env} {e:Expr} {f:Str} {pos:Pos} {s:Shared} {Q:Value→Shared→Prop} (hb:attributeBase e f env (eval e env) = eval e env)
    (h:wpAny (model prog w) A (eval e env) (fun o s₁=>wpAny (model prog w) A (getAttr o f true) Q E s₁) E s):wpAny (model prog w) A (eval (.Attribute e f pos) env) Q E s :=
  Attribute_any_ h (by rw [arm_eval_Attribute,hb])
end
def tFld (K:PySem.W.Frag) (ta:TE) (f:Str):TE:=fun σ H Q=>ta σ H fun x H1=>∃ a C dx fs v,x = .ref a∧H1 a = some (.ins C dx fs)∧Cls K C∧NoAttr K C f∧fs.lookup f = some v∧Q v H1
def sFld (K:PySem.W.Frag) (ta tv:TE) (f:Str):TS:=fun D σ H=>tv σ H fun y H1=>ta σ H1 fun x H2=>∃ a C dx fs,x = .ref a∧H2 a = some (.ins C dx fs)∧Cls K C∧NoAttr K C f∧fs.length < 1000 ∧
  D.nx σ (upd H2 a (.ins C dx (putF f y fs)))
section
variable {X:Cx} {o e value:Expr} {f:Str} {pos pos' tpos:Pos} {ta tv:TE}
theorem pe_fld (he:PE X e ta) (hb:attributeBase e f X.env (eval e X.env) = eval e X.env):PE X (.Attribute e f pos) (tFld X.K ta f):=by
  intro pins s σ H Q I h
  refine attr_of hb (thn (he pins s σ H _ I h) fun u s1 ⟨x,H1,I1,rx,a,C,dx,fs,v,ex,ea,c,n,l,q⟩=>?_)
  subst ex
  obtain rfl:u = Value.ref a:=rx
  exact getattr_ok I1 ea c n l fun u' s2 I2 ru=>⟨v,H1,I2,ru,q⟩
theorem ps_fld (ha:PE X o ta) (hv:PE X value tv) (hs:swapsWith value (some (.Attribute o f pos')) pos.line X.env = pure false):PS X (.Assign [.Attribute o f pos'] value pos) (sFld X.K ta tv f):=by
  intro pins s σ H D I h
  refine plainObj_wpAny_Assign_Attribute (thn (hv pins s σ H _ I h) fun u s1 ⟨y,H1,I1,ry,q⟩=>thn (ha pins s1 σ H1 _ I1 q) fun ov s2 ⟨x,H2,I2,rx,a,C,dx,fs,ex,ea,c,n,l,q2⟩=>?_) hs
  subst ex
  obtain rfl:ov = Value.ref a:=rx
  exact setattr_ok I2 ea c n l ry fun s3 I3=>⟨σ,_,I3,q2⟩
theorem methcall_of {pl:Sem Bool} {m:Str} {apos:Pos} {args:List Expr} {pins:List (Addr×Obj)} {s:Shared} {σ:St} {H:Hp} {Q:Value→Shared→Prop} {te:TE} (he:PE X e te) (I:Inv X pins σ H s)
    (h:te σ H fun x H1=>∃ a C dx fs g,x = .ref a∧H1 a = some (.ins C dx fs)∧Cls X.K C∧Meth X.K C m g∧fs.lookup m = none ∧
      ∀ s1,Inv X pins σ H1 s1→wpAny (model X.prog X.w) X.A (callWith pos (.ref g) [.ref a] (backTo pos (starEach args X.env)) (backToKw pos (keywordEach [] X.env))) Q X.xe s1)
    (ht:eval (.Call (.Attribute e m apos) args [] pos) X.env = (do
      let ov ← eval e X.env
      standAt apos.atName
      let (f,first) ← holding [ov] (getMethod ov m pl)
      callWith pos f first (backTo pos (starEach args X.env)) (backToKw pos (keywordEach [] X.env)))) :
    wpAny (model X.prog X.w) X.A (eval (.Call (.Attribute e m apos) args [] pos) X.env) Q X.xe s:=by
  refine PySem.W.methodCall_KW (pl:=pl) (thn (he pins s σ H _ I h) fun u s1 ⟨x,H1,I1,rx,a,C,dx,fs,g,ex,ea,c,k,l,q⟩=>?_) ht
  subst ex
  obtain rfl:u = Value.ref a:=rx
  exact getmeth_ok I1 ea c k l (q s1 I1)
end
section
variable {X:Cx} {pins:List (Addr×Obj)} {σ:St} {H:Hp} {s:Shared} {A:Around} {E:Value→Shared→Prop} {Q:Value→Shared→Prop} {c:Value} {b:Bool}
inductive TyOf (K:PySem.W.Frag) (H:Hp):V→Value→Prop where
  | non:TyOf K H .non (.type "NoneType")
  | bl (x:Bool):TyOf K H (.bl x) (.type "bool")
  | int (i:Int):TyOf K H (.int i) (.type "int")
  | str (x:Str):TyOf K H (.str x) (.type "str")
  | flt (x:UInt64):TyOf K H (.flt x) (.type "float")
  | lst {a:Addr} {xs:List V} (e:H a = some (.lst xs)):TyOf K H (.ref a) (.type "list")
  | frz {a:Addr} {o:Obj} {xs:List V} (e:H a = some (.frz o (.lst xs))):TyOf K H (.ref a) (.type "list")
  | tup {a:Addr} {xs:List V} (e:H a = some (.tup xs)):TyOf K H (.ref a) (.type "tuple")
  | dK {a:Addr} {kvs:List (Key×V)} (e:H a = some (.dK kvs)):TyOf K H (.ref a) (.type "dict")
  | dT {a:Addr} {kvs:List (List Key×V)} (e:H a = some (.dT kvs)):TyOf K H (.ref a) (.type "dict")
  | ins {a C dx:Addr} {fs:List (Str×V)} (e:H a = some (.ins C dx fs)) (cl:Cls K C) (ha:PySem.W.findIn K (.ref C) "__class__" = some (some (.builtin "object.__class__")))
      (hn:PySem.W.specialIn K (.builtin "object.__class__") "__get__" = some (some (.builtin "getset_descriptor.__get__"))) (htk:PySem.W.takesIn K (.builtin "object.__class__") = some true)
      (hm:PySem.W.mroIn K C (.type "object") = some true):TyOf K H (.ref a) (.ref C)
theorem isinst_ok {x:V} {u t:Value} (I:Inv X pins σ H s) (rx:RelV x u) (ty:TyOf X.K H x t) (e:PySem.W.kitOne X.K t c = some b) (h:∀ tk,Q (.bool b) { s with toks:=tk }) :
    wpAny (model X.prog X.w) A (call (.builtin "isinstance") [u,c]) Q E s:=by
  cases ty with
  | non=>cases (show u = Value.none from rx); exact PySem.W.kia_one PySem.W.kitx_none I.kIn True.intro e (fun z=>nomatch z) h
  | bl y=>cases (show u = Value.bool y from rx); exact PySem.W.kia_one PySem.W.kitx_bool I.kIn True.intro e (fun z=>nomatch z) h
  | int i=>obtain ⟨t,q⟩:=(show ∃ t,u = Value.int i t from rx); cases q; exact PySem.W.kia_one PySem.W.kitx_int I.kIn True.intro e (fun z=>nomatch z) h
  | str y=>obtain ⟨t,q⟩:=(show ∃ t,u = Value.str y t from rx); cases q; exact PySem.W.kia_one PySem.W.kitx_str I.kIn True.intro e (fun z=>nomatch z) h
  | flt y=>obtain ⟨t,q⟩:=(show ∃ t,u = Value.float y t from rx); cases q; exact PySem.W.kia_one PySem.W.kitx_float I.kIn True.intro e (fun z=>nomatch z) h
  | @lst a xs ea =>
    cases (show u = Value.ref a from rx)
    obtain ⟨_,_,n,_,h1⟩:=(show ObjOk X.prog X.w H s.heap a (.lst xs) from I.hok a _ ea)
    exact PySem.W.kia_one PySem.W.kitx_list I.kIn ⟨_,h1,rfl⟩ e (fun z=>nomatch z) h
  | @frz a ob xs ea =>
    cases (show u = Value.ref a from rx)
    obtain ⟨_,_,_,n,_,h1⟩:=(show ObjOk X.prog X.w H s.heap a (.frz ob (.lst xs)) from I.hok a _ ea)
    exact PySem.W.kia_one PySem.W.kitx_list I.kIn ⟨_,h1,rfl⟩ e (fun z=>nomatch z) h
  | @tup a xs ea =>
    cases (show u = Value.ref a from rx)
    obtain ⟨_,_,_,p⟩:=(show ObjOk X.prog X.w H s.heap a (.tup xs) from I.hok a _ ea)
    obtain ⟨o,h1,h2,_⟩:=p
    exact PySem.W.kia_one PySem.W.kitx_tuple I.kIn ⟨o,h1,h2⟩ e (fun z=>nomatch z) h
  | @dK a kvs ea =>
    cases (show u = Value.ref a from rx)
    obtain ⟨_,_,vs,_,p⟩:=(show ObjOk X.prog X.w H s.heap a (.dK kvs) from I.hok a _ ea)
    obtain ⟨o,es,ep,h1,h2,_⟩:=p
    exact PySem.W.kia_one PySem.W.kitx_dict I.kIn ⟨o,h1,h2.1⟩ e (fun z=>nomatch z) h
  | @dT a kvs ea =>
    cases (show u = Value.ref a from rx)
    obtain ⟨_,_,xs,_,o,es,ep,h1,h2,_⟩:=(show ObjOk X.prog X.w H s.heap a (.dT kvs) from I.hok a _ ea)
    exact PySem.W.kia_one PySem.W.kitx_dict I.kIn ⟨o,h1,h2.1⟩ e (fun z=>nomatch z) h
  | @ins a C dx fs ea cl ha hn htk hm =>
    cases (show u = Value.ref a from rx)
    obtain ⟨mA,O,_⟩:=ins_get I.hok ea
    obtain ⟨od,J,_⟩:=O.look
    exact PySem.W.kia_one (PySem.W.kitx_own (cl.get _) cl.hd ha hn htk hm) I.kIn J e (fun z=>nomatch z) h
end
end L2
namespace L2
open PySem PySem.Spec PyProof.Rows
structure Room (k:Nat) (A:Around) (c:Bool:=true):Prop where
  hc:c = true→A.handled = none
  dp:A.depth + 3 * k + 5 < recursionLimit
  un:A.units + 16 * k + 200 < cLine
theorem Room.mono {j k:Nat} {A:Around} {c:Bool} (r:Room k A c) (h:j ≤ k):Room j A c:=⟨r.hc,by have:=r.dp; lia,by have:=r.un; lia⟩
theorem Room.deeper {k:Nat} {A:Around} {c:Bool} (r:Room (k + 1) A c) (env:Env):Room k (A.deeper env) c :=
  ⟨r.hc,by have:=r.dp; show A.depth + 1 + 3 * k + 5 < _; lia,by have:=r.un; show A.units + 3 + 16 * k + 200 < _; lia⟩
theorem make_depth {A:Around} {C:Addr} {us:List Value} {kw:List (Str×Value)}:(A.under (.builtin "type.__call__" ⟨.ref C :: us,kw⟩)).depth = A.depth + 1:=by
  first | rfl | simp [Around.under,Code.weight,Code.isCreation,Code.isGuard,Code.isCaller,Code.frames,Code.isFrame,guardIds]
theorem make_units {A:Around} {C:Addr} {us:List Value} {kw:List (Str×Value)}:(A.under (.builtin "type.__call__" ⟨.ref C :: us,kw⟩)).units = A.units + 1:=by
  first | rfl | simp [Around.under,Code.cUnits,Code.frames,Code.isFrame]
theorem Room.make {k:Nat} {A:Around} {c:Bool} (r:Room (k + 1) A c) (C:Addr) (us:List Value) (kw:List (Str×Value)):Room k (A.under (.builtin "type.__call__" ⟨.ref C :: us,kw⟩)) c :=
  ⟨r.hc,by have:=r.dp; rw [make_depth]; lia,by have:=r.un; rw [make_units]; lia⟩
theorem Room.depth {k:Nat} {A:Around} {c:Bool} (r:Room k A c):A.depth < recursionLimit:=by have:=r.dp; lia
theorem Room.units {k:Nat} {A:Around} {c:Bool} (r:Room k A c):A.units + 64 < cLine:=by have:=r.un; lia
def tNil:TA:=fun _ H Q=>Q [] H
def tCons (ta:TE) (tr:TA):TA:=fun σ H Q=>ta σ H fun x H1=>tr σ H1 fun xs H2=>Q (x :: xs) H2
section
variable {X:Cx} {e:Expr} {es:List Expr} {te:TE} {t:TA} {pos:Pos}
theorem pa_nil:PA X [] tNil:=fun _ _ _ _ H Q I h=>Calls.spliced_nil ⟨[],H,I,.nil,h⟩
theorem pa_cons (ha:PE X e te) (hr:PA X es t) (hs:starEach (e :: es) X.env = (false,eval e X.env) :: starEach es X.env:=by rfl):PA X (e :: es) (tCons te t):=by
  intro pos pins s σ H Q I h
  rw [hs]
  show wpAny _ _ (spliced ((false,eval e X.env) :: backTo pos (starEach es X.env))) _ _ s
  refine Calls.spliced_cons (thn (ha pins s σ H _ I h) fun u s1 ⟨x,H1,I1,r1,q1⟩=>?_)
  exact thn (hr pos pins s1 σ H1 _ I1 q1) fun us s2 ⟨xs,H2,I2,r2,q2⟩=>⟨x :: xs,H2,I2,.cons r1 r2,q2⟩
def tTup (t:TA):TE:=fun σ H Q=>t σ H fun xs H1=>xs.length ≤ sizeLine∧∀ p,H1 p = none→Q (.ref p) (upd H1 p (.tup xs))
def tLst (t:TA):TE:=fun σ H Q=>t σ H fun xs H1=>xs.length ≤ sizeLine∧∀ p,H1 p = none→Q (.ref p) (upd H1 p (.lst xs))
theorem pe_tup {x1} (h:PA X es t):PE X (.Tuple es x1 pos) (tTup t):=by
  intro pins s σ H Q I hq
  refine wpAny_Tuple_spliced (thn (h pos pins s σ H _ I hq) fun us s1 ⟨xs,H1,I1,r,z,q⟩=>⟨by rw [← r.length]; exact z,?_⟩)
  have hf:H1 s1.heap.objs.size = none:=I1.hok.fresh (Nat.le_refl _)
  refine ⟨.ref s1.heap.objs.size,upd H1 s1.heap.objs.size (.tup xs),I1.laid (t':=s1.toks) (fun b u e=>Heap.get?_push_of_some _ e) (Nat.le_refl _) ?_,rfl,q _ hf⟩
  exact ⟨z,us,r,⟨_,Heap.get?_push_size _ rfl,rfl,_,rfl⟩⟩
theorem pe_lst (h:PA X es t):PE X (.List es pos) (tLst t):=by
  intro pins s σ H Q I hq
  refine wpAny_List_spliced (thn (h pos pins s σ H _ I hq) fun us s1 ⟨xs,H1,I1,r,z,q⟩=>⟨by rw [← r.length]; exact z,?_⟩)
  have hf:H1 s1.heap.objs.size = none:=I1.hok.fresh (Nat.le_refl _)
  refine ⟨.ref s1.heap.objs.size,upd H1 s1.heap.objs.size (.lst xs),I1.laid (t':=s1.toks) (fun b u e=>Heap.get?_push_of_some _ e) (Nat.le_refl _) ?_,rfl,q _ hf⟩
  exact ⟨z,us,0,r,Heap.get?_push_size _ rfl⟩
end
abbrev Sp:=List V→Hp→VK→XK→Prop
abbrev CXT:=List Env→Hp→Shared→XK→Value→Shared→Prop
structure Env0 (P:Program) (w:World) (K:PySem.W.Frag) (mg:Str→Option Value) (base:Heap) (A:Around) (outer:List Env) (s:Shared) (H:Hp):Prop where
  frames:A.frames = some outer
  mod:Mod K mg base
  bs:∀ b o,base.get? b = some o→s.heap.get? b = some o∧H b = none
  bsz:base.objs.size ≤ s.heap.objs.size
  funs:s.heap.FunFrames base outer
  frf:∀ b ∈ frs outer,H b = none
  hok:HOk P w H s.heap
  bare:AllBare s.gens
def CE (outer:List Env) (P:Program) (w:World) (H:Hp) (s:Shared) (Q:VK) (u:Value) (s':Shared):Prop :=
  ∃ v H',s'.os = s.os∧AllBare s'.gens∧Un (frs outer) [] H H' s.heap s'.heap∧HOk P w H' s'.heap∧RelV v u∧Q v H'
def CR (CX:CXT) (outer:List Env) (P:Program) (w:World) (H:Hp) (s:Shared) (Q:VK) (E:XK) (r:Result) (s':Shared):Prop :=
  match r with
  | .ok (.ret u)=>CE outer P w H s Q u s'
  | .ok _=>False
  | .error e=>CX outer H s E e s'
structure FnOk (P:Program) (w:World) (K:PySem.W.Frag) (mg:Str→Option Value) (base:Heap) (CX:CXT) (k:Nat) (f:Addr) (fd:FuncData) (ps:List Str) (sp:Sp) (c:Bool:=true):Prop where
  len:∀ vs H Q E,sp vs H Q E→vs.length = ps.length
  run:∀ (A:Around) (outer:List Env) (s:Shared) (H:Hp) (args:Args) (us:List Value) (vs:List V) (Q:VK) (E:XK),Room k A c→Env0 P w K mg base A outer s H→BindsTo s fd args (ps.zip us)→Vals vs us→sp vs H Q E →
    codeAny (model P w) A (.call (.ref f) args) (CR CX outer P w H s Q E) s
theorem FnOk.mono {P:Program} {w:World} {K:PySem.W.Frag} {mg:Str→Option Value} {base:Heap} {CX:CXT} {j k:Nat} {f:Addr} {fd:FuncData} {ps:List Str} {sp:Sp} {c:Bool} (F:FnOk P w K mg base CX j f fd ps sp c) (h:j ≤ k) :
    FnOk P w K mg base CX k f fd ps sp c:=⟨F.len,fun A outer s H args us vs Q E hr=>F.run A outer s H args us vs Q E (hr.mono h)⟩
theorem Env0.make {P:Program} {w:World} {K:PySem.W.Frag} {mg:Str→Option Value} {base:Heap} {A:Around} {outer:List Env} {s:Shared} {H:Hp} (e:Env0 P w K mg base A outer s H) (C:Addr) (us:List Value) (kw:List (Str×Value)) :
    Env0 P w K mg base (A.under (.builtin "type.__call__" ⟨.ref C :: us,kw⟩)) outer s H:=⟨by first | exact e.frames | (simpa [Around.under,Code.envs,Code.isFrame,pushEnvs] using e.frames),e.mod,e.bs,e.bsz,e.funs,e.frf,e.hok,e.bare⟩
section
variable {X:Cx} {pins:List (Addr×Obj)} {σ:St} {H:Hp} {s s':Shared}
theorem Inv.env0 (I:Inv X pins σ H s):Env0 X.prog X.w X.K X.mg X.base X.A X.stack s H :=
  ⟨I.ok.frames,I.ok.mod,I.bs,Nat.le_trans I.ok.bsz I.sz,I.stack,I.stkFree,I.hok,I.bare⟩
theorem Inv.after {Q:VK} {u:Value} (I:Inv X pins σ H s) (h:CE X.stack X.prog X.w H s Q u s'):EP X pins σ Q u s':=by
  obtain ⟨v,H',os,bare,un,hok,r,q⟩:=h
  obtain ⟨hh,g,d,t,os'⟩:=s'
  obtain rfl:os' = s.os:=os
  exact ⟨v,H',I.call (h':=hh) (g':=g) (d':=d) (t':=t) (ch:=[]) un hok bare (fun b z=>absurd z (by simp)),r,q⟩
end
def tCall (sp:Sp) (dvs:List V) (E:XK) (t:TA):TE:=fun σ H Q=>t σ H fun vs H1=>sp (vs ++ dvs) H1 Q E
def tMeth (C:Addr) (m:Str) (sp:Sp) (dvs:List V) (E:XK) (ta:TE) (t:TA):TE:=fun σ H Q=>ta σ H fun x H1=>∃ a dx fs,x = .ref a∧H1 a = some (.ins C dx fs)∧fs.lookup m = none ∧
  t σ H1 fun vs H2=>sp (x :: (vs ++ dvs)) H2 Q E
def tMake (C:Addr) (sp:Sp) (dvs:List V) (E:XK) (t:TA):TE:=fun σ H Q=>t σ H fun vs H1=>∀ x dx,H1 x = none→H1 dx = none→dx ≠ x →
  sp (.ref x :: (vs ++ dvs)) (upd (upd H1 dx (.own x)) x (.ins C dx [])) (fun v H2=>v = .non∧Q (.ref x) H2) E
def Binds (K:PySem.W.Frag) (fd:FuncData) (ps:List Str) (ds:List Value):Prop :=
  ∀ (s:Shared) (us:List Value),K.In s.heap→(us ++ ds).length = ps.length→BindsTo s fd ⟨us,[]⟩ (ps.zip (us ++ ds))
theorem Binds.all {K:PySem.W.Frag} {fd:FuncData} {ps:List Str} (h:∀ us:List Value,us.length = ps.length→bindArgs fd ⟨us,[]⟩ = pure (ps.zip us)):Binds K fd ps []:=fun s us _ hl=>by
  rw [List.append_nil] at hl ⊢
  exact .of_eq (h us hl)
def Passes (CX:CXT) (X:Cx) (E:XK):Prop:=∀ (pins:List (Addr×Obj)) (σ:St) (H:Hp) (s:Shared) (e:Value) (s':Shared),Inv X pins σ H s→CX X.stack H s E e s'→X.xe e s'
section
variable {X:Cx} {CX:CXT} {k:Nat} {f C:Addr} {fd:FuncData} {ps:List Str} {sp:Sp} {dvs:List V} {ds:List Value} {E:XK} {x m:Str} {p pos apos:Pos} {e o:Expr} {es:List Expr} {ta:TE} {t:TA}
theorem run_fn {pins:List (Addr×Obj)} {σ:St} {H:Hp} {s:Shared} {Q:VK} {us:List Value} {vs:List V} {cc:Bool} (F:FnOk X.prog X.w X.K X.mg X.base CX k f fd ps sp cc) (hr:Room k X.A cc) (hb:Binds X.K fd ps ds) (hd:Vals dvs ds) (hx:Passes CX X E)
    (I:Inv X pins σ H s) (r:Vals vs us) (h:sp (vs ++ dvs) H Q E):wpAny (model X.prog X.w) X.A (call (.ref f) us) (EP X pins σ Q) X.xe s:=by
  have r2:Vals (vs ++ dvs) (us ++ ds):=r.append hd
  have hl:(us ++ ds).length = ps.length:=by rw [← r2.length]; exact F.len _ _ _ _ h
  refine wpAny_call (codeAny_mono (F.run X.A X.stack s H ⟨us,[]⟩ (us ++ ds) (vs ++ dvs) Q E hr I.env0 (hb s us I.kIn hl) r2 h) fun r s' hq=>?_)
  cases r with
  | error e=>exact hx pins σ H s e s' I hq
  | ok fl =>
    cases fl with
    | ret u=>exact I.after hq
    | next=>exact False.elim hq
    | brk=>exact False.elim hq
    | cont=>exact False.elim hq
theorem pe_call {cc:Bool} (F:FnOk X.prog X.w X.K X.mg X.base CX k f fd ps sp cc) (hr:Room k X.A cc) (hg:Gl X x) (hm:X.mg x = some (.ref f)) (hk:PySem.W.keepIn X.K (.ref f) = true) (hb:Binds X.K fd ps ds) (hd:Vals dvs ds) (hx:Passes CX X E)
    (ha:PA X (e :: es) t) (hdb:(x == ("__debug__":Str)) = false:=by decide) (he:starEach (e :: es) X.env = (false,eval e X.env) :: starEach es X.env:=by rfl) (hpl:(backTo pos (starEach es X.env)).any (·.1) = false:=by rfl) :
    PE X (.Call (.Name x p) (e :: es) [] pos) (tCall sp dvs E t):=by
  intro pins s σ H Q I h
  refine wpAny_Call_Name_kw (ld_glob I hg hm ?_ hdb)
  refine PySem.W.callWith_K (h₀:=X.base) I.ok.mod.kin hk (thn (ha pos pins s σ H _ I h) fun us s1 ⟨vs,H1,I1,r,q⟩=>⟨I1.kIn,?_⟩) he hpl
  exact run_fn F hr hb hd hx I1 r q
theorem pe_meth {pl:Sem Bool} (he:PE X o ta) (c:Cls X.K C) (hm:Meth X.K C m f) {cc:Bool} (F:FnOk X.prog X.w X.K X.mg X.base CX k f fd ps sp cc) (hr:Room k X.A cc) (hb:Binds X.K fd ps ds) (hd:Vals dvs ds) (hx:Passes CX X E) (ha:PA X (e :: es) t)
    (hst:starEach (e :: es) X.env = (false,eval e X.env) :: starEach es X.env:=by rfl) (hpl:(backTo pos (starEach es X.env)).any (·.1) = false:=by rfl)
    (ht:eval (.Call (.Attribute o m apos) (e :: es) [] pos) X.env = (do
      let ov ← eval o X.env
      standAt apos.atName
      let (f,first) ← holding [ov] (getMethod ov m pl)
      callWith pos f first (backTo pos (starEach (e :: es) X.env)) (backToKw pos (keywordEach [] X.env))):=by rfl) :
    PE X (.Call (.Attribute o m apos) (e :: es) [] pos) (tMeth C m sp dvs E ta t):=by
  intro pins s σ H Q I h
  refine PySem.W.methodCall_KW (pl:=pl) (thn (he pins s σ H _ I h) fun u s1 ⟨x,H1,I1,rx,a,dx,fs,ex,ea,l,q⟩=>?_) ht
  subst ex
  obtain rfl:u = Value.ref a:=rx
  refine getmeth_ok I1 ea c hm l ?_
  refine PySem.W.callWith_K (first:=[.ref a]) (h₀:=X.base) I.ok.mod.kin hm.kp (thn (ha pos pins s1 σ H1 _ I1 q) fun us s2 ⟨vs,H2,I2,r,q2⟩=>⟨I2.kIn,?_⟩) hst hpl
  exact run_fn (us:=.ref a :: us) (vs:=.ref a :: vs) F hr hb hd hx I2 (.cons rfl r) q2
theorem pe_meth0 {pl:Sem Bool} (he:PE X o ta) (c:Cls X.K C) (hm:Meth X.K C m f) {cc:Bool} (F:FnOk X.prog X.w X.K X.mg X.base CX k f fd ps sp cc) (hr:Room k X.A cc) (hb:Binds X.K fd ps ds) (hd:Vals dvs ds) (hx:Passes CX X E)
    (ht:eval (.Call (.Attribute o m apos) [] [] pos) X.env = (do
      let ov ← eval o X.env
      standAt apos.atName
      let (f,first) ← holding [ov] (getMethod ov m pl)
      callWith pos f first (backTo pos (starEach [] X.env)) (backToKw pos (keywordEach [] X.env))):=by rfl) :
    PE X (.Call (.Attribute o m apos) [] [] pos) (tMeth C m sp dvs E ta tNil):=by
  intro pins s σ H Q I h
  refine PySem.W.methodCall_KW (pl:=pl) (thn (he pins s σ H _ I h) fun u s1 ⟨x,H1,I1,rx,a,dx,fs,ex,ea,l,q⟩=>?_) ht
  subst ex
  obtain rfl:u = Value.ref a:=rx
  refine getmeth_ok I1 ea c hm l ?_
  exact PySem.W.callWith_K0 (first:=[.ref a]) I1.kIn hm.kp (run_fn (us:=[.ref a]) (vs:=[.ref a]) F hr hb hd hx I1 (.cons rfl .nil) q)
structure Mk (K:PySem.W.Frag) (C f:Addr):Prop where
  makes:PySem.W.makesIn K C = true
  init:PySem.W.findIn K (.ref C) "__init__" = some (some (.ref f))
  fn:PySem.W.isFn K (.ref f) = true
  kp:PySem.W.keepIn K (.ref C) = true
theorem run_make {pins:List (Addr×Obj)} {σ:St} {H:Hp} {s:Shared} {Q:VK} {us:List Value} {vs:List V} (M:Mk X.K C f) {cc:Bool} (F:FnOk X.prog X.w X.K X.mg X.base CX k f fd ps sp cc) (hr:Room (k + 1) X.A cc) (hb:Binds X.K fd ps ds) (hd:Vals dvs ds)
    (hx:Passes CX X E) (I:Inv X pins σ H s) (r:Vals vs us)
    (h:∀ x dx,H x = none→H dx = none→dx ≠ x→sp (.ref x :: (vs ++ dvs)) (upd (upd H dx (.own x)) x (.ins C dx [])) (fun v H2=>v = .non∧Q (.ref x) H2) E) :
    wpAny (model X.prog X.w) X.A (call (.ref C) us) (EP X pins σ Q) X.xe s:=by
  have hq:=h (s.heap.objs.size + 1) s.heap.objs.size (I.hok.fresh (Nat.le_succ _)) (I.hok.fresh (Nat.le_refl _)) (Nat.ne_of_lt (Nat.lt_succ_self _))
  have I2:=Inv.made (C:=C) I
  have r2:Vals (V.ref (s.heap.objs.size + 1) :: (vs ++ dvs)) (Value.ref (s.heap.objs.size + 1) :: (us ++ ds)):=.cons rfl (r.append hd)
  have hl:(Value.ref (s.heap.objs.size + 1) :: us ++ ds).length = ps.length:=by
    have e:=r2.length
    rw [F.len _ _ _ _ hq] at e
    exact e.symm
  refine wpAny_call (make_map (f:=f) I.kIn M.makes M.init (beq_iff_eq.mp M.fn) (codeAny_mono (F.run _ X.stack _ _ ⟨Value.ref (s.heap.objs.size + 1) :: us,[]⟩ (Value.ref (s.heap.objs.size + 1) :: (us ++ ds)) _ _ E (hr.make C us [])
    (I2.env0.make C us []) (hb _ (Value.ref (s.heap.objs.size + 1) :: us) I2.kIn hl) r2 hq) fun r s' hq'=>?_))
  cases r with
  | error e=>exact hx pins σ _ _ e s' I2 hq'
  | ok fl =>
    cases fl with
    | ret u =>
      obtain ⟨v,H',I3,rv,ev,q3⟩:=I2.after hq'
      subst ev
      exact ⟨rv,⟨V.ref (s.heap.objs.size + 1),H',I3,rfl,q3⟩⟩
    | next=>exact False.elim hq'
    | brk=>exact False.elim hq'
    | cont=>exact False.elim hq'
theorem pe_make (M:Mk X.K C f) {cc:Bool} (F:FnOk X.prog X.w X.K X.mg X.base CX k f fd ps sp cc) (hr:Room (k + 1) X.A cc) (hg:Gl X x) (hm:X.mg x = some (.ref C)) (hb:Binds X.K fd ps ds) (hd:Vals dvs ds) (hx:Passes CX X E)
    (ha:PA X (e :: es) t) (hdb:(x == ("__debug__":Str)) = false:=by decide) (he:starEach (e :: es) X.env = (false,eval e X.env) :: starEach es X.env:=by rfl) (hpl:(backTo pos (starEach es X.env)).any (·.1) = false:=by rfl) :
    PE X (.Call (.Name x p) (e :: es) [] pos) (tMake C sp dvs E t):=by
  intro pins s σ H Q I h
  refine wpAny_Call_Name_kw (ld_glob I hg hm ?_ hdb)
  refine PySem.W.callWith_K (h₀:=X.base) I.ok.mod.kin M.kp (thn (ha pos pins s σ H _ I h) fun us s1 ⟨vs,H1,I1,r,q⟩=>⟨I1.kIn,?_⟩) he hpl
  exact run_make M F hr hb hd hx I1 r q
end
section
variable {X:Cx} {CX:CXT} {k:Nat} {f C:Addr} {fd:FuncData} {ps ks:List Str} {sp:Sp} {E:XK} {x m:Str} {p pos apos kpos:Pos} {e o:Expr} {es:List Expr} {kws:List Keyword} {te ta:TE} {t tk:TA} {nm:Option Str}
variable {g:List Value→List Value→List Value} {gV:List V→List V→List V}
end
structure FnScope (N P:List Str) (sc:Scope):Prop where
  kind:sc.kind = .function
  co:sc.isCoroutine = false
  gen:sc.isGenerator = false
  nd:N.Nodup
  pre:N.take P.length = P
  par:∀ x ∈ P,sc.names.lookup x = some .local∨sc.names.lookup x = some .cell
  nofree:∀ y ∈ sc.names,y.2 ≠ .free
theorem bindL_out {kindOf:Str→Option NameKind} {x:Str}:∀ {binds:List (Str×Value)} {m:Str→Option Value},(∀ v,(x,v) ∉ binds)→bindL kindOf binds m x = m x
  | [],_,_=>rfl
  | (n,v) :: r,m,h=>by
    unfold bindL
    rw [bindL_out fun w hw=>h w (List.mem_cons_of_mem _ hw)]
    split
    · have:x ≠ n:=by rintro rfl; exact h v List.mem_cons_self
      simp [this]
    · rfl
theorem bindC_out {kindOf:Str→Option NameKind} {x:Str}:∀ {binds:List (Str×Value)} {m:Str→Option Value},(∀ v,(x,v) ∉ binds)→bindC kindOf binds m x = m x
  | [],_,_=>rfl
  | (n,v) :: r,m,h=>by
    unfold bindC
    rw [bindC_out fun w hw=>h w (List.mem_cons_of_mem _ hw)]
    split
    · rfl
    · have:x ≠ n:=by rintro rfl; exact h v List.mem_cons_self
      simp [this]
theorem bindL_get {kindOf:Str→Option NameKind} {x:Str} {v:Value}:∀ {P:List Str} {vs:List Value} {i:Nat} {m:Str→Option Value},P.Nodup→P[i]? = some x→vs[i]? = some v→kindOf x = some .local →
    bindL kindOf (P.zip vs) m x = some v
  | [],_,_,_,_,h,_,_=>by simp at h
  | _ :: _,[],_,_,_,_,h,_=>by simp at h
  | p :: P,w :: vs,0,m,nd,h1,h2,hk=>by
    simp at h1 h2; subst h1; subst h2
    show bindL kindOf ((p,w) :: P.zip vs) m p = _
    unfold bindL
    rw [bindL_out fun v hv=>(List.nodup_cons.mp nd).1 (List.of_mem_zip hv).1,if_pos hk]
    simp
  | p :: P,w :: vs,i + 1,m,nd,h1,h2,hk=>by
    show bindL kindOf ((p,w) :: P.zip vs) m x = _
    unfold bindL
    exact bindL_get (i:=i) (List.nodup_cons.mp nd).2 (by simpa using h1) (by simpa using h2) hk
theorem bindC_get {kindOf:Str→Option NameKind} {x:Str} {v:Value}:∀ {P:List Str} {vs:List Value} {i:Nat} {m:Str→Option Value},P.Nodup→P[i]? = some x→vs[i]? = some v→kindOf x ≠ some .local →
    bindC kindOf (P.zip vs) m x = some v
  | [],_,_,_,_,h,_,_=>by simp at h
  | _ :: _,[],_,_,_,_,h,_=>by simp at h
  | p :: P,w :: vs,0,m,nd,h1,h2,hk=>by
    simp at h1 h2; subst h1; subst h2
    show bindC kindOf ((p,w) :: P.zip vs) m p = _
    unfold bindC
    rw [bindC_out fun v hv=>(List.nodup_cons.mp nd).1 (List.of_mem_zip hv).1,if_neg hk]
    simp
  | p :: P,w :: vs,i + 1,m,nd,h1,h2,hk=>by
    show bindC kindOf ((p,w) :: P.zip vs) m x = _
    unfold bindC
    exact bindC_get (i:=i) (List.nodup_cons.mp nd).2 (by simpa using h1) (by simpa using h2) hk
def start (N:List Str) (vs:List V):St:=vs.map some ++ List.replicate (N.length - vs.length) none
def cxOf (CX:CXT) (P:Program) (w:World) (K:PySem.W.Frag) (mg:Str→Option Value) (base:Heap) (N:List Str) (qual:Str) (scope:Scope) (f:Addr) (cd:Value) (A:Around) (outer:List Env) (s:Shared) (H:Hp) (E:XK) (c:Bool:=true):Cx where
  prog:=P
  w:=w
  K:=K
  mg:=mg
  base:=base
  A:=A.deeper (envOfC qual scope s.heap.objs.size f cd)
  N:=N
  s₀:=s
  H₀:=H
  env:=envOfC qual scope s.heap.objs.size f cd
  outer:=outer
  stack:=envOfC qual scope s.heap.objs.size f cd :: outer
  ex:=[]
  calm:=c
  fn:=fun _=>true
  pn:=[]
  xe:=fun e s'=>wpAny (model P w) (A.deeper (envOfC qual scope s.heap.objs.size f cd)) (leaving (envOfC qual scope s.heap.objs.size f cd) e) (fun _ s''=>CX outer H s E e s'') (fun e' s''=>CX outer H s E e' s'') s'
theorem cell_has {sc:Scope} {n:Nat} {x:Str} (h:sc.names.lookup x = some .cell):∃ c,(cellsFrom n sc.names []).lookup x = some c:=by
  have q:=PySem.W.cellsFrom_some sc.names n [] (.inl h)
  exact Option.isSome_iff_exists.mp q
theorem inv_start {CX:CXT} {P:Program} {w:World} {K:PySem.W.Frag} {mg:Str→Option Value} {base:Heap} {N ps:List Str} {qual:Str} {scope:Scope} {f:Addr} {cd:Value} {A:Around} {outer:List Env} {s s1:Shared} {H:Hp} {E:XK} {us:List Value} {vs:List V} {c:Bool}
    (S:FnScope N ps scope) (hd:c = true→A.handled = none) (e0:Env0 P w K mg base A outer s H) (hl:vs.length = ps.length) (r:Vals vs us)
    (x:InCallC s s.heap.objs.size (bindL (envOfC qual scope s.heap.objs.size f cd).kindOf (ps.zip us) fun _=>none) (cellsFrom (s.heap.objs.size + 1) scope.names []) (bindC (envOfC qual scope s.heap.objs.size f cd).kindOf (ps.zip us) fun _=>none) s1) :
    Inv (cxOf CX P w K mg base N qual scope f cd A outer s H E c) [] (start N vs) H s1:=by
  have hpl:ps.length ≤ N.length:=by have:=congrArg List.length S.pre; rw [List.length_take] at this; lia
  obtain ⟨h1,tk,rfl,hk⟩:=x.done
  have noA:∀ b:Addr,b ∉ (cxOf CX P w K mg base N qual scope f cd A outer s H E c).ex:=fun b z=>absurd (show b ∈ ([]:List Addr) from z) (by simp)
  refine ⟨⟨e0.mod,S.kind,rfl,rfl,Nat.le_refl _,fun y z c' h1 h2=>?_,fun y hy=>?_,fun y c _ h=>?_,hd,Around.frames_deeper e0.frames,.inr ⟨rfl,rfl⟩,fun b z=>absurd z (noA b),e0.bs,e0.bsz,fun b _ _=>noA b,fun b z=>absurd z (noA b),e0.funs,e0.frf⟩,
    rfl,e0.bare,Un.kept hk,⟨_,x.toInCall.ns,fun i y v h1 h2 h3=>?_⟩,fun y c h=>⟨_,x.cell y c h⟩,e0.hok.fresh (Nat.le_refl _),fun y c h=>?_,fun p hp=>absurd (show p ∈ ([]:List (Addr×Obj)) from hp) (by simp),e0.hok.kept hk,?_⟩
  · exact name_of_addr x.apart (PySem.mem_of_lookup h1) (PySem.mem_of_lookup h2)
  · have hy:scope.names.lookup y = some .cell∨scope.names.lookup y = some .free:=hy
    rcases hy with hy | hy
    · exact cell_has hy
    · exact absurd rfl (S.nofree _ (PySem.mem_of_lookup hy))
  · exact Nat.le_of_lt (x.above y c (PySem.mem_of_lookup h))
  · have hi:i < vs.length:=by
      unfold start at h2
      by_cases hi:i < vs.length
      · exact hi
      · rw [List.getElem?_append_right (by simpa using hi)] at h2
        rw [List.getElem?_replicate] at h2
        split at h2 <;> cases h2
    have ha:vs[i]? = some v:=by
      unfold start at h2
      rw [List.getElem?_append_left (by simpa using hi),List.getElem?_map] at h2
      cases e:vs[i]? with
      | none=>rw [e] at h2; cases h2
      | some a=>rw [e] at h2; cases h2; rfl
    obtain ⟨u,hu,rv⟩:=r.get ha
    have hp:ps[i]? = some y:=by
      rw [← S.pre,List.getElem?_take_of_lt (by lia)]; exact h1
    have ndP:ps.Nodup:=by rw [← S.pre]; exact S.nd.sublist (List.take_sublist _ _)
    refine ⟨u,rv,?_⟩
    rcases S.par y (List.mem_of_getElem? hp) with k | k
    · exact .inl ⟨k,bindL_get ndP hp hu k⟩
    · obtain ⟨c,e⟩:=cell_has (n:=s.heap.objs.size + 1) k
      refine .inr ⟨.inl k,c,e,?_⟩
      have q:=x.cell y c e
      rw [bindC_get ndP hp hu (by show scope.names.lookup y ≠ _; rw [k]; decide)] at q
      exact q
  · exact e0.hok.fresh (Nat.le_of_lt (x.above y c (PySem.mem_of_lookup h)))
  · unfold start
    show _ = N.length
    rw [List.length_append,List.length_map,List.length_replicate]
    lia
theorem fn_of {CX:CXT} {P:Program} {w:World} {K:PySem.W.Frag} {mg:Str→Option Value} {base:Heap} {k:Nat} {f:Addr} {name qual:Str} {params:Arguments} {body:List Stmt} {scope:Scope} {dV kV doc pm cdv ct oc:Value} {an od:Option Addr}
    {osl:Array (Option Value)} {N ps:List Str} {sp:Sp} {c:Bool} (lk:K.lookup f = some ⟨oc,od,.func (PySem.W.fnOf name qual params body scope dV kV doc pm an cdv ct),osl⟩) (hcd:PySem.W.codeIn K cdv qual = true) (S:FnScope N ps scope)
    (len:∀ vs H Q E,sp vs H Q E→vs.length = ps.length)
    (hbody:∀ (A:Around) (outer:List Env) (s:Shared) (H:Hp) (vs:List V) (Q:VK) (E:XK),Room k (A.deeper (envOfC qual scope s.heap.objs.size f cdv)) c→sp vs H Q E →
      ∃ t,PSs (cxOf CX P w K mg base N qual scope f cdv A outer s H E c) body t∧t { nx:=fun _ H'=>Q .non H',rt:=Q } (start N vs) H) :
    FnOk P w K mg base CX (k + 1) f (PySem.W.fnOf name qual params body scope dV kV doc pm an cdv ct) ps sp c:=by
  refine ⟨len,fun A outer s H args us vs Q E hr e0 hb r hsp=>?_⟩
  have hl:=len _ _ _ _ hsp
  have KX:K.In s.heap:=e0.mod.kin.keeps fun b o e=>(e0.bs b o e).1
  have lim:s.heap.NoLimit:=e0.mod.nolimit.keeps fun b o e=>(e0.bs b o e).1
  have hkind:∀ y ∈ ps.zip us,scope.names.lookup y.1 = some .local∨(scope.names.lookup y.1 = some .cell∧((cellsFrom (s.heap.objs.size + 1) scope.names []).lookup y.1).isSome = true):=fun ⟨n,v⟩ hy=>by
    rcases S.par n (List.of_mem_zip hy).1 with q | q
    · exact .inl q
    · exact .inr ⟨q,PySem.W.cellsFrom_some _ _ _ (.inl q)⟩
  refine codeAny_call_function hr.depth (KX _ _ lk) rfl S.co S.gen rfl (PySem.W.codeRec_of KX hcd) (hb _ _ _ _ ?_)
  refine wpAny_newFunctionEnv_cells S.kind hkind fun env he s1 x=>?_
  subst he
  refine ⟨lim.keeps x.toInCall.keep,codeAny_func ?_⟩
  obtain ⟨t,ht,hq⟩:=hbody A outer s H vs Q E (hr.deeper _) hsp
  have I:Inv (cxOf CX P w K mg base N qual scope f cdv A outer s H E c) [] (start N vs) H s1:=inv_start S hr.hc e0 hl r x
  refine wpAny_mono (ht [] s1 (start N vs) H _ I hq) (fun fl s' hs=>?_) fun e s' hs=>hs
  have fin:∀ {σ':St} {H':Hp} {v:V} {u:Value},Inv (cxOf CX P w K mg base N qual scope f cdv A outer s H E c) [] σ' H' s'→RelV v u→Q v H'→CE outer P w H s Q u s' :=
    fun {σ' H' v u} J rv q=>⟨v,H',J.os,J.bare,J.base,J.hok,rv,q⟩
  cases fl with
  | ret u =>
    obtain ⟨v,σ',H',J,rv,q⟩:=hs
    exact fin J rv q
  | next =>
    obtain ⟨σ',H',J,q⟩:=hs
    exact fin (v:=V.non) (u:=Value.none) J rfl q
  | brk =>
    obtain ⟨_,_,_,q⟩:=hs
    exact False.elim q
  | cont =>
    obtain ⟨_,_,_,q⟩:=hs
    exact False.elim q
end L2
namespace L2
open PySem PySem.Spec PyProof.Rows
section
variable {X:Cx} {x:Str} {p pos:Pos} {e:Expr} {es:List Expr} {t:TA} {id T:String} {r:List V→Hp→VK→Prop}
def tCB (r:List V→Hp→VK→Prop) (t:TA):TE:=fun σ H Q=>t σ H fun vs H1=>r vs H1 Q
theorem pe_callB (hc:CallR X (.builtin id) r) (hg:Gl X x) (hm:X.mg x = none) (hv:bootBuiltins x = some (.builtin id)) (ha:PA X (e :: es) t) (hn:x ≠ "__name__":=by decide) (hdb:(x == ("__debug__":Str)) = false:=by decide)
    (he:starEach (e :: es) X.env = (false,eval e X.env) :: starEach es X.env:=by rfl) (hpl:(backTo pos (starEach es X.env)).any (·.1) = false:=by rfl):PE X (.Call (.Name x p) (e :: es) [] pos) (tCB r t):=by
  intro pins s σ H Q I h
  refine wpAny_Call_Name_kw (ld_blt I hg hm hv ?_ hn hdb)
  exact PyProof.Rows.callWith_builtin1 (thn (ha pos pins s σ H _ I h) fun us s1 ⟨vs,H1,I1,r1,q1⟩=>hc pins s1 σ H1 vs us Q I1 r1 q1) he hpl
theorem pe_callTy (hc:CallR X (.type T) r) (hg:Gl X x) (hm:X.mg x = none) (hv:bootBuiltins x = some (.type T)) (ha:PA X (e :: es) t) (hn:x ≠ "__name__":=by decide) (hdb:(x == ("__debug__":Str)) = false:=by decide)
    (he:starEach (e :: es) X.env = (false,eval e X.env) :: starEach es X.env:=by rfl) (hpl:(backTo pos (starEach es X.env)).any (·.1) = false:=by rfl):PE X (.Call (.Name x p) (e :: es) [] pos) (tCB r t):=by
  intro pins s σ H Q I h
  refine wpAny_Call_Name_kw (ld_blt I hg hm hv ?_ hn hdb)
  exact PyProof.Rows.callWith_type1 (thn (ha pos pins s σ H _ I h) fun us s1 ⟨vs,H1,I1,r1,q1⟩=>hc pins s1 σ H1 vs us Q I1 r1 q1) he hpl
end
end L2
namespace HT
open PySem PyProof.Rows
section
open PySem.SeqAt
open PySem.AutoSeq1 (wpAny_loadPart')
open PySem.MeetsSeq PySem.MeetsSeq2 PySem.MeetsSeq3
end
section
variable {prog:Program} {w:World} {A:Around} {E:Value→Shared→Prop} {s:Shared}
theorem cat_tup {t b:Addr} {vs ws:List Value} {Q:Value→Shared→Prop} (ht:IsTup s.heap t vs.toArray) (hb:IsTup s.heap b ws.toArray) (hv:vs ≠ [])
    (h1:ws = []→Q (.ref t) s) (h2:ws ≠ []→Q (.ref s.heap.objs.size) { s with heap:=s.heap.push { cls:=.type "tuple",data:=.seq (vs ++ ws).toArray } })
    (hsz:vs.length + ws.length ≤ sizeLine):wpAny (model prog w) A (binaryOp .Add (.ref t) (.ref b)) Q E s:=by
  obtain ⟨⟨cls,dd,data,sl⟩,ho,hc,n,hd⟩:=id ht
  obtain ⟨⟨cls2,dd2,data2,sl2⟩,ho2,hc2,n2,hd2⟩:=id hb
  simp only at hc hd hc2 hd2
  subst hc hd hc2 hd2
  have e:vs.toArray ++ ws.toArray = (vs ++ ws).toArray:=by simp
  by_cases hw:ws = []
  · exact concat_meets ⟨_,ho,rfl⟩ ⟨_,ho2,rfl⟩ noFill_tuple_add seq_tuple_add PySem.F.slot_tuple_add PySem.F.entry_tuple_add (PySem.F.args_tuple_add_2 _ _)
      (tuple_addW1 t b vs.toArray ws.toArray n n2 dd dd2 sl sl2 (by simpa using hv) (by simp [hw])) ⟨ho,ho2,h1 hw⟩
  · refine concat_meets ⟨_,ho,rfl⟩ ⟨_,ho2,rfl⟩ noFill_tuple_add seq_tuple_add PySem.F.slot_tuple_add PySem.F.entry_tuple_add (PySem.F.args_tuple_add_2 _ _)
      (tuple_addW2 t b vs.toArray ws.toArray n n2 dd dd2 sl sl2 (by simpa using hv) (by simpa using hw) (by rw [List.size_toArray,List.size_toArray]; exact hsz)) ⟨ho,ho2,?_⟩
    rw [e]
    exact h2 hw
def sIx (n d:Nat):Option Int→Nat
  | none=>d
  | some v=>if v < 0 then (v + (n:Int)).toNat else min v.toNat n
theorem sIx_none (n d:Nat):sIx n d none = d:=rfl
theorem sIx_nat (n d k:Nat):sIx n d (some (k:Int)) = min k n:=by
  show (if (k:Int) < 0 then ((k:Int) + (n:Int)).toNat else min (k:Int).toNat n) = min k n
  rw [if_neg (by lia),Int.toNat_natCast]
theorem sIx_le (n d:Nat) (hd:d ≤ n) (o:Option Int):sIx n d o ≤ n:=by
  cases o with
  | none=>exact hd
  | some v =>
    show (if v < 0 then (v + (n:Int)).toNat else min v.toNat n) ≤ n
    by_cases hv:v < 0
    · rw [if_pos hv]; lia
    · rw [if_neg hv]; exact Nat.min_le_right _ _
theorem clip_eq (v:Int) (n d:Nat):(if v < 0 then max (v + (n:Int)) 0 else min v (n:Int)) = ((sIx n d (some v):Nat):Int):=by
  show (if v < 0 then max (v + (n:Int)) 0 else min v (n:Int)) = (((if v < 0 then (v + (n:Int)).toNat else min v.toNat n):Nat):Int)
  by_cases hv:v < 0
  · simp only [if_pos hv]; lia
  · simp only [if_neg hv]; lia
theorem adjust_gen (lo hi:Option Int) (n:Nat):Builtin.Slice.sliceAdjust lo hi 1 (n:Int) = (((sIx n 0 lo:Nat):Int),((sIx n n hi:Nat):Int)):=by
  have h1:¬ ((1:Int) < 0):=by lia
  unfold Builtin.Slice.sliceAdjust
  simp only [h1,if_false]
  refine Prod.ext ?_ ?_
  · cases lo with
    | none=>rfl
    | some v=>exact clip_eq v n 0
  · cases hi with
    | none=>rfl
    | some v=>exact clip_eq v n n
theorem places_gen (i j:Nat):Builtin.Slice.slicePlaces (i:Int) (j:Int) 1 = j - i:=by
  unfold Builtin.Slice.slicePlaces
  have h1:(1:Int) > 0:=by lia
  simp only [h1,if_true,Int.ediv_one]
  split <;> lia
theorem slicePart_ {v:Value} {o:Option Int} {Q:Option Int→Shared→Prop} (p:IsPart v o) (h:Q o s):wpAny (model prog w) A (Builtin.Slice.slicePartIndex v) Q E s:=by
  cases p with
  | none=>exact slicePart_none h
  | int i t=>exact slicePart_int h
theorem sliceApplied_gen {sl:Addr} {vl vu:Value} {lo hi:Option Int} {n:Nat} {Q:Int×Int×Nat→Shared→Prop} (hs:s.heap.IsSliceOf sl vl vu .none) (pl:IsPart vl lo) (pu:IsPart vu hi)
    (h:Q (((sIx n 0 lo:Nat):Int),1,sIx n n hi - sIx n 0 lo) s):wpAny (model prog w) A (Builtin.Slice.sliceApplied (.ref sl) (pure (n:Int))) Q E s:=by
  obtain ⟨os,hos,hcs,hds⟩:=id hs
  unfold Builtin.Slice.sliceApplied Builtin.Slice.sliceFields
  refine wpAny_bind (wpAny_bind (wpAny_field hos hds (x:=vl) rfl (wpAny_bind (wpAny_field hos hds (x:=vu) rfl (wpAny_bind (wpAny_field hos hds (x:=.none) rfl (wpAny_pure ?_)))))))
  refine wpAny_bind (slicePart_none ?_)
  show wpAny _ _ (if ((1:Int) == 0) = true then _ else _) _ _ s
  rw [if_neg (by decide)]
  refine wpAny_bind (slicePart_ pl (wpAny_bind (slicePart_ pu (wpAny_bind (wpAny_pure ?_)))))
  show wpAny _ _ (match Builtin.Slice.sliceAdjust lo hi 1 (n:Int) with | (lo,hi)=>pure (lo,(1:Int),Builtin.Slice.slicePlaces lo hi 1)) _ _ s
  rw [adjust_gen lo hi n]
  show wpAny _ _ (pure (((sIx n 0 lo:Nat):Int),(1:Int),Builtin.Slice.slicePlaces ((sIx n 0 lo:Nat):Int) ((sIx n n hi:Nat):Int) 1)) _ _ s
  rw [places_gen]
  exact wpAny_pure h
theorem pick_gen (xs:Array Value) (i k:Nat):((List.range k).filterMap fun (m:Nat)=>xs[((i:Int) + (m:Int) * 1).toNat]?).toArray = ((xs.toList.drop i).take k).toArray:=by
  have e:(fun (m:Nat)=>xs[((i:Int) + (m:Int) * 1).toNat]?) = fun m=>xs[i + m]?:=by
    funext m
    have:((i:Int) + (m:Int) * 1).toNat = i + m:=by lia
    rw [this]
  rw [e]
  have:=pick_run xs i k
  rw [List.filterMap_map] at this
  have e2:((fun x=>xs[x]?) ∘ fun x=>i + x) = fun m=>xs[i + m]?:=rfl
  rw [e2] at this
  rw [this]
theorem getItem_tuple_cut {t sl:Addr} {items:Array Value} {vl vu:Value} {lo hi:Option Int} {Q:Value→Shared→Prop} (ht:IsTup s.heap t items) (hs:s.heap.IsSliceOf sl vl vu .none) (pl:IsPart vl lo) (pu:IsPart vu hi)
    (hw:¬ (sIx items.size 0 lo = 0∧sIx items.size items.size hi = items.size))
    (h:Q (.ref s.heap.objs.size) { s with heap:=s.heap.push { cls:=.type "tuple",data:=.seq ((items.toList.drop (sIx items.size 0 lo)).take (sIx items.size items.size hi - sIx items.size 0 lo)).toArray } })
    (hsz:items.size ≤ sizeLine):wpAny (model prog w) A (getItem (.ref t) (.ref sl)) Q E s:=by
  have htake:sizeOk (.seq ((items.toList.drop (sIx items.size 0 lo)).take (sIx items.size items.size hi - sIx items.size 0 lo)).toArray):=by
    show ((items.toList.drop (sIx items.size 0 lo)).take (sIx items.size items.size hi - sIx items.size 0 lo)).toArray.size ≤ sizeLine
    rw [List.size_toArray,List.length_take,List.length_drop,Array.length_toList]
    lia
  have hj:sIx items.size items.size hi ≤ items.size:=sIx_le _ _ (Nat.le_refl _) hi
  obtain ⟨os,hos,hcs,hds⟩:=id hs
  have hTs:s.TypeIs (.ref sl) "slice":=⟨os,hos,hcs⟩
  unfold getItem
  try with_reducible refine wpAny_holding ?_
  first | refine wpAny_bind (wpAny_pure ?_) | skip
  refine wpAny_bind (wpAny_sequenceKey ht.typeIs (by decide) ?_)
  refine wpAny_bind (wpAny_callSpecial?_slot (name:=Str.ofString "__getitem__") ht.typeIs PyProof.Rows.slot_tuple_getitem
    (wpAny_call_entry PyProof.Rows.slot_tuple_getitem ht.typeIs entry_tuple_getitem ?_ (args_tuple_getitem _ _)))
  show wpAny _ _ (Builtin.Tuple.tupleItemsOf (.ref t) >>= _) _ _ s
  refine wpAny_bind (tupleItemsOf_ ht ?_)
  refine wpAny_bind (wpAny_typeOf hTs ?_)
  rw [if_pos (by decide)]
  refine wpAny_bind (sliceApplied_gen hs pl pu ?_)
  have hno:¬ ((((sIx items.size 0 lo:Nat):Int) == 0 && (1:Int) == 1 && (sIx items.size items.size hi - sIx items.size 0 lo) == items.size) = true):=by
    intro q
    rw [Bool.and_eq_true,Bool.and_eq_true] at q
    have q1:((sIx items.size 0 lo:Nat):Int) = 0:=eq_of_beq q.1.1
    have q2:sIx items.size items.size hi - sIx items.size 0 lo = items.size:=eq_of_beq q.2
    exact hw ⟨by lia,by lia⟩
  show wpAny _ _ (if (((sIx items.size 0 lo:Nat):Int) == 0 && (1:Int) == 1 && (sIx items.size items.size hi - sIx items.size 0 lo) == items.size) = true then _ else _) _ _ s
  rw [if_neg hno,pick_gen]
  first
    | exact wpAny_bind (m:=Builtin.Tuple.tupleExact _) (wpAny_newObj_type (wpAny_pure ⟨_,rfl,wpAny_pure h⟩) htake)
    | exact wpAny_bind (m:=Builtin.Tuple.tupleExact _) (wpAny_newObj_type (wpAny_bind (wpAny_pure (wpAny_pure ⟨_,rfl,wpAny_pure h⟩))) htake)
    | exact wpAny_bind (wpAny_bind (m:=Builtin.Tuple.tupleExact _) (wpAny_newObj_type (wpAny_pure (wpAny_pure ⟨_,rfl,wpAny_pure h⟩)) htake))
    | exact wpAny_bind (wpAny_bind (m:=Builtin.Tuple.tupleExact _) (wpAny_newObj_type (wpAny_pure ⟨_,rfl,wpAny_pure h⟩) htake))
end
end HT
namespace L2
open PySem PySem.Spec PyProof.Rows
abbrev TO:=St→Hp→(Option Int→Hp→Prop)→Prop
def PO (X:Cx) (e:Option Expr) (t:TO):Prop :=
  ∀ (pins:List (Addr×Obj)) (s:Shared) (σ:St) (H:Hp) (Q:Option Int→Hp→Prop),Inv X pins σ H s→t σ H Q →
    wpAny (model X.prog X.w) X.A (evalPart e X.env) (fun u s'=>∃ o H',Inv X pins σ H' s'∧IsPart u o∧Q o H') X.xe s
def tNoPart:TO:=fun _ H Q=>Q none H
def tPart (t:TE):TO:=fun σ H Q=>t σ H fun x H1=>∃ i,x = .int i∧Q (some i) H1
section
variable {X:Cx} {e:Expr} {te:TE} {lo hi:Option Expr} {tl th:TO} {pos p2:Pos}
theorem po_none:PO X none tNoPart:=by
  intro pins s σ H Q I h
  rw [evalPart_none]
  exact wpAny_pure ⟨none,H,I,.none,h⟩
theorem po_some (h:PE X e te):PO X (some e) (tPart te):=by
  intro pins s σ H Q I hw
  rw [evalPart_some]
  refine thn (h pins s σ H _ I hw) fun u s1 ⟨x,H1,I1,r1,q1⟩=>?_
  obtain ⟨i,rfl,q⟩:=q1
  obtain ⟨t,rfl⟩:=r1
  exact ⟨some i,H1,I1,.int i t,q⟩
def SlR (X:Cx) (r:V→Option Int→Option Int→Hp→VK→Prop):Prop :=
  ∀ (pins:List (Addr×Obj)) (s:Shared) (σ:St) (H:Hp) (x:V) (v vl vu:Value) (lo hi:Option Int) (sl:Addr) (Q:VK),Inv X pins σ H s→RelV x v→s.heap.IsSliceOf sl vl vu .none→IsPart vl lo→IsPart vu hi→r x lo hi H Q →
    ∃ T id,typeLookup (.type T) "__getitem__" = pure (some (.builtin id))∧s.TypeIs v T∧wpAny (model X.prog X.w) X.A (getItem v (.ref sl)) (EP X pins σ Q) X.xe s
def tSl (r:V→Option Int→Option Int→Hp→VK→Prop) (te:TE) (tl th:TO):TE:=fun σ H Q=>te σ H fun x H1=>tl σ H1 fun l H2=>th σ H2 fun u H3=>r x l u H3 Q
theorem pe_slice {r:V→Option Int→Option Int→Hp→VK→Prop} (hr:SlR X r) (he:PE X e te) (hl:PO X lo tl) (hu:PO X hi th):PE X (.Subscript e (.Slice lo hi none p2) pos) (tSl r te tl th):=by
  intro pins s σ H Q I h
  refine Subscript_ (thn (he pins s σ H _ I h) fun v s1 ⟨x,H1,I1,r1,q1⟩=>?_)
  refine wpAny_Slice (thn (hl pins s1 σ H1 _ I1 q1) fun vl s2 ⟨l,H2,I2,pl,q2⟩=>thn (hu pins s2 σ H2 _ I2 q2) fun vu s3 ⟨u,H3,I3,pu,q3⟩=>?_)
  rw [evalPart_none]
  refine wpAny_pure ?_
  have I4:Inv X pins σ H3 { s3 with heap:=s3.heap.push { cls:=.type "slice",data:=.fields #[vl,vu,.none] } }:=I3.kept (t':=s3.toks) fun b ob q=>Heap.get?_push_of_some _ q
  obtain ⟨T,id,hT,ht,hg⟩:=hr pins { s3 with heap:=s3.heap.push { cls:=.type "slice",data:=.fields #[vl,vu,.none] } } σ H3 x v vl vu l u s3.heap.objs.size Q I4 r1 (Heap.IsSliceOf.new ..) pl pu q3
  show wpAny (model X.prog X.w) X.A (subscriptTail e (.Slice lo hi none p2) v (.ref s3.heap.objs.size)) (EP X pins σ Q) X.xe { s3 with heap:=s3.heap.push { cls:=.type "slice",data:=.fields #[vl,vu,.none] } }
  exact tail_any (ops:=[.ref s3.heap.objs.size,v]) ht hT hg (by with_unfolding_all rfl)
def cutV (xs:List V) (lo hi:Option Int):List V:=(xs.drop (HT.sIx xs.length 0 lo)).take (HT.sIx xs.length xs.length hi - HT.sIx xs.length 0 lo)
theorem cutV_length (xs:List V) (lo hi:Option Int):(cutV xs lo hi).length ≤ xs.length:=by
  unfold cutV
  rw [List.length_take,List.length_drop]
  lia
def rSlT (K:PySem.W.Frag):V→Option Int→Option Int→Hp→VK→Prop:=fun x lo hi H Q=>∃ a xs,x = .ref a∧SqT K H a xs ∧
  ¬ (HT.sIx xs.length 0 lo = 0∧HT.sIx xs.length xs.length hi = xs.length)∧∀ p,H p = none→Q (.ref p) (upd H p (.tup (cutV xs lo hi)))
theorem sl_tup:SlR X (rSlT X.K):=by
  intro pins s σ H x v vl vu lo hi sl Q I rx hs pl pu h
  obtain ⟨a,xs,rfl,hx,hw,q⟩:=h
  cases rx
  obtain ⟨its,r,ht,hz⟩:=I.tuple hx
  have hlen:its.toArray.size = xs.length:=by rw [List.size_toArray]; exact r.length.symm
  refine ⟨"tuple",_,PyProof.Rows.slot_tuple_getitem.lookup,ht.typeIs,?_⟩
  refine HT.getItem_tuple_cut ht hs pl pu (by rw [hlen]; exact hw) ?_ (by rw [hlen]; exact hz)
  rw [hlen]
  refine ⟨.ref s.heap.objs.size,_,I.laid (t':=s.toks) (o:=.tup (cutV xs lo hi)) (fun b ob q=>Heap.get?_push_of_some _ q) (Nat.le_refl _) ?_,rfl,q _ (I.hok.fresh (Nat.le_refl _))⟩
  exact ⟨Nat.le_trans (cutV_length xs lo hi) hz,_,(r.drop (HT.sIx xs.length 0 lo)).take (HT.sIx xs.length xs.length hi - HT.sIx xs.length 0 lo),IsTup.new _ _⟩
def rCatT (K:PySem.W.Frag):R2:=fun x y H Q=>∃ a b xs ys,x = .ref a∧y = .ref b∧SqT K H a xs∧SqT K H b ys∧xs ≠ []∧xs.length + ys.length ≤ sizeLine ∧
  (ys = []→Q (.ref a) H)∧(ys ≠ []→∀ p,H p = none→Q (.ref p) (upd H p (.tup (xs ++ ys))))
theorem Vals.nil_iff {xs:List V} {us:List Value} (r:Vals xs us):us = []↔xs = []:=by
  cases r with
  | nil=>simp
  | cons _ _=>simp
theorem op_catT:OpR X (binaryOp .Add) (rCatT X.K):=by
  intro pins s σ H x y v u Q I rx ry h
  obtain ⟨a,b,xs,ys,rfl,rfl,ha,hb,hx,hz,q1,q2⟩:=h
  cases rx
  cases ry
  obtain ⟨its,r1,p1,_⟩:=I.tuple ha
  obtain ⟨its2,r2,p2,_⟩:=I.tuple hb
  refine HT.cat_tup p1 p2 (fun z=>hx (r1.nil_iff.mp z)) (fun z=>⟨.ref a,H,I,rfl,q1 (r2.nil_iff.mp z)⟩) (fun z=>?_) (by rw [← r1.length,← r2.length]; exact hz)
  refine ⟨.ref s.heap.objs.size,_,I.laid (t':=s.toks) (o:=.tup (xs ++ ys)) (fun b ob q=>Heap.get?_push_of_some _ q) (Nat.le_refl _) ?_,rfl,q2 (fun w=>z (r2.nil_iff.mpr w)) _ (I.hok.fresh (Nat.le_refl _))⟩
  exact ⟨by rw [List.length_append]; exact hz,_,r1.append r2,IsTup.new _ _⟩
end
end L2
namespace L2
open PySem PySem.Spec PyProof.Rows
def ixN (n:Nat) (i:Int):Option Nat:=if 0 ≤ i then (if i < n then some i.toNat else none) else if -(n:Int) ≤ i then some (i + n).toNat else none
def atI {α:Type} (xs:List α) (i:Int):Option α:=(ixN xs.length i).bind fun j=>xs[j]?
theorem ixN_seq {n:Nat} {i:Int} {j:Nat} (h:ixN n i = some j):seqIndex? i n = some j∧j < n∧-(n:Int) ≤ i∧i < n:=by
  unfold ixN at h
  by_cases h0:0 ≤ i
  · rw [if_pos h0] at h
    by_cases h1:i < n
    · rw [if_pos h1] at h
      have e:i.toNat = j:=Option.some.inj h
      exact ⟨by rw [seqIndex_of h0 h1,e],by lia,by lia,h1⟩
    · rw [if_neg h1] at h; cases h
  · rw [if_neg h0] at h
    by_cases h1:-(n:Int) ≤ i
    · rw [if_pos h1] at h
      have e:(i + n).toNat = j:=Option.some.inj h
      exact ⟨by rw [seqIndex_neg (by lia) h1,e],by lia,h1,by lia⟩
    · rw [if_neg h1] at h; cases h
theorem atI_get {α:Type} {xs:List α} {i:Int} {v:α} (h:atI xs i = some v):∃ j,seqIndex? i xs.length = some j∧xs[j]? = some v∧j < xs.length∧-(xs.length:Int) ≤ i∧i < xs.length:=by
  unfold atI at h
  cases e:ixN xs.length i with
  | none=>rw [e] at h; cases h
  | some j =>
    rw [e] at h
    obtain ⟨h1,h2,h3,h4⟩:=ixN_seq e
    exact ⟨j,h1,h,h2,h3,h4⟩
theorem atI_nat {α:Type} {xs:List α} {j:Nat} {v:α} (h:xs[j]? = some v):atI xs (j:Int) = some v:=by
  have hj:j < xs.length:=(List.getElem?_eq_some_iff.mp h).1
  have e:ixN xs.length (j:Int) = some j:=by
    unfold ixN
    rw [if_pos (by lia),if_pos (by lia)]; simp
  unfold atI; rw [e]; exact h
theorem atI_last {α:Type} (xs:List α) (v:α):atI (xs ++ [v]) (-1) = some v:=by
  have hl:(xs ++ [v]).length = xs.length + 1:=by simp
  have e:ixN (xs ++ [v]).length (-1) = some xs.length:=by
    unfold ixN
    rw [hl,if_neg (by decide),if_pos (by lia)]
    congr 1
    lia
  unfold atI
  rw [e]
  show (xs ++ [v])[xs.length]? = some v
  simp
def PlainIx (b:Expr):Prop:=∀ o i,subscripted b false o i = operate [o,i] (getItem o i)
def IxR (X:Cx) (r:R2):Prop :=
  ∀ (value slice:Expr) (pins:List (Addr×Obj)) (s:Shared) (σ:St) (H:Hp) (x y:V) (v u:Value) (Q:VK),Inv X pins σ H s→RelV x v→RelV y u→r x y H Q →
    subscripted slice false v u = operate [v,u] (getItem v u)→wpAny (model X.prog X.w) X.A (subscriptTail value slice v u) (EP X pins σ Q) X.xe s
def MtR (X:Cx) (id:String) (r:V→List V→Hp→VK→Prop):Prop :=
  ∀ (pins:List (Addr×Obj)) (s:Shared) (σ:St) (H:Hp) (x:V) (xs:List V) (v:Value) (us:List Value) (Q:VK),Inv X pins σ H s→RelV x v→Vals xs us→r x xs H Q →
    wpAny (model X.prog X.w) X.A (call (.builtin id) (v :: us)) (EP X pins σ Q) X.xe s
section
variable {X:Cx} {a b:Expr} {ta tb:TE} {pos:Pos}
theorem pe_ix {r:R2} (hr:IxR X r) (ha:PE X a ta) (hb:PE X b tb) (hs:PlainIx b):PE X (.Subscript a b pos) (tOp r ta tb):=by
  intro pins s σ H Q I h
  exact Subscript_ (binT ha hb I h fun v u s2 x y H2 I2 rx ry q=>hr a b pins s2 σ H2 x y v u Q I2 rx ry q (hs _ _))
def rIxL (K:PySem.W.Frag):R2:=fun x y H Q=>∃ p xs i v,x = .ref p∧y = .int i∧SqL K H p xs∧atI xs i = some v∧Q v H
def rIxT (K:PySem.W.Frag):R2:=fun x y H Q=>∃ p xs i v,x = .ref p∧y = .int i∧SqT K H p xs∧atI xs i = some v∧Q v H
def rIxS:R2:=fun x y H Q=>∃ z i c,x = .str z∧y = .int i∧z.length ≤ sizeLine∧atI z.cps.toList i = some c∧Q (.str ⟨#[c]⟩) H
theorem ix_list:IxR X (rIxL X.K):=by
  intro value slice pins s σ H x y v u Q I rx ry h hs
  obtain ⟨p,xs,i,z,rfl,rfl,hq,he,q⟩:=h
  cases rx
  obtain ⟨t,rfl⟩:=ry
  obtain ⟨its,r,pl,hz⟩:=I.list hq
  obtain ⟨j,h1,h2,h3,h4,h5⟩:=atI_get he
  obtain ⟨w,ew,rw'⟩:=r.get h2
  have hl:=r.length
  have hn:=line63
  have fin:EP X pins σ Q w s:=⟨z,H,I,rw',q⟩
  by_cases h0:0 ≤ i
  · have hj:i.toNat = j:=by
      rw [seqIndex_of h0 h5] at h1
      exact Option.some.inj h1
    exact item_listR pl.isList h0 (by lia) (by rw [hj]; simpa using ew) fin hs
  · have hj:(i + (its.toArray.size:Int)).toNat = j:=by
      rw [seqIndex_neg (by lia) h4] at h1
      rw [List.size_toArray,← hl]
      exact Option.some.inj h1
    exact subscriptTail_builtinR (x:=w) pl.isList.typeIs slot_list_getitem.lookup
      (wpAny_getItem_list_neg (Q:=fun r s'=>r = w∧EP X pins σ Q r s') pl.isList (by lia) (by rw [List.size_toArray] <;> lia) (by lia) (by rw [hj]; simpa using ew) ⟨rfl,fin⟩) hs
theorem ix_tup:IxR X (rIxT X.K):=by
  intro value slice pins s σ H x y v u Q I rx ry h hs
  obtain ⟨p,xs,i,z,rfl,rfl,hq,he,q⟩:=h
  cases rx
  obtain ⟨t,rfl⟩:=ry
  obtain ⟨its,r,pl,hz⟩:=I.tuple hq
  obtain ⟨j,h1,h2,h3,h4,h5⟩:=atI_get he
  obtain ⟨w,ew,rw'⟩:=r.get h2
  have hl:=r.length
  have hn:=line63
  have fin:EP X pins σ Q w s:=⟨z,H,I,rw',q⟩
  exact subscriptTail_builtinR (x:=w) pl.typeIs slot_tuple_getitem.lookup
    (getItem_tuple (j:=j) (Q:=fun r s'=>r = w∧EP X pins σ Q r s') pl (by lia) (by lia) (by rw [List.size_toArray,← hl]; exact h1) (by simpa using ew) ⟨rfl,fin⟩) hs
theorem ix_str:IxR X rIxS:=by
  intro value slice pins s σ H x y v u Q I rx ry h hs
  obtain ⟨z,i,c,rfl,rfl,hz,he,q⟩:=h
  obtain ⟨t,rfl⟩:=rx
  obtain ⟨t',rfl⟩:=ry
  obtain ⟨j,h1,h2,h3,h4,h5⟩:=atI_get he
  have hl:z.cps.toList.length = z.length:=by simp [Str.length]
  rw [hl] at h1 h4 h5
  have hn:=line63
  exact tail_any (typeIs_str s z t) slot_str_getitem.lookup (getItem_str (c:=c) (by
    have e1:decide (i < -(2 ^ 63:Int)) = false:=decide_eq_false (by lia)
    have e2:decide (i ≥ 2 ^ 63) = false:=decide_eq_false (by lia)
    rw [e1,e2,Bool.or_false]) (by rw [h1]; simpa using h2) ⟨.str ⟨#[c]⟩,H,I.tok _,⟨_,rfl⟩,q⟩) hs
theorem mapSeq_set (its:List Value) (n j:Nat) (u:Value):Obj.mapSeq (·.setIfInBounds j u) { cls:=.type "list",data:=.seq its.toArray n } = { cls:=.type "list",data:=.seq (its.set j u).toArray n }:=by
  simp [Obj.mapSeq]
theorem Inv.lst {pins:List (Addr×Obj)} {σ:St} {H:Hp} {s:Shared} {p:Addr} {xs:List V} (I:Inv X pins σ H s) (h:H p = some (.lst xs)) :
    ∃ (its:List Value) (n:Nat),Vals xs its∧s.heap.get? p = some { cls:=.type "list",data:=.seq its.toArray n }∧xs.length ≤ sizeLine:=by
  obtain ⟨z,its,n,r,e⟩:=I.hok p _ h
  exact ⟨its,n,r,e,z⟩
theorem Inv.lstUpd {pins:List (Addr×Obj)} {σ:St} {H:Hp} {s:Shared} {p:Addr} {xs ys:List V} {its its':List Value} {n n':Nat} {f:Obj→Obj} (I:Inv X pins σ H s) (h:H p = some (.lst xs))
    (ho:s.heap.get? p = some { cls:=.type "list",data:=.seq its.toArray n }) (hf:f { cls:=.type "list",data:=.seq its.toArray n } = { cls:=.type "list",data:=.seq its'.toArray n' }) (r:Vals ys its') (hz:ys.length ≤ sizeLine) (t:Nat) :
    Inv X pins σ (upd H p (.lst ys)) { s with heap:=s.heap.update p f,toks:=t }:=by
  have e:(s.heap.update p f).get? p = some { cls:=.type "list",data:=.seq its'.toArray n' }:=by
    rw [Heap.get?_update_self f ho (by rw [hf] <;> rfl),hf]
  refine I.write (x:=p) (e:=p) (by rw [h]; trivial) (.inl rfl) (fun b u hb q=>(Heap.get?_update_other _ _ (Ne.symm hb)).trans q) ⟨_,e⟩ ?_
  exact ⟨hz,its',n',r,e⟩
def rSetL:V→V→V→Hp→(Hp→Prop)→Prop:=fun o i v H Q=>∃ p xs k j,o = .ref p∧i = .int k∧H p = some (.lst xs)∧ixN xs.length k = some j∧Q (upd H p (.lst (xs.set j v)))
theorem set_list:PSet X rSetL:=by
  intro pins s σ H o i v ov iv u Q I ro ri rv h
  obtain ⟨p,xs,k,j,rfl,rfl,hp,hj,q⟩:=h
  cases ro
  obtain ⟨t,rfl⟩:=ri
  obtain ⟨its,n,r,ho,hz⟩:=I.lst hp
  obtain ⟨h1,h2,h3,h4⟩:=ixN_seq hj
  have hl:=r.length
  have hn:=line63
  have I':Inv X pins σ (upd H p (.lst (xs.set j v))) { s with heap:=s.heap.update p (Obj.mapSeq (·.setIfInBounds j u)) } :=
    I.lstUpd hp ho (mapSeq_set its n j u) (r.set rv j) (by rw [List.length_set]; exact hz) s.toks
  by_cases h0:0 ≤ k
  · have hk:k.toNat = j:=by
      rw [seqIndex_of h0 h4] at h1
      exact Option.some.inj h1
    exact PySem.W.ki_setAt ho h0 (by lia) (by rw [List.size_toArray,← hl]; exact h4) (by rw [hk]; exact ⟨_,I',q⟩)
  · have hk:(k + (its.toArray.size:Int)).toNat = j:=by
      rw [seqIndex_neg (by lia) h3] at h1
      rw [List.size_toArray,← hl]
      exact Option.some.inj h1
    exact PySem.W.ki_setBack ho (by lia) (by rw [List.size_toArray,← hl]; exact h3) (by lia) (by rw [hk]; exact ⟨_,I',q⟩)
theorem slice_bounds (lo hi:Option Int) (n:Nat):(sliceBounds lo hi none n).1 = ((HT.sIx n 0 lo:Nat):Int)∧(sliceBounds lo hi none n).2.1 = ((HT.sIx n n hi:Nat):Int)∧(sliceBounds lo hi none n).2.2 = 1:=by
  refine ⟨?_,?_,rfl⟩
  · cases lo with
    | none=>simp [sliceBounds,HT.sIx]
    | some i =>
      simp only [sliceBounds,HT.sIx,Option.getD_none,show (1:Int) > 0 by decide,if_true]
      by_cases h:i < 0
      · simp only [h,if_true] <;> lia
      · simp only [h,if_false] <;> lia
  · cases hi with
    | none=>simp [sliceBounds,HT.sIx]
    | some i =>
      simp only [sliceBounds,HT.sIx,Option.getD_none,show (1:Int) > 0 by decide,if_true]
      by_cases h:i < 0
      · simp only [h,if_true] <;> lia
      · simp only [h,if_false] <;> lia
theorem slicePick_cut (its:List Value) (lo hi:Option Int):slicePick its.toArray lo hi none = ((its.drop (HT.sIx its.length 0 lo)).take (HT.sIx its.length its.length hi - HT.sIx its.length 0 lo)).toArray:=by
  obtain ⟨h1,h2,h3⟩:=slice_bounds lo hi its.toArray.size
  unfold slicePick
  rw [h1,h2,h3]
  simp only [sliceRange_one,pick_run,List.size_toArray] <;> rfl
def rSlL (K:PySem.W.Frag):V→Option Int→Option Int→Hp→VK→Prop:=fun x lo hi H Q=>∃ a xs,x = .ref a∧SqL K H a xs∧∀ p,H p = none→Q (.ref p) (upd H p (.lst (cutV xs lo hi)))
theorem sl_list:SlR X (rSlL X.K):=by
  intro pins s σ H x v vl vu lo hi sl Q I rx hs pl pu h
  obtain ⟨a,xs,rfl,hx,q⟩:=h
  cases rx
  obtain ⟨its,r,ht,hz⟩:=I.list hx
  have hlen:=r.length
  refine ⟨"list",_,slot_list_getitem.lookup,ht.isList.typeIs,?_⟩
  refine wpAny_getItem_list_slice ht.isList hs pl pu .none (by simp) ?_ (by rw [List.size_toArray] <;> lia)
  rw [slicePick_cut,← hlen]
  refine ⟨.ref s.heap.objs.size,_,I.laid (t':=s.toks) (o:=.lst (cutV xs lo hi)) (fun b ob q=>Heap.get?_push_of_some _ q) (Nat.le_refl _) ?_,rfl,q _ (I.hok.fresh (Nat.le_refl _))⟩
  exact ⟨Nat.le_trans (cutV_length xs lo hi) hz,_,0,(r.drop (HT.sIx xs.length 0 lo)).take (HT.sIx xs.length xs.length hi - HT.sIx xs.length 0 lo),Heap.get?_push_size _ rfl⟩
def flatV:V→Bool
  | .non=>true
  | .bl _=>true
  | .int _=>true
  | .str _=>true
  | _=>false
def eqV:V→V→Bool
  | .non,.non=>true
  | .bl a,.bl b=>a == b
  | .bl a,.int b=>(if a then 1 else 0) == b
  | .int a,.bl b=>a == (if b then 1 else 0)
  | .int a,.int b=>a == b
  | .str a,.str b=>a == b
  | _,_=>false
theorem eqAt_V {A:Around} {s:Shared} {y x:V} {u v:Value} (ry:RelV y u) (rx:RelV x v) (fy:flatV y = true) (fx:flatV x = true):SeqAt.EqAt A s u v (eqV y x):=by
  cases y with
  | non =>
    cases ry
    cases x with
    | non=>cases rx; exact SeqAt.EqAt.same _
    | bl b=>cases rx; exact SeqAt.EqAt.none_bool b
    | int b=>obtain ⟨t,rfl⟩:=rx; exact SeqAt.EqAt.none_int b t
    | str b=>obtain ⟨t,rfl⟩:=rx; exact SeqAt.EqAt.none_str b t
    | _=>exact absurd (show false = true from fx) Bool.false_ne_true
  | bl a =>
    cases ry
    cases x with
    | non=>cases rx; exact SeqAt.EqAt.bool_none a
    | bl b=>cases rx; exact SeqAt.EqAt.bool_bool a b
    | int b=>obtain ⟨t,rfl⟩:=rx; exact SeqAt.EqAt.bool_int a b t
    | str b=>obtain ⟨t,rfl⟩:=rx; exact SeqAt.EqAt.bool_str a b t
    | _=>exact absurd (show false = true from fx) Bool.false_ne_true
  | int a =>
    obtain ⟨t',rfl⟩:=ry
    cases x with
    | non=>cases rx; exact SeqAt.EqAt.int_none a t'
    | bl b=>cases rx; exact SeqAt.EqAt.int_bool a t' b
    | int b=>obtain ⟨t,rfl⟩:=rx; exact SeqAt.EqAt.int_int a t' b t
    | str b=>obtain ⟨t,rfl⟩:=rx; exact SeqAt.EqAt.int_str a t' b t
    | _=>exact absurd (show false = true from fx) Bool.false_ne_true
  | str a =>
    obtain ⟨t',rfl⟩:=ry
    cases x with
    | non=>cases rx; exact SeqAt.EqAt.str_none a t'
    | bl b=>cases rx; exact SeqAt.EqAt.str_bool a t' b
    | int b=>obtain ⟨t,rfl⟩:=rx; exact SeqAt.EqAt.str_int a t' b t
    | str b=>obtain ⟨t,rfl⟩:=rx; exact SeqAt.EqAt.str_str a t' b t
    | _=>exact absurd (show false = true from fx) Bool.false_ne_true
  | _=>exact absurd (show false = true from fy) Bool.false_ne_true
theorem call_len_seq:CallR X (.builtin "len") (fun xs H Q=>∃ p ys,xs = [.ref p]∧(SqL X.K H p ys∨SqT X.K H p ys)∧Q (.int ys.length) H):=by
  intro pins s σ H xs us Q I r h
  obtain ⟨p,ys,rfl,hq,q⟩:=h
  obtain ⟨u,rfl,rx⟩:=vals1 r
  cases rx
  have hn:=line63
  rcases hq with hq | hq
  · obtain ⟨its,r',pl,hz⟩:=I.list hq
    have hlen:=r'.length
    exact Calls.call_len_list pl.isList (by simp only [List.size_toArray] <;> lia) ⟨.int ys.length,H,I.tok _,⟨s.toks + 1,by rw [List.size_toArray,hlen]⟩,q⟩
  · obtain ⟨its,r',pl,hz⟩:=I.tuple hq
    have hlen:=r'.length
    exact len_tuple pl (by simp only [List.size_toArray] <;> lia) ⟨.int ys.length,H,I.tok _,⟨s.toks + 1,by rw [List.size_toArray,hlen]⟩,q⟩
theorem call_len_str:CallR X (.builtin "len") (fun xs H Q=>∃ z,xs = [.str z]∧z.length ≤ sizeLine∧Q (.int z.length) H):=by
  intro pins s σ H xs us Q I r h
  obtain ⟨z,rfl,hz,q⟩:=h
  obtain ⟨u,rfl,t,rfl⟩:=vals1 r
  have hn:=line63
  exact len_str (by lia) ⟨.int z.length,H,I.tok _,⟨_,rfl⟩,q⟩
theorem call_tuple_of:CallR X (.type "tuple") (fun xs H Q=>∃ p ys,xs = [.ref p]∧((SqL X.K H p ys∧∀ l,H l = none→Q (.ref l) (upd H l (.tup ys)))∨(SqT X.K H p ys∧Q (.ref p) H))):=by
  intro pins s σ H xs us Q I r h
  obtain ⟨p,ys,rfl,h⟩:=h
  obtain ⟨u,rfl,rx⟩:=vals1 r
  cases rx
  rcases h with ⟨hq,q⟩ | ⟨hq,q⟩
  · obtain ⟨its,r',pl,hz⟩:=I.list hq
    have hlen:=r'.length
    refine call_tuple_list pl.isList (fun h' kp=>?_) (by simp only [List.size_toArray] <;> lia)
    have I1:Inv X pins σ H { s with heap:=h' }:=I.kept (t':=s.toks) kp
    have I2:Inv X pins σ (upd H h'.objs.size (.tup ys)) { s with heap:=h'.push { cls:=.type "tuple",data:=.seq its.toArray } } :=
      I1.laid (t':=s.toks) (fun b o e=>Heap.get?_push_of_some _ e) (Nat.le_refl _) (show ObjOk X.prog X.w _ _ _ (.tup ys) from ⟨hz,its,r',IsTup.new _ _⟩)
    exact ⟨.ref h'.objs.size,_,I2,rfl,q _ (I1.hok.fresh (Nat.le_refl _))⟩
  · obtain ⟨its,r',pl,hz⟩:=I.tuple hq
    exact call_tuple_same pl ⟨.ref p,H,I,rfl,q⟩
def tyV (K:PySem.W.Frag) (T:String) (x:V) (H:Hp):Prop:=match x with
  | .str _=>T = "str"
  | .int _=>T = "int"
  | .ref p=>(T = "list"∧∃ xs,SqL K H p xs)∨(T = "tuple"∧∃ o,K.lookup p = some o∧o.cls = .type "tuple"∧o.dict = none) ∨
      (T = "dict"∧((∃ kvs,H p = some (.dK kvs))∨∃ kvs,H p = some (.dT kvs)))∨(T = "set"∧∃ S n,H p = some (.set S n))
  | _=>False
theorem tyV_is {pins:List (Addr×Obj)} {σ:St} {H:Hp} {s:Shared} {T:String} {x:V} {v:Value} (I:Inv X pins σ H s) (r:RelV x v) (ty:tyV X.K T x H) :
    s.TypeIs v T∧∀ a,v = .ref a→∃ ob,s.heap.get? a = some ob∧ob.dict = none:=by
  cases x with
  | str z =>
    obtain ⟨t,rfl⟩:=r
    cases (show T = "str" from ty)
    exact ⟨typeIs_str s z t,fun _ e=>nomatch e⟩
  | int i =>
    obtain ⟨t,rfl⟩:=r
    cases (show T = "int" from ty)
    exact ⟨typeIs_int s i t,fun _ e=>nomatch e⟩
  | ref p =>
    cases r
    rcases ty with ⟨rfl,xs,hq⟩ | ⟨rfl,o,hk,hc,hd⟩ | ⟨rfl,hk⟩ | ⟨rfl,S,n,hk⟩
    · obtain ⟨its,_,pl,_⟩:=I.list hq
      refine ⟨pl.isList.typeIs,fun a e=>?_⟩
      cases e
      obtain ⟨o,n,e,c,hd,_⟩:=pl
      exact ⟨o,e,hd⟩
    · refine ⟨⟨o,I.kIn p o hk,hc⟩,fun a e=>?_⟩
      cases e
      exact ⟨o,I.kIn _ o hk,hd⟩
    · have z:∃ o,s.heap.get? p = some o∧o.ExactDict:=by
        rcases hk with ⟨kvs,hk⟩ | ⟨kvs,hk⟩
        · obtain ⟨_,_,_,_,o,_,_,e,ex,_⟩:=I.hok p _ hk
          exact ⟨o,e,ex⟩
        · obtain ⟨_,_,_,_,o,_,_,e,ex,_⟩:=I.hok p _ hk
          exact ⟨o,e,ex⟩
      obtain ⟨o,e,ex⟩:=z
      refine ⟨⟨o,e,ex.1⟩,fun a e2=>?_⟩
      cases e2
      exact ⟨o,e,ex.2.1⟩
    · obtain ⟨o,_,_,_,e,ex,_⟩:=I.hok p _ hk
      refine ⟨⟨o,e,ex.1⟩,fun a e2=>?_⟩
      cases e2
      exact ⟨o,e,ex.2.1⟩
  | _=>exact False.elim ty
def tBM (K:PySem.W.Frag) (T:String) (r:V→List V→Hp→VK→Prop) (to:TE) (t:TA):TE:=fun σ H Q=>to σ H fun x H1=>tyV K T x H1∧t σ H1 fun xs H2=>r x xs H2 Q
variable {o e:Expr} {es:List Expr} {to:TE} {t:TA} {name:Str} {apos cpos:Pos} {T id:String} {r:V→List V→Hp→VK→Prop}
theorem pe_bm (pa:PlainAttrs T) (slot:Slot T name id) (hty:typeOf (.builtin id) = pure (.type "method_descriptor")) (hm:MtR X id r) (ho:PE X o to) (ha:PA X (e :: es) t)
    (hbase:attributeBase o name X.env (eval o X.env) = eval o X.env:=by rfl)
    (hfew:((backTo cpos (starEach (e :: es) X.env)).all (fun x=>!x.1) && (backToKw cpos (keywordEach [] X.env)).all (fun x=>x.1.isSome)
      && decide ((e :: es).length + ([]:List Keyword).length + (if ([]:List Keyword).isEmpty then 0 else 1) < 30)) = true:=by rfl)
    (hline:(apos.endLine == cpos.line) = true:=by rfl) (hs:starEach (e :: es) X.env = (false,eval e X.env) :: starEach es X.env:=by rfl) (hplain:(backTo cpos (starEach es X.env)).any (·.1) = false:=by rfl) :
    PE X (.Call (.Attribute o name apos) (e :: es) [] cpos) (tBM X.K T r to t):=by
  intro pins s σ H Q I h
  refine wpAny_Call_method_late hbase hfew hline rfl (thn (ho pins s σ H _ I h) fun v s1 ⟨x,H1,I1,r1,ty,q1⟩=>?_)
  obtain ⟨h1,h2⟩:=tyV_is I1 r1 ty
  refine ⟨T,id,pa,slot,hty,h1,h2,?_⟩
  have hA:=ha cpos pins s1 σ H1 _ I1 q1
  rw [hs] at hA ⊢
  refine Calls.callWith_builtin (by show (false || (backTo cpos (starEach es X.env)).any (·.1)) = false; rw [hplain] <;> rfl) (Calls.evalArgs_plain ?_)
  exact thn hA fun us s2 ⟨vs,H2,I2,r2,q2⟩=>hm pins s2 σ H2 x vs v us Q I2 r1 r2 q2
end
end L2
namespace L2
open PySem PySem.Spec PyProof.Rows
def MtM (X:Cx) (id:String) (r:V→List V→Hp→VK→Prop):Prop :=
  ∀ (pins:List (Addr×Obj)) (s:Shared) (σ:St) (H:Hp) (x:V) (xs:List V) (v:Value) (us:List Value) (Q:VK),Inv X pins σ H s→RelV x v→Vals xs us→r x xs H Q →
    wpAny (model X.prog X.w) X.A (call (.builtin id) (v :: us)) (EP X pins σ Q) X.xe s
theorem Vals.one:∀ {x:V} {us:List Value},Vals [x] us→∃ u,us = [u]∧RelV x u
  | _,_,.cons r .nil=>⟨_,rfl,r⟩
theorem Vals.two:∀ {x y:V} {us:List Value},Vals [x,y] us→∃ u v,us = [u,v]∧RelV x u∧RelV y v
  | _,_,_,.cons r (.cons q .nil)=>⟨_,_,rfl,r,q⟩
section
variable {X:Cx} {pins:List (Addr×Obj)} {σ:St} {H:Hp} {s:Shared} {l b:Addr} {xs ys zs:List V}
theorem Inv.lset {its its':List Value} {n:Nat} {f:Array Value→Array Value} {t':Nat} (I:Inv X pins σ H s) (hH:H l = some (.lst xs))
    (e:s.heap.get? l = some { cls:=.type "list",data:=.seq its.toArray n }) (hf:f its.toArray = its'.toArray) (hv:Vals ys its') (hz:ys.length ≤ sizeLine) :
    Inv X pins σ (upd H l (.lst ys)) { s with heap:=s.heap.update l (Obj.mapSeq f),toks:=t' }:=by
  have q:=PySem.IsL.update e f
  rw [hf] at q
  refine I.write (x:=l) (e:=l) (by rw [hH]; exact trivial) (.inl rfl) (fun b' u hb hu=>(Heap.get?_update_other s.heap (Obj.mapSeq f) (Ne.symm hb)).trans hu) ⟨_,q⟩ ?_
  exact ⟨hz,its',_,hv,q⟩
theorem Inv.lnew {its:List Value} {t':Nat} (I:Inv X pins σ H s) (hv:Vals ys its) (hz:ys.length ≤ sizeLine) :
    Inv X pins σ (upd H s.heap.objs.size (.lst ys)) { s with heap:=s.heap.push { cls:=.type "list",data:=.seq its.toArray },toks:=t' } :=
  I.laid (fun _ _ q=>Heap.get?_push_of_some _ q) (Nat.le_refl _) ⟨hz,its,0,hv,Heap.get?_push_size _ rfl⟩
theorem Inv.fresh (I:Inv X pins σ H s):H s.heap.objs.size = none:=I.hok.fresh (Nat.le_refl _)
theorem Inv.lstM (I:Inv X pins σ H s) (hH:H l = some (.lst xs)):xs.length ≤ sizeLine∧∃ (its:List Value) (n:Nat),Vals xs its∧xs.length = its.length∧s.heap.get? l = some { cls:=.type "list",data:=.seq its.toArray n }:=by
  obtain ⟨z,its,n,r,e⟩:=I.hok l _ hH
  exact ⟨z,its,n,r,r.length,e⟩
theorem notLongL {n:Nat} (h:n ≤ sizeLine):Builtin.List.listTooLong n = false:=by
  unfold Builtin.List.listTooLong
  exact decide_eq_false (by lia)
end
section
variable {X:Cx}
def rAppend:V→List V→Hp→VK→Prop:=fun x vs H Q=>∃ l xs y,x = .ref l∧vs = [y]∧H l = some (.lst xs)∧xs.length < sizeLine∧Q .non (upd H l (.lst (xs ++ [y])))
theorem mt_append:MtM X "list.append" rAppend:=by
  intro pins s σ H x vs v us Q I rx rv h
  obtain ⟨l,xs,y,rfl,rfl,hH,hz,q⟩:=h
  cases rx
  obtain ⟨u,rfl,ru⟩:=rv.one
  obtain ⟨z,its,n,r,hl,e⟩:=I.lstM hH
  refine call_meets F.slot_list_append ⟨_,e,rfl⟩ F.entry_list_append (F.args_list_append_2 _ _) (PySem.list_append l its.toArray n u (by rw [List.size_toArray]; lia)) ⟨e,?_⟩
  refine ⟨.non,_,I.lset (its':=its ++ [u]) hH e (by simp) (r.append (.cons ru .nil)) ?_,rfl,q⟩
  rw [List.length_append,List.length_singleton]
  lia
def rExtend:V→List V→Hp→VK→Prop:=fun x vs H Q=>∃ l b xs zs,x = .ref l∧vs = [.ref b]∧H l = some (.lst xs)∧H b = some (.lst zs)∧xs.length + zs.length ≤ sizeLine∧Q .non (upd H l (.lst (xs ++ zs)))
theorem mt_extend:MtM X "list.extend" rExtend:=by
  intro pins s σ H x vs v us Q I rx rv h
  obtain ⟨l,b,xs,zs,rfl,rfl,hH,hB,hz,q⟩:=h
  cases rx
  obtain ⟨u,rfl,ru⟩:=rv.one
  cases ru
  obtain ⟨z,its,n,r,hl,e⟩:=I.lstM hH
  obtain ⟨z2,its2,n2,r2,hl2,e2⟩:=I.lstM hB
  have hsz:its.toArray.size + its2.toArray.size ≤ sizeLine:=by rw [List.size_toArray,List.size_toArray]; lia
  have hlong:¬ (!its.toArray.isEmpty && Builtin.List.listTooLong (its.toArray.size + its2.toArray.size)) = true:=by
    rw [notLongL hsz,Bool.and_false]
    exact Bool.false_ne_true
  refine call_meets F.slot_list_extend ⟨_,e,rfl⟩ F.entry_list_extend (F.args_list_extend_2 _ _)
    (AutoSeq1.list_extend_list_list_0 l its.toArray n b its2.toArray n2 hlong (by rw [List.size_toArray]; lia) (by lia)) ⟨e,e2,?_⟩
  refine ⟨.non,_,I.lset (its':=its ++ its2) hH e (by simp) (r.append r2) ?_,rfl,q⟩
  rw [List.length_append]
  lia
def rCat:R2:=fun x y H Q=>∃ l b xs zs,x = .ref l∧y = .ref b∧H l = some (.lst xs)∧H b = some (.lst zs)∧xs.length + zs.length ≤ sizeLine∧∀ p,H p = none→Q (.ref p) (upd H p (.lst (xs ++ zs)))
theorem op_cat:OpR X (binaryOp .Add) rCat:=by
  intro pins s σ H x y v u Q I rx ry h
  obtain ⟨l,b,xs,zs,rfl,rfl,hH,hB,hz,q⟩:=h
  cases rx
  cases ry
  obtain ⟨z,its,n,r,hl,e⟩:=I.lstM hH
  obtain ⟨z2,its2,n2,r2,hl2,e2⟩:=I.lstM hB
  refine PySem.P.add_list e e2 ?_ (by rw [List.size_toArray,List.size_toArray]; lia)
  have ea:its.toArray ++ its2.toArray = (its ++ its2).toArray:=by simp
  rw [ea]
  exact ⟨.ref _,_,I.lnew (t':=s.toks) (r.append r2) (by rw [List.length_append]; lia),rfl,q _ I.fresh⟩
end
section
variable {prog:Program} {w:World} {A:Around} {E:Value→Shared→Prop} {s:Shared}
end
section
variable {X:Cx}
end
end L2
namespace Att
open PySem PySem.W PySem.Calls PyProof.Rows
theorem ints_of_wellAll {P:Params} {h:Heap}:∀ (ns:List Int) (vs:List Value),WellAll P h vs (ns.map WData.int)→IntsAre vs ns:=by
  intro ns
  induction ns with
  | nil =>
    intro vs w
    rw [List.map_nil] at w
    cases w
    exact .nil
  | cons n ns ih =>
    intro vs w
    rw [List.map_cons] at w
    cases w with
    | cons a b =>
      cases a
      exact .cons _ _ (ih _ b)
theorem script_of {l:OpenLaw} {n:Nat} (hn:l.most = some n) {P:Params} {h:Heap} {args:List WData} {vals:List Value}
    (hpre:l.row.toRowW.claim.pre args = true) (hwl:WellAll P h vals args) :
    ∃ a vs ns,vals = [Value.ref a]∧args = [WData.list (ns.map WData.int)]∧h.get? a = some { cls:=.type "list",data:=.seq vs.toArray }∧IntsAre vs ns∧ns.length ≤ n:=by
  have hsh:WShape.hasAll [] args [.list .int] = true:=(pre_splitW hpre).1
  have hc:l.pre.holds [] { args:=args } = true:=(pre_splitW hpre).2
  obtain ⟨d,r,rfl,h1,h2⟩:=hasAllW_cons hsh
  obtain rfl:=hasAllW_nil h2
  obtain ⟨xs,rfl,h3⟩:=hasW_list h1
  obtain ⟨ns,rfl⟩:=items_int h3
  have hlen:ns.length ≤ n:=by
    unfold OpenLaw.pre at hc
    have h4:(WTm.not (.lt (.lit (.int (n:Int))) (.len (.arg 0)))).holds [] { args:=[.list (ns.map .int)] } = true:=by
      have h4:=(holds_andW hc).1
      rw [hn] at h4
      exact h4
    have h5:=condW_of h4 (w_not (w_lt w_lit (w_len_list (w_arg rfl))))
    rw [List.length_map] at h5
    refine Nat.le_of_not_lt fun q=>?_
    have q':(n:Int) < ((ns.length:Nat):Int):=by lia
    first
      | (rw [decide_eq_true q'] at h5; exact absurd h5 (by decide))
      | (simp at h5; lia)
  cases hwl with
  | cons w1 w2 =>
    cases w2
    cases w1 with
    | list ho hall=>exact ⟨_,_,ns,rfl,rfl,ho,ints_of_wellAll ns _ hall,hlen⟩
theorem post_true (l:OpenLaw) (args:List WData):l.row.toRowW.claim.post args (.bool true) args = true :=
  postW_of (r:=l.row.toRowW) (X:=(true == true))
    (show WShape.has [] (.bool true) .bool = true by first | rfl | decide | simp [WShape.has,WShape.arms,WShape.armsAll])
    (show (WTm.eq .res (.lit (.bool true))).value [] { args:=args,res:=some (.bool true),after:=args } = some (.bool (true == true)) from w_eq_bool (w_res rfl) w_lit) rfl
theorem attach_call {l:OpenLaw} {n:Nat} {q:Program} {loose:List Str} {XP:(Str→Option Value)→Heap→Prop} {YP:World→Heap→Prop} {d:DefRec}
    (hn:l.most = some n) (hdf:d.params.defaults = [])
    (call:∀ (w:World) (s₀ s₁:Shared) (mg mb:Str→Option Value) (fa:Addr) (o:Obj) (pm cd doc:Value) (a:Addr) (vs:List Value) (ns:List Int),
      Ground q loose [] XP w s₀ mg mb s₁.heap→YP w s₁.heap →
      s₁.heap.get? fa = some o→o.data = .func (docDef d.name d.params d.body d.scope pm cd doc)→s₁.heap.CodeRec cd d.name→mg d.name = some (.ref fa) →
      s₁.heap.get? a = some { cls:=.type "list",data:=.seq vs.toArray }→IntsAre vs ns→ns.length ≤ n→s₁.gens = #[] →
      codeAny (model l.prog w) callerA (.call (.ref fa) ⟨[.ref a],[]⟩) (fun r s'=>r = .ok (.ret (.bool true))∧OldK s₁.heap s'.heap∧s'.os = s₁.os∧AllBare s'.gens) s₁) :
    WalkO q loose XP YP l.row.toRowW d [] (fun f vs=>PySem.call f vs):=by
  intro w s₀ s₁ mg mb G Y fa o pm cd doc dV kV ho hd hcd hD hmg hg args vals as hpre hlay hrd hwl hlo
  obtain rfl:dV = .none:=Dflts.none hD hdf
  obtain rfl:kV = .none:=Dflts.noKw hD
  obtain ⟨a,vs,ns,rfl,rfl,hobj,hints,hlen⟩:=script_of hn hpre hwl
  refine enter_call (codeAny_mono (call w s₀ s₁ mg mb fa o pm cd doc a vs ns G Y ho (fd_plain hd) hcd hmg hobj hints hlen hg) fun r s' hq=>?_)
  obtain ⟨rfl,h2,h3,h4⟩:=hq
  exact ⟨.inl ⟨.bool true,.bool true,[],rfl,fun _=>rfl,.bool true,post_true l _,fun _=>⟨List.Pairwise.nil,fun _ hm=>(nomatch hm)⟩⟩,h2,h3,h4⟩
section
variable {prog:Program} {w:World} {A:Around} {E:Value→Shared→Prop} {s:Shared} {K:Frag}
end
end Att
namespace L2
open PySem PySem.Spec PyProof.Rows
theorem vals_ints:∀ {vs:List Value} {ns:List Int},IntsAre vs ns→Vals (ns.map V.int) vs
  | _,_,.nil=>.nil
  | _,_,.cons n t h=>.cons ⟨t,rfl⟩ (vals_ints h)
def Only (H:Hp):Prop:=∀ b,H b = none∨∃ o xs,H b = some (.frz o (.lst xs))
theorem law_call {P:Program} {w:World} {K:PySem.W.Frag} {mg mb:Str→Option Value} {CX:CXT} {k:Nat} {fa a:Addr} {fd:FuncData} {x:Str} {sp:Sp} {s₁:Shared} {vs:List Value} {ns:List Int}
    (KX:K.In s₁.heap) (hns:s₁.heap.Ns mainGlobals mg) (hb:s₁.heap.Ns builtinsNs mb) (hbb:∀ x:Str,x ≠ "__name__"→mb x = bootBuiltins x) (hlim:s₁.heap.NoLimit) (hg:s₁.gens = #[])
    (ha:s₁.heap.get? a = some { cls:=.type "list",data:=.seq vs.toArray }) (hi:IntsAre vs ns) (hl:ns.length ≤ sizeLine) (hr:Room k callerA)
    (F:∀ base:Heap,K.In base→base.Ns mainGlobals mg→FnOk P w K mg base CX k fa fd [x] sp) (hbind:∀ (s:Shared) (u:Value),BindsTo s fd ⟨[u],[]⟩ [(x,u)])
    (hsp:∀ H:Hp,Only H→SqL K H a (ns.map V.int)→sp [.ref a] H (fun v _=>v = .bl true) fun _ _ _=>False)
    (hCX:∀ H e s',CX [] H s₁ (fun _ _ _=>False) e s'→False) :
    codeAny (model P w) callerA (.call (.ref fa) ⟨[.ref a],[]⟩) (fun r s'=>r = .ok (.ret (.bool true))∧OldK s₁.heap s'.heap∧s'.os = s₁.os∧AllBare s'.gens) s₁:=by
  have rv:=vals_ints hi
  have lenV:=hi.length
  have core:∀ H:Hp,Only H→SqL K H a (ns.map V.int)→HOk P w H s₁.heap→(∀ b,H b ≠ none→b = a)→(H a ≠ none→K.lookup a = none) →
      codeAny (model P w) callerA (.call (.ref fa) ⟨[.ref a],[]⟩) (fun r s'=>r = .ok (.ret (.bool true))∧OldK s₁.heap s'.heap∧s'.os = s₁.os∧AllBare s'.gens) s₁:=by
    intro H hO hS hok hA hK
    have base_of:∀ {b:Addr} {o:Obj},s₁.heap.get? b = some o→H b = none→(hidT s₁.heap H).get? b = some o:=fun e n=>hidT_get e n
    have noA:∀ {b:Addr} {o:Obj} {es:Array DictEntry} {ep:Nat},s₁.heap.get? b = some o→o.data = .dict es ep→H b = none:=fun {b o es ep} e d=>by
      cases q:H b with
      | none=>rfl
      | some u =>
        have e':b = a:=hA b (by rw [q]; simp)
        subst e'
        rw [ha] at e; cases e
        have d':Data.seq vs.toArray _ = Data.dict es ep:=d
        cases d'
    have nsK:∀ {b:Addr} {m:Str→Option Value},s₁.heap.Ns b m→(hidT s₁.heap H).Ns b m:=fun {b m} ⟨o,es,ep,e,d,r⟩=>⟨o,es,ep,base_of e (noA e d),d,r⟩
    have hKb:K.In (hidT s₁.heap H):=fun b o e=>base_of (KX b o e) (by
      cases q:H b with
      | none=>rfl
      | some u =>
        have e':b = a:=hA b (by rw [q]; simp)
        subst e'
        rw [hK (by rw [q]; simp)] at e; cases e)
    have hM:Mod K mg (hidT s₁.heap H):=⟨hKb,nsK hns,⟨mb,nsK hb,hbb⟩,let ⟨mc,h1,h2⟩:=hlim; ⟨mc,nsK h1,h2⟩⟩
    have e0:Env0 P w K mg (hidT s₁.heap H) callerA [] s₁ H:=⟨rfl,hM,fun b o e=>of_hidT e,Nat.le_of_eq (hidT_size _ _),trivial,fun b hb=>absurd (show b ∈ ([]:List Addr) from hb) (by simp),hok,.of_eq hg⟩
    refine codeAny_mono ((F _ hKb (nsK hns)).run callerA [] s₁ H ⟨[.ref a],[]⟩ [.ref a] [.ref a] _ _ hr e0 (hbind s₁ (.ref a)) (.cons rfl .nil) (hsp H hO hS)) fun r s' h=>?_
    cases r with
    | error e=>exact (hCX H e s' h).elim
    | ok fl =>
      cases fl with
      | next=>exact False.elim h
      | brk=>exact False.elim h
      | cont=>exact False.elim h
      | ret u =>
        obtain ⟨v,H',os,bare,un,hok',r',q⟩:=h
        have q':v = .bl true:=q
        subst q'
        obtain rfl:u = Value.bool true:=r'
        refine ⟨rfl,OldK.of_keep fun b o e=>?_,os,bare⟩
        cases q:H b with
        | none=>exact un.keep b o e q (by intro z; exact absurd (show b ∈ ([]:List Addr) from z) (by simp)) (by simp)
        | some u =>
          rcases hO b with z | ⟨ob,xs,z⟩
          · rw [q] at z; cases z
          · have z2:=un.frzs b ob _ z
            obtain ⟨e1,_⟩:=hok b _ z
            obtain ⟨e2,_⟩:=hok' b _ z2
            rw [e] at e1; cases e1
            exact e2
  cases hk:K.lookup a with
  | some o =>
    have e:=KX a o hk
    rw [ha] at e
    cases e
    refine core (fun _=>none) (fun _=>.inl rfl) (.inr ⟨_,vs.toArray,_,hk,rfl,rfl,rfl,by rw [List.size_toArray,lenV]; exact hl,by simpa using rv⟩) (fun b u z=>by have z':(none:Option HO) = some u:=z; cases z') (fun b z=>absurd rfl z) fun z=>absurd rfl z
  | none =>
    refine core (fun b=>if b = a then some (.frz { cls:=.type "list",data:=.seq vs.toArray } (.lst (ns.map V.int))) else none) (fun b=>?_) (.inl (.inr ⟨{ cls:=.type "list",data:=.seq vs.toArray },if_pos rfl⟩)) (fun b u z=>?_) (fun b z=>?_) fun _=>hk
    · by_cases hb:b = a
      · exact .inr ⟨_,_,if_pos hb⟩
      · exact .inl (if_neg hb)
    · by_cases hb:b = a
      · have z':=(if_pos hb).symm.trans z
        cases z'
        subst hb
        exact ⟨ha,by rw [List.length_map]; exact hl,vs,_,rv,ha⟩
      · have z':=(if_neg hb).symm.trans z
        cases z'
    · by_cases hb:b = a
      · exact hb
      · exact absurd (if_neg hb) z
end L2
namespace L2
open PySem PySem.Spec PyProof.Rows
theorem walk_of {l:PySem.W.OpenLaw} {n k:Nat} {q:Program} {loose:List Str} {XP:(Str→Option Value)→Heap→Prop} {YP:World→Heap→Prop} {d:DefRec} {K:Params→PySem.W.Frag} {CX:World→CXT} {sp:World→Sp} {x:Str}
    (hn:l.most = some n) (hn2:n ≤ sizeLine) (hdf:d.params.defaults = []) (hr:Room k callerA)
    (hY:∀ (w:World) (h:Heap),YP w h→(K w.params).In h)
    (F:∀ (w:World) (mg:Str→Option Value) (fa:Addr) (h:Heap),(K w.params).In h→h.Ns mainGlobals mg→mg d.name = some (.ref fa) →
      ∃ fd:FuncData,(∀ (s:Shared) (u:Value),BindsTo s fd ⟨[u],[]⟩ [(x,u)]) ∧
        ∀ base:Heap,(K w.params).In base→base.Ns mainGlobals mg→FnOk l.prog w (K w.params) mg base (CX w) k fa fd [x] (sp w))
    (hsp:∀ (w:World) (H:Hp) (a:Addr) (ns:List Int),ns.length ≤ n→Only H→SqL (K w.params) H a (ns.map V.int)→sp w [.ref a] H (fun v _=>v = .bl true) fun _ _ _=>False)
    (hCX:∀ (w:World) (H:Hp) (s:Shared) (e:Value) (s':Shared),CX w [] H s (fun _ _ _=>False) e s'→False) :
    PySem.W.WalkO q loose XP YP l.row.toRowW d [] (fun f vs=>PySem.call f vs):=by
  refine Att.attach_call hn hdf fun w s₀ s₁ mg mb fa o pm cd doc a vs ns G Y ho hd hcd hmg hobj hints hlen hg=>?_
  have KX:=hY w _ Y
  obtain ⟨fd,hb,hF⟩:=F w mg fa _ KX G.T.g hmg
  exact law_call KX G.T.g G.T.b G.T.builtins G.T.nolimit hg hobj hints (Nat.le_trans hlen hn2) hr hF hb (fun H hO hS=>hsp w H a ns hlen hO hS) fun H e s'=>hCX w H s₁ e s'
end L2
namespace L2
open PySem PySem.Spec PyProof.Rows
def inClass (s:Stmt) (j:Nat):Stmt:=match s with
  | .ClassDef _ _ _ body _ _ _ _ _ _ _=>body.getD j (.Pass ⟨0,0,0,0⟩)
  | _=>.Pass ⟨0,0,0,0⟩
def defArgs (s:Stmt):Arguments:=match s with
  | .FunctionDef _ a _ _ _ _ _ _ _ _=>a
  | _=>{ posonlyargs:=[],args:=[],vararg:=none,kwonlyargs:=[],kw_defaults:=[],kwarg:=none,defaults:=[] }
def defBody (s:Stmt):List Stmt:=match s with
  | .FunctionDef _ _ b _ _ _ _ _ _ _=>b
  | _=>[]
def defScope (s:Stmt):Scope:=match s with
  | .FunctionDef _ _ _ _ _ _ sc _ _ _=>sc
  | _=>{ kind:=.function,names:=[],isGenerator:=false,isCoroutine:=false }
abbrev CX0:CXT:=fun _ _ _ _ _ _=>False
abbrev E0:XK:=fun _ _ _=>False
theorem pass0 {X:Cx}:Passes CX0 X E0:=fun _ _ _ _ _ _ _ h=>h.elim
structure Fun (K:PySem.W.Frag) (x qual:Str) (st:Stmt) (f:Addr) (fd:FuncData):Prop where
  ex:∃ (oc:Value) (od:Option Addr) (kV doc pm:Value) (an:Option Addr) (cdv ct:Value) (osl:Array (Option Value)),
    fd = PySem.W.fnOf x qual (defArgs st) (defBody st) (defScope st) .none kV doc pm an cdv ct∧K.lookup f = some ⟨oc,od,.func fd,osl⟩∧PySem.W.codeIn K cdv qual = true
  kp:PySem.W.keepIn K (.ref f) = true
section
variable {P:Program} {w:World} {K:PySem.W.Frag} {mg:Str→Option Value} {base:Heap}
theorem Fun.ok {x qual:Str} {st:Stmt} {f:Addr} {fd:FuncData} {N ps:List Str} {k:Nat} {sp:Sp} {c:Bool} (F:Fun K x qual st f fd) (S:FnScope N ps (defScope st)) (len:∀ vs H Q E,sp vs H Q E→vs.length = ps.length)
    (hbody:∀ (cdv:Value) (A:Around) (outer:List Env) (s:Shared) (H:Hp) (vs:List V) (Q:VK) (E:XK),Room k (A.deeper (envOfC qual (defScope st) s.heap.objs.size f cdv)) c→sp vs H Q E →
      ∃ t,PSs (cxOf CX0 P w K mg base N qual (defScope st) f cdv A outer s H E c).nox (defBody st) t∧t { nx:=fun _ H'=>Q .non H',rt:=Q } (start N vs) H):FnOk P w K mg base CX0 (k + 1) f fd ps sp c:=by
  obtain ⟨oc,od,kV,doc,pm,an,cdv,ct,osl,rfl,lk,hcd⟩:=F.ex
  refine fn_of lk hcd S len fun A outer s H vs Q E hr hsp=>?_
  obtain ⟨t,h,q⟩:=hbody cdv A outer s H vs Q E hr hsp
  exact ⟨t,h.nox,q⟩
theorem Fun.binds {x qual:Str} {st:Stmt} {f:Addr} {fd:FuncData} {ps:List Str} (F:Fun K x qual st f fd)
    (h:∀ (kV doc pm:Value) (an:Option Addr) (cdv ct:Value) (us:List Value),us.length = ps.length→bindArgs (PySem.W.fnOf x qual (defArgs st) (defBody st) (defScope st) .none kV doc pm an cdv ct) ⟨us,[]⟩ = pure (ps.zip us)):Binds K fd ps []:=by
  obtain ⟨oc,od,kV,doc,pm,an,cdv,ct,osl,rfl,lk,hcd⟩:=F.ex
  exact .all (h kV doc pm an cdv ct)
theorem fun_mk {x qual:Str} {st:Stmt} {f:Addr} {oc:Value} {od an:Option Addr} {osl:Array (Option Value)} {kV doc pm cdv ct:Value} (l:K.lookup f = some ⟨oc,od,.func (PySem.W.fnOf x qual (defArgs st) (defBody st) (defScope st) .none kV doc pm an cdv ct),osl⟩)
    (c:PySem.W.codeIn K cdv qual = true) (k:PySem.W.keepIn K (.ref f) = true):Fun K x qual st f (PySem.W.fnOf x qual (defArgs st) (defBody st) (defScope st) .none kV doc pm an cdv ct):=⟨⟨oc,od,kV,doc,pm,an,cdv,ct,osl,rfl,l,c⟩,k⟩
end
theorem hu_of {A:Around} {k:Nat} {c:Bool} (hr:Room k A c):A.units + 1 < cLine:=Nat.lt_of_le_of_lt (Nat.add_le_add_left (by decide:1 ≤ 64) _) hr.units
section
variable {X:Cx}
theorem pv (i:Nat) {x:Str} {pos:Pos} (hN:X.N[i]? = some x:=by rfl) (hv:Vis X.env.scope x:=by first | exact Or.inl rfl | exact Or.inr (Or.inl rfl) | exact Or.inr (Or.inr rfl)) (hd:(x == ("__debug__":Str)) = false:=by decide)
    (hcd:(x == ("__classdict__":Str)) = false:=by decide):PE X (.Name x pos) (tVar i):=pe_var hN hv hd hcd
end
theorem iteF {A B:Prop} (h:B):if false = true then A else B:=by
  rw [if_neg Bool.false_ne_true]
  exact h
theorem iteT {A B:Prop} (h:A):if true = true then A else B:=by
  rw [if_pos rfl]
  exact h
theorem ite2 {c A B:Prop} [Decidable c] (h1:c→A) (h2:¬ c→B):if c then A else B:=by
  by_cases h:c
  · rw [if_pos h]
    exact h1 h
  · rw [if_neg h]
    exact h2 h
def Same (H H':Hp):Prop:=∀ b o,H b = some o→H' b = some o
theorem Same.refl (H:Hp):Same H H:=fun _ _ h=>h
theorem Same.trans {H H1 H2:Hp} (a:Same H H1) (b:Same H1 H2):Same H H2:=fun c o h=>b c o (a c o h)
theorem Same.free {H H':Hp} (e:Same H H') {l:Addr} (h:H' l = Option.none):H l = Option.none:=by
  cases q:H l with
  | none=>rfl
  | some o =>
    rw [e l o q] at h
    cases h
theorem Same.seq {K:PySem.W.Frag} {H H':Hp} {a:Addr} {xs:List V} (e:Same H H') (h:SqL K H a xs):SqL K H' a xs:=by
  rcases h with (h | ⟨o,h⟩) | h
  · exact .inl (.inl (e _ _ h))
  · exact .inl (.inr ⟨o,e _ _ h⟩)
  · exact .inr h
end L2
namespace L2
open PySem PySem.Spec PyProof.Rows
abbrev NoX:Value→Shared→Prop:=fun _ _=>False
theorem noX {α:Type} {M:Model} {A:Around} {t:Sem α} {Q:α→Shared→Prop} {E:Value→Shared→Prop} {s:Shared} (h:wpAny M A t Q NoX s):wpAny M A t Q E s:=wpAny_mono h (fun _ _ q=>q) fun _ _ z=>z.elim
abbrev tstSem (ifs:List Expr) (env:Env):Sem Bool:=forIn ifs true fun c r=>if r = true then do let ok ← isTrue c env (eval c env); pure (ForInStep.yield ok) else pure (ForInStep.yield r)
section
variable {prog:Program} {w:World} {A:Around} {R:Result→Shared→Prop} {s:Shared}
theorem comp_loop {elt tg iter:Expr} {ifs:List Expr} {sc:Scope} {pos:Pos} {it acc:Value} {env:Env} (I:Nat→Shared→Prop)
    (turn:∀ n s,I n s→wpAny (model prog w) A (pyNext it) (fun r s1=>match r with
      | none=>R (.ok .next) s1
      | some v=>wpAny (model prog w) A (letOwnedTupleGo tg it v) (fun _ s2=>wpAny (model prog w) A (assign tg env v) (fun _ s3=>wpAny (model prog w) A (tstSem ifs env) (fun ok s4 =>
          if ok = true then wpAny (model prog w) A (eval elt env) (fun x s5=>wpAny (model prog w) A (call (.builtin "list.append") [acc,x]) (fun _ s6=>∃ m,m < n∧I m s6) NoX s5) NoX s4
          else ∃ m,m < n∧I m s4) NoX s3) NoX s2) NoX s1) NoX s)
    (n:Nat) (h:I n s):codeAny (model prog w) A (.compLoop (.ListComp elt [⟨tg,iter,ifs,0⟩] sc pos) 0 it acc env) R s:=by
  refine codeAny_loop rfl I (fun n s hI=>?_) n h
  show wpAny _ A ((compTurn (.ListComp elt [⟨tg,iter,ifs,0⟩] sc pos) 0 it acc env).onRaise (fun x=>do noteFrame x env; theTreesLotGoes x)) _ _ s
  refine wpAny_noted ?_
  rw [compTurn_list]
  refine wpAny_bind (wpAny_standAt (wpAny_bind (noX (thn (turn n s hI) fun r s1 h1=>?_))))
  cases r with
  | none=>exact wpAny_pure h1
  | some v =>
    refine wpAny_bind (noX (thn h1 fun _ s2 h2=>wpAny_bind (noX (thn h2 fun _ s3 h3=>wpAny_bind (noX (thn h3 fun ok s4 h4=>?_))))))
    cases ok with
    | false=>exact wpAny_pure ⟨rfl,h4⟩
    | true=>exact wpAny_bind (wpAny_bind (noX (thn h4 fun x s5 h5=>wpAny_bind (noX (thn h5 fun _ s6 h6=>wpAny_pure (wpAny_pure ⟨rfl,h6⟩))))))
end
theorem closure_go {env:Env}:∀ (l:List (Str×NameKind)) (acc:List (Str×Addr)),(∀ y ∈ l,y.2 = .free→∃ c,env.cells.lookup y.1 = some c)→(∀ y c,acc.lookup y = some c→env.cells.lookup y = some c) →
    ∃ cl,(forIn l acc fun x r=>if (x.2 == NameKind.free) = true then (do let c ← cellOf env x.1; pure (ForInStep.yield ((x.1,c) :: r))) else pure (ForInStep.yield r)) = (pure cl:Sem (List (Str×Addr))) ∧
      (∀ y c,cl.lookup y = some c→env.cells.lookup y = some c)∧(∀ y ∈ l,y.2 = .free→∃ c,cl.lookup y.1 = some c)∧(∀ y c,acc.lookup y = some c→∃ c',cl.lookup y = some c')
  | [],acc,_,h2=>⟨acc,rfl,h2,(fun _ z=>nomatch z),(fun _ c e=>⟨c,e⟩)⟩
  | (n,k) :: r,acc,h1,h2=>by
    rw [List.forIn_cons]
    by_cases hk:k = .free
    · subst hk
      obtain ⟨c,hc⟩:=h1 (n,.free) List.mem_cons_self rfl
      have e:cellOf env n = pure c:=by
        have hc':env.cells.lookup n = some c:=hc
        unfold cellOf
        rw [hc']
      obtain ⟨cl,q1,q2,q3,q4⟩:=closure_go r ((n,c) :: acc) (fun y hy=>h1 y (List.mem_cons_of_mem _ hy)) (fun y c' e'=>by
        rw [List.lookup_cons] at e'
        by_cases hy:(y == n) = true
        · rw [hy] at e'
          have hn:y = n:=eq_of_beq hy
          subst hn
          cases e'
          exact hc
        · rw [Bool.not_eq_true] at hy
          rw [hy] at e'
          exact h2 y c' e')
      refine ⟨cl,?_,q2,fun y hy hf=>?_,fun y c' e'=>?_⟩
      · simp only [beq_self_eq_true,if_true,e,pure_bind]
        exact q1
      · rcases List.mem_cons.mp hy with rfl | hy
        · exact q4 n c (by simp)
        · exact q3 y hy hf
      · by_cases hy:(y == n) = true
        · have hn:y = n:=eq_of_beq hy
          subst hn
          exact q4 y c (by simp)
        · rw [Bool.not_eq_true] at hy
          exact q4 y c' (by rw [List.lookup_cons,hy]; exact e')
    · have hb:(k == NameKind.free) = false:=by simpa using hk
      obtain ⟨cl,q1,q2,q3,q4⟩:=closure_go r acc (fun y hy=>h1 y (List.mem_cons_of_mem _ hy)) h2
      refine ⟨cl,?_,q2,fun y hy hf=>?_,q4⟩
      · simp only [hb,Bool.false_eq_true,if_false,pure_bind]
        exact q1
      · rcases List.mem_cons.mp hy with rfl | hy
        · exact absurd hf hk
        · exact q3 y hy hf
theorem closure_ok {env:Env} {sc:Scope} (h:∀ y ∈ sc.names,y.2 = .free→∃ c,env.cells.lookup y.1 = some c) :
    ∃ cl,closureFor sc env = pure cl∧(∀ y c,cl.lookup y = some c→env.cells.lookup y = some c)∧∀ y ∈ sc.names,y.2 = .free→∃ c,cl.lookup y.1 = some c:=by
  obtain ⟨cl,q1,q2,q3,_⟩:=closure_go sc.names [] h (fun _ _ z=>nomatch z)
  refine ⟨cl,?_,q2,q3⟩
  unfold closureFor
  rw [bind_pure]
  exact q1
theorem relabel_look {env:Env} {y:Str} {k:NameKind} {sc:Scope} (h:(relabel sc env).names.lookup y = some k):∃ k0,sc.names.lookup y = some k0∧(k = k0∨(k0 = .free∧k = .cell)):=by
  have go:∀ l:List (Str×NameKind),(l.map fun (n,k)=>if (k == .free && env.scope.kind == .function && env.kindOf n == some .cell) then (n,NameKind.cell) else (n,k)).lookup y = some k→∃ k0,l.lookup y = some k0∧(k = k0∨(k0 = .free∧k = .cell)):=by
    intro l
    induction l with
    | nil=>intro z; cases z
    | cons a r ih =>
      obtain ⟨n,k1⟩:=a
      intro z
      rw [List.map_cons] at z
      by_cases hc:(k1 == NameKind.free && env.scope.kind == .function && env.kindOf n == some .cell) = true
      · have hf:k1 = .free:=by
          rw [Bool.and_eq_true,Bool.and_eq_true] at hc
          simpa using hc.1.1
        simp only [hc,if_true] at z
        rw [List.lookup_cons] at z ⊢
        by_cases hy:(y == n) = true
        · rw [hy] at z ⊢
          cases z
          exact ⟨k1,rfl,.inr ⟨hf,rfl⟩⟩
        · rw [Bool.not_eq_true] at hy
          rw [hy] at z ⊢
          exact ih z
      · simp only [hc,Bool.false_eq_true,if_false] at z
        rw [List.lookup_cons] at z ⊢
        by_cases hy:(y == n) = true
        · rw [hy] at z ⊢
          cases z
          exact ⟨_,rfl,.inl rfl⟩
        · rw [Bool.not_eq_true] at hy
          rw [hy] at z ⊢
          exact ih z
  exact go sc.names h
theorem relabel_free {env:Env} {y:Str} {sc:Scope} (h:sc.names.lookup y = some .free):(relabel sc env).names.lookup y = some .cell∨(relabel sc env).names.lookup y = some .free:=by
  have go:∀ l:List (Str×NameKind),l.lookup y = some .free→(l.map fun (n,k)=>if (k == .free && env.scope.kind == .function && env.kindOf n == some .cell) then (n,NameKind.cell) else (n,k)).lookup y = some .cell ∨
      (l.map fun (n,k)=>if (k == .free && env.scope.kind == .function && env.kindOf n == some .cell) then (n,NameKind.cell) else (n,k)).lookup y = some .free:=by
    intro l
    induction l with
    | nil=>intro z; cases z
    | cons a r ih =>
      obtain ⟨n,k1⟩:=a
      intro z
      rw [List.lookup_cons] at z
      rw [List.map_cons]
      by_cases hy:(y == n) = true
      · rw [hy] at z
        cases z
        by_cases hc:(NameKind.free == NameKind.free && env.scope.kind == .function && env.kindOf n == some .cell) = true
        · simp only [hc,if_true]
          exact .inl (by rw [List.lookup_cons,hy])
        · simp only [hc,Bool.false_eq_true,if_false]
          exact .inr (by rw [List.lookup_cons,hy])
      · rw [Bool.not_eq_true] at hy
        rw [hy] at z
        by_cases hc:(k1 == NameKind.free && env.scope.kind == .function && env.kindOf n == some .cell) = true
        · simp only [hc,if_true]
          rw [List.lookup_cons,hy]
          exact ih z
        · simp only [hc,Bool.false_eq_true,if_false]
          rw [List.lookup_cons,hy]
          exact ih z
  exact go sc.names h
abbrev cxComp (X:Cx) (N:List Str) (sc:Scope) (cl:List (Str×Addr)) (C:Addr) (s:Shared) (H:Hp) (ex:List Addr) (pn:List (Addr×Obj)):Cx :=
  { prog:=X.prog,w:=X.w,K:=X.K,mg:=X.mg,base:=X.base,A:=X.A,N:=N,s₀:=s,H₀:=H,env:=compEnvC sc cl C X.env,outer:=X.stack,stack:=X.stack,ex:=ex,fn:=fun _=>false,calm:=X.calm,pn:=pn,xe:=fun _ _=>False }
def PTs (X:Cx) (ifs:List Expr) (t:TT):Prop :=
  ∀ (pins:List (Addr×Obj)) (s:Shared) (σ:St) (H:Hp) (Q:Bool→Hp→Prop),Inv X pins σ H s→t σ H Q→wpAny (model X.prog X.w) X.A (tstSem ifs X.env) (TP X pins σ Q) X.xe s
def tTrue:TT:=fun _ H Q=>Q true H
theorem ttT {σ:St} {H:Hp} {A B:Hp→Prop} (h:A H):tTrue σ H (fun b H4=>if b = true then A H4 else B H4):=by
  show if true = true then A H else B H
  rw [if_pos rfl]
  exact h
theorem pts_nil {X:Cx}:PTs X [] tTrue:=fun _ _ _ H _ I h=>wpAny_tests_nil ⟨H,I,h⟩
theorem pts_one {X:Cx} {c:Expr} {t:TT} (hc:PT X c t):PTs X [c] t:=fun pins s σ H Q I h=>wpAny_tests_one (hc pins s σ H Q I h)
def capV (σ:St) (caps:List Nat):St:=caps.map fun i=>(σ[i]?).getD none
def CompW (J:It) (p:Addr) (tt:TT) (te:TE) (cs:St) (Q:VK) (H1:Hp):Prop:=∃ W:Nat→Nat→List V→Hp→Prop,(∃ m,W 0 m [] (upd H1 p (.lst [])))∧∀ i m ys H2,W i m ys H2 →
  (J.stop i H2∧Q (.ref p) H2)∨(J.go i H2∧∃ N:List V→Hp→Prop,(∀ ys' H',N ys' H'→∃ m',m' < m∧W (i + 1) m' ys' H') ∧
    ∀ v H3,J.yld i H2 v H3→tt (some v :: cs) H3 fun b H4=>if b = true then te (some v :: cs) H4 fun y H5=>H5 p = some (.lst ys)∧ys.length < sizeLine∧N (ys ++ [y]) (upd H5 p (.lst (ys ++ [y]))) else N ys H4)
def CompWG (Gs:Hp→Prop) (J:It) (p:Addr) (tt:TT) (te:TE) (cs:St) (Q:VK) (H1:Hp):Prop:=∃ W:Nat→Nat→List V→Hp→Prop,(∃ m,W 0 m [] (upd H1 p (.lst [])))∧∀ i m ys H2,W i m ys H2 →
  (J.stop i H2∧Gs H2∧Q (.ref p) H2)∨(J.go i H2∧Gs H2∧∃ N:List V→Hp→Prop,(∀ ys' H',N ys' H'→∃ m',m' < m∧W (i + 1) m' ys' H') ∧
    ∀ v H3,J.yld i H2 v H3→tt (some v :: cs) H3 fun b H4=>if b = true then te (some v :: cs) H4 fun y H5=>H5 p = some (.lst ys)∧ys.length < sizeLine∧N (ys ++ [y]) (upd H5 p (.lst (ys ++ [y]))) else N ys H4)
def tCompC (CW:It→Addr→St→VK→Hp→Prop) (wi:TI) (caps:List Nat):TE:=fun σ H Q=>wi σ H fun J H1=>∀ p,H1 p = none→CW J p (capV σ caps) Q H1
def tComp (wi:TI) (tt:TT) (te:TE) (caps:List Nat):TE:=fun σ H Q=>wi σ H fun J H1=>∀ p,H1 p = none→CompW J p tt te (capV σ caps) Q H1
theorem comp_go {X:Cx} {use:Option (Value→Sem Unit)} {Post:Value→Shared→Prop} {pins:List (Addr×Obj)} {s:Shared} {σ:St} {H:Hp} {Q:VK} {Gs:Hp→Prop} {hb:Bool} {CW:It→Addr→St→VK→Hp→Prop} {elt iter:Expr} {ifs:List Expr} {x:Str} {px pos:Pos} {sc:Scope} {wi:TI} {tt:TT} {te:TE} (caps:List Nat) (capsN:List Str)
    (hi:PI X (.Name x px) iter wi hb)
    (ht:∀ cl C s H ex pn,PTs (cxComp X (x :: capsN) sc cl C s H ex pn) ifs tt)
    (he:∀ cl C s H ex pn,PE (cxComp X (x :: capsN) sc cl C s H ex pn) elt te)
    (hkind:sc.kind = .function) (hcell:∀ y ∈ sc.names,y.2 ≠ .cell) (hnames:∀ y ∈ sc.names,y.2 = .local→sc.names.lookup y.1 = some .local) (hx:sc.names.lookup x = some .local)
    (hfr:∀ y ∈ sc.names,y.2 = .free→y.1 ∈ capsN)
    (hcap:∀ (j:Nat) (y:Str),capsN[j]? = some y→∃ i:Nat,caps[j]? = some i∧X.N[i]? = some y∧sc.names.lookup y = some .free∧(X.env.kindOf y = some .cell∨X.env.kindOf y = some .free)) (hlen:caps.length = capsN.length)
    (hnd:(x :: capsN).Nodup) (hc:X.calm = true∨(hb = true∧∀ s H,HOk X.prog X.w H s.heap→Gs H→HandQ X s)) (kW:∀ J p cs Q H1,CW J p cs Q H1→CompWG Gs J p tt te cs Q H1)
    (hs:∀ x,foldedSetIterable iter X.env x = pure x) (I:Inv X pins σ H s) (h:tCompC CW wi caps σ H Q)
    (fin:∀ (C p:Addr) (H5:Hp) (s5:Shared),(∃ m,s5.heap.Ns C m)→Inv X pins σ H5 s5→FpOk X pins H5 C→Q (.ref p) H5→compPost (model X.prog X.w) X.A X.xe use Post (.ref p) C (.ok .next) s5) :
    wpAny (model X.prog X.w) X.A (comprehension (.ListComp elt [⟨.Name x px,iter,ifs,0⟩] sc pos) sc X.env (firstIterPos [⟨.Name x px,iter,ifs,0⟩] pos) (newList []) (firstAsync [⟨.Name x px,iter,ifs,0⟩]) (firstIter [⟨.Name x px,iter,ifs,0⟩] X.env) use) Post X.xe s:=by
  have hEnd:∀ s H,HOk X.prog X.w H s.heap→Gs H→EndQ hb X s:=by
    rcases hc with hc | ⟨e,k⟩
    · exact fun _ _ _ _=>.inl (I.ok.hd hc)
    · exact fun s H o g=>.inr ⟨e,k s H o g⟩
  obtain ⟨cl,hclos,hq2,hq3⟩:=closure_ok (env:=X.env) (sc:=sc) (fun y hy hf=>by
    obtain ⟨j,hj⟩:=List.mem_iff_getElem?.mp (hfr y hy hf)
    obtain ⟨_,_,_,_,k⟩:=hcap j y.1 hj
    exact I.ok.has y.1 k)
  refine wpAny_comprehension_free (use:=use) rfl hs hclos hkind hnames (thn (hi pins s σ H _ I h) fun v s1 h1=>thn h1 fun itv s2 h2=>?_)
  obtain ⟨it,fp,tn,J,H2,e,I2,T,st2,f2,q⟩:=h2
  subst e
  refine wpAny_newObj_type (wpAny_newFunctionEnv hcell (by intro y hy; simp at hy) (fun h1 hns hsb=>?_) hkind)
  dsimp only at hns hsb ⊢
  obtain ⟨W,⟨m0,w0⟩,turn⟩:=kW _ _ _ _ _ (q s2.heap.objs.size (I2.hok.fresh (Nat.le_refl _)))
  have I3:Inv X pins σ (upd H2 s2.heap.objs.size (.lst [])) { s2 with heap:=s2.heap.push { cls:=.type "list",dict:=none,data:=.seq ([]:List Value).toArray },toks:=s2.toks }:=I2.lnew (its:=[]) (ys:=[]) (t':=s2.toks) .nil (Nat.zero_le _)
  generalize hH3:s2.heap.push { cls:=.type "list",dict:=none,data:=.seq ([]:List Value).toArray } = g3 at hns hsb I3 ⊢
  have hsz3:g3.objs.size = s2.heap.objs.size + 1:=by rw [← hH3,Heap.size_push]
  generalize hHp:upd H2 s2.heap.objs.size (.lst []) = Hp3 at w0 I3
  have hlt:∀ b o,g3.get? b = some o→b ≠ g3.objs.size:=fun b o e=>Nat.ne_of_lt (Heap.lt_size e)
  have old:∀ b o,g3.get? b = some o→h1.get? b = some o:=fun b o e=>hsb.extBut b o (hlt b o e) (Heap.get?_push_of_some _ e)
  have fpo:∀ b ∈ fp,∃ o,g3.get? b = some o:=fun b hb=>by
    obtain ⟨o,e,_⟩:=T.obj 0 s2.heap st2 b hb
    exact ⟨o,by rw [← hH3]; exact Heap.get?_push_of_some _ e⟩
  have fpC:∀ b ∈ fp,b ≠ g3.objs.size:=fun b hb=>by obtain ⟨o,e⟩:=fpo b hb; exact hlt b o e
  have fpH:∀ b ∈ fp,Hp3 b = none:=fun b hb=>by
    obtain ⟨o,e,_⟩:=T.obj 0 s2.heap st2 b hb
    rw [← hHp,upd_ne (Nat.ne_of_lt (Heap.lt_size e))]
    exact (f2 b hb).1
  have fsSub:∀ b,b ≠ X.env.locals→b ∉ X.fs→b ∉ frs X.stack:=fun b h1 h2 z=>by
    rcases List.mem_cons.mp (I2.stkSub b z) with z | z
    · exact h1 z
    · exact h2 z
  have okc:(cxComp X (x :: capsN) sc cl g3.objs.size { s2 with heap:=g3,toks:=s2.toks } Hp3 fp (X.pn ++ pins)).Ok:=by
    refine ⟨I3.ok.mod,hkind,I3.ok.glob,I3.ok.blt,Nat.le_refl _,fun y z c e1 e2=>I3.ok.inj y z c (hq2 y c e1) (hq2 z c e2),fun y hy=>?_,fun y c z=>absurd z Bool.false_ne_true,I3.ok.hd,I3.ok.frames,.inl rfl,fun b hb=>⟨fpC b hb,fun y c e=>(f2 b hb).2.2.2.2.1 y c (hq2 y c e)⟩,
      I3.bs,Nat.le_trans I3.ok.bsz I3.sz,fun b o e hb=>?_,fun b hb=>fsSub b (f2 b hb).2.1 (f2 b hb).2.2.1,I3.stack,I3.stkFree⟩
    · have hy':∃ k,(relabel sc X.env).names.lookup y = some k∧(k = .cell∨k = .free):=by
        rcases hy with hy | hy
        · exact ⟨_,hy,.inl rfl⟩
        · exact ⟨_,hy,.inr rfl⟩
      obtain ⟨k,e,hk⟩:=hy'
      obtain ⟨k0,e0,hk0⟩:=relabel_look e
      have em:=PySem.mem_of_lookup e0
      rcases hk0 with rfl | ⟨rfl,_⟩
      · rcases hk with rfl | rfl
        · exact absurd rfl (hcell _ em)
        · exact hq3 _ em rfl
      · exact hq3 _ em rfl
    · rcases (f2 b hb).2.2.2.1 with z | z
      · exact I3.ok.noex b o e z
      · have h1:b < X.base.objs.size:=Heap.lt_size e
        have h2:=I3.ok.bsz
        exact absurd (Nat.lt_of_lt_of_le h1 (Nat.le_trans h2 z)) (Nat.lt_irrefl _)
  have Ic:Inv (cxComp X (x :: capsN) sc cl g3.objs.size { s2 with heap:=g3,toks:=s2.toks } Hp3 fp (X.pn ++ pins)) [] (none :: capV σ caps) Hp3 { s2 with heap:=h1,toks:=s2.toks + ([]:List (Str×Value)).length }:=by
    refine ⟨okc,rfl,I3.bare,Un.kept old,⟨_,hns,fun i y v e1 e2 e3=>?_⟩,fun y c e=>?_,I3.hok.fresh (Nat.le_refl _),fun y c e=>I3.freeC y c (hq2 y c e),fun p hp=>?_,I3.hok.kept old,?_⟩
    · cases i with
      | zero=>cases e2
      | succ j =>
        have e1':capsN[j]? = some y:=e1
        obtain ⟨i,c1,c2,c3,c4⟩:=hcap j y e1'
        have e2':(capV σ caps)[j]? = some (some v):=e2
        have hv:σ[i]? = some (some v):=by
          unfold capV at e2'
          rw [List.getElem?_map,c1] at e2'
          have e4:(σ[i]?).getD none = some v:=Option.some.inj e2'
          cases e5:σ[i]? with
          | none=>rw [e5] at e4; cases e4
          | some w=>rw [e5] at e4; exact congrArg some e4
        obtain ⟨m,_,hl⟩:=I3.loc
        have vis:Vis X.env.scope y:=by
          rcases c4 with z | z
          · exact .inr (.inl z)
          · exact .inr (.inr z)
        obtain ⟨u,r,l⟩:=hl i y v c2 hv vis
        refine ⟨u,r,.inr ⟨relabel_free c3,?_⟩⟩
        rcases l with ⟨lk,_⟩ | ⟨_,c,ec,o,ho,hd⟩
        · rcases c4 with z | z <;> (rw [lk] at z; cases z)
        · obtain ⟨c',e'⟩:=hq3 _ (PySem.mem_of_lookup c3) rfl
          have e'':=hq2 _ _ e'
          have e3':(some c':Option Addr) = some c:=e''.symm.trans ec
          cases e3'
          exact ⟨c,e',o,old _ _ ho,hd⟩
    · obtain ⟨v,o,ho,hd⟩:=I3.cell y c (hq2 y c e)
      exact ⟨v,o,old _ _ ho,hd⟩
    · have hp':p ∈ X.pn ++ pins:=by simpa using hp
      obtain ⟨e1,e2,e3,e4,e5⟩:=I3.pin p hp'
      exact ⟨old _ _ e1,e2,hlt _ _ e1,fsSub _ e3 e4,e5⟩
    · show (capV σ caps).length + 1 = capsN.length + 1
      unfold capV
      rw [List.length_map,hlen]
  have stat:∀ {H':Hp},(∀ b ∈ fp,H' b = none)→∀ b ∈ fp,FpOk (cxComp X (x :: capsN) sc cl g3.objs.size { s2 with heap:=g3,toks:=s2.toks } Hp3 fp (X.pn ++ pins)) [] H' b:=fun hn b hb =>
    ⟨hn b hb,fpC b hb,fsSub b (f2 b hb).2.1 (f2 b hb).2.2.1,.inl hb,fun y c e=>(f2 b hb).2.2.2.2.1 y c (hq2 y c e),fun p hp=>(f2 b hb).2.2.2.2.2 p (by simpa using hp)⟩
  have back:∀ {pins5:List (Addr×Obj)} {σ5:St} {H5:Hp} {s5:Shared} {h':Heap},Inv (cxComp X (x :: capsN) sc cl g3.objs.size { s2 with heap:=g3,toks:=s2.toks } Hp3 fp (X.pn ++ pins)) pins5 σ5 H5 s5→Heap.SameBut g3.objs.size s5.heap h'→Inv X pins σ H5 { s5 with heap:=h' }:=by
    intro pins5 σ5 H5 s5 h' I5 sb
    have un:Un (frs X.stack) fp Hp3 H5 g3 s5.heap:=I5.base
    have fr:H5 g3.objs.size = none:=I5.free
    have un':Un (frs X.stack) fp Hp3 H5 g3 h':=⟨fun b o e n hb hx=>(sb.2 b (hlt b o e)).trans (un.keep b o e n hb hx),
      fun b o e n hb hx=>by obtain ⟨sl,z⟩:=un.slot b o e n hb hx; exact ⟨sl,(sb.2 b (hlt b o e)).trans z⟩,un.free,
      fun b o e hx=>by obtain ⟨o',z⟩:=un.there b o e hx; exact ⟨o',(sb.2 b (hlt b o e)).trans z⟩,un.tups,un.frzs,un.tbls⟩
    have hok:HOk X.prog X.w H5 h':=fun b u e=>(I5.hok b u e).stay (fun c v hc' z=>(sb.2 c (by
      rintro rfl
      rcases hc' with hc' | hc'
      · rw [hc',e] at fr; cases fr
      · rw [fr] at hc'; cases hc')).trans z) (fun _ z=>z) (fun _ _ z=>z)
    obtain ⟨hh,g,d,t,os⟩:=s5
    have eo:os = s2.os:=I5.os
    subst eo
    have z:=I3.call (h':=h') (g':=g) (d':=d) (t':=t) (ch:=fp) un' hok I5.bare fun b hb=>⟨(f2 b hb).2.2.2.1,(f2 b hb).2.1,(f2 b hb).2.2.2.2.1,(f2 b hb).2.2.2.2.2⟩
    exact z
  have st4:tn 0 h1:=T.keep 0 s2.heap h1 st2 fun b hb o e=>old b o (by rw [← hH3]; exact Heap.get?_push_of_some _ e)
  have loop:codeAny (model X.prog X.w) X.A (.compLoop (.ListComp elt [⟨.Name x px,iter,ifs,0⟩] sc pos) 0 (.ref it) (.ref s2.heap.objs.size) (compEnvC sc cl g3.objs.size X.env))
      (compPost (model X.prog X.w) X.A X.xe use Post (.ref s2.heap.objs.size) g3.objs.size) { s2 with heap:=h1,toks:=s2.toks + ([]:List (Str×Value)).length }:=by
    refine comp_loop (fun n s'=>∃ i ys v0 H',Inv (cxComp X (x :: capsN) sc cl g3.objs.size { s2 with heap:=g3,toks:=s2.toks } Hp3 fp (X.pn ++ pins)) [] (v0 :: capV σ caps) H' s'∧tn i s'.heap∧(∀ b ∈ fp,H' b = none)∧W i n ys H') ?_ m0 ⟨0,[],none,Hp3,Ic,st4,fpH,w0⟩
    rintro n s' ⟨i,ys,v0,H',I',st',fr',w'⟩
    rcases turn i n ys H' w' with ⟨stop,gs,qn⟩ | ⟨go,gs,N,hN,step⟩
    · refine thn (T.done (cxComp X (x :: capsN) sc cl g3.objs.size { s2 with heap:=g3,toks:=s2.toks } Hp3 fp (X.pn ++ pins)) rfl rfl rfl s' (hEnd s' H' I'.hok gs) i [] _ H' NoX I' (stat fr') st' stop) fun r s5 ⟨hr,I5⟩=>?_
      subst hr
      obtain ⟨m,hn,_⟩:=id I5.loc
      exact fin g3.objs.size s2.heap.objs.size H' s5 ⟨m,hn⟩ (back (h':=s5.heap) I5 ⟨rfl,fun _ _=>rfl⟩) (I3.fpOk (Nat.le_refl _) I5.free) qn
    · refine thn (T.item (cxComp X (x :: capsN) sc cl g3.objs.size { s2 with heap:=g3,toks:=s2.toks } Hp3 fp (X.pn ++ pins)) rfl rfl rfl s' (hEnd s' H' I'.hok gs) i [] _ H' NoX I' (stat fr') st' go) fun r s5 ⟨u,hr,h5⟩=>?_
      subst hr
      refine thn h5 fun _ s6 ⟨v,H6,I6,r6,y6,st6,fr6⟩=>?_
      have I6':=I6.pinned (stat fr6) (T.obj _ _ st6)
      have again:∀ {σ7:St} {H7:Hp} {s7:Shared} {ys':List V},σ7 = some v :: capV σ caps→Inv (cxComp X (x :: capsN) sc cl g3.objs.size { s2 with heap:=g3,toks:=s2.toks } Hp3 fp (X.pn ++ pins)) ([] ++ pinsAt fp s6.heap) σ7 H7 s7→N ys' H7 →
          ∃ m,m < n∧∃ i ys v0 H',Inv (cxComp X (x :: capsN) sc cl g3.objs.size { s2 with heap:=g3,toks:=s2.toks } Hp3 fp (X.pn ++ pins)) [] (v0 :: capV σ caps) H' s7∧tn i s7.heap∧(∀ b ∈ fp,H' b = none)∧W i m ys H':=by
        intro σ7 H7 s7 ys' eσ I7 n7
        subst eσ
        obtain ⟨m',hm,w7⟩:=hN ys' H7 n7
        refine ⟨m',hm,i + 1,ys',some v,H7,I7.unpinned,T.keep _ _ _ st6 fun b hb o e=>(I7.pin (b,o) (List.mem_append_right _ (List.mem_append_right _ (mem_pinsAt hb e)))).1,fun b hb=>?_,w7⟩
        obtain ⟨o,e,d⟩:=T.obj _ _ st6 b hb
        exact (I7.pin (b,o) (List.mem_append_right _ (List.mem_append_right _ (mem_pinsAt hb e)))).2.1
      refine thn (pg_name (X:=cxComp X (x :: capsN) sc cl g3.objs.size { s2 with heap:=g3,toks:=s2.toks } Hp3 fp (X.pn ++ pins)) (i:=0) hnd rfl (Or.inl (lookup_relabel_local hx)) (.inr (lookup_relabel_local hx)) _ s6 _ H6 v u
        (fun σ' H'=>σ' = some v :: capV σ caps∧H' = H6) I6' r6 ⟨rfl,rfl⟩) fun _ s7 ⟨σ7,H7,I7,e7,e7'⟩=>?_
      subst e7 e7'
      refine thn (ht _ _ _ _ _ _ _ s7 _ H7 _ I7 (step v H7 y6)) fun ok s8 ⟨H8,I8,q8⟩=>?_
      cases ok with
      | false=>exact again rfl I8 q8
      | true =>
        refine thn (he _ _ _ _ _ _ _ s8 _ H8 _ I8 q8) fun y s9 ⟨yv,H9,I9,r9,hp9,hz9,n9⟩=>?_
        refine thn (mt_append (X:=cxComp X (x :: capsN) sc cl g3.objs.size { s2 with heap:=g3,toks:=s2.toks } Hp3 fp (X.pn ++ pins)) _ s9 _ H9 (.ref s2.heap.objs.size) [yv] (.ref s2.heap.objs.size) [y] (fun _ H'=>H' = upd H9 s2.heap.objs.size (.lst (ys ++ [yv]))) I9 rfl (.cons r9 .nil)
          ⟨s2.heap.objs.size,ys,yv,rfl,rfl,hp9,hz9,rfl⟩) fun _ s10 ⟨_,H10,I10,_,e10⟩=>?_
        subst e10
        exact again rfl I10 n9
  exact codeAny_compStart_list loop (T.self X.A 0 _ _ _ st4 loop)
theorem pe_compG {X:Cx} {Gs:Hp→Prop} {hb:Bool} {CW:It→Addr→St→VK→Hp→Prop} {elt iter:Expr} {ifs:List Expr} {x:Str} {px pos:Pos} {sc:Scope} {wi:TI} {tt:TT} {te:TE} (caps:List Nat) (capsN:List Str)
    (hi:PI X (.Name x px) iter wi hb)
    (ht:∀ cl C s H ex pn,PTs (cxComp X (x :: capsN) sc cl C s H ex pn) ifs tt)
    (he:∀ cl C s H ex pn,PE (cxComp X (x :: capsN) sc cl C s H ex pn) elt te)
    (hkind:sc.kind = .function) (hcell:∀ y ∈ sc.names,y.2 ≠ .cell) (hnames:∀ y ∈ sc.names,y.2 = .local→sc.names.lookup y.1 = some .local) (hx:sc.names.lookup x = some .local)
    (hfr:∀ y ∈ sc.names,y.2 = .free→y.1 ∈ capsN)
    (hcap:∀ (j:Nat) (y:Str),capsN[j]? = some y→∃ i:Nat,caps[j]? = some i∧X.N[i]? = some y∧sc.names.lookup y = some .free∧(X.env.kindOf y = some .cell∨X.env.kindOf y = some .free)) (hlen:caps.length = capsN.length)
    (hnd:(x :: capsN).Nodup) (hc:X.calm = true∨(hb = true∧∀ s H,HOk X.prog X.w H s.heap→Gs H→HandQ X s)) (kW:∀ J p cs Q H1,CW J p cs Q H1→CompWG Gs J p tt te cs Q H1)
    (hs:∀ x,foldedSetIterable iter X.env x = pure x:=by intro _; rfl) :
    PE X (.ListComp elt [⟨.Name x px,iter,ifs,0⟩] sc pos) (tCompC CW wi caps):=by
  intro pins s σ H Q I h
  rw [eval_ListComp]
  exact comp_go (use:=none) caps capsN hi ht he hkind hcell hnames hx hfr hcap hlen hnd hc kW hs I h fun C p H5 s5 ⟨m,hn⟩ I5 f q=>⟨m,hn,fun h' sb=>⟨.ref p,H5,I5.turned (t':=s5.toks) (fun b o hb e=>(sb.2 b hb).trans e) f.1 f.2.1 f.2.2.2.1 f.2.2.2.2.1 f.2.2.2.2.2,rfl,q⟩⟩
theorem ps_setC {X:Cx} {Gs:Hp→Prop} {hb:Bool} {CW:It→Addr→St→VK→Hp→Prop} {elt iter:Expr} {ifs:List Expr} {x y:Str} {px pos pos' pos2:Pos} {sc:Scope} {wi:TI} {tt:TT} {te:TE} {i:Nat} (hN:X.N.Nodup) (hiN:X.N[i]? = some y) (hy:X.env.scope.names.lookup y = some .local) (caps:List Nat) (capsN:List Str)
    (hi:PI X (.Name x px) iter wi hb)
    (ht:∀ cl C s H ex pn,PTs (cxComp X (x :: capsN) sc cl C s H ex pn) ifs tt)
    (he:∀ cl C s H ex pn,PE (cxComp X (x :: capsN) sc cl C s H ex pn) elt te)
    (hkind:sc.kind = .function) (hcell:∀ y ∈ sc.names,y.2 ≠ .cell) (hnames:∀ y ∈ sc.names,y.2 = .local→sc.names.lookup y.1 = some .local) (hx:sc.names.lookup x = some .local)
    (hfr:∀ y ∈ sc.names,y.2 = .free→y.1 ∈ capsN)
    (hcap:∀ (j:Nat) (y:Str),capsN[j]? = some y→∃ i:Nat,caps[j]? = some i∧X.N[i]? = some y∧sc.names.lookup y = some .free∧(X.env.kindOf y = some .cell∨X.env.kindOf y = some .free)) (hlen:caps.length = capsN.length)
    (hnd:(x :: capsN).Nodup) (hc:X.calm = true∨(hb = true∧∀ s H,HOk X.prog X.w H s.heap→Gs H→HandQ X s)) (kW:∀ J p cs Q H1,CW J p cs Q H1→CompWG Gs J p tt te cs Q H1)
    (hsw:swapsWith (.ListComp elt [⟨.Name x px,iter,ifs,0⟩] sc pos) (some (.Name y pos')) pos2.line X.env = pure true:=by rfl)
    (hs:∀ x,foldedSetIterable iter X.env x = pure x:=by intro _; rfl) :
    PS X (.Assign [.Name y pos'] (.ListComp elt [⟨.Name x px,iter,ifs,0⟩] sc pos) pos2) (tAsg (tCompC CW wi caps) (gName i)):=by
  intro pins s σ H D I h
  rw [exec_Assign_Name_used _ _ _ _ hsw,arm_evalThenUse_ListComp]
  refine wpAny_bind (wpAny_standAt (wpAny_bind (wpAny_bind (comp_go (use:=some (assign (.Name y pos') X.env)) caps capsN hi ht he hkind hcell hnames hx hfr hcap hlen hnd hc kW hs I h fun C p H5 s5 ⟨m,hn⟩ I5 f q=>?_))))
  refine wpAny_assign_Name (store_ok2 I5 hN hiN (.inl hy) (show RelV (.ref p) (.ref p) from rfl) (fun s6 I6 ⟨a,sb,ha⟩=>?_) (.inr hy))
  have nC:C ≠ a:=by
    rcases ha with ha | ha
    · rw [ha]; exact f.2.1
    · exact fun z=>f.2.2.2.2.1 y a ha z.symm
  obtain ⟨o,es,ep,ho,r⟩:=hn
  refine ⟨m,⟨o,es,ep,(sb.2 C nC).trans ho,r⟩,fun h' sb'=>?_⟩
  have I7:=I6.turned (t':=s6.toks) (h':=h') (fun b o hb e=>(sb'.2 b hb).trans e) f.1 f.2.1 f.2.2.2.1 f.2.2.2.2.1 f.2.2.2.2.2
  exact wpAny_pure (wpAny_pure ⟨_,H5,I7,q⟩)
theorem CompW.g {J:It} {p:Addr} {tt:TT} {te:TE} {cs:St} {Q:VK} {H1:Hp} (h:CompW J p tt te cs Q H1):CompWG (fun _=>True) J p tt te cs Q H1:=by
  obtain ⟨W,h0,h1⟩:=h
  refine ⟨W,h0,fun i m ys H2 w=>?_⟩
  rcases h1 i m ys H2 w with ⟨a,b⟩ | ⟨a,b⟩
  · exact .inl ⟨a,trivial,b⟩
  · exact .inr ⟨a,trivial,b⟩
theorem pe_comp {X:Cx} {elt iter:Expr} {ifs:List Expr} {x:Str} {px pos:Pos} {sc:Scope} {wi:TI} {tt:TT} {te:TE} (caps:List Nat) (capsN:List Str)
    (hi:PI X (.Name x px) iter wi)
    (ht:∀ cl C s H ex pn,PTs (cxComp X (x :: capsN) sc cl C s H ex pn) ifs tt)
    (he:∀ cl C s H ex pn,PE (cxComp X (x :: capsN) sc cl C s H ex pn) elt te)
    (hkind:sc.kind = .function) (hcell:∀ y ∈ sc.names,y.2 ≠ .cell) (hnames:∀ y ∈ sc.names,y.2 = .local→sc.names.lookup y.1 = some .local) (hx:sc.names.lookup x = some .local)
    (hfr:∀ y ∈ sc.names,y.2 = .free→y.1 ∈ capsN)
    (hcap:∀ (j:Nat) (y:Str),capsN[j]? = some y→∃ i:Nat,caps[j]? = some i∧X.N[i]? = some y∧sc.names.lookup y = some .free∧(X.env.kindOf y = some .cell∨X.env.kindOf y = some .free)) (hlen:caps.length = capsN.length)
    (hnd:(x :: capsN).Nodup) (hc:X.calm = true)
    (hs:∀ x,foldedSetIterable iter X.env x = pure x:=by intro _; rfl) :
    PE X (.ListComp elt [⟨.Name x px,iter,ifs,0⟩] sc pos) (tComp wi tt te caps) :=
  pe_compG (Gs:=fun _=>True) (hb:=false) (CW:=fun J p cs Q H1=>CompW J p tt te cs Q H1) caps capsN hi ht he hkind hcell hnames hx hfr hcap hlen hnd (.inl hc) (fun _ _ _ _ _ h=>h.g) hs
theorem comp_by {J:It} {p:Addr} {tt:TT} {te:TE} {cs:St} {Q:VK} {H1:Hp} (n:Nat) (Pv:Nat→List V→Hp→Prop) (h0:Pv 0 [] (upd H1 p (.lst [])))
    (hs:∀ i ys H,i < n→Pv i ys H→J.go i H∧∀ v H3,J.yld i H v H3→tt (some v :: cs) H3 fun b H4=>if b = true then te (some v :: cs) H4 fun y H5=>H5 p = some (.lst ys)∧ys.length < sizeLine∧Pv (i + 1) (ys ++ [y]) (upd H5 p (.lst (ys ++ [y]))) else Pv (i + 1) ys H4)
    (hd:∀ ys H,Pv n ys H→J.stop n H∧Q (.ref p) H):CompW J p tt te cs Q H1:=by
  refine ⟨fun i m ys H=>m = n - i∧i ≤ n∧Pv i ys H,⟨n,by simp,Nat.zero_le _,h0⟩,?_⟩
  rintro i m ys H ⟨rfl,hi,pv⟩
  by_cases hlt:i < n
  · obtain ⟨g,st⟩:=hs i ys H hlt pv
    exact .inr ⟨g,Pv (i + 1),fun ys' H' p'=>⟨n - (i + 1),by lia,rfl,hlt,p'⟩,st⟩
  · have e:i = n:=by lia
    subst e
    exact .inl (hd ys H pv)
section
variable {X:Cx}
theorem call_isinst:CallR X (.builtin "isinstance") (fun vs H Q=>∃ x T t b,vs = [x,.ty T]∧TyOf X.K H x t∧PySem.W.kitOne X.K t (.type T) = some b∧Q (.bl b) H):=by
  intro pins s σ H xs us Q I r h
  obtain ⟨x,T,t,b,rfl,ty,e,q⟩:=h
  obtain ⟨u,v,rfl,rx,rv⟩:=r.two
  cases (show v = Value.type T from rv)
  exact isinst_ok I rx ty e fun tk=>⟨.bl b,H,I.tok tk,rfl,q⟩
theorem strsAre_of {ys:List Str}:∀ {us:List Value},Vals (ys.map V.str) us→StrsAre us ys:=by
  induction ys with
  | nil=>intro us r; rw [List.map_nil] at r; cases r; exact .nil
  | cons y ys ih =>
    intro us r
    rw [List.map_cons] at r
    cases r with
    | cons r1 r2 =>
      obtain ⟨t,e⟩:=r1
      subst e
      exact .cons y t (ih r2)
def rJoin (K:PySem.W.Frag):V→List V→Hp→VK→Prop:=fun x xs H Q=>∃ z p ys,x = .str z∧xs = [.ref p]∧SqL K H p (ys.map V.str)∧(ys.map (·.length)).sum + ys.length * z.length ≤ 16777216∧Q (.str (Txt.join z ys)) H
theorem mt_join:MtR X "str.join" (rJoin X.K):=by
  intro pins s σ H x xs v us Q I rx rs h
  obtain ⟨z,p,ys,rfl,rfl,hq,hz,q⟩:=h
  obtain ⟨t,rfl⟩:=rx
  obtain ⟨u,rfl,ru⟩:=rs.one
  cases ru
  obtain ⟨its,r,pl,_⟩:=I.list hq
  exact join_list pl.isList (strsAre_of (by simpa using r)) hz fun t' k=>⟨.str _,H,I.tok k,⟨_,rfl⟩,q⟩
def rSlS:V→Option Int→Option Int→Hp→VK→Prop:=fun x lo hi H Q=>∃ z,x = .str z∧z.length ≤ sizeLine∧Q (.str (Txt.slice z lo hi)) H
theorem sl_str:SlR X rSlS:=by
  intro pins s σ H x v vl vu lo hi sl Q I rx hs pl pu h
  obtain ⟨z,rfl,hz,q⟩:=h
  obtain ⟨t,rfl⟩:=rx
  refine ⟨"str",_,PySem.F.slot_str_getitem.lookup,typeIs_str _ _ _,?_⟩
  obtain ⟨o,ho,hc,hd⟩:=hs
  have fin:∀ {l u:Option Int},(∀ t' k,EP X pins σ Q (.str (Txt.slice z l u) t') { s with toks:=k })→∀ t' k,EP X pins σ Q (.str (Txt.slice z l u) t') { s with toks:=k }:=fun h=>h
  cases pl with
  | none =>
    cases pu with
    | none=>exact wpAny_getItem_str_slice (l:=none) (u:=none) (st:=none) ⟨o,ho,hc,hd⟩ rfl (post_val_or_str ⟨Nat.le_trans (Txt.slice_le z _ _) hz,fun t' k=>⟨.str _,H,I.tok k,⟨_,rfl⟩,q⟩⟩)
    | int j uj=>exact wpAny_getItem_str_slice (l:=none) (u:=some (j,uj)) (st:=none) ⟨o,ho,hc,hd⟩ rfl (post_val_or_str ⟨Nat.le_trans (Txt.slice_le z _ _) hz,fun t' k=>⟨.str _,H,I.tok k,⟨_,rfl⟩,q⟩⟩)
  | int i ui =>
    cases pu with
    | none=>exact wpAny_getItem_str_slice (l:=some (i,ui)) (u:=none) (st:=none) ⟨o,ho,hc,hd⟩ rfl (post_val_or_str ⟨Nat.le_trans (Txt.slice_le z _ _) hz,fun t' k=>⟨.str _,H,I.tok k,⟨_,rfl⟩,q⟩⟩)
    | int j uj=>exact wpAny_getItem_str_slice (l:=some (i,ui)) (u:=some (j,uj)) (st:=none) ⟨o,ho,hc,hd⟩ rfl (post_val_or_str ⟨Nat.le_trans (Txt.slice_le z _ _) hz,fun t' k=>⟨.str _,H,I.tok k,⟨_,rfl⟩,q⟩⟩)
def eqVs:List V→List V→Bool
  | [],[]=>true
  | x :: xs,y :: ys=>eqV x y && eqVs xs ys
  | _,_=>false
theorem eqVs_len:∀ {xs ys:List V},xs.length ≠ ys.length→eqVs xs ys = false
  | [],[],h=>absurd rfl h
  | [],_ :: _,_=>rfl
  | _ :: _,[],_=>rfl
  | x :: xs,y :: ys,h=>by
    have h':xs.length ≠ ys.length:=fun e=>h (by rw [List.length_cons,List.length_cons,e])
    show (eqV x y && eqVs xs ys) = false
    rw [eqVs_len h',Bool.and_false]
def eqAtN (xs ys:List V) (j:Nat):Bool:=match xs[j]?,ys[j]? with
  | some a,some b=>eqV a b
  | _,_=>false
theorem all_eqAtN:∀ {xs ys:List V},xs.length = ys.length→(List.range xs.length).all (eqAtN xs ys) = eqVs xs ys
  | [],[],_=>rfl
  | [],_ :: _,h=>by simp at h
  | _ :: _,[],h=>by simp at h
  | x :: xs,y :: ys,h=>by
    have h':xs.length = ys.length:=by simpa using h
    rw [List.length_cons,List.range_succ_eq_map,List.all_cons,List.all_map]
    have e:((eqAtN (x :: xs) (y :: ys)) ∘ Nat.succ) = eqAtN xs ys:=by
      funext j
      simp [eqAtN]
    rw [e,all_eqAtN h']
    rfl
theorem items_eqAt {A:Around} {s:Shared} {xs ys:List V} {us vs:List Value} (r:Vals xs us) (q:Vals ys vs) (fx:xs.all flatV = true) (fy:ys.all flatV = true) (j:Nat) (h1:j < us.toArray.size) (h2:j < vs.toArray.size) :
    SeqAt.EqAt A s us.toArray[j] vs.toArray[j] (eqAtN xs ys j):=by
  have l1:=r.length
  have l2:=q.length
  have h1':j < xs.length:=by rw [l1]; simpa using h1
  have h2':j < ys.length:=by rw [l2]; simpa using h2
  obtain ⟨u,eu,ru⟩:=r.get (i:=j) (x:=xs[j]) (by simp [h1'])
  obtain ⟨v,ev,rv⟩:=q.get (i:=j) (x:=ys[j]) (by simp [h2'])
  have e1:us.toArray[j] = u:=by
    obtain ⟨_,e⟩:=List.getElem?_eq_some_iff.mp eu
    simpa using e
  have e2:vs.toArray[j] = v:=by
    obtain ⟨_,e⟩:=List.getElem?_eq_some_iff.mp ev
    simpa using e
  have e3:eqAtN xs ys j = eqV xs[j] ys[j]:=by simp [eqAtN,h1',h2']
  rw [e1,e2,e3]
  exact eqAt_V ru rv (List.all_eq_true.mp fx _ (List.getElem_mem h1')) (List.all_eq_true.mp fy _ (List.getElem_mem h2'))
def rEqL (K:PySem.W.Frag) (neg:Bool):R2:=fun x y H Q=>∃ a b xs ys,x = .ref a∧y = .ref b∧SqL K H a xs∧SqL K H b ys∧xs.all flatV = true∧ys.all flatV = true∧Q (.bl (if neg then !eqVs xs ys else eqVs xs ys)) H
theorem op_eqL (hu:X.A.units < cLine):OpR X (compareOp .Eq) (rEqL X.K false):=by
  intro pins s σ H x y v u Q I rx ry h
  obtain ⟨a,b,xs,ys,rfl,rfl,ha,hb,fx,fy,q⟩:=h
  cases rx
  cases ry
  obtain ⟨its,r1,p1,_⟩:=I.list ha
  obtain ⟨its2,r2,p2,_⟩:=I.list hb
  have l1:=r1.length
  have l2:=r2.length
  by_cases hl:xs.length = ys.length
  · refine SeqAt.eq_listAt (e:=eqAtN xs ys) p1.isList p2.isList (by simp; lia) hu (fun j h1 h2=>items_eqAt r1 r2 fx fy j h1 h2) ⟨.bl _,H,I,rfl,?_⟩
    rw [List.size_toArray,← l1,all_eqAtN hl]
    exact q
  · refine SeqAt.eq_list_lengthsAt p1.isList p2.isList (by simp; lia) hu ⟨.bl false,H,I,rfl,?_⟩
    have e:=eqVs_len hl
    simp only [e] at q
    exact q
theorem op_neL (hu:X.A.units < cLine):OpR X (compareOp .NotEq) (rEqL X.K true):=by
  intro pins s σ H x y v u Q I rx ry h
  obtain ⟨a,b,xs,ys,rfl,rfl,ha,hb,fx,fy,q⟩:=h
  cases rx
  cases ry
  obtain ⟨its,r1,p1,_⟩:=I.list ha
  obtain ⟨its2,r2,p2,_⟩:=I.list hb
  have l1:=r1.length
  have l2:=r2.length
  by_cases hl:xs.length = ys.length
  · refine SeqAt.RcNeAt.lists (e:=eqAtN xs ys) p1.isList p2.isList (by simp; lia) hu (fun j h1 h2=>items_eqAt r1 r2 fx fy j h1 h2) _ _ _ _ ⟨.bl _,H,I,rfl,?_⟩
    rw [List.size_toArray,← l1,all_eqAtN hl]
    exact q
  · refine SeqAt.RcNeAt.lists_lengths p1.isList p2.isList (by simp; lia) hu _ _ _ _ ⟨.bl true,H,I,rfl,?_⟩
    have e:=eqVs_len hl
    simp only [e] at q
    exact q
theorem op_fdivB:OpR X (binaryOp .FloorDiv) (rI (fun _ j=>0 < j∧j.natAbs.log2 < 9000) fun i j=>.int (i / j)):=opI fun i j _ _ _ _ _ hc q=>by
  have h1:(0:Int) < j:=hc.1
  exact floordiv_int (by lia) (by rw [Int.fdiv_eq_ediv_of_nonneg i (by lia)]; exact q) (.inl (PyProof.noPylong_of_log2 hc.2))
theorem cat_all {prog:Program} {w:World} {A:Around} {E:Value→Shared→Prop} {s:Shared} {t b:Addr} {vs ws:List Value} {Q:Value→Shared→Prop} (ht:IsTup s.heap t vs.toArray) (hb:IsTup s.heap b ws.toArray) (hv:vs = [])
    (h0:Q (.ref b) s):wpAny (model prog w) A (binaryOp .Add (.ref t) (.ref b)) Q E s:=by
  obtain ⟨⟨cls,dd,data,sl⟩,ho,hc,n,hd⟩:=id ht
  obtain ⟨⟨cls2,dd2,data2,sl2⟩,ho2,hc2,n2,hd2⟩:=id hb
  simp only at hc hd hc2 hd2
  subst hc hd hc2 hd2
  exact concat_meets ⟨_,ho,rfl⟩ ⟨_,ho2,rfl⟩ noFill_tuple_add seq_tuple_add PySem.F.slot_tuple_add PySem.F.entry_tuple_add (PySem.F.args_tuple_add_2 _ _) (tuple_addW0 t b _ _ n n2 dd dd2 sl sl2 (by simp [hv])) ⟨ho,ho2,h0⟩
def rCatA:R2:=fun x y H Q=>∃ a b xs ys,x = .ref a∧y = .ref b∧H a = some (.tup xs)∧H b = some (.tup ys)∧xs.length + ys.length ≤ sizeLine∧∀ r H',Same H H'→H' r = some (.tup (xs ++ ys))→Q (.ref r) H'
theorem op_catA:OpR X (binaryOp .Add) rCatA:=by
  intro pins s σ H x y v u Q I rx ry h
  obtain ⟨a,b,xs,ys,rfl,rfl,ha,hb,hz,q⟩:=h
  by_cases hx:xs = []
  · cases rx
    cases ry
    obtain ⟨its,r1,p1,_⟩:=I.tuple (SqT.of ha)
    obtain ⟨its2,r2,p2,_⟩:=I.tuple (SqT.of hb)
    refine cat_all p1 p2 (r1.nil_iff.mpr hx) ⟨.ref b,H,I,rfl,q b H (Same.refl H) ?_⟩
    rw [hx]
    exact hb
  · refine op_catT pins s σ H (.ref a) (.ref b) v u Q I rx ry ⟨a,b,xs,ys,rfl,rfl,SqT.of ha,SqT.of hb,hx,hz,fun e=>q a H (Same.refl H) ?_,fun _ p hp=>q p _ (fun c o e=>by rw [upd_ne (ne_of_none e hp)]; exact e) upd_same⟩
    rw [e,List.append_nil]
    exact ha
end
end L2
namespace L2
open PySem PySem.Spec PyProof.Rows
section
variable {M:Model} {A:Around} {E:Value→Shared→Prop} {s:Shared}
end
end L2
namespace L2
open PySem PySem.Spec PyProof.Rows PySem.W PySem.Builtin PySem.Builtin.ObjectAttr
section
variable {prog:Program} {w:World} {A:Around} {E:Value→Shared→Prop} {s:Shared} {K:Frag} {x C:Addr} {ox:Obj} {od:Option Obj} {R:Result→Shared→Prop}
end
end L2
namespace L2
open PySem PySem.Spec PyProof.Rows PySem.W
section
variable {prog:Program} {w:World} {A:Around} {E:Value→Shared→Prop} {h:Heap} {g:Array GenState} {d:Drawn} {t:Nat} {os:OsState} {nm q:Str} {C N fI:Addr} {bs bm bmB rest:List Value} {hdct:Bool} {sn:List Str} {sub:List Value}
  {ab:Bool} {col:Option Bool} {dd:Option Addr} {k0 k1 k2 k3 k5:Option Value} {B newId initId:String}
end
end L2
namespace L2
open PySem PySem.Spec PyProof.Rows PySem.W
section
variable {M:Model} {A:Around} {E:Value→Shared→Prop} {h:Heap} {g:Array GenState} {d:Drawn} {t:Nat} {os:OsState} {nm q:Str} {C N:Addr} {bs bm:List Value} {hdct:Bool} {sn:List Str} {sub:List Value}
  {ab:Bool} {col:Option Bool} {dd:Option Addr} {k0 k1 k2 k3 k5:Option Value} {newId:String} {env:Env}
variable {nm2 q2:Str} {D N2:Addr} {bs2 bm2:List Value} {hdct2:Bool} {sn2:List Str} {sub2:List Value} {ab2:Bool} {col2:Option Bool} {dd2:Option Addr} {j0 j1 j2 j3 j5:Option Value} {newId2:String}
end
end L2
namespace L2
open PySem PySem.Spec PyProof.Rows PySem.W
section
variable {P:Program} {w:World} {H:Hp} {h:Heap} {e C dx:Addr} {dd:Option Addr} {tb:Value} {fs:List (Str×V)}
end
section
variable {X:Cx} {pins:List (Addr×Obj)} {σ:St} {H:Hp} {s:Shared} {h':Heap} {ea C T:Addr} {dd:Option Addr} {tb:Value}
end
section
variable {X:Cx} {pins:List (Addr×Obj)} {σ:St} {H:Hp} {s s':Shared} {E:XK} {e:Value}
end
end L2
namespace L2
open PySem PySem.Spec PyProof.Rows PySem.W
section
variable {X:Cx} {CX:CXT} {k:Nat} {f C:Addr} {bm:List Value} {fd:FuncData} {ps:List Str} {sp:Sp} {dvs:List V} {ds:List Value} {E:XK} {x m:Str} {p pos apos:Pos} {e o:Expr} {es:List Expr} {ta:TE} {t:TA}
end
section
variable {X:Cx} {pins:List (Addr×Obj)} {σ:St} {H:Hp} {s:Shared} {a C dx:Addr} {fs:List (Str×V)} {f:Str} {A:Around} {E:Value→Shared→Prop}
end
section
variable {X:Cx} {o e value:Expr} {f:Str} {pos pos' tpos:Pos} {ta tv:TE}
end
section
variable {X:Cx} {C:Addr} {bm:List Value} {x:Str} {p pos:Pos}
end
end L2
namespace L2
open PySem PySem.Spec PyProof.Rows PySem.W
section
variable {X:Cx} {k:Nat} {f C:Addr} {fd:FuncData} {ps:List Str} {sp:Sp} {dvs:List V} {ds:List Value} {E:XK} {x m:Str} {p pos apos:Pos} {e o:Expr} {es:List Expr} {ta:TE} {t:TA}
end
section
variable {X:Cx} {pins:List (Addr×Obj)} {σ:St} {H:Hp} {s:Shared} {ea:Addr}
end
section
variable {X:Cx} {body suite:List Stmt} {b₀:Stmt} {tb:TB} {ts:Addr→TS} {wn n:Str} {D:Addr} {bmD:List Value} {i:Nat} {np hpos pos:Pos}
end
end L2
namespace L2
open PySem PySem.Spec PyProof.Rows PySem.W
section
variable {X:Cx} {rest:List ExceptHandler} {suite:List Stmt} {b₀:Stmt} {ts:Addr→TS} {tr:THs} {wn n:Str} {D:Addr} {bmD:List Value} {i:Nat} {np hpos pos:Pos}
end
end L2
namespace L2
open PySem PySem.Spec PyProof.Rows PySem.W
section
variable {X:Cx} {E:XK}
end
section
variable {X:Cx} {k:Nat} {f C:Addr} {fd:FuncData} {ps:List Str} {sp:Sp} {dvs:List V} {ds:List Value} {x m:Str} {p pos apos:Pos} {e o:Expr} {es:List Expr} {ta:TE} {t:TA}
end
end L2
namespace L2
open PySem PySem.Spec PyProof.Rows
section
variable {X:Cx}
theorem op_alt {f:Value→Value→Sem Value} {r r':R2} (h:OpR X f r) (h':OpR X f r'):OpR X f (fun x y H Q=>r x y H Q∨r' x y H Q):=by
  intro pins s σ H x y v u Q I rx ry q
  rcases q with q | q
  · exact h pins s σ H x y v u Q I rx ry q
  · exact h' pins s σ H x y v u Q I rx ry q
end
end L2
namespace L2
open PySem PySem.Spec PyProof.Rows
section
variable {P:Program} {w:World} {K:PySem.W.Frag} {mg:Str→Option Value} {base:Heap}
theorem same_new {H:Hp} {p:Addr} (h:H p = none) (o:HO):Same H (upd H p o):=fun b u q=>by rw [upd_ne (ne_of_none q h)]; exact q
theorem same_over {H H':Hp} {p:Addr} (s:Same H H') (h:H p = none) (o:HO):Same H (upd H' p o):=fun b u q=>by rw [upd_ne (ne_of_none q h)]; exact s b u q
theorem small {n:Nat} (h:n ≤ 100000):n < sizeLine:=Nat.lt_of_le_of_lt h (by decide)
theorem codes_len (x:Str):x.cps.toList.length = x.length:=by simp [Str.length]
theorem comp_list {a p:Addr} {xs:List V} {tt:TT} {te:TE} {cs:St} {Q:VK} {H1:Hp} (Pv:Nat→List V→Hp→Prop) (h0:Pv 0 [] (upd H1 p (.lst []))) (hl:∀ i ys H,i ≤ xs.length→Pv i ys H→SqL K H a xs)
    (hs:∀ i x ys H,xs[i]? = some x→Pv i ys H→tt (some x :: cs) H fun b H4=>if b = true then te (some x :: cs) H4 fun y H5=>H5 p = some (.lst ys)∧ys.length < sizeLine∧Pv (i + 1) (ys ++ [y]) (upd H5 p (.lst (ys ++ [y]))) else Pv (i + 1) ys H4)
    (hd:∀ ys H,Pv xs.length ys H→Q (.ref p) H):CompW (Itl K a) p tt te cs Q H1 :=
  comp_by xs.length Pv h0 (fun i ys H hi pv=>⟨⟨xs,xs[i],hl i ys H (Nat.le_of_lt hi) pv,by simp [hi]⟩,fun v H3 ⟨e,y⟩=>by
    subst e
    exact hs i v ys _ (y xs (hl i ys _ (Nat.le_of_lt hi) pv)) pv⟩) fun ys H pv=>⟨⟨xs,hl _ ys H (Nat.le_refl _) pv,Nat.le_refl _⟩,hd ys H pv⟩
theorem new_free {H:Hp} {p q:Addr} {o:HO} (h:upd H p o q = none):q ≠ p∧H q = none:=by
  have n:q ≠ p:=fun z=>by rw [z,upd_same] at h; cases h
  rw [upd_ne n] at h
  exact ⟨n,h⟩
structure Has (K:PySem.W.Frag) (mg:Str→Option Value) (x:Str) (st:Stmt) (ps:List Str) (f:Addr) (fd:FuncData):Prop where
  fn:Fun K x x st f fd
  bd:Binds K fd ps []
  nm:mg x = some (.ref f)
end
end L2
namespace L2
open PySem PyProof.Rows
end L2
namespace L2
open PySem PySem.Spec PyProof.Rows
section
variable {κ:Type} [DecidableEq κ]
def valV (kvs:List (κ×V)) (k:κ):Option V:=(kvs.find? fun kv=>decide (kv.1 = k)).map (·.2)
def putK (kvs:List (κ×V)) (k:κ) (v:V):List (κ×V) :=
  if (kvs.any fun kv=>decide (kv.1 = k)) = true then kvs.map (fun kv=>if kv.1 = k then (kv.1,v) else kv) else kvs ++ [(k,v)]
theorem valV_pos {p:κ×V} {r:List (κ×V)} {k:κ} (e:p.1 = k):valV (p :: r) k = some p.2:=by simp [valV,List.find?_cons,e]
theorem valV_neg {p:κ×V} {r:List (κ×V)} {k:κ} (e:¬ p.1 = k):valV (p :: r) k = valV r k:=by simp [valV,List.find?_cons,e]
theorem valV_any (k:κ):∀ kvs:List (κ×V),(kvs.any fun kv=>decide (kv.1 = k)) = (valV kvs k).isSome
  | []=>rfl
  | p :: r=>by
    rw [List.any_cons]
    by_cases e:p.1 = k
    · simp only [valV_pos e,decide_eq_true e,Bool.true_or,Option.isSome_some]
    · rw [valV_neg e,decide_eq_false e,Bool.false_or]; exact valV_any k r
theorem valV_map (k j:κ) (y:V):∀ kvs:List (κ×V),valV (kvs.map fun kv=>if kv.1 = k then (kv.1,y) else kv) j = (valV kvs j).map fun x=>if j = k then y else x
  | []=>rfl
  | p :: r=>by
    have ih:=valV_map k j y r
    rw [List.map_cons]
    by_cases h:p.1 = k
    · rw [if_pos h]
      by_cases e:p.1 = j
      · rw [valV_pos (p:=(p.1,y)) e,valV_pos e,Option.map_some,if_pos (e.symm.trans h)]
      · rw [valV_neg (p:=(p.1,y)) e,valV_neg e,ih]
    · rw [if_neg h]
      by_cases e:p.1 = j
      · rw [valV_pos (p:=p) e,valV_pos e,Option.map_some,if_neg (fun z=>h (e.trans z))]
      · rw [valV_neg (p:=p) e,valV_neg e,ih]
theorem valV_snoc (k j:κ) (y:V):∀ kvs:List (κ×V),valV kvs k = none→valV (kvs ++ [(k,y)]) j = if j = k then some y else valV kvs j
  | [],_=>by
    by_cases e:k = j
    · rw [if_pos e.symm]; exact valV_pos (p:=(k,y)) e
    · rw [if_neg (fun z=>e z.symm)]; exact valV_neg (p:=(k,y)) e
  | p :: r,hn=>by
    rw [List.cons_append]
    have hk:¬ p.1 = k:=fun z=>by rw [valV_pos z] at hn; cases hn
    rw [valV_neg hk] at hn
    have ih:=valV_snoc k j y r hn
    by_cases e:p.1 = j
    · rw [valV_pos e,valV_pos e,if_neg (fun z=>hk (e.trans z))]
    · rw [valV_neg e,valV_neg e,ih]
theorem valV_put (kvs:List (κ×V)) (k j:κ) (y:V):valV (putK kvs k y) j = if j = k then some y else valV kvs j:=by
  unfold putK
  by_cases a:(kvs.any fun kv=>decide (kv.1 = k)) = true
  · rw [if_pos a,valV_map]
    rw [valV_any] at a
    by_cases e:j = k
    · obtain ⟨x,hx⟩:=Option.isSome_iff_exists.mp a
      rw [if_pos e,e,hx,Option.map_some,if_pos rfl]
    · rw [if_neg e]
      cases valV kvs j with
      | none=>rfl
      | some x=>rw [Option.map_some,if_neg e]
  · rw [if_neg a]
    refine valV_snoc k j y kvs ?_
    rw [valV_any] at a
    cases q:valV kvs k with
    | none=>rfl
    | some x=>rw [q] at a; exact (a rfl).elim
theorem length_putK (kvs:List (κ×V)) (k:κ) (v:V):(putK kvs k v).length ≤ kvs.length + 1:=by
  unfold putK
  split
  · rw [List.length_map]; lia
  · rw [List.length_append,List.length_cons,List.length_nil]; lia
theorem RelO.isSome_eq {o:Option V} {u:Option Value} (r:RelO o u):o.isSome = u.isSome:=by
  cases o with
  | none=>cases u with
    | none=>rfl
    | some _=>exact (show False from r).elim
  | some _=>cases u with
    | none=>exact (show False from r).elim
    | some _=>rfl
theorem RelO.getD {o:Option V} {u:Option Value} {d:V} {d':Value} (r:RelO o u) (rd:RelV d d'):RelV (o.getD d) (u.getD d'):=by
  cases o with
  | none=>cases u with
    | none=>exact rd
    | some _=>exact (show False from r).elim
  | some _=>cases u with
    | none=>exact (show False from r).elim
    | some _=>exact r
theorem KV.val {kvs:List (κ×V)} {vs:List (κ×Value)} (r:KV kvs vs) (k:κ):RelO (valV kvs k) (valueAt vs k):=by
  unfold KV at r
  induction r with
  | nil=>exact True.intro
  | @cons p q ps qs h t ih =>
    obtain ⟨h1,h2⟩:=h
    by_cases e:p.1 = k
    · have e':q.1 = k:=h1.symm.trans e
      have b:valueAt (q :: qs) k = some q.2:=by simp [valueAt,List.find?_cons,e']
      rw [valV_pos e,b]; exact h2
    · have e':¬ q.1 = k:=fun z=>e (h1.trans z)
      have b:valueAt (q :: qs) k = valueAt qs k:=by simp [valueAt,List.find?_cons,e']
      rw [valV_neg e,b]; exact ih
theorem KV.any {kvs:List (κ×V)} {vs:List (κ×Value)} (r:KV kvs vs) (k:κ):(kvs.any fun kv=>decide (kv.1 = k)) = vs.any fun kv=>decide (kv.1 = k):=by
  unfold KV at r
  induction r with
  | nil=>rfl
  | cons h t ih=>rw [List.any_cons,List.any_cons,ih,h.1]
theorem KV.repl {kvs:List (κ×V)} {vs:List (κ×Value)} (r:KV kvs vs) (k:κ) {y:V} {u:Value} (ry:RelV y u) :
    KV (kvs.map fun kv=>if kv.1 = k then (kv.1,y) else kv) (vs.map fun kv=>if kv.1 = k then (kv.1,u) else kv):=by
  unfold KV at r ⊢
  induction r with
  | nil=>exact .nil
  | @cons p q ps qs h t ih =>
    rw [List.map_cons,List.map_cons]
    refine .cons ?_ ih
    obtain ⟨h1,h2⟩:=h
    by_cases e:p.1 = k
    · rw [if_pos e,if_pos (h1.symm.trans e)]; exact ⟨h1,ry⟩
    · rw [if_neg e,if_neg (fun z=>e (h1.trans z))]; exact ⟨h1,h2⟩
theorem KV.put {kvs:List (κ×V)} {vs:List (κ×Value)} (r:KV kvs vs) (k:κ) {y:V} {u:Value} (ry:RelV y u):KV (putK kvs k y) (stored vs k u):=by
  unfold putK stored
  rw [r.any k]
  by_cases e:(vs.any fun kv=>decide (kv.1 = k)) = true
  · rw [if_pos e,if_pos e]; exact r.repl k ry
  · rw [if_neg e,if_neg e]; exact Paired.snoc r ⟨rfl,ry⟩
theorem KV.length {kvs:List (κ×V)} {vs:List (κ×Value)} (r:KV kvs vs):kvs.length = vs.length:=Paired.length r
end
theorem kV_is {P:Program} {w:World} {k:Key} {u:Value} (r:RelV (kV k) u):(mixKind P w).is k u = true:=by
  cases k with
  | inl i=>obtain ⟨t,e⟩:=(show ∃ t,u = Value.int i t from r); subst e; exact mixKind_int P w i t
  | inr x=>obtain ⟨t,e⟩:=(show ∃ t,u = Value.str x t from r); subst e; exact mixKind_str P w x t
theorem items_are {P:Program} {w:World}:∀ {ks:List Key} {us:List Value},Vals (ks.map kV) us→ItemsAre (mixKind P w) ks us
  | [],_,r=>by rw [List.map_nil] at r; cases r; exact .nil
  | k :: ks,_,r=>by
    rw [List.map_cons] at r
    cases r with
    | cons h t=>exact .cons (kV_is h) (items_are t)
abbrev KT (H:Hp):List (List Key×V)→List (List Key×Addr×Value)→Prop:=Paired fun p q=>p.1 = q.1∧H q.2.1 = some (.tup (p.1.map kV))∧RelV p.2 q.2.2
theorem KT.val {H:Hp} {kvs:List (List Key×V)} {xs:List (List Key×Addr×Value)} (r:KT H kvs xs) (k:List Key):RelO (valV kvs k) ((atKey xs k).map (·.2)):=by
  induction r with
  | nil=>exact True.intro
  | @cons p q ps qs h t ih =>
    obtain ⟨h1,_,h2⟩:=h
    by_cases e:p.1 = k
    · have e':q.1 = k:=h1.symm.trans e
      have b:atKey (q :: qs) k = some q.2:=by simp [atKey,List.find?_cons,e']
      rw [valV_pos e,b]; exact h2
    · have e':¬ q.1 = k:=fun z=>e (h1.trans z)
      have b:atKey (q :: qs) k = atKey qs k:=by simp [atKey,List.find?_cons,e']
      rw [valV_neg e,b]; exact ih
theorem KT.repl {H:Hp} {kvs:List (List Key×V)} {xs:List (List Key×Addr×Value)} (r:KT H kvs xs) (k:List Key) {y:V} {u:Value} (ry:RelV y u) :
    KT H (kvs.map fun kv=>if kv.1 = k then (kv.1,y) else kv) (xs.map (putAt k u)):=by
  induction r with
  | nil=>exact .nil
  | @cons p q ps qs h t ih =>
    rw [List.map_cons,List.map_cons]
    refine .cons ?_ ih
    obtain ⟨h1,h2,h3⟩:=h
    unfold putAt
    by_cases e:p.1 = k
    · rw [if_pos e,if_pos (h1.symm.trans e)]; exact ⟨h1,h2,ry⟩
    · rw [if_neg e,if_neg (fun z=>e (h1.trans z))]; exact ⟨h1,h2,h3⟩
theorem KT.put {H:Hp} {kvs:List (List Key×V)} {xs:List (List Key×Addr×Value)} (r:KT H kvs xs) (k:List Key) {b:Addr} {y:V} {u:Value} (hb:H b = some (.tup (k.map kV))) (ry:RelV y u) :
    KT H (putK kvs k y) (storedH xs k b u):=by
  have e:(kvs.any fun kv=>decide (kv.1 = k)) = (atKey xs k).isSome:=by
    rw [valV_any,(r.val k).isSome_eq,Option.isSome_map]
  unfold putK storedH
  rw [e]
  by_cases q:(atKey xs k).isSome = true
  · rw [if_pos q,if_pos q]; exact r.repl k ry
  · rw [if_neg q,if_neg q]; exact Paired.snoc r ⟨rfl,hb,ry⟩
theorem KT.keeps {H H':Hp} {kvs:List (List Key×V)} {xs:List (List Key×Addr×Value)} (r:KT H kvs xs) (ht:∀ b ys,H b = some (.tup ys)→H' b = some (.tup ys)):KT H' kvs xs :=
  Paired.mapP r fun _ _ z=>⟨z.1,ht _ _ z.2.1,z.2.2⟩
section
variable {P:Program} {w:World} {H:Hp} {h:Heap} {a:Addr}
theorem rd_of {u:HO} (ok:HOk P w H h) (e:Rd H a u):ObjOk P w H h a u:=e.ok ok
theorem dk_rd {kvs:List (Key×V)} (ok:HOk P w H h) (e:Rd H a (.dK kvs)):kvs.length ≤ sizeLine∧(a == sysModules) = false∧∃ vs,KV kvs vs∧h.DictOf (mixKind P w) a vs :=
  show ObjOk P w H h a (.dK kvs) from rd_of ok e
theorem dk_of {kvs:List (Key×V)} (ok:HOk P w H h) (e:H a = some (.dK kvs)):kvs.length ≤ sizeLine∧(a == sysModules) = false∧∃ vs,KV kvs vs∧h.DictOf (mixKind P w) a vs:=dk_rd ok (.inl e)
theorem key_of {ks:List Key} (ok:HOk P w H h) (e:H a = some (.tup (ks.map kV))):(tupleKind (mixKind P w)).is h ks a:=by
  obtain ⟨_,its,r,o,h1,h2,n,h3⟩:=(show ObjOk P w H h a (.tup (ks.map kV)) from ok a _ e)
  exact ⟨o,its.toArray,n,h1,h2,h3,by simpa using items_are r⟩
theorem dt_rd {kvs:List (List Key×V)} (ok:HOk P w H h) (e:Rd H a (.dT kvs)):kvs.length ≤ sizeLine∧(a == sysModules) = false ∧
    ∃ xs,KT H kvs xs∧h.DictOfH (tupleKind (mixKind P w)) a xs:=by
  obtain ⟨z,y,xs,r,o,es,ep,h1,h2,h3,h4,h5⟩:=(show ObjOk P w H h a (.dT kvs) from rd_of ok e)
  refine ⟨z,y,xs,r,o,es,ep,h1,h2,h3,h4,fun x hx=>?_,h5⟩
  have all:∀ {l:List (List Key×V)} {m:List (List Key×Addr×Value)},KT H l m→∀ x ∈ m,(tupleKind (mixKind P w)).is h x.1 x.2.1:=by
    intro l m q
    induction q with
    | nil=>intro x hx; exact nomatch hx
    | @cons p q ps qs hq t ih =>
      intro x hx
      rcases List.mem_cons.mp hx with e | hx
      · subst e
        exact key_of ok (by rw [← hq.1]; exact hq.2.1)
      · exact ih x hx
  exact all r x hx
theorem dt_of {kvs:List (List Key×V)} (ok:HOk P w H h) (e:H a = some (.dT kvs)):kvs.length ≤ sizeLine∧(a == sysModules) = false ∧
    ∃ xs,KT H kvs xs∧h.DictOfH (tupleKind (mixKind P w)) a xs:=dt_rd ok (.inl e)
end
def DGet (H:Hp) (a:Addr) (y:V) (r:Option V):Prop :=
  (∃ kvs k,Rd H a (.dK kvs)∧y = kV k∧r = valV kvs k)∨∃ kvs k b,Rd H a (.dT kvs)∧y = .ref b∧H b = some (.tup (k.map kV))∧r = valV kvs k
def DPut (H:Hp) (a:Addr) (y v:V) (H':Hp):Prop :=
  (∃ kvs k,H a = some (.dK kvs)∧y = kV k∧kvs.length < sizeLine∧H' = upd H a (.dK (putK kvs k v))) ∨
  ∃ kvs k b,H a = some (.dT kvs)∧y = .ref b∧H b = some (.tup (k.map kV))∧kvs.length < sizeLine∧H' = upd H a (.dT (putK kvs k v))
theorem DGet.k {H:Hp} {a:Addr} {kvs:List (Key×V)} {k:Key} (e:H a = some (.dK kvs)):DGet H a (kV k) (valV kvs k):=.inl ⟨kvs,k,.inl e,rfl,rfl⟩
theorem DPut.k {H:Hp} {a:Addr} {kvs:List (Key×V)} {k:Key} {v:V} (e:H a = some (.dK kvs)) (hl:kvs.length < sizeLine):DPut H a (kV k) v (upd H a (.dK (putK kvs k v))):=.inl ⟨kvs,k,e,rfl,hl,rfl⟩
section
variable {X:Cx} {pins:List (Addr×Obj)} {σ:St} {H:Hp} {s:Shared} {a:Addr} {y v:V} {u r:Value} {o:Option V} {A:Around} {E:Value→Shared→Prop}
theorem Inv.big (I:Inv X pins σ H s):sysModules < s.heap.objs.size:=by
  have h:mainGlobals < s.heap.objs.size:=(I.mod.glob.keeps I.bk).lt
  exact Nat.lt_trans (by decide) h
theorem d_write {h':Heap} {t':Nat} {ob:HO} (I:Inv X pins σ H s) (mu:Mut (H a)) (hs:Heap.SameBut a s.heap h') (he:∃ q,h'.get? a = some q) (new:ObjOk X.prog X.w (upd H a ob) h' a ob) :
    Inv X pins σ (upd H a ob) { s with heap:=h',toks:=t' } :=
  I.write (x:=a) (e:=a) mu (.inl rfl) (fun b q hb z=>(hs.2 b hb).trans z) he new
theorem dk_new {P:Program} {w:World} {H':Hp} {h':Heap} {kvs:List (Key×V)} {vs:List (Key×Value)} (z:kvs.length ≤ sizeLine) (hd:(a == sysModules) = false) (rel:KV kvs vs) (dd:h'.DictOf (mixKind P w) a vs) :
    ObjOk P w H' h' a (.dK kvs):=⟨z,hd,vs,rel,dd⟩
theorem d_setItem {H':Hp} {Q:Unit→Shared→Prop} (hu:A.units + 1 < cLine) (I:Inv X pins σ H s) (g:DPut H a y v H') (ry:RelV y u) (rv:RelV v r) (h:∀ s',Inv X pins σ H' s'→Q () s') :
    wpAny (model X.prog X.w) A (setItem (.ref a) u r) Q E s:=by
  rcases g with ⟨kvs,k,e,ey,l,eH⟩ | ⟨kvs,k,b,e,ey,eb,l,eH⟩
  · subst ey eH
    obtain ⟨z,hd,vs,rel,dd⟩:=dk_of I.hok e
    have hz:vs.length ≤ sizeLine:=by rw [← rel.length]; exact z
    have hl:(putK kvs k v).length ≤ sizeLine:=by have:=length_putK kvs k v; lia
    refine wpAny_setItem_pairs (hsz:=hz) (kV_is ry) dd fun h' dd' hs=>h _ ?_
    have he:∃ q,h'.get? a = some q:=let ⟨q,_,_,hq,_⟩:=dd'; ⟨q,hq⟩
    exact d_write I (by rw [e]; exact True.intro) hs he (dk_new hl hd (rel.put k rv) dd')
  · subst ey eH
    cases (show u = Value.ref b from ry)
    obtain ⟨z,hd,xs,rel,dd⟩:=dt_of I.hok e
    have hz:xs.length ≤ sizeLine:=by rw [← Paired.length rel]; exact z
    have hl:(putK kvs k v).length ≤ sizeLine:=by have:=length_putK kvs k v; lia
    refine wpAny_setItem_heap (hsz:=hz) (tupleKind_room_in1 hu) (key_of I.hok eb) dd fun h' dd' hs=>h _ ?_
    obtain ⟨q,es,ep,hq,h2,h3,h4,_,h5⟩:=dd'
    refine d_write I (by rw [e]; exact True.intro) hs ⟨q,hq⟩ ⟨hl,hd,_,(rel.put k eb rv).keeps fun c ys ec=>?_,q,es,ep,hq,h2,h3,h4,h5⟩
    rw [upd_ne (ne_of ec e (fun z=>nomatch z))]
    exact ec
end
section
variable {X:Cx} {pins:List (Addr×Obj)} {σ:St} {H:Hp} {s:Shared} {a:Addr} {kvs:List (Key×V)} {k:Key} {u:Value} {A:Around} {E:Value→Shared→Prop}
end
def sDPut (td ty tv:TE):TS:=fun D σ H=>tv σ H fun v H1=>td σ H1 fun x H2=>ty σ H2 fun y H3=>∃ a H4,x = .ref a∧DPut H3 a y v H4∧D.nx σ H4
section
variable {X:Cx} {o i e value:Expr} {pos pos' tpos:Pos} {td ty tv:TE}
theorem ps_dput (hu:X.A.units + 1 < cLine) (ho:PE X o td) (hi:PE X i ty) (hv:PE X value tv) (hs:swapsWith value (some (.Subscript o i pos')) pos.line X.env = pure false) :
    PS X (.Assign [.Subscript o i pos'] value pos) (sDPut td ty tv):=by
  intro pins s σ H D I h
  refine wpAny_Assign_Subscript (thn (hv pins s σ H _ I h) fun r s1 ⟨v,H1,I1,rv,q1⟩=>thn (ho pins s1 σ H1 _ I1 q1) fun u s2 ⟨x,H2,I2,rx,q2⟩=>thn (hi pins s2 σ H2 _ I2 q2) fun iv s3 ⟨y,H3,I3,ry,a,H4,ex,g,q3⟩=>?_) hs
  subst ex
  obtain rfl:u = Value.ref a:=rx
  exact d_setItem hu I3 g ry rv fun s4 I4=>⟨σ,H4,I4,q3⟩
end
theorem dk_empty {P:Program} {w:World} {H:Hp} (h:Heap) (hb:sysModules < h.objs.size):ObjOk P w H (h.push { cls:=.type "dict",data:=.dict #[] }) h.objs.size (.dK []) :=
  ⟨Nat.zero_le _,beq_eq_false_iff_ne.mpr (Ne.symm (Nat.ne_of_lt hb)),[],.nil,Heap.DictOf.new h⟩
def tDNewK:TE:=fun _ H Q=>∀ p,H p = none→Q (.ref p) (upd H p (.dK []))
section
variable {X:Cx} {pos:Pos}
theorem pe_dnewK:PE X (.Dict [] [] pos) tDNewK:=fun pins s σ H Q I h =>
  wpAny_Dict_empty ⟨.ref s.heap.objs.size,_,I.laid (a:=s.heap.objs.size) (o:=.dK []) (t':=s.toks) (fun _ _ q=>Heap.get?_push_of_some _ q) (Nat.le_refl _) (dk_empty s.heap I.big),rfl,h _ (I.hok.fresh (Nat.le_refl _))⟩
end
structure M2 (X:Cx) (o:Expr) (m:Str) (apos:Pos) (e f:Expr) (cpos:Pos):Prop where
  base:attributeBase o m X.env (eval o X.env) = eval o X.env
  few:((backTo cpos (starEach [e,f] X.env)).all (fun x=>!x.1) && (backToKw cpos (keywordEach [] X.env)).all (fun x=>x.1.isSome)
    && decide (([e,f]:List Expr).length + ([]:List Keyword).length + (if ([]:List Keyword).isEmpty then 0 else 1) < 30)) = true
  line:(apos.endLine == cpos.line) = true
  trees:backTo cpos (starEach [e,f] X.env) = [(false,eval e X.env),(false,eval f X.env)]
def IsD (H:Hp) (a:Addr):Prop:=(∃ kvs,Rd H a (.dK kvs))∨∃ kvs,Rd H a (.dT kvs)
theorem isD_at {X:Cx} {pins:List (Addr×Obj)} {σ:St} {H:Hp} {s:Shared} {a:Addr} (I:Inv X pins σ H s) (d:IsD H a) :
    s.TypeIs (.ref a) "dict"∧(∀ b,Value.ref a = .ref b→∃ ob,s.heap.get? b = some ob∧ob.dict = none)∧(a == sysModules) = false:=by
  rcases d with ⟨kvs,e⟩ | ⟨kvs,e⟩
  · obtain ⟨_,hd,vs,_,dd⟩:=dk_rd I.hok e
    refine ⟨dd.typeIs,fun b q=>?_,hd⟩
    cases q
    obtain ⟨ob,_,_,h1,h2,_⟩:=dd
    exact ⟨ob,h1,h2.2.1⟩
  · obtain ⟨_,hd,xs,_,dd⟩:=dt_rd I.hok e
    refine ⟨dd.typeIs,fun b q=>?_,hd⟩
    cases q
    obtain ⟨ob,_,_,h1,h2,_⟩:=dd
    exact ⟨ob,h1,h2.2.1⟩
section
variable {X:Cx} {pins:List (Addr×Obj)} {σ:St} {H:Hp} {s:Shared} {a:Addr} {y d:V} {u r:Value} {o:Option V} {A:Around} {E:Value→Shared→Prop}
theorem d_get2 {Q:Value→Shared→Prop} (hu:A.units + 1 < cLine) (I:Inv X pins σ H s) (g:DGet H a y o) (ry:RelV y u) (rd:RelV d r) (h:∀ w' s',Inv X pins σ H s'→RelV (o.getD d) w'→Q w' s') :
    wpAny (model X.prog X.w) A (call (.builtin "dict.get") [.ref a,u,r]) Q E s:=by
  rcases g with ⟨kvs,k,e,ey,l⟩ | ⟨kvs,k,b,e,ey,eb,l⟩
  · subst ey
    obtain ⟨z,hd,vs,rel,dd⟩:=dk_rd I.hok e
    refine call_meetsIn PySem.F.slot_dict_get dd.typeIs PySem.F.entry_dict_get (PySem.F.args_dict_get_3 _ _ _) (meets_dict_get_default (mixKind X.prog X.w) a (kV_is ry) hd r) ⟨_,dd.mapOf,h _ _ (I.tok _) ?_⟩
    rw [l]
    exact (rel.val k).getD rd
  · subst ey
    cases (show u = Value.ref b from ry)
    obtain ⟨z,hd,xs,rel,dd⟩:=dt_rd I.hok e
    refine call_meetsIn PySem.F.slot_dict_get dd.typeIs PySem.F.entry_dict_get (PySem.F.args_dict_get_3 _ _ _) (meetsH_dict_get_default (tupleKind (mixKind X.prog X.w)) a b hd r) ⟨tupleKind_room_in1 hu,k,xs,key_of I.hok eb,dd,h _ _ (I.tok _) ?_⟩
    rw [l]
    exact (rel.val k).getD rd
end
def tDGet2 (td ty tx:TE):TE:=fun σ H Q=>td σ H fun x H1=>∃ a,x = .ref a∧IsD H1 a∧ty σ H1 fun y H2=>tx σ H2 fun z H3=>∃ o,DGet H3 a y o∧Q (o.getD z) H3
section
variable {X:Cx} {o e f:Expr} {apos cpos:Pos} {td ty tx:TE}
theorem pe_dget2 (hu:X.A.units + 1 < cLine) (ho:PE X o td) (he:PE X e ty) (hf:PE X f tx) (m:M2 X o "get" apos e f cpos):PE X (.Call (.Attribute o "get" apos) [e,f] [] cpos) (tDGet2 td ty tx):=by
  intro pins s σ H Q I h
  refine wpAny_Call_method m.base m.few m.line PySem.F.plainAttrs_dict PySem.F.slot_dict_get PySem.F.type_dict_get (thn (ho pins s σ H _ I h) fun u s1 ⟨x,H1,I1,rx,a,ex,d,q1⟩=>?_)
  subst ex
  obtain rfl:u = Value.ref a:=rx
  obtain ⟨t1,t2,_⟩:=isD_at I1 d
  refine ⟨t1,t2,?_⟩
  rw [m.trees]
  refine Calls.callWith_builtin rfl (Calls.evalArgs_plain (Calls.spliced_cons (thn (he pins s1 σ H1 _ I1 q1) fun iv s2 ⟨y,H2,I2,ry,q2⟩ =>
    Calls.spliced_cons (thn (hf pins s2 σ H2 _ I2 q2) fun fv s3 ⟨z,H3,I3,rz,ov,g,q3⟩=>Calls.spliced_nil ?_))))
  exact d_get2 hu I3 g ry rz fun w' s4 I4 rw'=>⟨_,H3,I4,rw',q3⟩
end
section
variable {X:Cx} {pins:List (Addr×Obj)} {σ:St} {H:Hp} {s:Shared} {a:Addr} {kvs:List (Key×V)} {A:Around} {E:Value→Shared→Prop}
theorem d_copyOf {Q:Value→Shared→Prop} (I:Inv X pins σ H s) (e:Rd H a (.dK kvs)) (h:∀ p s',H p = none→Inv X pins σ (upd H p (.dK kvs)) s'→Q (.ref p) s'):wpAny (model X.prog X.w) A (call (.type "dict") [.ref a]) Q E s:=by
  obtain ⟨z,hd,vs,rel,dd⟩:=dk_rd I.hok e
  refine kt_call_dict hd dd (by rw [← rel.length]; exact z) fun h' dd' hs=>?_
  refine h _ _ (I.hok.fresh (Nat.le_refl _)) (I.laid (a:=s.heap.objs.size) (o:=.dK kvs) (t':=s.toks) (fun b q hq=>?_) (Nat.le_refl _) (dk_new z (beq_eq_false_iff_ne.mpr (Ne.symm (Nat.ne_of_lt I.big))) rel dd'))
  exact (hs.2 b (Nat.ne_of_lt (Heap.lt_size hq))).trans (Heap.get?_push_of_some _ hq)
end
section
variable {X:Cx} {pins:List (Addr×Obj)} {σ:St} {H:Hp} {s:Shared} {a:Addr} {y:V} {u:Value} {A:Around} {E:Value→Shared→Prop}
end
section
variable {X:Cx}
end
section
variable {κ:Type} [DecidableEq κ]
end
end L2
namespace L2
open PySem PySem.Spec PyProof.Rows
section
variable (K:PySem.W.Frag)
end
theorem hu40 {A:Around} {k:Nat} {c:Bool} (hr:Room k A c):A.units + 40 < cLine:=Nat.lt_of_le_of_lt (Nat.add_le_add_left (by decide:40 ≤ 64) _) hr.units
structure MHas (K:PySem.W.Frag) (C:Addr) (m qual:Str) (st:Stmt) (ps:List Str) (f:Addr) (fd:FuncData):Prop where
  fn:Fun K m qual st f fd
  bd:Binds K fd ps []
  me:Meth K C m f
end L2
namespace FL
open PySem L2 PyProof.Rows
structure FS where
  n:Int
  kp:List (Key×V)
  ks:List (Key×V)
  ws:List V
  d:Bool
  l:V
section
variable {C p pc sp wr:Addr} {H H':Hp} {st st':FS}
end
structure Cl where
  F:Addr
  W:Addr
  PG:Addr
  NF:Addr
  NP:Addr
  NI:Addr
  SO:Addr
end FL
namespace L2
open PySem PySem.Spec PyProof.Rows
mutual
def Eqv (K:PySem.W.Frag) (H:Hp):Nat→V→V→Prop
  | 0,x,y=>(flatV x = true∧flatV y = true∧eqV x y = true)∨∃ a,x = .ref a∧y = .ref a
  | n + 1,x,y=>(flatV x = true∧flatV y = true∧eqV x y = true)∨(∃ a,x = .ref a∧y = .ref a)∨EqvS K H n x y
def EqvS (K:PySem.W.Frag) (H:Hp):Nat→V→V→Prop
  | n,x,y=>∃ a b xs ys,x = .ref a∧y = .ref b∧((SqT K H a xs∧SqT K H b ys)∨(SqL K H a xs∧SqL K H b ys))∧xs.length = ys.length∧∀ (i:Nat) u v,xs[i]? = some u→ys[i]? = some v→Eqv K H n u v
end
section
variable {X:Cx} {pins:List (Addr×Obj)} {σ:St} {H:Hp} {s:Shared}
theorem all_true (n:Nat):(List.range n).all (fun _=>true) = true:=List.all_eq_true.mpr fun _ _=>rfl
theorem items_D {A:Around} {n:Nat} {xs ys:List V} {us vs:List Value} (r:Vals xs us) (q:Vals ys vs) (h:∀ (i:Nat) u v,xs[i]? = some u→ys[i]? = some v→Eqv X.K H n u v)
    (ih:∀ {x y:V} {u v:Value},Eqv X.K H n x y→RelV x u→RelV y v→SeqAt.EqAt A s u v true) (j:Nat) (h1:j < us.toArray.size) (h2:j < vs.toArray.size):SeqAt.EqAt A s us.toArray[j] vs.toArray[j] true:=by
  have l1:=r.length
  have l2:=q.length
  have h1':j < xs.length:=by rw [l1]; simpa using h1
  have h2':j < ys.length:=by rw [l2]; simpa using h2
  obtain ⟨u,eu,ru⟩:=r.get (i:=j) (x:=xs[j]) (by simp [h1'])
  obtain ⟨v,ev,rv⟩:=q.get (i:=j) (x:=ys[j]) (by simp [h2'])
  have e1:us.toArray[j] = u:=by
    obtain ⟨_,e⟩:=List.getElem?_eq_some_iff.mp eu
    simpa using e
  have e2:vs.toArray[j] = v:=by
    obtain ⟨_,e⟩:=List.getElem?_eq_some_iff.mp ev
    simpa using e
  rw [e1,e2]
  exact ih (h j _ _ (by simp [h1']) (by simp [h2'])) ru rv
theorem rc_D {A:Around} {n:Nat} {x y:V} {u v:Value} (I:Inv X pins σ H s) (h:EqvS X.K H n x y) (rx:RelV x u) (ry:RelV y v) (hu:A.units < cLine)
    (ih:∀ {x y:V} {u v:Value},Eqv X.K H n x y→RelV x u→RelV y v→SeqAt.EqAt A.in1 s u v true):∃ a b,u = .ref a∧v = .ref b∧SeqAt.RcAt A s (.ref a) (.ref b) true∧SeqAt.RcNeAt A s (.ref a) (.ref b) false:=by
  unfold EqvS at h
  obtain ⟨a,b,xs,ys,rfl,rfl,hq,hl,hi⟩:=h
  cases rx
  cases ry
  refine ⟨a,b,rfl,rfl,?_⟩
  rcases hq with ⟨ha,hb⟩ | ⟨ha,hb⟩
  · obtain ⟨its,r1,p1,_⟩:=I.tuple ha
    obtain ⟨its2,r2,p2,_⟩:=I.tuple hb
    have l1:=r1.length
    have l2:=r2.length
    have e:((List.range (min its.toArray.size its2.toArray.size)).all (fun _=>true) && its.toArray.size == its2.toArray.size) = true:=by
      rw [all_true]; simp; lia
    have A1:=SeqAt.RcAt.tuples (A:=A) (e:=fun _=>true) (show s.heap.IsTuple a its.toArray from p1) (show s.heap.IsTuple b its2.toArray from p2) hu (fun j h1 h2=>items_D r1 r2 hi ih j h1 h2)
    have A2:=SeqAt.RcNeAt.tuples (A:=A) (e:=fun _=>true) (show s.heap.IsTuple a its.toArray from p1) (show s.heap.IsTuple b its2.toArray from p2) hu (fun j h1 h2=>items_D r1 r2 hi ih j h1 h2)
    rw [e] at A1 A2
    exact ⟨A1,A2⟩
  · obtain ⟨its,r1,p1,_⟩:=I.list ha
    obtain ⟨its2,r2,p2,_⟩:=I.list hb
    have l1:=r1.length
    have l2:=r2.length
    have A1:=SeqAt.RcAt.lists (A:=A) (e:=fun _=>true) p1.isList p2.isList (by simp; lia) hu (fun j h1 h2=>items_D r1 r2 hi ih j h1 h2)
    have A2:=SeqAt.RcNeAt.lists (A:=A) (e:=fun _=>true) p1.isList p2.isList (by simp; lia) hu (fun j h1 h2=>items_D r1 r2 hi ih j h1 h2)
    rw [all_true] at A1 A2
    exact ⟨A1,A2⟩
theorem eqAt_D (I:Inv X pins σ H s):∀ (n:Nat) {A:Around} {x y:V} {u v:Value},Eqv X.K H n x y→RelV x u→RelV y v→A.units + n < cLine→SeqAt.EqAt A s u v true:=by
  intro n
  induction n with
  | zero =>
    intro A x y u v h rx ry hu
    unfold Eqv at h
    rcases h with ⟨f1,f2,e⟩ | ⟨a,rfl,rfl⟩
    · have z:=eqAt_V (A:=A) (s:=s) rx ry f1 f2
      rw [e] at z
      exact z
    · cases rx
      cases ry
      exact SeqAt.EqAt.same _
  | succ n ih =>
    intro A x y u v h rx ry hu
    unfold Eqv at h
    rcases h with ⟨f1,f2,e⟩ | ⟨a,rfl,rfl⟩ | h
    · have z:=eqAt_V (A:=A) (s:=s) rx ry f1 f2
      rw [e] at z
      exact z
    · cases rx
      cases ry
      exact SeqAt.EqAt.same _
    · obtain ⟨a,b,rfl,rfl,z,_⟩:=rc_D (A:=A) I h rx ry (by lia) (fun h rx ry=>ih (A:=A.in1) h rx ry (by show A.units + 1 + n < _; lia))
      by_cases hne:a = b
      · subst hne
        exact SeqAt.EqAt.same _
      · exact SeqAt.EqAt.of_refs hne z
theorem op_eqD (hu:X.A.units + 40 < cLine):OpR X (compareOp .Eq) (fun x y H Q=>∃ n,EqvS X.K H n x y∧n ≤ 20∧Q (.bl true) H):=by
  intro pins s σ H x y v u Q I rx ry h
  obtain ⟨n,h,hn,q⟩:=h
  obtain ⟨a,b,rfl,rfl,z,_⟩:=rc_D (A:=X.A) I h rx ry (by lia) (fun h rx ry=>eqAt_D I n h rx ry (by show X.A.units + 1 + n < _; lia))
  exact z _ _ _ _ ⟨.bl true,H,I,rfl,q⟩
theorem op_neD (hu:X.A.units + 40 < cLine):OpR X (compareOp .NotEq) (fun x y H Q=>∃ n,EqvS X.K H n x y∧n ≤ 20∧Q (.bl false) H):=by
  intro pins s σ H x y v u Q I rx ry h
  obtain ⟨n,h,hn,q⟩:=h
  obtain ⟨a,b,rfl,rfl,_,z⟩:=rc_D (A:=X.A) I h rx ry (by lia) (fun h rx ry=>eqAt_D I n h rx ry (by show X.A.units + 1 + n < _; lia))
  exact z _ _ _ _ ⟨.bl false,H,I,rfl,q⟩
end
end L2
namespace L2
open PySem PySem.Spec PyProof.Rows
section
variable {X:Cx}
theorem call_dictD:CallR X (.type "dict") (fun xs H Q=>∃ a kvs,xs = [V.ref a]∧H a = some (.dK kvs)∧∀ l,H l = none→Q (.ref l) (upd H l (.dK kvs))):=by
  intro pins s σ H xs us Q I r h
  obtain ⟨a,kvs,rfl,ha,q⟩:=h
  obtain ⟨u,rfl,ru⟩:=vals1 r
  cases ru
  exact d_copyOf I (.inl ha) fun p s' hp I'=>⟨.ref p,_,I',rfl,q p hp⟩
end
end L2
namespace FL
open PySem L2 PyProof.Rows
structure LS where
  bn:List (Key×V)
  bd:List (Key×V)
  dn:List V
  lf:Int
  dk:Bool
section
variable {H H':Hp} {q b a d:Addr} {ls:LS}
end
section
variable {H:Hp} {q b a d:Addr} {ls:LS}
end
section
variable {st:FS} {ls:LS} {m:Nat} {i:Int} {v:V}
structure AD where
  p:Addr
  pc:Addr
  sp:Addr
  wr:Addr
  q:Addr
  b:Addr
  a:Addr
  d:Addr
section
variable {R R':FS→LS→Prop} {c:Cl} {H H':Hp} {A B:AD} {n:Int}
end
end
end FL
namespace L2
open PySem PySem.Spec PyProof.Rows
def CompWT (Gs:Hp→Prop) (g:TG) (k:Nat) (J:It) (p:Addr) (tt:TT) (te:TE) (cs:St) (Q:VK) (H1:Hp):Prop:=∃ W:Nat→Nat→List V→Hp→Prop,(∃ m,W 0 m [] (upd H1 p (.lst [])))∧∀ i m ys H2,W i m ys H2 →
  (J.stop i H2∧Gs H2∧Q (.ref p) H2)∨(J.go i H2∧Gs H2∧∃ N:List V→Hp→Prop,(∀ ys' H',N ys' H'→∃ m',m' < m∧W (i + 1) m' ys' H') ∧
    ∀ v H3,J.yld i H2 v H3→∀ vs0:St,vs0.length = k→g v (vs0 ++ cs) H3 fun σ' H'=>(∃ vs':St,σ' = vs' ++ cs∧vs'.length = k)∧tt σ' H' fun b H4=>if b = true then te σ' H4 fun y H5=>H5 p = some (.lst ys)∧ys.length < sizeLine∧N (ys ++ [y]) (upd H5 p (.lst (ys ++ [y]))) else N ys H4)
theorem comp_goT {X:Cx} {use:Option (Value→Sem Unit)} {Post:Value→Shared→Prop} {pins:List (Addr×Obj)} {s:Shared} {σ:St} {H:Hp} {Q:VK} {Gs:Hp→Prop} {hb:Bool} {CW:It→Addr→St→VK→Hp→Prop} {elt iter:Expr} {ifs:List Expr} {tg:Expr} {xs:List Str} {g:TG} {pos:Pos} {sc:Scope} {wi:TI} {tt:TT} {te:TE} (caps:List Nat) (capsN:List Str)
    (hi:PI X tg iter wi hb)
    (hg:∀ cl C s H ex pn,PG (cxComp X (xs ++ capsN) sc cl C s H ex pn) tg g)
    (ht:∀ cl C s H ex pn,PTs (cxComp X (xs ++ capsN) sc cl C s H ex pn) ifs tt)
    (he:∀ cl C s H ex pn,PE (cxComp X (xs ++ capsN) sc cl C s H ex pn) elt te)
    (hkind:sc.kind = .function) (hcell:∀ y ∈ sc.names,y.2 ≠ .cell) (hnames:∀ y ∈ sc.names,y.2 = .local→sc.names.lookup y.1 = some .local)
    (hfr:∀ y ∈ sc.names,y.2 = .free→y.1 ∈ capsN)
    (hcap:∀ (j:Nat) (y:Str),capsN[j]? = some y→∃ i:Nat,caps[j]? = some i∧X.N[i]? = some y∧sc.names.lookup y = some .free∧(X.env.kindOf y = some .cell∨X.env.kindOf y = some .free)) (hlen:caps.length = capsN.length)
    (hc:X.calm = true∨(hb = true∧∀ s H,HOk X.prog X.w H s.heap→Gs H→HandQ X s)) (kW:∀ J p cs Q H1,CW J p cs Q H1→CompWT Gs g xs.length J p tt te cs Q H1)
    (hs:∀ x,foldedSetIterable iter X.env x = pure x) (I:Inv X pins σ H s) (h:tCompC CW wi caps σ H Q)
    (fin:∀ (C p:Addr) (H5:Hp) (s5:Shared),(∃ m,s5.heap.Ns C m)→Inv X pins σ H5 s5→FpOk X pins H5 C→Q (.ref p) H5→compPost (model X.prog X.w) X.A X.xe use Post (.ref p) C (.ok .next) s5) :
    wpAny (model X.prog X.w) X.A (comprehension (.ListComp elt [⟨tg,iter,ifs,0⟩] sc pos) sc X.env (firstIterPos [⟨tg,iter,ifs,0⟩] pos) (newList []) (firstAsync [⟨tg,iter,ifs,0⟩]) (firstIter [⟨tg,iter,ifs,0⟩] X.env) use) Post X.xe s:=by
  have hEnd:∀ s H,HOk X.prog X.w H s.heap→Gs H→EndQ hb X s:=by
    rcases hc with hc | ⟨e,k⟩
    · exact fun _ _ _ _=>.inl (I.ok.hd hc)
    · exact fun s H o g=>.inr ⟨e,k s H o g⟩
  obtain ⟨cl,hclos,hq2,hq3⟩:=closure_ok (env:=X.env) (sc:=sc) (fun y hy hf=>by
    obtain ⟨j,hj⟩:=List.mem_iff_getElem?.mp (hfr y hy hf)
    obtain ⟨_,_,_,_,k⟩:=hcap j y.1 hj
    exact I.ok.has y.1 k)
  refine wpAny_comprehension_free (use:=use) rfl hs hclos hkind hnames (thn (hi pins s σ H _ I h) fun v s1 h1=>thn h1 fun itv s2 h2=>?_)
  obtain ⟨it,fp,tn,J,H2,e,I2,T,st2,f2,q⟩:=h2
  subst e
  refine wpAny_newObj_type (wpAny_newFunctionEnv hcell (by intro y hy; simp at hy) (fun h1 hns hsb=>?_) hkind)
  dsimp only at hns hsb ⊢
  obtain ⟨W,⟨m0,w0⟩,turn⟩:=kW _ _ _ _ _ (q s2.heap.objs.size (I2.hok.fresh (Nat.le_refl _)))
  have I3:Inv X pins σ (upd H2 s2.heap.objs.size (.lst [])) { s2 with heap:=s2.heap.push { cls:=.type "list",dict:=none,data:=.seq ([]:List Value).toArray },toks:=s2.toks }:=I2.lnew (its:=[]) (ys:=[]) (t':=s2.toks) .nil (Nat.zero_le _)
  generalize hH3:s2.heap.push { cls:=.type "list",dict:=none,data:=.seq ([]:List Value).toArray } = g3 at hns hsb I3 ⊢
  have hsz3:g3.objs.size = s2.heap.objs.size + 1:=by rw [← hH3,Heap.size_push]
  generalize hHp:upd H2 s2.heap.objs.size (.lst []) = Hp3 at w0 I3
  have hlt:∀ b o,g3.get? b = some o→b ≠ g3.objs.size:=fun b o e=>Nat.ne_of_lt (Heap.lt_size e)
  have old:∀ b o,g3.get? b = some o→h1.get? b = some o:=fun b o e=>hsb.extBut b o (hlt b o e) (Heap.get?_push_of_some _ e)
  have fpo:∀ b ∈ fp,∃ o,g3.get? b = some o:=fun b hb=>by
    obtain ⟨o,e,_⟩:=T.obj 0 s2.heap st2 b hb
    exact ⟨o,by rw [← hH3]; exact Heap.get?_push_of_some _ e⟩
  have fpC:∀ b ∈ fp,b ≠ g3.objs.size:=fun b hb=>by obtain ⟨o,e⟩:=fpo b hb; exact hlt b o e
  have fpH:∀ b ∈ fp,Hp3 b = none:=fun b hb=>by
    obtain ⟨o,e,_⟩:=T.obj 0 s2.heap st2 b hb
    rw [← hHp,upd_ne (Nat.ne_of_lt (Heap.lt_size e))]
    exact (f2 b hb).1
  have fsSub:∀ b,b ≠ X.env.locals→b ∉ X.fs→b ∉ frs X.stack:=fun b h1 h2 z=>by
    rcases List.mem_cons.mp (I2.stkSub b z) with z | z
    · exact h1 z
    · exact h2 z
  have okc:(cxComp X (xs ++ capsN) sc cl g3.objs.size { s2 with heap:=g3,toks:=s2.toks } Hp3 fp (X.pn ++ pins)).Ok:=by
    refine ⟨I3.ok.mod,hkind,I3.ok.glob,I3.ok.blt,Nat.le_refl _,fun y z c e1 e2=>I3.ok.inj y z c (hq2 y c e1) (hq2 z c e2),fun y hy=>?_,fun y c z=>absurd z Bool.false_ne_true,I3.ok.hd,I3.ok.frames,.inl rfl,fun b hb=>⟨fpC b hb,fun y c e=>(f2 b hb).2.2.2.2.1 y c (hq2 y c e)⟩,
      I3.bs,Nat.le_trans I3.ok.bsz I3.sz,fun b o e hb=>?_,fun b hb=>fsSub b (f2 b hb).2.1 (f2 b hb).2.2.1,I3.stack,I3.stkFree⟩
    · have hy':∃ k,(relabel sc X.env).names.lookup y = some k∧(k = .cell∨k = .free):=by
        rcases hy with hy | hy
        · exact ⟨_,hy,.inl rfl⟩
        · exact ⟨_,hy,.inr rfl⟩
      obtain ⟨k,e,hk⟩:=hy'
      obtain ⟨k0,e0,hk0⟩:=relabel_look e
      have em:=PySem.mem_of_lookup e0
      rcases hk0 with rfl | ⟨rfl,_⟩
      · rcases hk with rfl | rfl
        · exact absurd rfl (hcell _ em)
        · exact hq3 _ em rfl
      · exact hq3 _ em rfl
    · rcases (f2 b hb).2.2.2.1 with z | z
      · exact I3.ok.noex b o e z
      · have h1:b < X.base.objs.size:=Heap.lt_size e
        have h2:=I3.ok.bsz
        exact absurd (Nat.lt_of_lt_of_le h1 (Nat.le_trans h2 z)) (Nat.lt_irrefl _)
  have Ic:Inv (cxComp X (xs ++ capsN) sc cl g3.objs.size { s2 with heap:=g3,toks:=s2.toks } Hp3 fp (X.pn ++ pins)) [] (List.replicate xs.length none ++ capV σ caps) Hp3 { s2 with heap:=h1,toks:=s2.toks + ([]:List (Str×Value)).length }:=by
    refine ⟨okc,rfl,I3.bare,Un.kept old,⟨_,hns,fun i y v e1 e2 e3=>?_⟩,fun y c e=>?_,I3.hok.fresh (Nat.le_refl _),fun y c e=>I3.freeC y c (hq2 y c e),fun p hp=>?_,I3.hok.kept old,?_⟩
    · by_cases hlt0:i < xs.length
      · have e2:(List.replicate xs.length (none:Option V) ++ capV σ caps)[i]? = some (some v):=e2
        rw [List.getElem?_append_left (by rw [List.length_replicate]; exact hlt0),List.getElem?_replicate,if_pos hlt0] at e2
        cases e2
      · have e1:(xs ++ capsN)[i]? = some y:=e1
        have e2:(List.replicate xs.length (none:Option V) ++ capV σ caps)[i]? = some (some v):=e2
        rw [List.getElem?_append_right (Nat.le_of_not_lt hlt0)] at e1
        rw [List.getElem?_append_right (by rw [List.length_replicate]; exact Nat.le_of_not_lt hlt0),List.length_replicate] at e2
        generalize i - xs.length = j at e1 e2
        have e1':capsN[j]? = some y:=e1
        obtain ⟨i,c1,c2,c3,c4⟩:=hcap j y e1'
        have e2':(capV σ caps)[j]? = some (some v):=e2
        have hv:σ[i]? = some (some v):=by
          unfold capV at e2'
          rw [List.getElem?_map,c1] at e2'
          have e4:(σ[i]?).getD none = some v:=Option.some.inj e2'
          cases e5:σ[i]? with
          | none=>rw [e5] at e4; cases e4
          | some w=>rw [e5] at e4; exact congrArg some e4
        obtain ⟨m,_,hl⟩:=I3.loc
        have vis:Vis X.env.scope y:=by
          rcases c4 with z | z
          · exact .inr (.inl z)
          · exact .inr (.inr z)
        obtain ⟨u,r,l⟩:=hl i y v c2 hv vis
        refine ⟨u,r,.inr ⟨relabel_free c3,?_⟩⟩
        rcases l with ⟨lk,_⟩ | ⟨_,c,ec,o,ho,hd⟩
        · rcases c4 with z | z <;> (rw [lk] at z; cases z)
        · obtain ⟨c',e'⟩:=hq3 _ (PySem.mem_of_lookup c3) rfl
          have e'':=hq2 _ _ e'
          have e3':(some c':Option Addr) = some c:=e''.symm.trans ec
          cases e3'
          exact ⟨c,e',o,old _ _ ho,hd⟩
    · obtain ⟨v,o,ho,hd⟩:=I3.cell y c (hq2 y c e)
      exact ⟨v,o,old _ _ ho,hd⟩
    · have hp':p ∈ X.pn ++ pins:=by simpa using hp
      obtain ⟨e1,e2,e3,e4,e5⟩:=I3.pin p hp'
      exact ⟨old _ _ e1,e2,hlt _ _ e1,fsSub _ e3 e4,e5⟩
    · show (List.replicate xs.length (none:Option V) ++ capV σ caps).length = (xs ++ capsN).length
      unfold capV
      rw [List.length_append,List.length_append,List.length_replicate,List.length_map,hlen]
  have stat:∀ {H':Hp},(∀ b ∈ fp,H' b = none)→∀ b ∈ fp,FpOk (cxComp X (xs ++ capsN) sc cl g3.objs.size { s2 with heap:=g3,toks:=s2.toks } Hp3 fp (X.pn ++ pins)) [] H' b:=fun hn b hb =>
    ⟨hn b hb,fpC b hb,fsSub b (f2 b hb).2.1 (f2 b hb).2.2.1,.inl hb,fun y c e=>(f2 b hb).2.2.2.2.1 y c (hq2 y c e),fun p hp=>(f2 b hb).2.2.2.2.2 p (by simpa using hp)⟩
  have back:∀ {pins5:List (Addr×Obj)} {σ5:St} {H5:Hp} {s5:Shared} {h':Heap},Inv (cxComp X (xs ++ capsN) sc cl g3.objs.size { s2 with heap:=g3,toks:=s2.toks } Hp3 fp (X.pn ++ pins)) pins5 σ5 H5 s5→Heap.SameBut g3.objs.size s5.heap h'→Inv X pins σ H5 { s5 with heap:=h' }:=by
    intro pins5 σ5 H5 s5 h' I5 sb
    have un:Un (frs X.stack) fp Hp3 H5 g3 s5.heap:=I5.base
    have fr:H5 g3.objs.size = none:=I5.free
    have un':Un (frs X.stack) fp Hp3 H5 g3 h':=⟨fun b o e n hb hx=>(sb.2 b (hlt b o e)).trans (un.keep b o e n hb hx),
      fun b o e n hb hx=>by obtain ⟨sl,z⟩:=un.slot b o e n hb hx; exact ⟨sl,(sb.2 b (hlt b o e)).trans z⟩,un.free,
      fun b o e hx=>by obtain ⟨o',z⟩:=un.there b o e hx; exact ⟨o',(sb.2 b (hlt b o e)).trans z⟩,un.tups,un.frzs,un.tbls⟩
    have hok:HOk X.prog X.w H5 h':=fun b u e=>(I5.hok b u e).stay (fun c v hc' z=>(sb.2 c (by
      rintro rfl
      rcases hc' with hc' | hc'
      · rw [hc',e] at fr; cases fr
      · rw [fr] at hc'; cases hc')).trans z) (fun _ z=>z) (fun _ _ z=>z)
    obtain ⟨hh,g,d,t,os⟩:=s5
    have eo:os = s2.os:=I5.os
    subst eo
    have z:=I3.call (h':=h') (g':=g) (d':=d) (t':=t) (ch:=fp) un' hok I5.bare fun b hb=>⟨(f2 b hb).2.2.2.1,(f2 b hb).2.1,(f2 b hb).2.2.2.2.1,(f2 b hb).2.2.2.2.2⟩
    exact z
  have st4:tn 0 h1:=T.keep 0 s2.heap h1 st2 fun b hb o e=>old b o (by rw [← hH3]; exact Heap.get?_push_of_some _ e)
  have loop:codeAny (model X.prog X.w) X.A (.compLoop (.ListComp elt [⟨tg,iter,ifs,0⟩] sc pos) 0 (.ref it) (.ref s2.heap.objs.size) (compEnvC sc cl g3.objs.size X.env))
      (compPost (model X.prog X.w) X.A X.xe use Post (.ref s2.heap.objs.size) g3.objs.size) { s2 with heap:=h1,toks:=s2.toks + ([]:List (Str×Value)).length }:=by
    refine comp_loop (fun n s'=>∃ i ys v0 H',v0.length = xs.length∧Inv (cxComp X (xs ++ capsN) sc cl g3.objs.size { s2 with heap:=g3,toks:=s2.toks } Hp3 fp (X.pn ++ pins)) [] (v0 ++ capV σ caps) H' s'∧tn i s'.heap∧(∀ b ∈ fp,H' b = none)∧W i n ys H') ?_ m0 ⟨0,[],List.replicate xs.length none,Hp3,List.length_replicate,Ic,st4,fpH,w0⟩
    rintro n s' ⟨i,ys,v0,H',hv0,I',st',fr',w'⟩
    rcases turn i n ys H' w' with ⟨stop,gs,qn⟩ | ⟨go,gs,N,hN,step⟩
    · refine thn (T.done (cxComp X (xs ++ capsN) sc cl g3.objs.size { s2 with heap:=g3,toks:=s2.toks } Hp3 fp (X.pn ++ pins)) rfl rfl rfl s' (hEnd s' H' I'.hok gs) i [] _ H' NoX I' (stat fr') st' stop) fun r s5 ⟨hr,I5⟩=>?_
      subst hr
      obtain ⟨m,hn,_⟩:=id I5.loc
      exact fin g3.objs.size s2.heap.objs.size H' s5 ⟨m,hn⟩ (back (h':=s5.heap) I5 ⟨rfl,fun _ _=>rfl⟩) (I3.fpOk (Nat.le_refl _) I5.free) qn
    · refine thn (T.item (cxComp X (xs ++ capsN) sc cl g3.objs.size { s2 with heap:=g3,toks:=s2.toks } Hp3 fp (X.pn ++ pins)) rfl rfl rfl s' (hEnd s' H' I'.hok gs) i [] _ H' NoX I' (stat fr') st' go) fun r s5 ⟨u,hr,h5⟩=>?_
      subst hr
      refine thn h5 fun _ s6 ⟨v,H6,I6,r6,y6,st6,fr6⟩=>?_
      have I6':=I6.pinned (stat fr6) (T.obj _ _ st6)
      have again:∀ {σ7 v7:St} {H7:Hp} {s7:Shared} {ys':List V},σ7 = v7 ++ capV σ caps→v7.length = xs.length→Inv (cxComp X (xs ++ capsN) sc cl g3.objs.size { s2 with heap:=g3,toks:=s2.toks } Hp3 fp (X.pn ++ pins)) ([] ++ pinsAt fp s6.heap) σ7 H7 s7→N ys' H7 →
          ∃ m,m < n∧∃ i ys v0 H',v0.length = xs.length∧Inv (cxComp X (xs ++ capsN) sc cl g3.objs.size { s2 with heap:=g3,toks:=s2.toks } Hp3 fp (X.pn ++ pins)) [] (v0 ++ capV σ caps) H' s7∧tn i s7.heap∧(∀ b ∈ fp,H' b = none)∧W i m ys H':=by
        intro σ7 v7 H7 s7 ys' eσ hv7 I7 n7
        subst eσ
        obtain ⟨m',hm,w7⟩:=hN ys' H7 n7
        refine ⟨m',hm,i + 1,ys',v7,H7,hv7,I7.unpinned,T.keep _ _ _ st6 fun b hb o e=>(I7.pin (b,o) (List.mem_append_right _ (List.mem_append_right _ (mem_pinsAt hb e)))).1,fun b hb=>?_,w7⟩
        obtain ⟨o,e,d⟩:=T.obj _ _ st6 b hb
        exact (I7.pin (b,o) (List.mem_append_right _ (List.mem_append_right _ (mem_pinsAt hb e)))).2.1
      refine thn (hg _ _ _ _ _ _ _ s6 _ H6 v u _ I6' r6 (step v H6 y6 v0 hv0)) fun _ s7 ⟨σ7,H7,I7,⟨v7,e7,hv7⟩,q7⟩=>?_
      refine thn (ht _ _ _ _ _ _ _ s7 _ H7 _ I7 q7) fun ok s8 ⟨H8,I8,q8⟩=>?_
      cases ok with
      | false=>exact again e7 hv7 I8 q8
      | true =>
        refine thn (he _ _ _ _ _ _ _ s8 _ H8 _ I8 q8) fun y s9 ⟨yv,H9,I9,r9,hp9,hz9,n9⟩=>?_
        refine thn (mt_append (X:=cxComp X (xs ++ capsN) sc cl g3.objs.size { s2 with heap:=g3,toks:=s2.toks } Hp3 fp (X.pn ++ pins)) _ s9 _ H9 (.ref s2.heap.objs.size) [yv] (.ref s2.heap.objs.size) [y] (fun _ H'=>H' = upd H9 s2.heap.objs.size (.lst (ys ++ [yv]))) I9 rfl (.cons r9 .nil)
          ⟨s2.heap.objs.size,ys,yv,rfl,rfl,hp9,hz9,rfl⟩) fun _ s10 ⟨_,H10,I10,_,e10⟩=>?_
        subst e10
        exact again e7 hv7 I10 n9
  exact codeAny_compStart_list loop (T.self X.A 0 _ _ _ st4 loop)
theorem pe_compT {X:Cx} {Gs:Hp→Prop} {hb:Bool} {CW:It→Addr→St→VK→Hp→Prop} {elt iter:Expr} {ifs:List Expr} {tg:Expr} {xs:List Str} {g:TG} {pos:Pos} {sc:Scope} {wi:TI} {tt:TT} {te:TE} (caps:List Nat) (capsN:List Str)
    (hi:PI X tg iter wi hb)
    (hg:∀ cl C s H ex pn,PG (cxComp X (xs ++ capsN) sc cl C s H ex pn) tg g)
    (ht:∀ cl C s H ex pn,PTs (cxComp X (xs ++ capsN) sc cl C s H ex pn) ifs tt)
    (he:∀ cl C s H ex pn,PE (cxComp X (xs ++ capsN) sc cl C s H ex pn) elt te)
    (hkind:sc.kind = .function) (hcell:∀ y ∈ sc.names,y.2 ≠ .cell) (hnames:∀ y ∈ sc.names,y.2 = .local→sc.names.lookup y.1 = some .local)
    (hfr:∀ y ∈ sc.names,y.2 = .free→y.1 ∈ capsN)
    (hcap:∀ (j:Nat) (y:Str),capsN[j]? = some y→∃ i:Nat,caps[j]? = some i∧X.N[i]? = some y∧sc.names.lookup y = some .free∧(X.env.kindOf y = some .cell∨X.env.kindOf y = some .free)) (hlen:caps.length = capsN.length)
    (hc:X.calm = true∨(hb = true∧∀ s H,HOk X.prog X.w H s.heap→Gs H→HandQ X s)) (kW:∀ J p cs Q H1,CW J p cs Q H1→CompWT Gs g xs.length J p tt te cs Q H1)
    (hs:∀ x,foldedSetIterable iter X.env x = pure x:=by intro _; rfl) :
    PE X (.ListComp elt [⟨tg,iter,ifs,0⟩] sc pos) (tCompC CW wi caps):=by
  intro pins s σ H Q I h
  rw [eval_ListComp]
  exact comp_goT (use:=none) caps capsN hi hg ht he hkind hcell hnames hfr hcap hlen hc kW hs I h fun C p H5 s5 ⟨m,hn⟩ I5 f q=>⟨m,hn,fun h' sb=>⟨.ref p,H5,I5.turned (t':=s5.toks) (fun b o hb e=>(sb.2 b hb).trans e) f.1 f.2.1 f.2.2.2.1 f.2.2.2.2.1 f.2.2.2.2.2,rfl,q⟩⟩
end L2
namespace L2
open PySem PySem.Spec PyProof.Rows
theorem ints_of:∀ {ns:List Int} {us:List Value},Vals (ns.map V.int) us→IntsAre us ns
  | [],_,.nil=>.nil
  | _ :: _,_,.cons ⟨t,e⟩ r=>by
    subst e
    exact .cons _ t (ints_of r)
theorem of_ints:∀ {ns:List Int} {us:List Value},IntsAre us ns→Vals (ns.map V.int) us
  | _,_,.nil=>.nil
  | _,_,.cons n t r=>.cons ⟨t,rfl⟩ (of_ints r)
section
variable {X:Cx}
end
end L2
namespace L2
open PySem PySem.Spec PyProof.Rows PySem.W
section
variable {X:Cx}
end
end L2
namespace L2
open PySem
def Rise (xs:Array Nat):Prop:=∀ (i j:Nat) (a b:Nat),i < j→xs[i]? = some a→xs[j]? = some b→a < b
theorem below_go {xs:Array Nat} {j:Nat} (r:Rise xs):∀ (f lo hi:Nat),hi ≤ xs.size→lo ≤ hi→hi - lo ≤ f→(∀ (i a:Nat),i < lo→xs[i]? = some a→a < j)→(∀ (i a:Nat),hi ≤ i→xs[i]? = some a→j ≤ a) →
    SetTable.below.go xs j f lo hi ≤ xs.size∧(∀ (i a:Nat),i < SetTable.below.go xs j f lo hi→xs[i]? = some a→a < j)∧∀ (i a:Nat),SetTable.below.go xs j f lo hi ≤ i→xs[i]? = some a→j ≤ a:=by
  intro f
  induction f with
  | zero =>
    intro lo hi h1 h2 h3 hl hr
    have e:lo = hi:=by lia
    subst e
    exact ⟨h1,hl,hr⟩
  | succ f ih =>
    intro lo hi h1 h2 h3 hl hr
    unfold SetTable.below.go
    by_cases lt:lo < hi
    · rw [if_pos lt]
      have hm:(lo + hi) / 2 < xs.size:=by lia
      have em:xs[(lo + hi) / 2]? = some (xs[(lo + hi) / 2]):=Array.getElem?_eq_getElem hm
      have ed:xs.getD ((lo + hi) / 2) j = xs[(lo + hi) / 2]:=by simp [Array.getD,hm]
      dsimp only
      rw [ed]
      by_cases c:xs[(lo + hi) / 2] < j
      · rw [if_pos c]
        refine ih _ _ h1 (by lia) (by lia) (fun i a hi' ea=>?_) hr
        rcases Nat.lt_or_ge i ((lo + hi) / 2) with q | q
        · exact Nat.lt_trans (r i _ a _ q ea em) c
        · have e:i = (lo + hi) / 2:=by lia
          subst e
          rw [em] at ea
          cases ea
          exact c
      · rw [if_neg c]
        refine ih _ _ (by lia) (by lia) (by lia) hl (fun i a hi' ea=>?_)
        rcases Nat.lt_or_ge ((lo + hi) / 2) i with q | q
        · have:=r _ i _ a q em ea
          lia
        · have e:i = (lo + hi) / 2:=by lia
          subst e
          rw [em] at ea
          cases ea
          lia
    · rw [if_neg lt]
      have e:lo = hi:=by lia
      subst e
      exact ⟨h1,hl,hr⟩
theorem below_at {xs:Array Nat} {j:Nat} (r:Rise xs):SetTable.below xs j ≤ xs.size∧(∀ (i a:Nat),i < SetTable.below xs j→xs[i]? = some a→a < j)∧∀ (i a:Nat),SetTable.below xs j ≤ i→xs[i]? = some a→j ≤ a :=
  below_go r _ _ _ (Nat.le_refl _) (Nat.zero_le _) (Nat.le_refl _) (fun i a h=>absurd h (Nat.not_lt_zero _)) fun i a h e=>by
    have:=(Array.getElem?_eq_some_iff.mp e).1
    lia
theorem toList_insertAt {α:Type} (xs:Array α) (p:Nat) (x:α):(SetTable.insertAt xs p x).toList = xs.toList.take p ++ x :: xs.toList.drop p:=by
  unfold SetTable.insertAt
  have:(xs.toList.drop p).take (xs.size - p) = xs.toList.drop p:=List.take_of_length_le (by simp)
  simp [this]
theorem rise_iff (xs:Array Nat):Rise xs↔xs.toList.Pairwise (· < ·):=by
  rw [List.pairwise_iff_getElem]
  constructor
  · intro r i j hi hj h
    exact r i j _ _ h (by simp) (by simp)
  · intro r i j a b h ha hb
    obtain ⟨h1,e1⟩:=Array.getElem?_eq_some_iff.mp ha
    obtain ⟨h2,e2⟩:=Array.getElem?_eq_some_iff.mp hb
    have:=r i j (by simpa using h1) (by simpa using h2) h
    simpa [e1,e2] using this
theorem rise_insert {xs:Array Nat} {j:Nat} (r:Rise xs) (hn:j ∉ xs.toList):Rise (SetTable.insertAt xs (SetTable.below xs j) j):=by
  obtain ⟨hp,hl,hr⟩:=below_at (j:=j) r
  rw [rise_iff] at r ⊢
  rw [toList_insertAt]
  generalize SetTable.below xs j = p at hp hl hr
  rw [List.pairwise_append]
  refine ⟨r.sublist (List.take_sublist _ _),List.pairwise_cons.mpr ⟨fun b hb=>?_,r.sublist (List.drop_sublist _ _)⟩,fun a ha b hb=>?_⟩
  · obtain ⟨i,hi,e⟩:=List.getElem_of_mem hb
    rw [List.getElem_drop] at e
    have e2:xs[p + i]? = some b:=by rw [← e,← Array.getElem?_toList]; exact List.getElem?_eq_getElem _
    have:=hr (p + i) b (by lia) e2
    have:b ≠ j:=fun z=>hn (z ▸ List.mem_of_mem_drop hb)
    lia
  · obtain ⟨i,hi,e⟩:=List.getElem_of_mem ha
    rw [List.getElem_take] at e
    have hi':i < p:=by simp at hi; lia
    have e2:xs[i]? = some a:=by rw [← e,← Array.getElem?_toList]; exact List.getElem?_eq_getElem _
    have lt:=hl i a hi' e2
    rcases List.mem_cons.mp hb with z | z
    · rw [z]; exact lt
    · obtain ⟨k,hk,e'⟩:=List.getElem_of_mem z
      rw [List.getElem_drop] at e'
      have e3:xs[p + k]? = some b:=by rw [← e',← Array.getElem?_toList]; exact List.getElem?_eq_getElem _
      have:=hr (p + k) b (by lia) e3
      lia
theorem below_after {xs:Array Nat} {i a:Nat} (r:Rise xs) (h:xs[i]? = some a):SetTable.below xs (a + 1) = i + 1:=by
  obtain ⟨hp,hl,hr⟩:=below_at (j:=a + 1) r
  have hi:=(Array.getElem?_eq_some_iff.mp h).1
  rcases Nat.lt_trichotomy (SetTable.below xs (a + 1)) (i + 1) with q | q | q
  · have:=hr i a (by lia) h
    lia
  · exact q
  · have lt:i + 1 < xs.size:=by lia
    have e:=Array.getElem?_eq_getElem lt
    have h1:=hl (i + 1) _ q e
    have h2:=r i (i + 1) a _ (Nat.lt_succ_self _) h e
    lia
theorem below_zero {xs:Array Nat} (r:Rise xs):SetTable.below xs 0 = 0:=by
  obtain ⟨hp,hl,hr⟩:=below_at (j:=0) r
  rcases Nat.eq_zero_or_pos (SetTable.below xs 0) with q | q
  · exact q
  · have lt:0 < xs.size:=by lia
    have:=hl 0 _ q (Array.getElem?_eq_getElem lt)
    lia
end L2
namespace L2
open PySem
structure TabOk (L:Bool) (t:SetTable):Prop where
  rise:Rise t.place
  bare:t.dummies = #[]
  led:t.led = L
theorem below_mem {xs:Array Nat} {j:Nat} (r:Rise xs) (h:j ∈ xs.toList):xs[SetTable.below xs j]? = some j:=by
  obtain ⟨hp,hl,hr⟩:=below_at (j:=j) r
  obtain ⟨i,hi,e⟩:=List.getElem_of_mem h
  have e2:xs[i]? = some j:=by rw [← e,← Array.getElem?_toList]; exact List.getElem?_eq_getElem _
  rcases Nat.lt_trichotomy i (SetTable.below xs j) with q | q | q
  · have:=hl i j q e2
    lia
  · rw [← q]; exact e2
  · have hi':=(Array.getElem?_eq_some_iff.mp e2).1
    have lt:SetTable.below xs j < xs.size:=by lia
    have e3:=Array.getElem?_eq_getElem lt
    have h1:=hr _ _ (Nat.le_refl _) e3
    have h2:=r _ i _ j q e3 e2
    lia
theorem slot_bare {t:SetTable} {j:Nat} (hb:t.dummies = #[]):t.slot j ≠ .dummy:=by
  unfold SetTable.slot
  have:SetTable.has t.dummies j = false:=by rw [hb]; rfl
  dsimp only
  split
  · intro z; cases z
  · rw [this]; intro z; simp at z
theorem slot_empty {t:SetTable} {j:Nat} (r:Rise t.place) (h:t.slot j = .empty):j ∉ t.place.toList:=fun m=>by
  unfold SetTable.slot at h
  have:=below_mem r m
  simp [this] at h
theorem probe_bare {t:SetTable} {ha:Nat→Int} {h:Int} (hb:t.dummies = #[]):∀ (f:Nat) (p:SetTable.Probe) (j:Nat) (d:Option Nat),p.dummy = none→SetTable.probe.go t ha h f p = some (.empty j d)→d = none∧t.slot j = .empty:=by
  intro f
  induction f with
  | zero=>intro p j d _ e; cases e
  | succ f ih =>
    intro p j d hp e
    have adv:(t.advance p).dummy = none:=by
      unfold SetTable.advance
      split
      · exact hp
      · exact hp
    unfold SetTable.probe.go at e
    split at e
    · rename_i q
      cases e
      exact ⟨hp,q⟩
    · rename_i q
      exact absurd q (slot_bare hb)
    · split at e
      · cases e
      · exact ih _ j d adv e
theorem range_rise (n:Nat):Rise (Array.range n):=by
  rw [rise_iff,Array.toList_range]
  exact List.pairwise_lt_range
theorem standIn_ok {L:Bool} {t:SetTable} (o:TabOk L t) (n:Nat):TabOk L (t.standIn n):=⟨range_rise n,rfl,o.led⟩
theorem put_ok {L:Bool} {t:SetTable} {j:Nat} (o:TabOk L t) (h:j ∉ t.place.toList):TabOk L (t.put j).1:=by
  refine ⟨rise_insert o.rise h,?_,o.led⟩
  have:SetTable.has t.dummies j = false:=by rw [o.bare]; rfl
  show (if SetTable.has t.dummies j = true then _ else t.dummies) = #[]
  rw [this,o.bare]
  rfl
set_option tactic.hygienic true in
theorem lay_ok {L:Bool} {t:SetTable} {es:Array (Int×Value)} {h:Int} {x:Value} (o:TabOk L t):TabOk L (layNew t es h x).2.1:=by
  unfold layNew
  cases e:t.freeSlot h with
  | none=>exact standIn_ok o _
  | some r =>
    obtain ⟨j,d⟩:=r
    have hj:j ∉ t.place.toList:=by
      unfold SetTable.freeSlot at e
      split at e
      · rename_i j' d' q
        obtain ⟨hd,hs⟩:=probe_bare o.bare _ _ j' d' rfl q
        subst hd
        cases e
        exact slot_empty o.rise hs
      · cases e
    have k:=put_ok o hj
    dsimp only
    unfold SetTable.orStandIn
    split
    · exact k
    · exact standIn_ok k _
theorem live_rise {f:Nat→Option Nat} (n:Nat):Rise (((List.range n).filterMap fun j=>(f j).map (j,·)).map (·.1)).toArray:=by
  rw [rise_iff]
  have e:((List.range n).filterMap fun j=>(f j).map (j,·)).map (·.1) = (List.range n).filter fun j=>(f j).isSome:=by
    induction (List.range n) with
    | nil=>rfl
    | cons a l ih =>
      rw [List.filterMap_cons,List.filter_cons]
      cases q:f a with
      | none=>simpa using ih
      | some v=>simpa using ih
  rw [show (((List.range n).filterMap fun j=>(f j).map (j,·)).map (·.1)).toArray.toList = (List.range n).filter fun j=>(f j).isSome from e]
  exact List.pairwise_lt_range.sublist List.filter_sublist
theorem relay_ok {L:Bool} {t:SetTable} {es:Array (Int×Value)} {n:Nat} (o:TabOk L t):TabOk L (relayAll t es n).2.1:=by
  unfold relayAll
  cases e:t.relaid (es.map (·.1)) n with
  | none=>exact standIn_ok o _
  | some r =>
    obtain ⟨t',order⟩:=r
    have k:TabOk L t':=by
      unfold SetTable.relaid SetTable.laid at e
      cases q:SetTable.layClean (SetTable.sizeAbove n - 1) (es.map (·.1)) with
      | none=>rw [q] at e; cases e
      | some owner =>
        rw [q] at e
        cases e
        exact ⟨live_rise _,rfl,o.led⟩
    dsimp only
    split
    · exact k
    · exact standIn_ok o _
end L2
namespace L2
open PySem PyProof.Rows
section
variable {prog:Program} {w:World} {K:Type} [DecidableEq K] (knd:KeyKind prog w K)
def ElOk (k:K) (e:Int×Value):Prop:=knd.is k e.2 = true∧e.1 = knd.hash k∧e.2.scannable = true
inductive Els:List K→List (Int×Value)→Prop
  | nil:Els [] []
  | cons {k:K} {e:Int×Value} {ks:List K} {es:List (Int×Value)}:ElOk knd k e→Els ks es→Els (k :: ks) (e :: es)
def SetL (h:Heap) (a:Addr) (ks:List K):Prop :=
  ∃ o es ep t,h.get? a = some o∧o.ExactSet∧o.data = .set es ep t∧Els knd ks es.toList∧ks.Nodup∧es.size < scanBound∧t.fits es.size = true∧TabOk (!w.params.followText "set-order") t
variable {knd}
theorem Els.length {ks:List K} {es:List (Int×Value)} (x:Els knd ks es):ks.length = es.length:=by
  induction x with
  | nil=>rfl
  | cons _ _ ih=>simp [ih]
theorem Els.elems {ks:List K} {es:List (Int×Value)} (x:Els knd ks es):ElemsOf knd es:=by
  induction x with
  | nil=>intro e he; cases he
  | @cons k e ks es h _ ih =>
    intro e' he
    rcases List.mem_cons.mp he with z | z
    · subst z; exact ⟨⟨k,h.1,h.2.1⟩,h.2.2⟩
    · exact ih e' z
theorem Els.mem {ks:List K} {es:List (Int×Value)} (x:Els knd ks es) (k:K):k ∈ ks↔∃ e ∈ es,knd.is k e.2 = true:=by
  induction x with
  | nil=>simp
  | @cons k' e ks es h _ ih =>
    rw [List.mem_cons,ih]
    constructor
    · rintro (z | ⟨e',he,q⟩)
      · subst z; exact ⟨e,List.mem_cons_self,h.1⟩
      · exact ⟨e',List.mem_cons_of_mem _ he,q⟩
    · rintro ⟨e',he,q⟩
      rcases List.mem_cons.mp he with z | z
      · subst z; exact .inl (knd.inj _ k k' q h.1)
      · exact .inr ⟨e',z,q⟩
theorem Els.perm {es es':List (Int×Value)} (p:List.Perm es' es):∀ {ks:List K},Els knd ks es→∃ ks',ks'.Perm ks∧Els knd ks' es':=by
  induction p with
  | nil=>intro ks x; exact ⟨ks,List.Perm.refl _,x⟩
  | cons e _ ih =>
    intro ks x
    cases x with
    | cons h r =>
      obtain ⟨ks',q,y⟩:=ih r
      exact ⟨_,q.cons _,.cons h y⟩
  | swap e f l =>
    intro ks x
    cases x with
    | cons h r=>cases r with
      | cons h' r'=>exact ⟨_,List.Perm.swap _ _ _,.cons h' (.cons h r')⟩
  | trans _ _ ih1 ih2 =>
    intro ks x
    obtain ⟨k1,q1,y1⟩:=ih2 x
    obtain ⟨k2,q2,y2⟩:=ih1 y1
    exact ⟨k2,q2.trans q1,y2⟩
theorem SetL.setOf {h:Heap} {a:Addr} {ks:List K} (x:SetL knd h a ks):h.SetOf knd a (fun k=>decide (k ∈ ks)) ks.length:=by
  obtain ⟨o,es,ep,t,e,ex,d,el,nd,b,f,ok⟩:=x
  exact ⟨o,es,ep,t,e,ex,d,el.elems,fun k=>by rw [decide_eq_true_iff]; exact el.mem k,b,f,by rw [el.length]; simp⟩
theorem SetL.at {h h':Heap} {a:Addr} {ks:List K} (x:SetL knd h a ks) (k:∀ o,h.get? a = some o→h'.get? a = some o):SetL knd h' a ks:=by
  obtain ⟨o,es,ep,t,e,r⟩:=x
  exact ⟨o,es,ep,t,k o e,r⟩
variable {A:Around} {E:Value→Shared→Prop} {s:Shared}
theorem store_setL {h:Heap} {a:Addr} {o:Obj} {es es':Array (Int×Value)} {ep:Nat} {t t':SetTable} {ks:List K} (ho:h.get? a = some o) (hex:o.ExactSet) (hd:o.data = .set es ep t) (el:Els knd ks es'.toList) (nd:ks.Nodup)
    (hb:es'.size < scanBound) (hf:t'.fits es'.size = true) (ok:TabOk (!w.params.followText "set-order") t') :
    (h.update a (Obj.putSet es' t')).get? a = some { o with data:=.set es' (ep + 1) t' }∧SetL knd (h.update a (Obj.putSet es' t')) a ks:=by
  have g:(h.update a (Obj.putSet es' t')).get? a = some { o with data:=.set es' (ep + 1) t' }:=by
    have q:=Heap.get?_update_self (Obj.putSet es' t') ho (by rw [putSet_of es' t' hd]; rfl)
    rw [putSet_of es' t' hd] at q
    exact q
  exact ⟨g,_,es',ep + 1,t',g,hex,rfl,el,nd,hb,hf,ok⟩
theorem tail_setL {g:Bool→Sem Unit} (hg:∀ (b:Bool) (s₁:Shared) (Q':Unit→Shared→Prop),Q' () s₁→wpAny (model prog w) A (g b) Q' E s₁) {a:Addr} {o:Obj} {es es1:Array (Int×Value)} {ep:Nat} {t t2:SetTable} {ks:List K}
    (ho:s.heap.get? a = some o) (hex:o.ExactSet) (hd:o.data = .set es ep t) (el:Els knd ks es1.toList) (nd:ks.Nodup) (hb:es1.size < scanBound) (hf:t2.fits es1.size = true) (ok:TabOk (!w.params.followText "set-order") t2) {wasDummy:Bool} {R:Option Bool→Shared→Prop}
    (h:∀ h' ks',Heap.SameBut a s.heap h'→ks'.Perm ks→SetL knd h' a ks'→R (some true) { s with heap:=h' }) :
    wpAny (model prog w) A (do
        storeSet a es1 t2
        if (!wasDummy && t2.tooFull) = true then do
            g (relayAll t2 es1 (SetTable.grown es1.size)).2.2
            storeSet a (relayAll t2 es1 (SetTable.grown es1.size)).1 (relayAll t2 es1 (SetTable.grown es1.size)).2.1
            pure (some true)
          else pure (some true)) R E s:=by
  obtain ⟨ho1,hS1⟩:=store_setL (knd:=knd) ho hex hd el nd hb hf ok
  have sb:=Heap.SameBut.update s.heap a (Obj.putSet es1 t2)
  refine wpAny_bind (wpAny_storeSet_of ho hd ?_ (fits_of_scanBound hb))
  split
  · have hp:=relayAll_perm t2 es1 (SetTable.grown es1.size)
    have hfr:=relayAll_fits t2 es1 (SetTable.grown es1.size)
    have okr:TabOk (!w.params.followText "set-order") (relayAll t2 es1 (SetTable.grown es1.size)).2.1:=relay_ok ok
    generalize relayAll t2 es1 (SetTable.grown es1.size) = Y at hp hfr okr ⊢
    obtain ⟨es2,t3,gv⟩:=Y
    obtain ⟨ks2,q2,el2⟩:=el.perm hp
    have z:es2.size = es1.size:=by rw [← Array.length_toList,hp.length_eq,Array.length_toList]
    have hb2:es2.size < scanBound:=by rw [z]; exact hb
    refine wpAny_bind (hg _ _ _ (wpAny_bind (wpAny_storeSet_of ho1 rfl ?_ (fits_of_scanBound hb2))))
    obtain ⟨_,hS2⟩:=store_setL (knd:=knd) ho1 hex rfl el2 (q2.nodup_iff.mpr nd) hb2 hfr okr
    exact wpAny_pure (h _ ks2 (sb.trans (Heap.SameBut.update _ a _)) q2 hS2)
  · exact wpAny_pure (h _ ks sb (List.Perm.refl _) hS1)
theorem add_setL {a:Addr} {ks:List K} {k:K} {x:Value} {Q:Bool→Shared→Prop} (hkey:knd.is k x = true) (hsc:x.scannable = true) (hS:SetL knd s.heap a ks) (room:ks.length + 1 < scanBound)
    (h:∀ b h' ks',Heap.SameBut a s.heap h'→ks'.Perm (if k ∈ ks then ks else ks ++ [k])→SetL knd h' a ks'→Q b { s with heap:=h' }):wpAny (model prog w) A (setAddHashed a x (knd.hash k)) Q E s:=by
  have hS0:=hS
  obtain ⟨o,es,ep,t,ho,hex,hd,el,nd,hb,hf,ok⟩:=hS
  have hel:=el.elems
  have hl:=el.length
  have hb1:es.size + 1 < scanBound:=by rw [hl] at room; simpa using room
  unfold setAddHashed setAddHashedIn
  refine wpAny_holding (wpAny_bind (wpAny_setState_of ho hd hf ?_))
  dsimp only
  rw [byScan_of hsc hb hel]
  simp only [↓reduceIte]
  unfold setAddByScan
  refine wpAny_bind (wpAny_bind (wpAny_rule (wpAny_bind (wpAny_setScan_of hkey ho hd hf hel ?_))))
  cases hr:List.findIdx? (fun e=>knd.is k e.2) es.toList with
  | some j =>
    obtain ⟨hj,hpj,_⟩:=List.findIdx?_eq_some_iff_getElem.mp hr
    have hk:k ∈ ks:=(el.mem k).mpr ⟨es.toList[j],List.getElem_mem hj,hpj⟩
    dsimp only
    have e:s = { s with heap:=s.heap }:=by cases s; rfl
    rw [e]
    exact wpAny_pure (wpAny_pure (h _ s.heap ks (Heap.SameBut.refl a s.heap) (by rw [if_pos hk]) hS0))
  | none =>
    have hk:k ∉ ks:=fun m=>by
      obtain ⟨e,he,hp⟩:=(el.mem k).mp m
      have q:=List.findIdx?_eq_none_iff.mp hr e he
      rw [hp] at q
      cases q
    dsimp only
    have hperm:=layNew_perm t es (knd.hash k) x
    have hfits:=layNew_fits t es (knd.hash k) x
    have hok:TabOk (!w.params.followText "set-order") (layNew t es (knd.hash k) x).2.1:=lay_ok ok
    generalize layNew t es (knd.hash k) x = Y at hperm hfits hok ⊢
    obtain ⟨es1,t1,wd,gv⟩:=Y
    dsimp only at hperm hfits hok ⊢
    rw [Array.toList_push] at hperm
    have elp:Els knd (ks ++ [k]) (es.toList ++ [(knd.hash k,x)]):=by
      clear hr hperm hS0 hl room h nd hk
      generalize es.toList = l at el
      induction el with
      | nil=>exact .cons ⟨hkey,rfl,hsc⟩ .nil
      | cons hh _ ih=>exact .cons hh (ih )
    obtain ⟨ks1,q1,el1⟩:=elp.perm hperm
    have nd1:ks1.Nodup:=q1.nodup_iff.mpr (by
      rw [List.nodup_append]
      exact ⟨nd,by simp,fun a ha b hb z=>hk (by rw [List.mem_singleton] at hb; rw [← hb,← z]; exact ha)⟩)
    have hb2:es1.size < scanBound:=by rw [← Array.length_toList,hperm.length_eq,List.length_append,Array.length_toList]; simpa using hb1
    have fin:∀ h' ks',Heap.SameBut a s.heap h'→ks'.Perm ks1→SetL knd h' a ks'→Q true { s with heap:=h' }:=fun h' ks' sb p hs=>h true h' ks' sb (by rw [if_neg hk]; exact p.trans q1) hs
    refine wpAny_bind (?_:wpAny (model prog w) A (match gv with | true=>rule "set.scan.the-table-gave-way" | false=>pure ()) _ E s)
    have gw:∀ (b:Bool) (s₁:Shared) (Q':Unit→Shared→Prop),Q' () s₁→wpAny (model prog w) A (match b with | true=>rule "set.scan.the-table-gave-way" | false=>pure ()) Q' E s₁:=fun b s₁ Q' hq=>by
      cases b
      · exact wpAny_pure hq
      · exact wpAny_rule hq
    refine gw _ _ _ ?_
    split
    · refine wpAny_bind ?_
      rw [hashByValue_scannable 8 hsc]
      refine wpAny_pure ?_
      refine tail_setL gw ho hex hd el1 nd1 hb2 ?_ ?_ fun h' ks' sb p hs=>?_
      · split
        · exact hfits
        · exact SetTable.fits_plain_off hfits
      · split
        · exact hok
        · exact ⟨hok.rise,hok.bare,hok.led⟩
      · exact wpAny_pure (fin h' ks' sb p hs)
    · refine wpAny_bind (wpAny_pure ?_)
      simp only [↓reduceIte]
      exact tail_setL gw ho hex hd el1 nd1 hb2 hfits hok fun h' ks' sb p hs=>wpAny_pure (fin h' ks' sb p hs)
end
end L2
namespace L2
open PySem PyProof.Rows
section
variable {prog:Program} {w:World} {K:Type} [DecidableEq K] {knd:KeyKind prog w K}
theorem added {ks ks':List K} {k:K} (p:ks'.Perm (if k ∈ ks then ks else ks ++ [k])):(∀ x,x ∈ ks'↔x ∈ ks∨x = k)∧ks'.length ≤ ks.length + 1:=by
  by_cases h:k ∈ ks
  · rw [if_pos h] at p
    exact ⟨fun x=>by rw [p.mem_iff]; exact ⟨.inl,fun z=>z.elim id fun e=>e ▸ h⟩,by rw [p.length_eq]; lia⟩
  · rw [if_neg h] at p
    exact ⟨fun x=>by rw [p.mem_iff]; simp,by rw [p.length_eq]; simp⟩
variable {A:Around} {E:Value→Shared→Prop}
theorem fill_loop {R:Result→Shared→Prop} {I:Addr} {fp wr:List Addr} {G:Array GenState→Array GenState→Prop} {n:Nat} {P:Nat→Value→Prop} {St:Nat→Shared→Prop} (W:WalksS prog w A.in1 I fp wr G n P St) (S:Addr) (nS:S ∉ fp)
    (val:Nat→K) (hv:∀ i v,P i v→knd.is (val i) v = true∧v.scannable = true) (hb:n + 1 < scanBound):∀ (m i:Nat) (s:Shared) (ks:List K),n - i = m→i ≤ n→St i s→SetL knd s.heap S ks→ks.length ≤ i →
      (∀ s' ks',Moved (S :: wr) G s s'→SetL knd s'.heap S ks'→(∀ x,x ∈ ks'↔x ∈ ks∨∃ j,i ≤ j∧j < n∧x = val j)→R (.ok (.ret .none)) s')→codeAny (model prog w) A (.builtin "set.update.loop" ⟨[.ref S,.ref I],[]⟩) R s:=by
  have nw:S ∉ wr:=fun z=>nS (W.sub _ z)
  have up:∀ b ∈ wr,b ∈ S :: wr:=fun b z=>List.mem_cons_of_mem _ z
  intro m
  induction m with
  | zero =>
    intro i s ks hm hi st hS _ q
    have e:i = n:=by lia
    subst e
    refine codeAny_builtin F.entry_set_update_loop ?_
    rw [Around.under_plainId F.plain_set_update_loop _]
    show wpAny (model prog w) A.in1 (pyNext (.ref I) >>= _) _ _ s
    refine wpAny_bind (W.done s _ _ st fun s' mv=>?_)
    show wpAny (model prog w) A.in1 (ret Value.none) _ _ s'
    exact wpAny_pure (q s' ks (mv.mono up) (hS.at fun o e=>mv.heap S o nw e) fun x=>⟨.inl,fun z=>z.elim id fun ⟨j,h1,h2,_⟩=>absurd h2 (by lia)⟩)
  | succ m ih =>
    intro i s ks hm hi st hS hl q
    have lt:i < n:=by lia
    refine codeAny_builtin F.entry_set_update_loop ?_
    rw [Around.under_plainId F.plain_set_update_loop _]
    show wpAny (model prog w) A.in1 (pyNext (.ref I) >>= _) _ _ s
    refine wpAny_bind (W.item i s _ _ lt st fun v s' hP st' mv=>?_)
    obtain ⟨hk,hsc⟩:=hv i v hP
    have hS1:SetL knd s'.heap S ks:=hS.at fun o e=>mv.heap S o nw e
    show wpAny (model prog w) A.in1 (holding [v] (setAdd S v) >>= _) _ _ s'
    refine wpAny_bind (wpAny_holding ?_)
    unfold setAdd
    refine wpAny_holding (wpAny_bind (knd.pyHash (k:=val i) hk ?_))
    refine add_setL (knd:=knd) (s:={ s' with toks:=s'.toks + 1 }) hk hsc hS1 (by lia) fun b h' ks' sb p hs=>?_
    obtain ⟨hm',hl'⟩:=added p
    refine wpAny_pure ⟨plainId_quiet F.plain_set_update_loop _,ih (i + 1) _ ks' (by lia) lt (W.frame _ s' _ _ st' (Nat.le_succ _) fun c hc o e=>?_) hs (by lia) fun s'' ks'' mv' hs' hx=>?_⟩
    · rw [sb.2 c fun z:c = S=>nS (z ▸ hc)]
      exact e
    · refine q s'' ks'' (Moved.trans W.gtrans ((mv.mono up).then_heap (Nat.le_succ _) fun c o hc e=>?_) mv') hs' fun x=>?_
      · rw [sb.2 c fun z:c = S=>hc (by rw [z]; exact List.mem_cons_self)]
        exact e
      · rw [hx,hm']
        constructor
        · rintro ((z | z) | ⟨j,h1,h2,e⟩)
          · exact .inl z
          · exact .inr ⟨i,Nat.le_refl _,lt,z⟩
          · exact .inr ⟨j,by lia,h2,e⟩
        · rintro (z | ⟨j,h1,h2,e⟩)
          · exact .inl (.inl z)
          · rcases Nat.eq_or_lt_of_le h1 with z | z
            · exact .inl (.inr (z ▸ e))
            · exact .inr ⟨j,z,h2,e⟩
variable {s:Shared}
abbrev bareSet (w:World):Obj:={ cls:=.type "set",dict:=none,data:=.set #[] 0 (.fresh 0 0 (!w.params.followText "set-order")) }
theorem bareSet_ok {h:Heap} {a:Addr} (e:h.get? a = some (bareSet w)):SetL knd h a [] :=
  ⟨_,#[],0,_,e,⟨rfl,rfl,rfl⟩,rfl,.nil,.nil,by decide,rfl,⟨fun i j a b _ h _=>(by cases h),rfl,rfl⟩⟩
theorem new_set1 (a:Value) {Q:Value→Shared→Prop} (q:Q (.ref s.heap.objs.size) { s with heap:=s.heap.push (bareSet w) }):codeAny (model prog w) A (.call (.builtin "set.__new__") ⟨[.type "set",a],[]⟩) (wants Q E) s:=by
  refine codeAny_of_tree ?_
  show wpAny (model prog w) A.in1 (do checkBuiltinCall "set.__new__" ⟨[.type "set",a],[]⟩; again (.builtin "set.__new__" ⟨[.type "set",a],[]⟩)) _ _ s
  refine wpAny_bind (wpAny_of_eq (F.newCall_set_1 a) (wpAny_pure ⟨plainId_quiet F.plain_set_new _,codeAny_builtin F.entry_set_new ?_⟩))
  rw [Around.under_plainId F.plain_set_new _]
  unfold Builtin.«set.__new__» Builtin.Frozenset.newClass
  have hsub:=sub_set_self
  obtain ⟨hp,g,d,tk,os⟩:=s
  dsimp only
  wp_walk
  refine wpAny_askSetting (wpAny_pure ?_)
  dsimp only
  simp only [newObj]
  refine wpAny_bind (wpAny_alloc (wpAny_pure ?_))
  exact wpAny_pure q
set_option maxHeartbeats 3200000 in
theorem call_setL {l:Addr} {items:Array Value} {Q:Value→Shared→Prop} (hh:A.handled = none) (hl:s.heap.IsList l items) (val:Nat→K) (hv:∀ (i:Nat) (v:Value),items[i]? = some v→knd.is (val i) v = true∧v.scannable = true) (hb:items.size + 1 < scanBound)
    (q:∀ (h':Heap) (tk:Nat) (ks:List K),SetL knd h' s.heap.objs.size ks→(∀ x,x ∈ ks↔∃ j,j < items.size∧x = val j)→(∀ b o,b < s.heap.objs.size→s.heap.get? b = some o→h'.get? b = some o)→Q (.ref s.heap.objs.size) { s with heap:=h',toks:=tk }) :
    wpAny (model prog w) A (call (.type "set") [.ref l]) Q E s:=by
  obtain ⟨c,tl,hmro⟩:=F.called_set.mro
  have hmade:=F.called_set.made
  have hsub:=F.called_set.sub
  refine wpAny_call (codeAny_of_tree ?_)
  show wpAny (model prog w) _ (callAny (.type "set") _) _ _ _
  refine wpAny_pure ⟨Code.quiet_builtin _ (by decide +kernel),codeAny_builtin F.entry_type_call ?_⟩
  rw [Around.under_plain (weight_type_call_type "set" [.ref l] []) rfl]
  have h1:=F.called_set.notType
  have h2:=F.called_set.canCreate
  have hct:=F.typeCall_set_1 (.ref l)
  repeat (any_goals (first | assumption | wp_step))
  refine codeAny_mono (new_set1 (.ref l) (E:=E) (Q:=fun ob s₁=>ob = .ref s.heap.objs.size∧s₁ = { s with heap:=s.heap.push (bareSet w) }) ⟨rfl,rfl⟩) fun r s₁ hr=>?_
  cases r with
  | error e=>exact hr
  | ok fl =>
    cases fl with
    | ret ob =>
      obtain ⟨rfl,rfl⟩:=hr
      have hS:(s.heap.push (bareSet w)).get? s.heap.objs.size = some (bareSet w):=Heap.get?_push_size _ rfl
      have hT:Shared.TypeIs { s with heap:=s.heap.push (bareSet w) } (.ref s.heap.objs.size) "set":=⟨_,hS,rfl⟩
      have hli:=F.called_set.init.lookup
      have hbi:=F.called_set.init.bind (.ref s.heap.objs.size)
      repeat (any_goals (first | assumption | wp_step))
      refine codeAny_mono (codeAny_call_builtin (R:=wants (fun r s₂=>r = .none∧∃ h' tk ks,s₂ = { s with heap:=h',toks:=tk }∧SetL knd h' s.heap.objs.size ks∧(∀ x,x ∈ ks↔∃ j,j < items.size∧x = val j)∧(∀ b o,b < s.heap.objs.size→s.heap.get? b = some o→h'.get? b = some o)) E)
        F.called_set.init.plain F.entry_set_init (check_set_init_1 hT ?_)) fun r₂ s₂ hr₂=>?_
      · obtain ⟨ol,hol,hcl,nl,hdl⟩:=hl
        obtain ⟨ocls,odict,odata,oslots⟩:=ol
        simp only at hcl hdl
        subst hcl hdl
        have hol':(s.heap.push (bareSet w)).get? l = some { cls:=.type "list",dict:=odict,data:=.seq items nl,slots:=oslots }:=Heap.get?_push_of_some _ hol
        have hsls:=F.sub_list_set
        have hslf:=F.sub_list_frozenset
        have hne:(Value.type "list" == Value.type "dict") = false:=by decide
        have hl1:(s.heap.push (bareSet w)).IsList l items:=⟨_,hol',rfl,nl,rfl⟩
        unfold Builtin.«set.__init__» noKeywords Builtin.Frozenset.updateFrom
        generalize hPI:pyIter = PI
        wp_walk
        subst hPI
        refine wpAny_pyIter_list hl1 (wpAny_bind (wpAny_runValue ?_))
        have hlS:l < s.heap.objs.size:=Heap.lt_size hol
        have hh3:A.in1.in1.in1.handled = none:=by simp [hh]
        have hneI:l ≠ (s.heap.push (bareSet w)).objs.size:=by
          rw [Heap.size_push]
          exact Nat.ne_of_lt (Nat.lt_succ_of_lt hlS)
        have hSf:s.heap.objs.size ∉ [(s.heap.push (bareSet w)).objs.size,l]:=by
          rw [Heap.size_push]
          simp only [List.mem_cons,List.mem_singleton,List.not_mem_nil,or_false,not_or]
          exact ⟨Nat.ne_of_lt (Nat.lt_succ_self _),Nat.ne_of_gt hlS⟩
        refine fill_loop (knd:=knd) ((Walks.list hh3 _ l hneI items).toS) s.heap.objs.size hSf val hv hb (items.size - 0) 0 _ [] (by lia) (Nat.zero_le _) ⟨⟨_,Heap.get?_push_size _ rfl,rfl,rfl⟩,hl1.push _⟩
          (bareSet_ok (Heap.get?_push_of_some _ hS)) (Nat.le_refl _) fun s' ks' mv hs hx=>?_
        obtain ⟨h',g',d',tk',os'⟩:=s'
        have eg:g' = s.gens:=mv.gens
        have ed:d' = s.drawn:=mv.drawn
        have eo:os' = s.os:=mv.os
        subst eg ed eo
        show wpAny (model prog w) _ _ _ _ _
        refine wpAny_pure ?_
        show wpAny (model prog w) _ (ret Value.none) _ _ _
        refine wpAny_pure ⟨rfl,h',tk',ks',rfl,hs,fun x=>?_,fun b o hb e=>?_⟩
        · rw [hx]
          constructor
          · rintro (z | ⟨j,_,h2,e⟩)
            · cases z
            · exact ⟨j,h2,e⟩
          · rintro ⟨j,h2,e⟩
            exact .inr ⟨j,Nat.zero_le _,h2,e⟩
        · have hb1:b ≠ s.heap.objs.size:=Nat.ne_of_lt hb
          have hb2:b ≠ (s.heap.push (bareSet w)).objs.size:=by
            rw [Heap.size_push]
            exact Nat.ne_of_lt (Nat.lt_succ_of_lt hb)
          exact mv.heap b o (by simp only [List.mem_cons,List.mem_singleton,List.not_mem_nil,or_false,not_or]; exact ⟨hb1,hb2⟩) (Heap.get?_push_of_some _ (Heap.get?_push_of_some _ e))
      · cases r₂ with
        | error e=>exact hr₂
        | ok fl₂ =>
          cases fl₂ with
          | ret r =>
            obtain ⟨rfl,h',tk,ks,rfl,hs,hx,hk'⟩:=hr₂
            repeat (any_goals (first | assumption | wp_step))
            exact q _ _ _ hs hx hk'
          | _=>exact hr₂.elim
    | _=>exact hr.elim
end
end L2
namespace L2
open PySem PyProof.Rows
theorem sl_setit_next:Slot "set_iterator" "__next__" "set_iterator.__next__" :=
  .of (owner:="set_iterator") (n:="__next__") (by rw [typeLookup_type,builtinLookup_eq_fast]; kernel_rfl) (by decide +kernel) (by decide +kernel) (by decide +kernel) (by first | exact .inl (by decide +kernel) | exact .inr (by decide +kernel)) (by rw [isSubtype_type]; kernel_rfl)
theorem en_setit_next:entryFor table "set_iterator.__next__" = some Builtin.«set_iterator.__next__»:=entryFor_of_tree (by kernel_rfl)
theorem ar_setit_next (a:Value):argsOk "set_iterator.__next__" ⟨[a],[]⟩:=by unfold argsOk; kernel_rfl
theorem en_set_iter:entryFor table "set.__iter__" = some Builtin.«frozenset.__iter__» :=
  entryFor_alias (id':="frozenset.__iter__") (by kernel_rfl) rfl (by decide +kernel) (by kernel_rfl)
abbrev SetIt (h:Heap) (it a:Addr) (f:Value) (i n ep:Nat):Prop :=
  h.get? it = some { cls:=.type "set_iterator",dict:=none,data:=.fields #[f,.int i 0,.ref a,.int n 0,.int ep 0],slots:=#[] }
section
variable {prog:Program} {w:World} {A:Around} {E:Value→Shared→Prop} {s:Shared}
theorem setit_item {it a:Addr} {o:Obj} {es:Array (Int×Value)} {ep sl i j:Nat} {t:SetTable} {x:Int×Value} {Q:Option Value→Shared→Prop} (hne:a ≠ it) (hi:SetIt s.heap it a (.int sl 0) i es.size ep) (ho:s.heap.get? a = some o) (hd:o.data = .set es ep t) (hf:t.fits es.size = true)
    (hb:w.params.followText "set-order" = false) (hpl:t.plain = true∨es.size ≤ 1) (hled:t.led = true) (hbl:SetTable.below t.place sl = i) (hx:es[i]? = some x) (hj:t.place[i]? = some j)
    (q:∀ g,SetIt g it a (.int ((j + 1:Nat):Int) 0) (i + 1) es.size ep→Heap.SameBut it s.heap g→Q (some x.2) { s with heap:=g }):wpAny (model prog w) A (pyNext (.ref it)) Q E s:=by
  have T:s.TypeIs (.ref it) "set_iterator":=⟨_,hi,rfl⟩
  unfold pyNext
  refine wpAny_bind (wpAny_attempt (wpAny_callSpecial?_slot (name:=Str.ofString "__next__") T sl_setit_next (wpAny_call_entry sl_setit_next T en_setit_next ?_ (ar_setit_next _))))
  unfold Builtin.«set_iterator.__next__»
  refine wpAny_bind (m:=slotArgs "__next__" 0 _) (wpAny_pure ?_)
  refine wpAny_bind (wpAny_fieldsOf hi rfl ?_)
  dsimp only
  unfold setEntries
  refine wpAny_bind (wpAny_bind (wpAny_setState_of ho hd hf (wpAny_pure ?_)))
  rw [if_neg (by simp)]
  unfold setNext
  refine wpAny_bind (wpAny_bind (wpAny_setState_of ho hd hf ?_))
  unfold setsByText
  refine wpAny_bind (wpAny_bind (wpAny_askSetting (wpAny_pure ?_)))
  show wpAny (model prog w) _ (if w.params.followText "set-order" = true then _ else _) _ _ s
  rw [hb,if_neg Bool.false_ne_true]
  have nd:(!t.plain && decide (es.size > 1)) = false:=by
    rcases hpl with z | z
    · rw [z]; rfl
    · rw [decide_eq_false (Nat.not_lt.mpr z),Bool.and_false]
  show wpAny (model prog w) _ (if (!t.plain && decide (es.size > 1)) = true then _ else _) _ _ s
  rw [nd,if_neg Bool.false_ne_true]
  show wpAny (model prog w) _ ((if (!t.led && !es.isEmpty) = true then unsupported "set:maker-not-led" else pure ()) >>= _) _ _ s
  rw [hled]
  refine wpAny_bind (wpAny_pure (wpAny_pure ?_))
  have e1:SetTable.below t.place ((sl:Int)).toNat = i:=by rw [Int.toNat_natCast]; exact hbl
  rw [e1,hx,hj]
  refine wpAny_bind (wpAny_setField_rec hi (by simp) fun g1 i1 s1=>?_)
  replace i1:SetIt g1 it a (.int ((j + 1:Nat):Int) 0) i es.size ep:=i1
  refine wpAny_bind (wpAny_setField_rec i1 (by simp) fun g2 i2 s2=>?_)
  exact wpAny_pure ⟨_,rfl,wpAny_pure (q g2 i2 (s1.trans s2))⟩
theorem setit_end {it a:Addr} {o:Obj} {es:Array (Int×Value)} {ep sl:Nat} {t:SetTable} {Q:Option Value→Shared→Prop} (hh:A.handled = none) (hi:SetIt s.heap it a (.int sl 0) es.size es.size ep) (ho:s.heap.get? a = some o) (hd:o.data = .set es ep t) (hf:t.fits es.size = true)
    (hb:w.params.followText "set-order" = false) (hpl:t.plain = true∨es.size ≤ 1) (hled:t.led = true) (hbl:SetTable.below t.place sl = es.size)
    (q:∀ g,Heap.ExtBut it s.heap g→Q none { s with heap:=g }):wpAny (model prog w) A (pyNext (.ref it)) Q E s:=by
  have T:s.TypeIs (.ref it) "set_iterator":=⟨_,hi,rfl⟩
  unfold pyNext
  refine wpAny_bind (wpAny_attempt (wpAny_callSpecial?_slot (name:=Str.ofString "__next__") T sl_setit_next (wpAny_call_entry sl_setit_next T en_setit_next ?_ (ar_setit_next _))))
  unfold Builtin.«set_iterator.__next__»
  refine wpAny_bind (m:=slotArgs "__next__" 0 _) (wpAny_pure ?_)
  refine wpAny_bind (wpAny_fieldsOf hi rfl ?_)
  dsimp only
  unfold setEntries
  refine wpAny_bind (wpAny_bind (wpAny_setState_of ho hd hf (wpAny_pure ?_)))
  rw [if_neg (by simp)]
  unfold setNext
  refine wpAny_bind (wpAny_bind (wpAny_setState_of ho hd hf ?_))
  unfold setsByText
  refine wpAny_bind (wpAny_bind (wpAny_askSetting (wpAny_pure ?_)))
  show wpAny (model prog w) _ (if w.params.followText "set-order" = true then _ else _) _ _ s
  rw [hb,if_neg Bool.false_ne_true]
  have nd:(!t.plain && decide (es.size > 1)) = false:=by
    rcases hpl with z | z
    · rw [z]; rfl
    · rw [decide_eq_false (Nat.not_lt.mpr z),Bool.and_false]
  show wpAny (model prog w) _ (if (!t.plain && decide (es.size > 1)) = true then _ else _) _ _ s
  rw [nd,if_neg Bool.false_ne_true]
  show wpAny (model prog w) _ ((if (!t.led && !es.isEmpty) = true then unsupported "set:maker-not-led" else pure ()) >>= _) _ _ s
  rw [hled]
  refine wpAny_bind (wpAny_pure (wpAny_pure ?_))
  have e1:SetTable.below t.place ((sl:Int)).toNat = es.size:=by rw [Int.toNat_natCast]; exact hbl
  rw [e1,show es[es.size]? = none by simp]
  refine wpAny_bind (wpAny_setField_rec hi (by simp) fun g1 i1 s1=>?_)
  refine wpAny_bind ?_
  simp only [newExc,newTuple]
  refine wpAny_bind (wpAny_newObj_type ?_ (by size_fits))
  refine wpAny_bind (m:=firstArgMember _ _) (wpAny_of_eq (a:=Value.none) (by simp only [firstArgMember]; rfl) ?_)
  refine wpAny_newObj_type ?_ (by size_fits)
  simp only [raiseNew]
  refine wpAny_bind (wpAny_handled ?_)
  rw [show A.in1.handled = none from hh]
  refine wpAny_bind (wpAny_pure (wpAny_throw ?_))
  refine wpAny_bind (wpAny_isInstance (T:="StopIteration") (b:=true) ⟨_,Heap.get?_push_size _ rfl,rfl⟩ isSubtype_stop ?_)
  exact wpAny_pure (q _ ((s1.extBut.push _).push _))
end
end L2
namespace L2
open PySem PyProof.Rows
theorem erase_perm {α:Type}:∀ (l:List α) (i:Nat) (h:i < l.length),(l[i] :: l.eraseIdx i).Perm l
  | a :: l,0,_=>List.Perm.refl _
  | a :: l,i + 1,h=>by
    have h':i < l.length:=by simpa using h
    rw [List.eraseIdx_cons_succ,List.getElem_cons_succ]
    exact (List.Perm.swap _ _ _).trans ((erase_perm l i h').cons a)
theorem pick_go {α:Type} (next:Nat→Nat):∀ (f k:Nat) (left:List α) (out:Array α),left.length = f→(pickOrder.go next f k left out).toList.Perm (out.toList ++ left):=by
  intro f
  induction f with
  | zero =>
    intro k left out h
    have e:left = []:=List.length_eq_zero_iff.mp h
    subst e
    unfold pickOrder.go
    simp
  | succ f ih =>
    intro k left out h
    unfold pickOrder.go
    have lt:next k % left.length < left.length:=Nat.mod_lt _ (by lia)
    rw [List.getElem?_eq_getElem lt]
    dsimp only
    refine (ih (k + 1) _ _ (by rw [List.length_eraseIdx_of_lt lt]; lia)).trans ?_
    rw [Array.toList_push,List.append_assoc]
    refine List.Perm.append_left _ ?_
    exact erase_perm left _ lt
theorem pick_perm {α:Type} (next:Nat→Nat) (xs:Array α):(pickOrder next xs).toList.Perm xs.toList:=by
  have:=pick_go next xs.size 0 xs.toList #[] (by simp)
  simpa [pickOrder] using this
section
variable {prog:Program} {w:World} {A:Around} {E:Value→Shared→Prop} {s:Shared}
theorem settx_item {it a:Addr} {o:Obj} {es:Array (Int×Value)} {ep sl i:Nat} {t:SetTable} {x:Int×Value} {Q:Option Value→Shared→Prop} (hi:SetIt s.heap it a (.int sl 0) i es.size ep) (ho:s.heap.get? a = some o) (hd:o.data = .set es ep t) (hf:t.fits es.size = true)
    (hb:w.params.followText "set-order" = true) (hx:(pickOrder (w.params.setOrder a ep) es)[i]? = some x)
    (q:∀ g,SetIt g it a (.int sl 0) (i + 1) es.size ep→Heap.SameBut it s.heap g→Q (some x.2) { s with heap:=g }):wpAny (model prog w) A (pyNext (.ref it)) Q E s:=by
  have T:s.TypeIs (.ref it) "set_iterator":=⟨_,hi,rfl⟩
  unfold pyNext
  refine wpAny_bind (wpAny_attempt (wpAny_callSpecial?_slot (name:=Str.ofString "__next__") T sl_setit_next (wpAny_call_entry sl_setit_next T en_setit_next ?_ (ar_setit_next _))))
  unfold Builtin.«set_iterator.__next__»
  refine wpAny_bind (m:=slotArgs "__next__" 0 _) (wpAny_pure ?_)
  refine wpAny_bind (wpAny_fieldsOf hi rfl ?_)
  dsimp only
  unfold setEntries
  refine wpAny_bind (wpAny_bind (wpAny_setState_of ho hd hf (wpAny_pure ?_)))
  rw [if_neg (by simp)]
  unfold setNext
  refine wpAny_bind (wpAny_bind (wpAny_setState_of ho hd hf ?_))
  unfold setsByText
  refine wpAny_bind (wpAny_bind (wpAny_askSetting (wpAny_pure ?_)))
  show wpAny (model prog w) _ (if w.params.followText "set-order" = true then _ else _) _ _ s
  rw [hb,if_pos rfl]
  dsimp only
  rw [if_neg (by simp)]
  unfold setWalk setsByText
  refine wpAny_bind (wpAny_bind (wpAny_setState_of ho hd hf ?_))
  refine wpAny_bind (wpAny_bind (wpAny_askSetting (wpAny_pure ?_)))
  show wpAny (model prog w) _ (if w.params.followText "set-order" = true then _ else _) _ _ s
  rw [hb,if_pos rfl]
  refine wpAny_bind (wpAny_askSetting (wpAny_pure (wpAny_pure ?_)))
  have e1:(pickOrder (w.params.setOrder a ep) es)[((i:Int)).toNat]? = some x:=by rw [Int.toNat_natCast]; exact hx
  show wpAny (model prog w) _ (match ((pickOrder (w.params.setOrder a ep) es)[((i:Int)).toNat]?).map (fun e=>(e.2,((sl:Int)).toNat)) with | some (x,next)=>_ | none=>_) _ _ s
  rw [e1]
  refine wpAny_bind (wpAny_setField_rec hi (by simp) fun g1 i1 s1=>?_)
  replace i1:SetIt g1 it a (.int sl 0) i es.size ep:=i1
  refine wpAny_bind (wpAny_setField_rec i1 (by simp) fun g2 i2 s2=>?_)
  exact wpAny_pure ⟨_,rfl,wpAny_pure (q g2 i2 (s1.trans s2))⟩
theorem settx_end {it a:Addr} {o:Obj} {es:Array (Int×Value)} {ep sl:Nat} {t:SetTable} {Q:Option Value→Shared→Prop} (hh:A.handled = none) (hi:SetIt s.heap it a (.int sl 0) es.size es.size ep) (ho:s.heap.get? a = some o) (hd:o.data = .set es ep t) (hf:t.fits es.size = true)
    (hb:w.params.followText "set-order" = true) (q:∀ g,Heap.ExtBut it s.heap g→Q none { s with heap:=g }):wpAny (model prog w) A (pyNext (.ref it)) Q E s:=by
  have T:s.TypeIs (.ref it) "set_iterator":=⟨_,hi,rfl⟩
  unfold pyNext
  refine wpAny_bind (wpAny_attempt (wpAny_callSpecial?_slot (name:=Str.ofString "__next__") T sl_setit_next (wpAny_call_entry sl_setit_next T en_setit_next ?_ (ar_setit_next _))))
  unfold Builtin.«set_iterator.__next__»
  refine wpAny_bind (m:=slotArgs "__next__" 0 _) (wpAny_pure ?_)
  refine wpAny_bind (wpAny_fieldsOf hi rfl ?_)
  dsimp only
  unfold setEntries
  refine wpAny_bind (wpAny_bind (wpAny_setState_of ho hd hf (wpAny_pure ?_)))
  rw [if_neg (by simp)]
  unfold setNext
  refine wpAny_bind (wpAny_bind (wpAny_setState_of ho hd hf ?_))
  unfold setsByText
  refine wpAny_bind (wpAny_bind (wpAny_askSetting (wpAny_pure ?_)))
  show wpAny (model prog w) _ (if w.params.followText "set-order" = true then _ else _) _ _ s
  rw [hb,if_pos rfl]
  dsimp only
  rw [if_neg (by simp)]
  unfold setWalk setsByText
  refine wpAny_bind (wpAny_bind (wpAny_setState_of ho hd hf ?_))
  refine wpAny_bind (wpAny_bind (wpAny_askSetting (wpAny_pure ?_)))
  show wpAny (model prog w) _ (if w.params.followText "set-order" = true then _ else _) _ _ s
  rw [hb,if_pos rfl]
  refine wpAny_bind (wpAny_askSetting (wpAny_pure (wpAny_pure ?_)))
  have z:(pickOrder (w.params.setOrder a ep) es).size = es.size:=by rw [← Array.length_toList,(pick_perm _ es).length_eq,Array.length_toList]
  have e1:(pickOrder (w.params.setOrder a ep) es)[((es.size:Nat):Int).toNat]? = none:=by rw [Int.toNat_natCast,← z]; simp
  show wpAny (model prog w) _ (match ((pickOrder (w.params.setOrder a ep) es)[((es.size:Nat):Int).toNat]?).map (fun e=>(e.2,((sl:Int)).toNat)) with | some (x,next)=>_ | none=>_) _ _ s
  rw [e1]
  refine wpAny_bind (wpAny_setField_rec hi (by simp) fun g1 i1 s1=>?_)
  refine wpAny_bind ?_
  simp only [newExc,newTuple]
  refine wpAny_bind (wpAny_newObj_type ?_ (by size_fits))
  refine wpAny_bind (m:=firstArgMember _ _) (wpAny_of_eq (a:=Value.none) (by simp only [firstArgMember]; rfl) ?_)
  refine wpAny_newObj_type ?_ (by size_fits)
  simp only [raiseNew]
  refine wpAny_bind (wpAny_handled ?_)
  rw [show A.in1.handled = none from hh]
  refine wpAny_bind (wpAny_pure (wpAny_throw ?_))
  refine wpAny_bind (wpAny_isInstance (T:="StopIteration") (b:=true) ⟨_,Heap.get?_push_size _ rfl,rfl⟩ isSubtype_stop ?_)
  exact wpAny_pure (q _ ((s1.extBut.push _).push _))
end
end L2
namespace L2
open PySem PyProof.Rows
section
variable {prog:Program} {w:World} {A:Around} {E:Value→Shared→Prop} {s:Shared}
theorem wpAny_choose' {src:Source} {n:Nat} {Q:Nat→Shared→Prop} (hn:n ≠ 0) (q:∀ i d,i < n→Q i { s with drawn:=d }):wpAny (model prog w) A (choose src n) Q E s:=fun Γ p _=>by
  unfold choose
  rw [Sem.wp_choose]
  exact ⟨hn,q _ _ (Nat.mod_lt _ (Nat.pos_of_ne_zero hn))⟩
theorem draw_order {α:Type}:∀ (n:Nat) (xs:List α) (s:Shared) (Q:List α→Shared→Prop),xs.length = n→(∀ ys d,ys.Perm xs→Q ys { s with drawn:=d })→wpAny (model prog w) A (drawOrder n xs) Q E s:=by
  intro n
  induction n with
  | zero =>
    intro xs s Q h q
    have e:xs = []:=List.length_eq_zero_iff.mp h
    subst e
    unfold drawOrder
    have:=q [] s.drawn (List.Perm.refl _)
    exact wpAny_pure this
  | succ n ih =>
    intro xs s Q h q
    cases xs with
    | nil=>cases h
    | cons x xs =>
      unfold drawOrder
      refine wpAny_bind (wpAny_choose' (by simp) fun i d hi=>?_)
      rw [List.getElem?_eq_getElem hi]
      refine wpAny_bind (ih _ _ _ (by rw [List.length_eraseIdx_of_lt hi]; lia) fun ys d' p=>wpAny_pure ?_)
      exact q _ d' ((p.cons _).trans (erase_perm _ _ hi))
theorem setdr_item {it a T:Addr} {o ot:Obj} {es:Array (Int×Value)} {ep i p m:Nat} {t:SetTable} {us:Array Value} {tk:Tok} {x:Int×Value} {Q:Option Value→Shared→Prop} (hi:SetIt s.heap it a (.ref T) i es.size ep) (hT:s.heap.get? T = some ot) (ht:ot.data = .seq us m) (hu:us[i]? = some (.int p tk))
    (ho:s.heap.get? a = some o) (hd:o.data = .set es ep t) (hf:t.fits es.size = true) (hx:es[p]? = some x)
    (q:∀ g,SetIt g it a (.ref T) (i + 1) es.size ep→Heap.SameBut it s.heap g→Q (some x.2) { s with heap:=g }):wpAny (model prog w) A (pyNext (.ref it)) Q E s:=by
  have Ti:s.TypeIs (.ref it) "set_iterator":=⟨_,hi,rfl⟩
  unfold pyNext
  refine wpAny_bind (wpAny_attempt (wpAny_callSpecial?_slot (name:=Str.ofString "__next__") Ti sl_setit_next (wpAny_call_entry sl_setit_next Ti en_setit_next ?_ (ar_setit_next _))))
  unfold Builtin.«set_iterator.__next__»
  refine wpAny_bind (m:=slotArgs "__next__" 0 _) (wpAny_pure ?_)
  refine wpAny_bind (wpAny_fieldsOf hi rfl ?_)
  dsimp only
  unfold setEntries
  refine wpAny_bind (wpAny_bind (wpAny_setState_of ho hd hf (wpAny_pure ?_)))
  rw [if_neg (by simp)]
  refine wpAny_bind (wpAny_seqItems hT ht ?_)
  have e1:us[((i:Int)).toNat]? = some (.int p tk):=by rw [Int.toNat_natCast]; exact hu
  dsimp only
  rw [e1]
  dsimp only
  unfold setNextDrawn
  refine wpAny_bind (wpAny_bind (wpAny_setState_of ho hd hf ?_))
  dsimp only
  rw [if_neg (by simp)]
  have e2:es[((p:Int)).toNat]? = some x:=by rw [Int.toNat_natCast]; exact hx
  rw [e2]
  refine wpAny_pure ?_
  refine wpAny_bind (wpAny_setField_rec hi (by simp) fun g2 i2 s2=>?_)
  exact wpAny_pure ⟨_,rfl,wpAny_pure (q g2 i2 s2)⟩
theorem setdr_end {it a T:Addr} {o ot:Obj} {es:Array (Int×Value)} {ep m:Nat} {t:SetTable} {us:Array Value} {Q:Option Value→Shared→Prop} (hh:A.handled = none) (hi:SetIt s.heap it a (.ref T) es.size es.size ep) (hT:s.heap.get? T = some ot) (ht:ot.data = .seq us m) (hu:us.size = es.size)
    (ho:s.heap.get? a = some o) (hd:o.data = .set es ep t) (hf:t.fits es.size = true) (q:∀ g,Heap.ExtBut it s.heap g→Q none { s with heap:=g }):wpAny (model prog w) A (pyNext (.ref it)) Q E s:=by
  have Ti:s.TypeIs (.ref it) "set_iterator":=⟨_,hi,rfl⟩
  unfold pyNext
  refine wpAny_bind (wpAny_attempt (wpAny_callSpecial?_slot (name:=Str.ofString "__next__") Ti sl_setit_next (wpAny_call_entry sl_setit_next Ti en_setit_next ?_ (ar_setit_next _))))
  unfold Builtin.«set_iterator.__next__»
  refine wpAny_bind (m:=slotArgs "__next__" 0 _) (wpAny_pure ?_)
  refine wpAny_bind (wpAny_fieldsOf hi rfl ?_)
  dsimp only
  unfold setEntries
  refine wpAny_bind (wpAny_bind (wpAny_setState_of ho hd hf (wpAny_pure ?_)))
  rw [if_neg (by simp)]
  refine wpAny_bind (wpAny_seqItems hT ht ?_)
  have e1:us[((es.size:Nat):Int).toNat]? = none:=by rw [Int.toNat_natCast,← hu]; simp
  dsimp only
  rw [e1]
  refine wpAny_bind (wpAny_setField_rec hi (by simp) fun g0 i0 s0=>?_)
  refine wpAny_bind (wpAny_setField_rec i0 (by simp) fun g1 i1 s1=>?_)
  refine wpAny_bind ?_
  simp only [newExc,newTuple]
  refine wpAny_bind (wpAny_newObj_type ?_ (by size_fits))
  refine wpAny_bind (m:=firstArgMember _ _) (wpAny_of_eq (a:=Value.none) (by simp only [firstArgMember]; rfl) ?_)
  refine wpAny_newObj_type ?_ (by size_fits)
  simp only [raiseNew]
  refine wpAny_bind (wpAny_handled ?_)
  rw [show A.in1.handled = none from hh]
  refine wpAny_bind (wpAny_pure (wpAny_throw ?_))
  refine wpAny_bind (wpAny_isInstance (T:="StopIteration") (b:=true) ⟨_,Heap.get?_push_size _ rfl,rfl⟩ isSubtype_stop ?_)
  exact wpAny_pure (q _ (((s0.trans s1).extBut.push _).push _))
end
end L2
namespace L2
open PySem PyProof.Rows
theorem sl_setit_iter:Slot "set_iterator" "__iter__" "set_iterator.__iter__" :=
  .of (owner:="set_iterator") (n:="__iter__") (by rw [typeLookup_type,builtinLookup_eq_fast]; kernel_rfl) (by decide +kernel) (by decide +kernel) (by decide +kernel) (by first | exact .inl (by decide +kernel) | exact .inr (by decide +kernel)) (by rw [isSubtype_type]; kernel_rfl)
theorem en_setit_iter:entryFor table "set_iterator.__iter__" = some Builtin.«dict_keyiterator.__iter__» :=
  entryFor_alias (id':="dict_keyiterator.__iter__") (by kernel_rfl) (by first | rfl | decide +kernel | (unfold String.splitOn; simp +decide [String.splitOnAux])) (by decide +kernel) (by kernel_rfl)
theorem ar_setit_iter (a:Value):argsOk "set_iterator.__iter__" ⟨[a],[]⟩:=by unfold argsOk; kernel_rfl
section
variable {prog:Program} {w:World} {A:Around} {E:Value→Shared→Prop} {s:Shared}
theorem setit_self {it a:Addr} {f:Value} {i n ep:Nat} {Q:Value→Shared→Prop} (h:SetIt s.heap it a f i n ep) (q:Q (.ref it) s):wpAny (model prog w) A (pyIter (.ref it)) Q E s:=by
  have T:s.TypeIs (.ref it) "set_iterator":=⟨_,h,rfl⟩
  refine wpAny_pyIter_slot T sl_setit_iter (wpAny_call_entry sl_setit_iter T en_setit_iter ?_ (ar_setit_iter _))
  show wpAny (model prog w) _ (ret (.ref it)) _ _ s
  exact wpAny_pure ⟨_,rfl,"set_iterator",_,T,sl_setit_next.lookup,q⟩
variable {K:Type} [DecidableEq K] {knd:KeyKind prog w K}
theorem Els.get {ks:List K} {es:List (Int×Value)} (x:Els knd ks es):∀ {i:Nat} {e:Int×Value},es[i]? = some e→∃ k,ks[i]? = some k∧knd.is k e.2 = true:=by
  induction x with
  | nil=>intro i e h; simp at h
  | @cons k e' ks es h _ ih =>
    intro i e hi
    cases i with
    | zero =>
      have:e' = e:=by simpa using hi
      subst this
      exact ⟨k,rfl,h.1⟩
    | succ i=>simpa using ih (i:=i) (e:=e) (by simpa using hi)
abbrev Gives (knd:KeyKind prog w K) (ks:List K):Nat→Value→Prop:=fun i v=>∃ k,ks[i]? = some k∧knd.is k v = true
theorem walk_places {I a:Addr} {o:Obj} {es:Array (Int×Value)} {ep:Nat} {t:SetTable} {ks:List K} (hh:A.handled = none) (hne:a ≠ I) (hd:o.data = .set es ep t) (hf:t.fits es.size = true) (hb:w.params.followText "set-order" = false) (hpl:t.plain = true∨es.size ≤ 1) (ok:TabOk true t) (el:Els knd ks es.toList) :
    Walks prog w A I [I,a] [I] ks.length (Gives knd ks) (fun i h=>∃ sl:Nat,SetIt h I a (.int sl 0) i es.size ep∧SetTable.below t.place sl = i∧h.get? a = some o):=by
  have z:ks.length = es.size:=by rw [el.length]; simp
  have zp:t.place.size = es.size:=by
    unfold SetTable.fits at hf
    simp only [Bool.and_eq_true,beq_iff_eq] at hf
    exact hf.1
  refine ⟨fun b hb=>by simp at hb; simp [hb],fun i h h' st k=>?_,fun i s Q E hi st q=>?_,fun s Q E st q=>?_,fun i s Q E st q=>?_⟩
  · obtain ⟨sl,h1,h2,h3⟩:=st
    exact ⟨sl,k I (by simp) _ h1,h2,k a (by simp) _ h3⟩
  · obtain ⟨sl,h1,h2,h3⟩:=st
    have hx:es[i]? = some es[i]:=Array.getElem?_eq_getElem (by lia)
    have hj:t.place[i]? = some t.place[i]:=Array.getElem?_eq_getElem (by lia)
    obtain ⟨k,hk,his⟩:=el.get (i:=i) (e:=es[i]) (by rw [Array.getElem?_toList]; exact hx)
    exact setit_item hne h1 h3 hd hf hb hpl ok.led h2 hx hj fun g g1 sb=>q _ g s.toks ⟨k,hk,his⟩ ⟨_,g1,below_after ok.rise hj,(sb.2 a hne).trans h3⟩ fun b o hb e=>(sb.2 b fun z=>hb (by simp [z])).trans e
  · obtain ⟨sl,h1,h2,h3⟩:=st
    rw [z] at h1 h2
    exact setit_end hh h1 h3 hd hf hb hpl ok.led h2 fun g eb=>q g s.toks fun b o hb e=>eb b o (fun z=>hb (by simp [z])) e
  · obtain ⟨sl,h1,_⟩:=st
    exact setit_self h1 q
theorem walk_text {I a:Addr} {o:Obj} {es:Array (Int×Value)} {ep:Nat} {t:SetTable} {ks:List K} (hh:A.handled = none) (hne:a ≠ I) (hd:o.data = .set es ep t) (hf:t.fits es.size = true) (hb:w.params.followText "set-order" = true) (el:Els knd ks (pickOrder (w.params.setOrder a ep) es).toList) :
    Walks prog w A I [I,a] [I] ks.length (Gives knd ks) (fun i h=>SetIt h I a (.int (0:Nat) 0) i es.size ep∧h.get? a = some o):=by
  have zo:(pickOrder (w.params.setOrder a ep) es).size = es.size:=by rw [← Array.length_toList,(pick_perm _ es).length_eq,Array.length_toList]
  have z:ks.length = es.size:=by rw [el.length,← zo]; simp
  refine ⟨fun b hb=>by simp at hb; simp [hb],fun i h h' st k=>?_,fun i s Q E hi st q=>?_,fun s Q E st q=>?_,fun i s Q E st q=>?_⟩
  · exact ⟨k I (by simp) _ st.1,k a (by simp) _ st.2⟩
  · have hx:(pickOrder (w.params.setOrder a ep) es)[i]? = some (pickOrder (w.params.setOrder a ep) es)[i]:=Array.getElem?_eq_getElem (by lia)
    obtain ⟨k,hk,his⟩:=el.get (i:=i) (e:=(pickOrder (w.params.setOrder a ep) es)[i]) (by rw [Array.getElem?_toList]; exact hx)
    exact settx_item st.1 st.2 hd hf hb hx fun g g1 sb=>q _ g s.toks ⟨k,hk,his⟩ ⟨g1,(sb.2 a hne).trans st.2⟩ fun b o hb e=>(sb.2 b fun z=>hb (by simp [z])).trans e
  · obtain ⟨h1,h3⟩:=st
    rw [z] at h1
    exact settx_end hh h1 h3 hd hf hb fun g eb=>q g s.toks fun b o hb e=>eb b o (fun z=>hb (by simp [z])) e
  · exact setit_self st.1 q
theorem filterMap_get {α β:Type} {f:α→Option β}:∀ {ys:List α} (h:∀ y ∈ ys,(f y).isSome) (i:Nat),(ys.filterMap f)[i]? = ys[i]?.bind f
  | [],_,i=>by simp
  | y :: ys,h,i=>by
    obtain ⟨b,hb⟩:=Option.isSome_iff_exists.mp (h y List.mem_cons_self)
    rw [List.filterMap_cons,hb]
    cases i with
    | zero=>simp [hb]
    | succ i=>simpa using filterMap_get (fun z hz=>h z (List.mem_cons_of_mem _ hz)) i
theorem walk_drawn {I a T:Addr} {o ot:Obj} {es:Array (Int×Value)} {ep m:Nat} {t:SetTable} {ks:List K} {ys:List Nat} (hh:A.handled = none) (hne:a ≠ I) (hTI:T ≠ I) (hd:o.data = .set es ep t) (hf:t.fits es.size = true) (ht:ot.data = .seq (ys.map fun (i:Nat)=>rawInt i).toArray m) (hy:ys.Perm (List.range es.size))
    (el:Els knd ks (ys.filterMap (es[·]?))):Walks prog w A I [I,a,T] [I] ks.length (Gives knd ks) (fun i h=>SetIt h I a (.ref T) i es.size ep∧h.get? T = some ot∧h.get? a = some o):=by
  have hs:∀ y ∈ ys,(es[y]?).isSome:=fun y h=>by
    have:y < es.size:=List.mem_range.mp (hy.mem_iff.mp h)
    rw [Array.getElem?_eq_getElem this]
    rfl
  have ly:ys.length = es.size:=by rw [hy.length_eq,List.length_range]
  have z:ks.length = es.size:=by
    rw [el.length,(hy.filterMap _).length_eq,filterMap_getElem?_range es]
    simp
  refine ⟨fun b hb=>by simp at hb; simp [hb],fun i h h' st k=>?_,fun i s Q E hi st q=>?_,fun s Q E st q=>?_,fun i s Q E st q=>?_⟩
  · exact ⟨k I (by simp) _ st.1,k T (by simp) _ st.2.1,k a (by simp) _ st.2.2⟩
  · have li:i < ys.length:=by lia
    have hyi:ys[i]? = some ys[i]:=List.getElem?_eq_getElem li
    have lp:ys[i] < es.size:=List.mem_range.mp (hy.mem_iff.mp (List.getElem_mem li))
    have hx:es[ys[i]]? = some es[ys[i]]:=Array.getElem?_eq_getElem lp
    obtain ⟨k,hk,his⟩:=el.get (i:=i) (e:=es[ys[i]]) (by rw [filterMap_get hs,hyi]; exact hx)
    have hu:((ys.map fun (i:Nat)=>rawInt i).toArray)[i]? = some (.int (ys[i]:Nat) 0):=by simp [hyi,rawInt]
    exact setdr_item st.1 st.2.1 ht hu st.2.2 hd hf hx fun g g1 sb=>q _ g s.toks ⟨k,hk,his⟩ ⟨g1,(sb.2 T hTI).trans st.2.1,(sb.2 a hne).trans st.2.2⟩ fun b o hb e=>(sb.2 b fun z=>hb (by simp [z])).trans e
  · obtain ⟨h1,h2,h3⟩:=st
    rw [z] at h1
    exact setdr_end hh h1 h2 ht (by simp [ly]) h3 hd hf fun g eb=>q g s.toks fun b o hb e=>eb b o (fun z=>hb (by simp [z])) e
  · exact setit_self st.1 q
end
end L2
namespace L2
open PySem PyProof.Rows
section
variable {prog:Program} {w:World} {A:Around} {E:Value→Shared→Prop} {s:Shared} {K:Type} [DecidableEq K] {knd:KeyKind prog w K}
theorem iter_setL {a:Addr} {ks:List K} {Q:Value→Shared→Prop} {B:Around} (hh:B.handled = none) (hS:SetL knd s.heap a ks)
    (q:∀ (I:Addr) (fp:List Addr) (St:Nat→Heap→Prop) (ks':List K) (g:Heap) (d:Drawn),ks'.Perm ks→Walks prog w B I fp [I] ks'.length (Gives knd ks') St→St 0 g→s.heap.objs.size ≤ I→(∀ b ∈ fp,b = a∨s.heap.objs.size ≤ b)→(∀ b ∈ fp,b < g.objs.size) →
      (∀ b o,s.heap.get? b = some o→g.get? b = some o)→Q (.ref I) { s with heap:=g,drawn:=d }):wpAny (model prog w) A (pyIter (.ref a)) Q E s:=by
  have hT:=hS.setOf.typeIs
  obtain ⟨o,es,ep,t,ho,hex,hd,el,nd,hb,hf,ok⟩:=hS
  have la:=Heap.lt_size ho
  refine wpAny_pyIter_slot hT F.slot_set_iter (wpAny_call_entry F.slot_set_iter hT en_set_iter ?_ (F.args_set_iter_1 _))
  unfold Builtin.«frozenset.__iter__»
  refine wpAny_bind (m:=Builtin.Frozenset.slot0 "__iter__" _) (wpAny_pure ?_)
  unfold Builtin.Frozenset.sizeOf setEntries setDrawn setsByText
  refine wpAny_bind (wpAny_bind (wpAny_bind (wpAny_setState_of ho hd hf (wpAny_pure (wpAny_pure ?_)))))
  refine wpAny_bind (wpAny_bind (wpAny_setState_of ho hd hf ?_))
  refine wpAny_bind (wpAny_bind (wpAny_askSetting (wpAny_pure (wpAny_pure ?_))))
  have mk:∀ (f:Value) (s1:Shared),s1.heap.get? a = some o→∀ R:Value→Shared→Prop,R (.ref s1.heap.objs.size) { s1 with heap:=s1.heap.push { cls:=.type "set_iterator",data:=.fields #[f,.int (0:Nat) 0,.ref a,.int es.size 0,.int ep 0] } } →
      wpAny (model prog w) A.in1 (do
        let e ← setEpoch a
        let v ← newFields "set_iterator" [f,rawInt 0,Value.ref a,rawInt es.size,rawInt e]
        ret v) (fun fin s'=>∃ v,fin = Fin.done (Flow.ret v)∧∃ T' r,s'.TypeIs v T'∧typeLookup (Value.type T') (Str.ofString "__next__") = pure (some r)∧R v s') E s1:=fun f s1 h1 R hR=>by
    refine wpAny_bind (wpAny_setEpoch_of h1 hd hf ?_)
    exact wpAny_bind (wpAny_newObj_type (wpAny_pure ⟨_,rfl,"set_iterator",_,⟨_,Heap.get?_push_size _ rfl,rfl⟩,sl_setit_next.lookup,hR⟩))
  have hzn:es.size ≤ sizeLine:=fits_of_scanBound hb
  show wpAny (model prog w) _ (if (!w.params.followText "set-order" && (!t.plain && decide (es.size > 1))) = true then _ else _) _ _ s
  have kp1:∀ (u:Obj) (b:Addr) (x:Obj),s.heap.get? b = some x→(s.heap.push u).get? b = some x:=fun u b x e=>Heap.get?_push_of_some _ e
  have lt1:∀ (u:Obj) (b:Addr),b ∈ [s.heap.objs.size,a]→b < (s.heap.push u).objs.size:=fun u b hb=>by
    rw [Heap.size_push]
    rcases List.mem_cons.mp hb with z | z
    · rw [z]; exact Nat.lt_succ_self _
    · rw [List.mem_singleton.mp z]; exact Nat.lt_succ_of_lt la
  have fp1:∀ b ∈ [s.heap.objs.size,a],b = a∨s.heap.objs.size ≤ b:=fun b hb=>by
    rcases List.mem_cons.mp hb with z | z
    · exact .inr (Nat.le_of_eq z.symm)
    · exact .inl (List.mem_singleton.mp z)
  cases hbt:w.params.followText "set-order" with
  | true =>
    rw [if_neg (by simp)]
    refine wpAny_bind (wpAny_pure (mk (rawInt 0) s ho Q ?_))
    obtain ⟨ks',p,el'⟩:=el.perm (pick_perm (w.params.setOrder a ep) es)
    exact q s.heap.objs.size [s.heap.objs.size,a] _ ks' _ s.drawn p (walk_text hh (Nat.ne_of_lt la) hd hf hbt el') ⟨Heap.get?_push_size _ rfl,kp1 _ _ _ ho⟩ (Nat.le_refl _) fp1 (lt1 _) (kp1 _)
  | false =>
    rw [hbt] at ok
    cases hdr:(!t.plain && decide (es.size > 1)) with
    | false =>
      rw [if_neg (by simp)]
      refine wpAny_bind (wpAny_pure (mk (rawInt 0) s ho Q ?_))
      have hpl:t.plain = true∨es.size ≤ 1:=by
        rcases Bool.and_eq_false_iff.mp hdr with z | z
        · exact .inl (by simpa using z)
        · exact .inr (Nat.not_lt.mp (of_decide_eq_false z))
      exact q s.heap.objs.size [s.heap.objs.size,a] _ ks _ s.drawn (List.Perm.refl _) (walk_places hh (Nat.ne_of_lt la) hd hf hbt hpl ok el) ⟨0,Heap.get?_push_size _ rfl,below_zero ok.rise,kp1 _ _ _ ho⟩ (Nat.le_refl _) fp1 (lt1 _) (kp1 _)
    | true =>
      rw [if_pos (by decide)]
      refine wpAny_bind (draw_order _ _ _ _ (by simp) fun ys d p=>?_)
      have ly:ys.length = es.size:=by rw [p.length_eq]; simp
      refine wpAny_bind (wpAny_newTuple ?_ (by simp [ly]; exact hzn))
      obtain ⟨ks',p',el'⟩:=el.perm (show (ys.filterMap (es[·]?)).Perm es.toList from (p.filterMap _).trans (by rw [filterMap_getElem?_range es]))
      refine mk _ _ (kp1 _ _ _ ho) Q ?_
      have nT:s.heap.objs.size ≠ (s.heap.push { cls:=.type "tuple",data:=.seq (ys.map fun (i:Nat)=>rawInt i).toArray }).objs.size:=by
        rw [Heap.size_push]
        exact Nat.ne_of_lt (Nat.lt_succ_self _)
      have na:a ≠ (s.heap.push { cls:=.type "tuple",data:=.seq (ys.map fun (i:Nat)=>rawInt i).toArray }).objs.size:=by
        rw [Heap.size_push]
        exact Nat.ne_of_lt (Nat.lt_succ_of_lt la)
      refine q (s.heap.push { cls:=.type "tuple",data:=.seq (ys.map fun (i:Nat)=>rawInt i).toArray }).objs.size [_,a,s.heap.objs.size] _ ks' _ d p' (walk_drawn hh na nT hd hf rfl p el') ⟨Heap.get?_push_size _ rfl,Heap.get?_push_of_some _ (Heap.get?_push_size _ rfl),Heap.get?_push_of_some _ (kp1 _ _ _ ho)⟩ ?_ ?_ ?_ fun b x e=>Heap.get?_push_of_some _ (kp1 _ b x e)
      · rw [Heap.size_push]
        exact Nat.le_succ _
      · intro b hb
        simp only [List.mem_cons,List.not_mem_nil,or_false] at hb
        rcases hb with z | z | z
        · rw [z,Heap.size_push]; exact .inr (Nat.le_succ _)
        · exact .inl z
        · exact .inr (Nat.le_of_eq z.symm)
      · intro b hb
        simp only [List.mem_cons,List.not_mem_nil,or_false] at hb
        rw [Heap.size_push,Heap.size_push]
        rcases hb with z | z | z
        · rw [z,Heap.size_push]; exact Nat.lt_succ_self _
        · rw [z]; exact Nat.lt_succ_of_lt (Nat.lt_succ_of_lt la)
        · rw [z]; exact Nat.lt_succ_of_lt (Nat.lt_succ_self _)
end
end L2
namespace L2
open PySem PyProof.Rows
section
variable {prog:Program} {w:World} {A:Around} {E:Value→Shared→Prop} {s:Shared}
theorem hint_set {r:Addr} {Q:Bool→Shared→Prop} (hT:s.TypeIs (.ref r) "set") (q:Q false s):wpAny (model prog w) A (Builtin.List.listLengthHint (.ref r)) Q E s:=by
  unfold Builtin.List.listLengthHint
  refine wpAny_bind (wpAny_specialOf hT PySem.F.slot_set_len.lookup ?_)
  generalize hid:("set.__len__":String) = id0
  wp_delta
  rw [show splitId id0 = some ("set","__len__") by subst hid; decide +kernel]
  subst hid
  refine wpAny_bind (wpAny_isInstance (T:="set") (b:=true) hT (by rw [isSubtype_type]; kernel_rfl) ?_)
  refine wpAny_ite_split (fun z=>absurd z (by decide)) fun _=>wpAny_ite_split (fun _=>?_) fun z=>absurd (by decide +kernel) z
  exact wpAny_bind (wpAny_typeOf hT (wpAny_pure q))
variable {K:Type} [DecidableEq K] {knd:KeyKind prog w K}
theorem ext_setL {R:Result→Shared→Prop} {a S:Addr} {ks:List K} {c:Nat} {res:Value} (hh:A.handled = none) (hS:SetL knd s.heap a ks) (hn:ks.length ≤ sizeLine) (ne:S ≠ a) (hl:s.heap.get? S = some { cls:=.type "list",data:=.seq #[] c })
    (q:∀ ks' h' d tk acc c',ks'.Perm ks→(∀ b o,b ≠ S→s.heap.get? b = some o→h'.get? b = some o)→h'.get? S = some { cls:=.type "list",dict:=none,data:=.seq acc c',slots:=#[] }→ItemsOf (Gives knd ks') acc ks'.length→R (.ok (.ret res)) { s with heap:=h',drawn:=d,toks:=tk }) :
    wpAny (model prog w) A.in1 (Builtin.List.listExtendWith (.ref S) (.ref a) res) (fun fin s'=>match fin with | .done f=>R (.ok f) s' | .again c'=>c'.quiet = true∧codeAny (model prog w) A c' R s') (fun e s'=>R (.error e) s') s:=by
  have hT:=hS.setOf.typeIs
  unfold Builtin.List.listExtendWith
  refine wpAny_bind (wpAny_typeOf (T:="set") hT ?_)
  have h1:Builtin.List.listSameRef (.ref S) (.ref a) = false:=by simp [Builtin.List.listSameRef,ne]
  have h2:(Value.type "set" == Value.type "list") = false:=by decide
  have h3:(Value.type "set" == Value.type "tuple") = false:=by decide
  simp only [h1,h2,h3,Bool.or_false,Bool.false_eq_true,if_false]
  refine wpAny_bind (iter_setL (B:=A.in1) hh hS fun I fp St ks' g d p W st hI hfp hlt kp=>?_)
  have lS:=Heap.lt_size hl
  have nI:S ≠ I:=fun z=>absurd (Nat.lt_of_lt_of_le lS hI) (by rw [z]; exact Nat.lt_irrefl _)
  have nf:S ∉ fp:=fun m=>by
    rcases hfp S m with z | z
    · exact ne z
    · exact absurd (Nat.lt_of_lt_of_le lS z) (Nat.lt_irrefl _)
  have key:∀ (h:Heap) (c1 tk:Nat),St 0 h→(∀ b o,b ≠ S→s.heap.get? b = some o→h.get? b = some o)→h.get? S = some { cls:=.type "list",data:=.seq #[] c1 } →
      codeAny (model prog w) A (.builtin "list.extend.loop" ⟨[.ref S,.ref I,res],[]⟩) R { s with heap:=h,drawn:=d,toks:=tk }:=by
    intro h c1 tk hst hk hS1
    refine codeAny_extend_loopS W.toS (by rw [p.length_eq]; exact hn) S nf res ks'.length 0 _ #[] c1 rfl (Nat.zero_le _) hst hS1 (ItemsOf.nil _) fun s' acc' c' hm hS' hacc=>?_
    rw [Moved.eq_with hm]
    refine q ks' s'.heap d s'.toks acc' c' p (fun b o hb e=>hm.heap b o (fun hmem=>?_) (hk b o hb e)) hS' hacc
    rcases List.mem_cons.mp hmem with z | z
    · exact hb z
    · exact absurd (Nat.lt_of_lt_of_le (Heap.lt_size e) hI) (by rw [List.mem_singleton.mp z]; exact Nat.lt_irrefl _)
  have hS1:=kp _ _ hl
  have hT1:Shared.TypeIs { s with heap:=g,drawn:=d } (.ref a) "set":=by
    obtain ⟨o,e,hc⟩:=hT
    exact ⟨o,kp _ _ e,hc⟩
  refine wpAny_bind (wpAny_holding (hint_set hT1 ?_))
  refine wpAny_ite_split (fun _=>?_) (fun _=>wpAny_pure ⟨plainId_quiet PySem.F.plain_extend_loop _,key g c s.toks st (fun b o _ e=>kp b o e) hS1⟩)
  refine wpAny_bind (wpAny_rule (wpAny_bind ?_))
  show wpAny (model prog w) _ (updateSeq S (·.push .none) >>= fun _=>updateSeq S (·.pop)) _ _ _
  refine wpAny_bind (wpAny_updateSeq hS1 rfl ?_)
  have hS2:=Heap.get?_update_self (Obj.mapSeq (·.push Value.none)) hS1 rfl
  refine wpAny_updateSeq (hz:=by seq_fits) hS2 rfl ?_
  have hS3:=Heap.get?_update_self (Obj.mapSeq (·.pop)) hS2 rfl
  refine wpAny_pure ⟨plainId_quiet PySem.F.plain_extend_loop _,key _ _ _ ?_ (fun b o hb e=>?_) hS3⟩
  · refine W.frame 0 _ _ st fun b hb o e=>?_
    have hbS:b ≠ S:=fun z=>nf (z ▸ hb)
    exact (Heap.get?_update_other _ _ (Ne.symm hbS)).trans ((Heap.get?_update_other _ _ (Ne.symm hbS)).trans e)
  · exact (Heap.get?_update_other _ _ (Ne.symm hb)).trans ((Heap.get?_update_other _ _ (Ne.symm hb)).trans (kp b o e))
theorem coll_setL {a:Addr} {ks:List K} {Q:List Value→Shared→Prop} (hh:A.handled = none) (hS:SetL knd s.heap a ks) (hn:ks.length ≤ sizeLine)
    (q:∀ ks' h' d tk acc,ks'.Perm ks→(∀ b o,s.heap.get? b = some o→h'.get? b = some o)→s.heap.objs.size < h'.objs.size→ItemsOf (Gives knd ks') acc ks'.length→Q acc.toList { s with heap:=h',drawn:=d,toks:=tk }):wpAny (model prog w) A (collect (.ref a)) Q E s:=by
  have la:a < s.heap.objs.size:=by
    obtain ⟨o,es,ep,t,ho,_⟩:=hS
    exact Heap.lt_size ho
  unfold collect
  refine wpAny_bind (wpAny_runValue (codeAny_builtin PySem.F.entry_proto_collect ?_))
  rw [Around.under_plainId PySem.F.plain_proto_collect _]
  have new:(s.heap.push { cls:=.type "list",data:=.seq ([]:List Value).toArray }).get? s.heap.objs.size = some { cls:=.type "list",data:=.seq #[] 0 }:=Heap.get?_push_size _ rfl
  have hS1:SetL knd (s.heap.push { cls:=.type "list",data:=.seq ([]:List Value).toArray }) a ks:=hS.at fun o e=>Heap.get?_push_of_some _ e
  have key:∀ R:Result→Shared→Prop,(∀ ks' h' d tk acc c,ks'.Perm ks→(∀ b o,b ≠ s.heap.objs.size→(s.heap.push { cls:=.type "list",data:=.seq ([]:List Value).toArray }).get? b = some o→h'.get? b = some o) →
      h'.get? s.heap.objs.size = some { cls:=.type "list",dict:=none,data:=.seq acc c,slots:=#[] }→ItemsOf (Gives knd ks') acc ks'.length→R (.ok (.ret (.ref s.heap.objs.size))) { s with heap:=h',drawn:=d,toks:=tk }) →
      codeAny (model prog w) A (.builtin "list.__iadd__" ⟨[.ref s.heap.objs.size,.ref a],[]⟩) R { s with heap:=s.heap.push { cls:=.type "list",data:=.seq ([]:List Value).toArray } }:=by
    intro R hR
    refine codeAny_builtin PySem.F.entry_list_iadd ?_
    rw [Around.under_plainId PySem.F.plain_list_iadd _]
    exact ext_setL (s:={ s with heap:=s.heap.push { cls:=.type "list",data:=.seq ([]:List Value).toArray } }) hh hS1 hn (Nat.ne_of_gt la) new fun ks' h' d tk acc c p kp hL it=>hR ks' h' d tk acc c p kp hL it
  show wpAny (model prog w) A.in1 (newList [] >>= fun x=>again (.builtin "list.__iadd__" ⟨[x,.ref a],[]⟩)) _ _ s
  refine wpAny_bind (wpAny_newObj_type (wpAny_pure ⟨plainId_quiet PySem.F.plain_list_iadd _,key _ fun ks' h' d tk acc c p kp hL it=>?_⟩))
  show wpAny (model prog w) A (load s.heap.objs.size >>= _) Q E { s with heap:=h',drawn:=d,toks:=tk }
  refine wpAny_bind (wpAny_load hL (wpAny_pure ?_))
  exact q ks' h' d tk acc p (fun b o e=>kp b o (Nat.ne_of_lt (Heap.lt_size e)) (Heap.get?_push_of_some _ e)) (Heap.lt_size hL) it
end
end L2
namespace L2
open PySem PySem.Spec PyProof.Rows
theorem Inv.drew {X:Cx} {pins:List (Addr×Obj)} {σ:St} {H:Hp} {s:Shared} (I:Inv X pins σ H s) (d:Drawn):Inv X pins σ H { s with drawn:=d } :=
  ⟨I.ok,I.os,I.bare,I.base,I.loc,I.cell,I.free,I.freeC,I.pin,I.hok,I.len⟩
theorem vals_gives {P:Program} {w:World}:∀ (ks:List Int) (us:List Value),us.length = ks.length→(∀ (j:Nat) (v:Value),us[j]? = some v→Gives (intKind P w) ks j v)→Vals (ks.map V.int) us
  | [],[],_,_=>.nil
  | [],_ :: _,h,_=>by cases h
  | _ :: _,[],h,_=>by cases h
  | k :: ks,u :: us,h,g=>by
    obtain ⟨k',e,his⟩:=g 0 u rfl
    have ek:k = k':=Option.some.inj e
    subst ek
    refine .cons ?_ (vals_gives (P:=P) (w:=w) ks us (Nat.succ.inj h) fun j v hj=>g (j + 1) v hj)
    obtain ⟨t,rfl⟩:=Value.isInt_shape (show Value.isInt k u = true from his)
    exact ⟨t,rfl⟩
theorem nodup_le {α:Type} [DecidableEq α]:∀ {ks ns:List α},ks.Nodup→(∀ k ∈ ks,k ∈ ns)→ks.length ≤ ns.length
  | [],_,_,_=>Nat.zero_le _
  | k :: ks,ns,nd,h=>by
    obtain ⟨n1,n2⟩:=List.nodup_cons.mp nd
    have m:=h k List.mem_cons_self
    have:=nodup_le (ns:=ns.erase k) n2 fun x hx=>(List.mem_erase_of_ne (a:=x) (b:=k) fun z=>n1 (by rw [← z]; exact hx)).mpr (h x (List.mem_cons_of_mem _ hx))
    rw [List.length_erase_of_mem m] at this
    have:=List.length_pos_of_mem m
    simp only [List.length_cons]
    lia
section
variable {X:Cx} {e:Expr} {te:TE}
def tSSet (K:PySem.W.Frag) (te:TE):TE:=fun σ H Q=>te σ H fun x H1=>∃ (a:Addr) (ns:List Int),x = .ref a∧SqL K H1 a (ns.map V.int)∧ns.length < 64∧∀ (l:Addr) (ms:List Int),ms.Pairwise (· < ·)→(∀ k,k ∈ ms↔k ∈ ns)→H1 l = none→Q (.ref l) (upd H1 l (.lst (ms.map V.int)))
theorem pe_sset {p1 p2 q1 q2:Pos} (hc:X.calm = true) (g1:Gl X "sorted") (m1:X.mg "sorted" = none) (g2:Gl X "set") (m2:X.mg "set" = none) (he:PE X e te) (h1:starEach [e] X.env = [(false,eval e X.env)]:=by rfl)
    (h2:starEach [.Call (.Name "set" p2) [e] [] q2] X.env = [(false,eval (.Call (.Name "set" p2) [e] [] q2) X.env)]:=by rfl):PE X (.Call (.Name "sorted" p1) [.Call (.Name "set" p2) [e] [] q2] [] q1) (tSSet X.K te):=by
  intro pins s σ H Q I h
  refine wpAny_Call_Name_kw (ld_blt I g1 m1 boot_sorted ?_)
  refine PyProof.Rows.callWith_builtin1 ?_ h2 rfl
  rw [h2]
  show wpAny (model X.prog X.w) _ (spliced ((false,eval (.Call (.Name "set" p2) [e] [] q2) X.env) :: backTo q1 (starEach [] X.env))) _ _ s
  refine Calls.spliced_cons ?_
  refine wpAny_Call_Name_kw (ld_blt I g2 m2 boot_set ?_)
  refine PyProof.Rows.callWith_type1 ?_ h1 rfl
  rw [h1]
  show wpAny (model X.prog X.w) _ (spliced ((false,eval e X.env) :: backTo q2 (starEach [] X.env))) _ _ s
  refine Calls.spliced_cons (thn (he pins s σ H _ I h) fun u s1 ⟨x,H1,I1,r1,q⟩=>?_)
  obtain ⟨a,ns,rfl,hq,h64,q⟩:=q
  cases r1
  refine Calls.spliced_nil ?_
  obtain ⟨its,rv,pl,_⟩:=I1.list hq
  have hl:its.length = ns.length:=by
    have:=rv.length
    rw [List.length_map] at this
    exact this.symm
  have hh:=I1.ok.hd hc
  have hv:∀ (i:Nat) (v:Value),its.toArray[i]? = some v→(intKind X.prog X.w).is (ns.getD i 0) v = true∧v.scannable = true:=fun i v hi=>by
    obtain ⟨t,rfl⟩:=IntsAre.int_at (ints_of rv) i v (by simpa using hi)
    exact ⟨intKind_is _ _ _ _,rfl⟩
  refine call_setL (knd:=intKind X.prog X.w) hh pl.isList (fun i=>ns.getD i 0) hv (by simp [hl]; unfold scanBound; lia) fun h2 tk ks hS hx kp=>?_
  have I2:Inv X pins σ H1 { s1 with heap:=h2,toks:=tk }:=I1.kept fun b o z=>kp b o (Heap.lt_size z) z
  have mem:∀ k,k ∈ ks↔k ∈ ns:=fun k=>by
    rw [hx]
    constructor
    · rintro ⟨j,hj,rfl⟩
      have lj:j < ns.length:=by simpa [hl] using hj
      rw [List.getD_eq_getElem?_getD,List.getElem?_eq_getElem lj]
      exact List.getElem_mem lj
    · intro m
      obtain ⟨j,hj,z⟩:=List.getElem_of_mem m
      exact ⟨j,by simpa [hl] using hj,by rw [List.getD_eq_getElem?_getD,List.getElem?_eq_getElem hj]; exact z.symm⟩
  have nd:ks.Nodup:=by
    obtain ⟨_,_,_,_,_,_,_,_,nd,_⟩:=hS
    exact nd
  have le:ks.length ≤ ns.length:=nodup_le nd fun k hk=>(mem k).mp hk
  refine Calls.spliced_nil ?_
  refine Calls.call_function_entry kind_sorted plain_sorted entry_sorted (args_sorted1 _) ?_
  unfold Builtin.«sorted»
  refine wpAny_bind (m:=checkCount "sorted" 1 1 _) (wpAny_pure (wpAny_bind (coll_setL (knd:=intKind X.prog X.w) (s:={ s1 with heap:=h2,toks:=tk }) hh hS (Nat.le_of_lt (small (by lia))) fun ks' h3 d tk' acc p kp3 lt3 it=>?_)))
  have I3:Inv X pins σ H1 { s1 with heap:=h3,drawn:=d,toks:=tk' }:=(I2.kept (t':=tk') kp3).drew d
  have rv3:Vals (ks'.map V.int) acc.toList:=vals_gives (P:=X.prog) (w:=X.w) ks' acc.toList (by simpa using it.1) fun j v hj=>it.2 j v (by simpa using hj)
  have l3:acc.toList.length < 64:=by
    have:=rv3.length
    rw [List.length_map,p.length_eq] at this
    lia
  have hL:(h3.push (seqObj "list" acc.toList.toArray 0)).get? h3.objs.size = some (seqObj "list" acc.toList.toArray 0):=Heap.get?_push_size _ rfl
  refine wpAny_bind (wpAny_newList ?_)
  refine wpAny_bind (wpAny_holding (wpAny_call_entry slot_list_sort ⟨_,hL,rfl⟩ entry_list_sort (list_sort_tree hL (ints_of rv3) l3 fun out ms a1 a2 a3=>⟨_,rfl,?_⟩) (args_list_sort _)))
  refine wpAny_pure ⟨_,rfl,?_⟩
  obtain ⟨ee,hee⟩:=sortedHeap_at (out:=out) hL
  have pm:ms.Perm ks:=a2.trans p
  have ndm:ms.Nodup:=pm.nodup_iff.mpr nd
  have lt:ms.Pairwise (· < ·):=(a3.and ndm).imp fun z=>by
    have:=z.1
    have:=z.2
    lia
  refine ⟨.ref h3.objs.size,_,I3.laid (a:=h3.objs.size) (o:=.lst (ms.map V.int)) (t':=tk') (fun b o z=>?_) (Nat.le_refl _) ?_,rfl,q _ ms lt (fun k=>by rw [pm.mem_iff]; exact mem k) (I3.hok.fresh (Nat.le_refl _))⟩
  · have l:=Heap.lt_size z
    rw [sortedHeap_old (Nat.ne_of_lt l) (by rw [Heap.size_push]; exact Nat.lt_succ_of_lt l)]
    exact Heap.get?_push_of_some _ z
  · refine ⟨?_,out.toList,ee,of_ints a1,?_⟩
    · rw [List.length_map,pm.length_eq]
      exact Nat.le_of_lt (small (by lia))
    · rw [hee]
end
end L2
namespace L2
open PySem PySem.Spec PyProof.Rows
theorem of_strs:∀ {us:List Value} {ss:List Str},StrsAre us ss→Vals (ss.map V.str) us
  | _,_,.nil=>.nil
  | _,_,.cons y t h=>.cons ⟨t,rfl⟩ (of_strs h)
section
variable {X:Cx} {e:Expr} {te:TE}
end
end L2
namespace L2
open PySem PySem.Spec PyProof.Rows PySem.W
theorem KatTups_keep {h h':Heap} (k:∀ b o,h.get? b = some o→o.cls = .type "tuple"→h'.get? b = some o):∀ {vs fs:List Value},KatTups h vs fs→KatTups h' vs fs
  | [],[],_=>trivial
  | [],_ :: _,t=>t.elim
  | _ :: _,[],t=>t.elim
  | v :: vs,f :: fs,⟨⟨a,o,xs,n,e,ho,hc,hd,hf⟩,t⟩=>⟨⟨a,o,xs,n,e,k a o ho hc,hc,hd,hf⟩,KatTups_keep k t⟩
theorem KatTups_at {h:Heap} {fs:List Value} {ss:List Str} (hS:StrsAre fs ss):∀ {vs:List Value} {i:Nat} {z:Str},KatTups h vs fs→ss[i]? = some z→∃ a o xs n t,vs.getD i Value.none = .ref a∧h.get? a = some o∧o.data = .seq xs n∧xs[0]? = some (.str z t):=by
  induction hS with
  | nil =>
    intro vs i z _ e
    simp at e
  | cons y tk r ih =>
    intro vs i z t e'
    cases vs with
    | nil=>exact t.elim
    | cons v vs =>
      obtain ⟨⟨a,o,xs,n,e,ho,hc,hd,hf⟩,t⟩:=t
      cases i with
      | zero =>
        cases e'
        exact ⟨a,o,xs,n,tk,e,ho,hd,hf⟩
      | succ i =>
        obtain ⟨a,o,xs,n,t',h1,h2,h3,h4⟩:=ih t (i:=i) (z:=z) (by simpa using e')
        exact ⟨a,o,xs,n,t',by simpa using h1,h2,h3,h4⟩
theorem KatTups_len {h:Heap}:∀ {vs fs:List Value},KatTups h vs fs→fs.length = vs.length
  | [],[],_=>rfl
  | [],_ :: _,t=>t.elim
  | _ :: _,[],t=>t.elim
  | _ :: _,_ :: _,⟨_,t⟩=>congrArg Nat.succ (KatTups_len t)
theorem strs_len:∀ {fs:List Value} {ss:List Str},StrsAre fs ss→fs.length = ss.length
  | _,_,.nil=>rfl
  | _,_,.cons _ _ h=>congrArg Nat.succ (strs_len h)
section
variable {prog:Program} {w:World} {A:Around} {E:Value→Shared→Prop} {s:Shared}
end
section
variable {X:Cx}
theorem tups_of {P:Program} {w:World} {pins:List (Addr×Obj)} {σ:St} {H:Hp} {s:Shared} (I:Inv X pins σ H s):∀ {vs:List V} {its:List Value} {ss:List Str},Vals vs its→vs.length = ss.length→(∀ (i:Nat) v z,vs[i]? = some v→ss[i]? = some z→∃ b ws,v = .ref b∧H b = some (.tup (.str z :: ws)))→∃ fs,KatTups s.heap its fs∧StrsAre fs ss
  | _,_,[],.nil,_,_=>⟨[],trivial,.nil⟩
  | _,_,_ :: _,.nil,h,_=>by cases h
  | _,_,[],.cons _ _,h,_=>by cases h
  | v :: vs,u :: its,z :: ss,.cons r rs,h,k=>by
    obtain ⟨fs,t,hS⟩:=tups_of (P:=P) (w:=w) I rs (Nat.succ.inj h) fun i v z hv hz=>k (i + 1) v z hv hz
    obtain ⟨b,ws,rfl,hb⟩:=k 0 _ z rfl rfl
    cases r
    obtain ⟨js,rj,⟨o,ho,hc,n,hd⟩,_⟩:=I.tuple (SqT.of (K:=X.K) hb)
    cases rj with
    | cons r0 _ =>
      obtain ⟨tk,rfl⟩:=r0
      exact ⟨_,KatTups.cons ho hc hd (by simp) t,.cons z tk hS⟩
end
end L2
namespace L2
open PySem PySem.Spec PyProof.Rows
def sqO (tu:Bool) (xs:List V):HO:=match tu with
  | false=>.lst xs
  | true=>.tup xs
def Sq (K:PySem.W.Frag) (tu:Bool) (H:Hp) (a:Addr) (xs:List V):Prop:=match tu with
  | false=>SqL K H a xs
  | true=>SqT K H a xs
theorem Sq.of {K:PySem.W.Frag} {tu:Bool} {H:Hp} {a:Addr} {xs:List V} (h:H a = some (sqO tu xs)):Sq K tu H a xs:=by
  cases tu with
  | false=>exact SqL.of h
  | true=>exact SqT.of h
def ItS (K:PySem.W.Frag) (tu:Bool) (a:Addr):It:=match tu with
  | false=>Itl K a
  | true=>Itt K a
def iSeq (K:PySem.W.Frag) (tl:TE):TI:=fun σ H R=>tl σ H fun x H1=>∃ (a:Addr) (tu:Bool),x = .ref a∧(∃ xs,Sq K tu H1 a xs)∧R (ItS K tu a) H1
theorem pi_seq {X:Cx} {tg l:Expr} {tl:TE} (hl:PE X l tl):PI X tg l (iSeq X.K tl):=by
  intro pins s σ H R I h
  refine thn (hl pins s σ H _ I h) fun v s1 ⟨x,H1,I1,r1,q1⟩=>?_
  obtain ⟨a,tu,e,⟨xs,hq⟩,q⟩:=q1
  subst e
  cases r1
  have fr:∀ b ∈ [s1.heap.objs.size],FpOk X pins H1 b:=fun b hb=>by
    obtain rfl:b = s1.heap.objs.size:=by simpa using hb
    exact I1.fpOk (Nat.le_refl _) (I1.hok.fresh (Nat.le_refl _))
  cases tu with
  | false =>
    obtain ⟨its,rv,p,hz⟩:=I1.list hq
    exact wpAny_pyIter_list p.isList ⟨s1.heap.objs.size,[s1.heap.objs.size],_,_,H1,rfl,I1.kept (t':=s1.toks) fun b o e=>Heap.get?_push_of_some _ e,turn_list a _,⟨_,Heap.get?_push_size _ rfl,rfl,rfl⟩,fr,q⟩
  | true =>
    obtain ⟨its,rv,p,hz⟩:=I1.tuple hq
    exact wpAny_pyIter_tuple (show s1.heap.IsTuple a its.toArray from p) ⟨s1.heap.objs.size,[s1.heap.objs.size],_,_,H1,rfl,I1.kept (t':=s1.toks) fun b o e=>Heap.get?_push_of_some _ e,turn_tuple a _,⟨_,Heap.get?_push_size _ rfl,rfl,rfl⟩,fr,q⟩
theorem for_seq {K:PySem.W.Frag} {a:Addr} {tu:Bool} {xs:List V} {g:TG} {tb:TS} {D:Ends} {σ:St} {H:Hp} (Pv:Nat→St→Hp→Prop) (h0:Pv 0 σ H) (hl:∀ i σ H,i ≤ xs.length→Pv i σ H→Sq K tu H a xs)
    (hs:∀ i x σ H,xs[i]? = some x→Pv i σ H→g x σ H fun σ2 H2=>tb { D with nx:=Pv (i + 1),ct:=Pv (i + 1),bk:=D.nx } σ2 H2) (hd:∀ σ H,Pv xs.length σ H→D.nx σ H) :
    ∃ W:Nat→Nat→St→Hp→Prop,(∃ m,W 0 m σ H)∧∀ i m σ H,W i m σ H →
      ((ItS K tu a).stop i H∧D.nx σ H)∨((ItS K tu a).go i H∧∃ N:St→Hp→Prop,(∀ σ' H',N σ' H'→∃ m',m' < m∧W (i + 1) m' σ' H')∧∀ x H',(ItS K tu a).yld i H x H'→g x σ H' fun σ2 H2=>tb { D with nx:=N,ct:=N,bk:=D.nx } σ2 H2):=by
  cases tu with
  | false=>exact for_list Pv h0 hl hs hd
  | true=>exact for_tup Pv h0 hl hs hd
theorem comp_seq {K:PySem.W.Frag} {tu:Bool} {a p:Addr} {tt:TT} {te:TE} {cs:St} {Q:VK} {H1:Hp} {xs:List V} (Pv:Nat→List V→Hp→Prop) (h0:Pv 0 [] (upd H1 p (.lst [])))
    (hl:∀ i ys H,i ≤ xs.length→Pv i ys H→Sq K tu H a xs)
    (hs:∀ i x ys H,xs[i]? = some x→Pv i ys H→tt (some x :: cs) H fun b H4=>if b = true then te (some x :: cs) H4 fun y H5=>H5 p = some (.lst ys)∧ys.length < sizeLine∧Pv (i + 1) (ys ++ [y]) (upd H5 p (.lst (ys ++ [y]))) else Pv (i + 1) ys H4)
    (hd:∀ ys H,Pv xs.length ys H→Q (.ref p) H):CompW (ItS K tu a) p tt te cs Q H1:=by
  refine comp_by xs.length Pv h0 ?_ ?_
  · intro i ys H hi pv
    have q:=hl i ys H (Nat.le_of_lt hi) pv
    cases tu with
    | false =>
      refine ⟨⟨xs,xs[i],q,by simp [hi]⟩,fun v H3 y=>?_⟩
      obtain ⟨e,y⟩:=y
      subst e
      exact hs i v ys _ (y xs q) pv
    | true =>
      refine ⟨⟨xs,xs[i],q,by simp [hi]⟩,fun v H3 y=>?_⟩
      obtain ⟨e,y⟩:=y
      subst e
      exact hs i v ys _ (y xs q) pv
  · intro ys H pv
    have q:=hl _ ys H (Nat.le_refl _) pv
    cases tu with
    | false=>exact ⟨⟨xs,q,Nat.le_refl _⟩,hd ys H pv⟩
    | true=>exact ⟨⟨xs,q,Nat.le_refl _⟩,hd ys H pv⟩
theorem compT_seq {K:PySem.W.Frag} {tu:Bool} {a p:Addr} {g:TG} {k:Nat} {tt:TT} {te:TE} {cs:St} {Q:VK} {H1:Hp} {xs:List V} (Pv:Nat→List V→Hp→Prop) (h0:Pv 0 [] (upd H1 p (.lst [])))
    (hl:∀ i ys H,i ≤ xs.length→Pv i ys H→Sq K tu H a xs)
    (hs:∀ i x ys H,xs[i]? = some x→Pv i ys H→∀ vs0:St,vs0.length = k→g x (vs0 ++ cs) H fun σ' H'=>(∃ vs':St,σ' = vs' ++ cs∧vs'.length = k)∧tt σ' H' fun b H4=>if b = true then te σ' H4 fun y H5=>H5 p = some (.lst ys)∧ys.length < sizeLine∧Pv (i + 1) (ys ++ [y]) (upd H5 p (.lst (ys ++ [y]))) else Pv (i + 1) ys H4)
    (hd:∀ ys H,Pv xs.length ys H→Q (.ref p) H):CompWT (fun _=>True) g k (ItS K tu a) p tt te cs Q H1:=by
  refine ⟨fun i m ys H=>m = xs.length - i∧i ≤ xs.length∧Pv i ys H,⟨xs.length,by simp,Nat.zero_le _,h0⟩,?_⟩
  rintro i m ys H ⟨rfl,hi,pv⟩
  have q:=hl i ys H hi pv
  by_cases hlt:i < xs.length
  · have st:∀ x,xs[i]? = some x→_:=fun x hx=>hs i x ys H hx pv
    cases tu with
    | false =>
      refine .inr ⟨⟨xs,xs[i],q,by simp [hlt]⟩,trivial,Pv (i + 1),fun ys' H' p'=>⟨xs.length - (i + 1),by lia,rfl,hlt,p'⟩,fun v H3 y=>?_⟩
      obtain ⟨e,y⟩:=y
      subst e
      exact st v (y xs q)
    | true =>
      refine .inr ⟨⟨xs,xs[i],q,by simp [hlt]⟩,trivial,Pv (i + 1),fun ys' H' p'=>⟨xs.length - (i + 1),by lia,rfl,hlt,p'⟩,fun v H3 y=>?_⟩
      obtain ⟨e,y⟩:=y
      subst e
      exact st v (y xs q)
  · have e:i = xs.length:=by lia
    subst e
    cases tu with
    | false=>exact .inl ⟨⟨xs,q,Nat.le_refl _⟩,trivial,hd ys H pv⟩
    | true=>exact .inl ⟨⟨xs,q,Nat.le_refl _⟩,trivial,hd ys H pv⟩
def g4 (K:PySem.W.Frag):TG:=gTup K 4 (gCons (gName 0) (gCons (gName 1) (gCons (gName 2) (gCons (gName 3) gNil))))
theorem comp4 {K:PySem.W.Frag} {tu:Bool} {a p:Addr} {tt:TT} {te:TE} {cs:St} {Q:VK} {H1:Hp} {xs:List V} (Pv:Nat→List V→Hp→Prop) (h0:Pv 0 [] (upd H1 p (.lst [])))
    (hl:∀ i ys H,i ≤ xs.length→Pv i ys H→Sq K tu H a xs)
    (hs:∀ i x ys H,xs[i]? = some x→Pv i ys H→∃ q c1 c2 c3 c4,x = .ref q∧SqT K H q [c1,c2,c3,c4]∧tt (some c1 :: some c2 :: some c3 :: some c4 :: cs) H fun b H4=>if b = true then te (some c1 :: some c2 :: some c3 :: some c4 :: cs) H4 fun y H5=>H5 p = some (.lst ys)∧ys.length < sizeLine∧Pv (i + 1) (ys ++ [y]) (upd H5 p (.lst (ys ++ [y]))) else Pv (i + 1) ys H4)
    (hd:∀ ys H,Pv xs.length ys H→Q (.ref p) H):CompWT (fun _=>True) (g4 K) 4 (ItS K tu a) p tt te cs Q H1:=by
  refine compT_seq Pv h0 hl (fun i x ys H hx pv vs0 hv=>?_) hd
  obtain ⟨q,c1,c2,c3,c4,rfl,hq,ht⟩:=hs i x ys H hx pv
  match vs0,hv with
  | [w1,w2,w3,w4],_=>exact ⟨q,_,rfl,hq,rfl,c1,_,rfl,c2,_,rfl,c3,_,rfl,c4,_,rfl,rfl,⟨[some c1,some c2,some c3,some c4],rfl,rfl⟩,ht⟩
def tCompR (g:TG) (k:Nat) (wi:TI) (tt:TT) (te:TE) (caps:List Nat):TE:=fun σ H Q=>wi σ H fun J H1=>∀ p,H1 p = none→CompWT (fun _=>True) g k J p tt te (capV σ caps) Q H1
theorem pe_compR {X:Cx} {elt iter:Expr} {ifs:List Expr} {tg:Expr} {g:TG} {pos:Pos} {sc:Scope} {wi:TI} {tt:TT} {te:TE} (xs:List Str) (caps:List Nat) (capsN:List Str)
    (hi:PI X tg iter wi)
    (hg:∀ cl C s H ex pn,PG (cxComp X (xs ++ capsN) sc cl C s H ex pn) tg g)
    (ht:∀ cl C s H ex pn,PTs (cxComp X (xs ++ capsN) sc cl C s H ex pn) ifs tt)
    (he:∀ cl C s H ex pn,PE (cxComp X (xs ++ capsN) sc cl C s H ex pn) elt te)
    (hkind:sc.kind = .function) (hcell:∀ y ∈ sc.names,y.2 ≠ .cell) (hnames:∀ y ∈ sc.names,y.2 = .local→sc.names.lookup y.1 = some .local)
    (hfr:∀ y ∈ sc.names,y.2 = .free→y.1 ∈ capsN)
    (hcap:∀ (j:Nat) (y:Str),capsN[j]? = some y→∃ i:Nat,caps[j]? = some i∧X.N[i]? = some y∧sc.names.lookup y = some .free∧(X.env.kindOf y = some .cell∨X.env.kindOf y = some .free)) (hlen:caps.length = capsN.length)
    (hc:X.calm = true)
    (hs:∀ x,foldedSetIterable iter X.env x = pure x:=by intro _; rfl) :
    PE X (.ListComp elt [⟨tg,iter,ifs,0⟩] sc pos) (tCompR g xs.length wi tt te caps) :=
  pe_compT (Gs:=fun _=>True) (hb:=false) (CW:=fun J p cs Q H1=>CompWT (fun _=>True) g xs.length J p tt te cs Q H1) caps capsN hi hg ht he hkind hcell hnames hfr hcap hlen (.inl hc) (fun _ _ _ _ _ h=>h) hs
theorem ps_setC1 {X:Cx} {elt iter:Expr} {ifs:List Expr} {x y:Str} {px pos pos' pos2:Pos} {sc:Scope} {wi:TI} {tt:TT} {te:TE} {i:Nat} (hN:X.N.Nodup) (hiN:X.N[i]? = some y) (hy:X.env.scope.names.lookup y = some .local) (caps:List Nat) (capsN:List Str)
    (hi:PI X (.Name x px) iter wi)
    (ht:∀ cl C s H ex pn,PTs (cxComp X (x :: capsN) sc cl C s H ex pn) ifs tt)
    (he:∀ cl C s H ex pn,PE (cxComp X (x :: capsN) sc cl C s H ex pn) elt te)
    (hkind:sc.kind = .function) (hcell:∀ y ∈ sc.names,y.2 ≠ .cell) (hnames:∀ y ∈ sc.names,y.2 = .local→sc.names.lookup y.1 = some .local) (hx:sc.names.lookup x = some .local)
    (hfr:∀ y ∈ sc.names,y.2 = .free→y.1 ∈ capsN)
    (hcap:∀ (j:Nat) (y:Str),capsN[j]? = some y→∃ i:Nat,caps[j]? = some i∧X.N[i]? = some y∧sc.names.lookup y = some .free∧(X.env.kindOf y = some .cell∨X.env.kindOf y = some .free)) (hlen:caps.length = capsN.length)
    (hnd:(x :: capsN).Nodup) (hc:X.calm = true)
    (hsw:swapsWith (.ListComp elt [⟨.Name x px,iter,ifs,0⟩] sc pos) (some (.Name y pos')) pos2.line X.env = pure true:=by rfl)
    (hs:∀ x,foldedSetIterable iter X.env x = pure x:=by intro _; rfl) :
    PS X (.Assign [.Name y pos'] (.ListComp elt [⟨.Name x px,iter,ifs,0⟩] sc pos) pos2) (tAsg (tComp wi tt te caps) (gName i)) :=
  ps_setC (Gs:=fun _=>True) (hb:=false) (CW:=fun J p cs Q H1=>CompW J p tt te cs Q H1) hN hiN hy caps capsN hi ht he hkind hcell hnames hx hfr hcap hlen hnd (.inl hc) (fun _ _ _ _ _ h=>h.g) hsw hs
section
variable {X:Cx}
end
section
variable {X:Cx} {K:PySem.W.Frag}
theorem ix_tupK (h:X.K = K):IxR X (rIxT K):=by
  subst h
  exact ix_tup
theorem sl_tupK (h:X.K = K):SlR X (rSlT K):=by
  subst h
  exact sl_tup
end
end L2
namespace L2
open PySem PySem.Spec PyProof.Rows
abbrev S4:=Int×Int×Int×Int
end L2
namespace L2
open PySem PySem.Spec PyProof.Rows
section
variable {X:Cx} {pins:List (Addr×Obj)} {σ:St} {H:Hp} {s:Shared} {a b:Addr} {A:Around} {E:Value→Shared→Prop}
end
section
variable {X:Cx} {o e:Expr} {apos cpos:Pos} {td ty:TE}
end
end L2
namespace L2
open PySem PySem.Spec PyProof.Rows
section
variable {X:Cx} {pins:List (Addr×Obj)} {σ:St} {H:Hp} {s:Shared} {h':Heap}
theorem Inv.turns {t':Nat} {W:List Addr} (I:Inv X pins σ H s) (hW:∀ b ∈ W,FpOk X pins H b) (k:∀ b o,b ∉ W→s.heap.get? b = some o→h'.get? b = some o):Inv X pins σ H { s with heap:=h',toks:=t' }:=by
  have nit:∀ b u,H b = some u→b ∉ W:=fun b u e z=>by
    have q:=(hW b z).1
    rw [q] at e
    cases e
  have lW:X.env.locals ∉ W:=fun z=>(hW _ z).2.1 rfl
  refine I.step (g':=s.gens) (d':=s.drawn) (ch:=W) (fun b hb=>?_) (fun b o _ _ hc e _=>k b o hc e) (fun b o _ _ hc e _=>⟨o.slots,k b o hc e⟩) (fun _ _ _ _ n=>n) (fun b o hc e=>⟨o,k b o hc e⟩) (fun _ _ e=>e) (fun _ _ _ e=>e)
    (fun b ps e=>⟨#[],by rw [e]; simp⟩) (fun m hm=>?_) (fun b u e=>?_) I.bare
  · obtain ⟨_,a2,_,a4,a5,a6⟩:=hW b hb
    exact ⟨a4,a2,a5,a6⟩
  · obtain ⟨o,es,ep,ho,r⟩:=hm
    exact ⟨o,es,ep,k _ o lW ho,r⟩
  · refine (I.hok b u e).stay (fun c v hc q=>k c v ?_ q) (fun _ q=>q) fun _ _ q=>q
    rcases hc with z | z
    · exact z ▸ nit b u e
    · exact nit c _ z
theorem Inv.turnsLaid {t':Nat} {W:List Addr} {T:Addr} {o:HO} (I:Inv X pins σ H s) (hW:∀ b ∈ W,FpOk X pins H b) (k:∀ b u,b ∉ W→s.heap.get? b = some u→h'.get? b = some u) (hT:s.heap.objs.size ≤ T)
    (new:ObjOk X.prog X.w (upd H T o) h' T o):Inv X pins σ (upd H T o) { s with heap:=h',toks:=t' }:=by
  have nT:=I.hok.fresh hT
  have nit:∀ b u,H b = some u→b ∉ W:=fun b u e z=>by
    have q:=(hW b z).1
    rw [q] at e
    cases e
  have lW:X.env.locals ∉ W:=fun z=>(hW _ z).2.1 rfl
  refine I.step (g':=s.gens) (d':=s.drawn) (ch:=W) (fun b hb=>?_) (fun b o _ _ hc e _=>k b o hc e) (fun b o _ _ hc e _=>⟨o.slots,k b o hc e⟩)
    (fun b o _ e n=>by rw [upd_ne (Nat.ne_of_lt (Nat.lt_of_lt_of_le (Heap.lt_size e) hT))]; exact n) (fun b o hc e=>⟨o,k b o hc e⟩)
    (fun b xs e=>by rw [upd_ne (ne_of_none e nT)]; exact e) (fun b _ _ e=>by rw [upd_ne (ne_of_none e nT)]; exact e)
    (fun b ps e=>⟨#[],by rw [upd_ne (ne_of_none e nT),e]; simp⟩) (fun m hm=>?_) (fun b u e=>?_) I.bare
  · obtain ⟨_,a2,_,a4,a5,a6⟩:=hW b hb
    exact ⟨a4,a2,a5,a6⟩
  · obtain ⟨o,es,ep,ho,r⟩:=hm
    exact ⟨o,es,ep,k _ o lW ho,r⟩
  · by_cases hb:b = T
    · subst hb
      rw [upd_same] at e
      cases e
      exact new
    · rw [upd_ne hb] at e
      refine (I.hok b u e).stay (fun c v hc q=>k c v ?_ q) (fun c q=>by rw [upd_ne (ne_of_none q nT)]; exact q) fun c xs q=>by rw [upd_ne (ne_of_none q nT)]; exact q
      rcases hc with z | z
      · exact z ▸ nit b u e
      · exact nit c _ z
end
end L2
namespace L2
open PySem PySem.Spec PyProof.Rows
section
variable {prog:Program} {w:World} {A:Around} {E:Value→Shared→Prop} {s:Shared}
end
end L2
namespace L2
open PySem PySem.Spec PyProof.Rows
section
variable {prog:Program} {w:World} {A:Around} {E:Value→Shared→Prop} {s:Shared}
end
end L2
namespace L2
open PySem PySem.Spec PyProof.Rows
section
variable {X:Cx} {pins:List (Addr×Obj)} {σ:St} {H:Hp} {s:Shared}
end
end L2
namespace L2
open PySem PySem.Spec PyProof.Rows
section
variable (K:PySem.W.Frag)
theorem k0_tt:PySem.W.kitOne K (.type "tuple") (.type "tuple") = some true:=by kernel_rfl
end
end L2
namespace HT
open PySem PySem.Spec PyProof.Rows
section
variable {prog:Program} {w:World} {A:Around} {E:Value→Shared→Prop} {s:Shared}
end
end HT
namespace L2
open PySem PySem.Spec PyProof.Rows
section
variable {X:Cx}
end
end L2
namespace L2
open PySem PySem.Spec PyProof.Rows
end L2
namespace L2
open PySem PySem.Spec PyProof.Rows
end L2
namespace L2
open PySem PySem.Spec PyProof.Rows
end L2
namespace L2
open PySem PySem.Spec PyProof.Rows
inductive Tr:Type
  | int (n:Int) | str (s:Str) | bl (b:Bool) | non | dct | tup (l:List Tr) | lst (l:List Tr)
mutual
def At (H:Hp):Tr→V→Prop
  | .int n,v=>v = .int n
  | .str s,v=>v = .str s
  | .bl b,v=>v = .bl b
  | .non,v=>v = .non
  | .dct,v=>∃ a kvs,v = .ref a∧H a = some (.dK kvs)
  | .tup l,v=>∃ a vs,v = .ref a∧H a = some (.tup vs)∧Ats H l vs
  | .lst l,v=>∃ a vs,v = .ref a∧H a = some (.lst vs)∧Ats H l vs
def Ats (H:Hp):List Tr→List V→Prop
  | [],vs=>vs = []
  | t :: ts,vs=>∃ v ws,vs = v :: ws∧At H t v∧Ats H ts ws
end
mutual
def dep:Tr→Nat
  | .tup l=>deps l + 1
  | .lst l=>deps l + 1
  | _=>0
def deps:List Tr→Nat
  | []=>0
  | t :: ts=>max (dep t) (deps ts)
end
mutual
theorem At.mono {H H':Hp} (s:Same H H'):∀ {t:Tr} {v:V},At H t v→At H' t v
  | .int n,v,h=>by unfold At at *; exact h
  | .str n,v,h=>by unfold At at *; exact h
  | .bl n,v,h=>by unfold At at *; exact h
  | .non,v,h=>by unfold At at *; exact h
  | .dct,v,h=>by
    unfold At at *
    obtain ⟨a,kvs,e,h⟩:=h
    exact ⟨a,kvs,e,s _ _ h⟩
  | .tup l,v,h=>by
    unfold At at *
    obtain ⟨a,vs,e,h,k⟩:=h
    exact ⟨a,vs,e,s _ _ h,Ats.mono s k⟩
  | .lst l,v,h=>by
    unfold At at *
    obtain ⟨a,vs,e,h,k⟩:=h
    exact ⟨a,vs,e,s _ _ h,Ats.mono s k⟩
theorem Ats.mono {H H':Hp} (s:Same H H'):∀ {l:List Tr} {vs:List V},Ats H l vs→Ats H' l vs
  | [],vs,h=>by unfold Ats at *; exact h
  | t :: ts,vs,h=>by
    unfold Ats at *
    obtain ⟨v,ws,e,h,k⟩:=h
    exact ⟨v,ws,e,At.mono s h,Ats.mono s k⟩
end
theorem Ats.len {H:Hp}:∀ {l:List Tr} {vs:List V},Ats H l vs→vs.length = l.length
  | [],vs,h=>by
    unfold Ats at h
    rw [h]
    rfl
  | t :: ts,vs,h=>by
    unfold Ats at h
    obtain ⟨v,ws,rfl,_,k⟩:=h
    rw [List.length_cons,List.length_cons,Ats.len k]
theorem Ats.get {H:Hp}:∀ {l:List Tr} {vs:List V} {i:Nat} {v:V},Ats H l vs→vs[i]? = some v→∃ t,l[i]? = some t∧At H t v
  | [],vs,i,v,h,e=>by
    unfold Ats at h
    subst h
    cases e
  | t :: ts,vs,i,v,h,e=>by
    unfold Ats at h
    obtain ⟨w,ws,rfl,h,k⟩:=h
    cases i with
    | zero=>cases e; exact ⟨t,rfl,h⟩
    | succ i =>
      obtain ⟨t',h1,h2⟩:=Ats.get k (show ws[i]? = some v from e)
      exact ⟨t',h1,h2⟩
theorem Ats.at {H:Hp}:∀ {l:List Tr} {vs:List V} {i:Nat} {t:Tr},Ats H l vs→l[i]? = some t→∃ v,vs[i]? = some v∧At H t v
  | [],vs,i,t,h,e=>by cases e
  | u :: ts,vs,i,t,h,e=>by
    unfold Ats at h
    obtain ⟨w,ws,rfl,h,k⟩:=h
    cases i with
    | zero=>cases e; exact ⟨w,rfl,h⟩
    | succ i =>
      obtain ⟨v',h1,h2⟩:=Ats.at k (show ts[i]? = some t from e)
      exact ⟨v',h1,h2⟩
theorem Ats.nil (H:Hp):Ats H [] []:=by unfold Ats; rfl
theorem Ats.cons {H:Hp} {t:Tr} {ts:List Tr} {v:V} {vs:List V} (h:At H t v) (k:Ats H ts vs):Ats H (t :: ts) (v :: vs):=by
  unfold Ats
  exact ⟨v,vs,rfl,h,k⟩
theorem Ats.app {H:Hp} {us:List Tr} {ws:List V} (k:Ats H us ws):∀ {l:List Tr} {vs:List V},Ats H l vs→Ats H (l ++ us) (vs ++ ws)
  | [],vs,h=>by
    unfold Ats at h
    subst h
    exact k
  | t :: ts,vs,h=>by
    unfold Ats at h
    obtain ⟨v,vs,rfl,h,k2⟩:=h
    exact Ats.cons h (Ats.app k k2)
theorem Ats.take {H:Hp}:∀ {l:List Tr} {vs:List V} (n:Nat),Ats H l vs→Ats H (l.take n) (vs.take n)
  | [],vs,n,h=>by
    unfold Ats at h
    subst h
    simp only [List.take_nil]
    exact Ats.nil H
  | t :: ts,vs,0,h=>Ats.nil H
  | t :: ts,vs,n + 1,h=>by
    unfold Ats at h
    obtain ⟨v,ws,rfl,h,k⟩:=h
    exact Ats.cons h (Ats.take n k)
theorem At.tup {H:Hp} {l:List Tr} {v:V} (h:At H (.tup l) v):∃ a vs,v = .ref a∧H a = some (.tup vs)∧Ats H l vs:=by
  unfold At at h
  exact h
theorem At.lst {H:Hp} {l:List Tr} {v:V} (h:At H (.lst l) v):∃ a vs,v = .ref a∧H a = some (.lst vs)∧Ats H l vs:=by
  unfold At at h
  exact h
theorem At.mkT {H:Hp} {l:List Tr} {a:Addr} {vs:List V} (h:H a = some (.tup vs)) (k:Ats H l vs):At H (.tup l) (.ref a):=by
  unfold At
  exact ⟨a,vs,rfl,h,k⟩
theorem At.mkL {H:Hp} {l:List Tr} {a:Addr} {vs:List V} (h:H a = some (.lst vs)) (k:Ats H l vs):At H (.lst l) (.ref a):=by
  unfold At
  exact ⟨a,vs,rfl,h,k⟩
theorem At.int {H:Hp} (n:Int):At H (.int n) (.int n):=by unfold At; rfl
theorem At.str {H:Hp} (n:Str):At H (.str n) (.str n):=by unfold At; rfl
end L2
namespace L2
open PySem PySem.Spec PyProof.Rows
section
variable (K:PySem.W.Frag)
theorem kt_ll:PySem.W.kitOne K (.type "list") (.type "list") = some true:=by kernel_rfl
end
end L2
namespace L2
open PySem PySem.Spec PyProof.Rows
section
variable {X:Cx}
end
end L2
namespace L2
open PySem PySem.Spec PyProof.Rows
def noStar:Expr→Bool
  | .Starred ..=>false
  | _=>true
theorem star_cons {e:Expr} (h:noStar e = true) (es:List Expr) (env:Env):starEach (e :: es) env = (false,eval e env) :: starEach es env:=by
  cases e with
  | Starred=>cases h
  | _=>rfl
section
variable {X:Cx} {e:Expr} {es:List Expr} {te:TE} {t:TA}
theorem pc (ha:PE X e te) (hr:PA X es t) (hs:noStar e = true:=by rfl):PA X (e :: es) (tCons te t):=pa_cons ha hr (star_cons hs es X.env)
end
end L2
namespace L2
open PySem PySem.Spec PyProof.Rows
end L2
namespace L2
open PySem PySem.Spec PyProof.Rows
mutual
def nl:Tr→Bool
  | .lst _=>false
  | .dct=>false
  | .tup l=>nls l
  | _=>true
def nls:List Tr→Bool
  | []=>true
  | t :: ts=>nl t && nls ts
end
mutual
theorem At.keepT {H H':Hp} (k:∀ q u,H q = some (.tup u)→H' q = some (.tup u)):∀ {t:Tr} {v:V},nl t = true→At H t v→At H' t v
  | .int n,v,_,h=>by unfold At at *; exact h
  | .str n,v,_,h=>by unfold At at *; exact h
  | .bl n,v,_,h=>by unfold At at *; exact h
  | .non,v,_,h=>by unfold At at *; exact h
  | .dct,v,n,h=>by unfold nl at n; cases n
  | .lst l,v,n,h=>by unfold nl at n; cases n
  | .tup l,v,n,h=>by
    unfold nl at n
    unfold At at *
    obtain ⟨a,vs,e,h,z⟩:=h
    exact ⟨a,vs,e,k _ _ h,Ats.keepT k n z⟩
theorem Ats.keepT {H H':Hp} (k:∀ q u,H q = some (.tup u)→H' q = some (.tup u)):∀ {l:List Tr} {vs:List V},nls l = true→Ats H l vs→Ats H' l vs
  | [],vs,_,h=>by unfold Ats at *; exact h
  | t :: ts,vs,n,h=>by
    unfold nls at n
    rw [Bool.and_eq_true] at n
    unfold Ats at *
    obtain ⟨v,ws,e,h,z⟩:=h
    exact ⟨v,ws,e,At.keepT k n.1 h,Ats.keepT k n.2 z⟩
end
theorem nls_of:∀ {l:List Tr},(∀ t ∈ l,nl t = true)→nls l = true
  | [],_=>rfl
  | t :: ts,h=>by
    unfold nls
    rw [h t (List.mem_cons_self ..),nls_of fun u hu=>h u (List.mem_cons_of_mem _ hu)]
    rfl
end L2
namespace L2
open PySem PySem.Spec PyProof.Rows
structure CMeth (K:PySem.W.Frag) (C:Addr) (m:Str) (f:Addr):Prop where
  ga:PySem.W.specialIn K (.ref C) "__getattribute__" = some (some (.builtin "type.__getattribute__"))
  rd:PySem.W.readsIn K C (.type "type") = true
  fc:PySem.W.findCls K (.ref C) (.type "type") m = some (.val (.ref f))
  kp:PySem.W.keepIn K (.ref f) = true
def tCMeth (C:Addr) (sp:Sp) (dvs:List V) (E:XK) (ta:TE) (t:TA):TE:=fun σ H Q=>ta σ H fun x H1=>x = .ref C∧t σ H1 fun vs H2=>sp (vs ++ dvs) H2 Q E
section
variable {X:Cx} {CX:CXT} {k:Nat} {f C:Addr} {fd:FuncData} {ps:List Str} {sp:Sp} {dvs:List V} {ds:List Value} {E:XK} {x m:Str} {p pos apos:Pos} {e o:Expr} {es:List Expr} {ta:TE} {t:TA}
theorem pe_cmeth {pl:Sem Bool} (he:PE X o ta) (hm:CMeth X.K C m f) {cc:Bool} (F:FnOk X.prog X.w X.K X.mg X.base CX k f fd ps sp cc) (hr:Room k X.A cc) (hb:Binds X.K fd ps ds) (hd:Vals dvs ds) (hx:Passes CX X E) (ha:PA X (e :: es) t)
    (hst:starEach (e :: es) X.env = (false,eval e X.env) :: starEach es X.env:=by rfl) (hpl:(backTo pos (starEach es X.env)).any (·.1) = false:=by rfl)
    (ht:eval (.Call (.Attribute o m apos) (e :: es) [] pos) X.env = (do
      let ov ← eval o X.env
      standAt apos.atName
      let (f,first) ← holding [ov] (getMethod ov m pl)
      callWith pos f first (backTo pos (starEach (e :: es) X.env)) (backToKw pos (keywordEach [] X.env))):=by rfl) :
    PE X (.Call (.Attribute o m apos) (e :: es) [] pos) (tCMeth C sp dvs E ta t):=by
  intro pins s σ H Q I h
  refine PySem.W.methodCall_KW (pl:=pl) (thn (he pins s σ H _ I h) fun u s1 ⟨x,H1,I1,rx,ex,q⟩=>?_) ht
  subst ex
  obtain rfl:u = Value.ref C:=rx
  refine PySem.W.method_cls I1.kIn hm.ga (PySem.W.cls_value I1.kIn hm.rd hm.fc rfl ?_)
  have I1':Inv X pins σ H1 { s1 with toks:=s1.toks + 1 }:=I1.tok _
  refine PySem.W.callWith_K (first:=[]) (h₀:=X.base) I.ok.mod.kin hm.kp (thn (ha pos pins _ σ H1 _ I1' q) fun us s2 ⟨vs,H2,I2,r,q2⟩=>⟨I2.kIn,?_⟩) hst hpl
  exact run_fn (us:=us) (vs:=vs) F hr hb hd hx I2 r q2
end
section
variable {X:Cx}
theorem hits_same {K:Type} [DecidableEq K] {A:Around} {s:Shared} {kb:List (K×Value)}:∀ {ka:List (K×Value)},(∀ k v,(k,v) ∈ ka→∃ y,PySem.valueAt kb k = some y∧SeqAt.EqAt A s v y true)→PySem.W.KeqHits A s kb ka true
  | [],_=>.nil
  | (k,v) :: r,h=>by
    obtain ⟨y,e1,e2⟩:=h k v (List.mem_cons_self ..)
    exact .hit (e:=true) (b:=true) e1 e2 (hits_same fun k v m=>h k v (List.mem_cons_of_mem _ m))
theorem kv_find {κ:Type} [DecidableEq κ] {k:κ} {x:V}:∀ {kvs:List (κ×V)} {kb:List (κ×Value)},KV kvs kb→valV kvs k = some x→∃ y,PySem.valueAt kb k = some y∧RelV x y
  | [],[],_,h=>by cases h
  | p :: kvs,q :: kb,.cons r rs,h=>by
    unfold valV at h
    unfold PySem.valueAt
    rw [List.find?_cons] at h ⊢
    by_cases e:p.1 = k
    · rw [decide_eq_true e] at h
      have e':decide (q.1 = k) = true:=decide_eq_true (r.1 ▸ e)
      rw [e']
      cases h
      exact ⟨_,rfl,r.2⟩
    · rw [decide_eq_false e] at h
      have e':decide (q.1 = k) = false:=decide_eq_false (r.1 ▸ e)
      rw [e']
      exact kv_find rs h
theorem kv_mem {κ:Type} {k:κ} {v:Value}:∀ {kvs:List (κ×V)} {kb:List (κ×Value)},KV kvs kb→(k,v) ∈ kb→∃ x,(k,x) ∈ kvs∧RelV x v
  | [],[],_,h=>by cases h
  | p :: kvs,q :: kb,.cons r rs,h=>by
    rcases List.mem_cons.mp h with e | h
    · subst e
      have e1:p.1 = k:=r.1
      subst e1
      exact ⟨p.2,List.mem_cons_self ..,r.2⟩
    · obtain ⟨x,m,rx⟩:=kv_mem rs h
      exact ⟨x,List.mem_cons_of_mem _ m,rx⟩
theorem op_neDK (hu:X.A.units < cLine):OpR X (compareOp .NotEq) (fun x y H Q=>∃ a b kvs,x = .ref a∧y = .ref b∧H a = some (.dK kvs)∧H b = some (.dK kvs)∧(∀ k v,(k,v) ∈ kvs→valV kvs k = some v∧∃ n,v = .int n)∧Q (.bl false) H):=by
  intro pins s σ H x y v u Q I rx ry h
  obtain ⟨a,b,kvs,rfl,rfl,ha,hb,hk,q⟩:=h
  cases rx
  cases ry
  obtain ⟨_,sa,ka,ra,da⟩:=(show ObjOk X.prog X.w H s.heap a (.dK kvs) from I.hok a _ ha)
  obtain ⟨_,sb,kb,rb,db⟩:=(show ObjOk X.prog X.w H s.heap b (.dK kvs) from I.hok b _ hb)
  have la:=ra.length
  have lb:=rb.length
  refine PySem.W.keq_ne (r:=true) sa sb da db hu (fun _=>hits_same fun k v m=>?_) ?_
  · obtain ⟨x,mx,rx⟩:=kv_mem ra m
    obtain ⟨vx,n,rfl⟩:=hk k x mx
    obtain ⟨y,ey,ry⟩:=kv_find rb vx
    obtain ⟨t,rfl⟩:=rx
    obtain ⟨t',rfl⟩:=ry
    refine ⟨_,ey,?_⟩
    have e:=SeqAt.EqAt.int_int (A:=X.A.in1) (s:=s) n t n t'
    rw [beq_self_eq_true] at e
    exact e
  · rw [← la,lb,beq_self_eq_true]
    exact ⟨.bl false,H,I,rfl,q⟩
end
end L2
namespace L2
open PySem PySem.Spec PyProof.Rows PySem.W
def kev {α:Type} (lt:Nat→Nat→Bool):KasT α→α
  | .ret a=>a
  | .ask i j k=>kev lt (k (lt i j))
def KOk {α:Type} (n:Nat) (P:α→Prop):KasT α→Prop
  | .ret a=>P a
  | .ask i j k=>i < n∧j < n∧i ≠ j∧∀ b,KOk n P (k b)
theorem KOk.bind {α β:Type} {n:Nat} {P:α→Prop} {P':β→Prop} {f:α→KasT β} (hf:∀ a,P a→KOk n P' (f a)):∀ {t:KasT α},KOk n P t→KOk n P' (t.bind f)
  | .ret a,h=>hf a h
  | .ask i j k,h=>⟨h.1,h.2.1,h.2.2.1,fun b=>KOk.bind hf (h.2.2.2 b)⟩
theorem KOk.ev {α:Type} {n:Nat} {P:α→Prop} (lt:Nat→Nat→Bool):∀ (t:KasT α),KOk n P t→P (kev lt t)
  | .ret a,h=>h
  | .ask i j k,h=>KOk.ev lt (k (lt i j)) (h.2.2.2 (lt i j))
theorem kev_wp {α:Type} {n:Nat} {P:α→Prop} {lt:Nat→Nat→Bool} {cmp:Nat→Nat→(Bool→Shared→Prop)→Shared→Prop} {s:Shared} (hc:∀ i j,i < n→j < n→i ≠ j→∀ C:Bool→Shared→Prop,C (lt i j) s→cmp i j C s) {Q:α→Shared→Prop}:∀ {t:KasT α},KOk n P t→Q (kev lt t) s→t.kasWp cmp Q s
  | .ret a,_,q=>q
  | .ask i j k,h,q=>hc i j h.1 h.2.1 h.2.2.1 _ (kev_wp hc (h.2.2.2 (lt i j)) q)
def PermN (n:Nat) (p:Array Nat):Prop:=p.toList.Perm (List.range n)
theorem PermN.size {n:Nat} {p:Array Nat} (h:PermN n p):p.size = n:=by
  have:=h.length_eq
  simpa using this
theorem PermN.two {n:Nat} {p:Array Nat} (h:PermN n p) {a b:Nat} (ha:a < n) (hb:b < n) (hab:a ≠ b):p.getD a 0 < n∧p.getD b 0 < n∧p.getD a 0 ≠ p.getD b 0:=by
  have sz:=h.size
  have e:∀ c (hc:c < n),p.getD c 0 = p.toList[c]'(by simp; lia):=fun c hc=>by
    simp [Array.getD,show c < p.size by lia]
  have nd:p.toList.Nodup:=h.nodup_iff.mpr List.nodup_range
  have m:∀ c (hc:c < n),p.toList[c]'(by simp; lia) < n:=fun c hc=>List.mem_range.mp (h.mem_iff.mp (List.getElem_mem _))
  rw [e a ha,e b hb]
  refine ⟨m a ha,m b hb,fun z=>hab ?_⟩
  exact (List.getElem_inj nd).mp z
theorem PermN.of {n:Nat} {p q:Array Nat} (h:PermN n p) (hq:q.Perm p):PermN n q:=(Array.perm_iff_toList_perm.mp hq).trans h
theorem ok_asc {n:Nat} {p:Array Nat} (hp:PermN n p):∀ (f m:Nat),1 ≤ m→m + f ≤ n→KOk n (fun r=>m ≤ r∧r ≤ m + f) (kas_asc p f m)
  | 0,m,_,_=>⟨Nat.le_refl _,Nat.le_refl _⟩
  | f + 1,m,h1,h2=>by
    obtain ⟨a,b,c⟩:=hp.two (a:=m) (b:=m - 1) (by lia) (by lia) (by lia)
    refine ⟨a,b,c,fun d=>?_⟩
    cases d with
    | true=>exact ⟨Nat.le_refl _,by lia⟩
    | false =>
      show KOk n _ (kas_asc p f (m + 1))
      have k:=ok_asc hp f (m + 1) (by lia) (by lia)
      have:=KOk.bind (f:=fun r=>KasT.ret r) (P':=fun r=>m ≤ r∧r ≤ m + (f + 1)) (fun r hr=>(⟨by lia,by lia⟩:m ≤ r∧r ≤ m + (f + 1))) k
      have e:∀ t:KasT Nat,t.bind (fun r=>KasT.ret r) = t:=fun t=>by
        induction t with
        | ret a=>rfl
        | ask i j k ih =>
          show KasT.ask i j (fun b=>(k b).bind fun r=>.ret r) = _
          congr 1
          funext b
          exact ih b
      rw [e] at this
      exact this
theorem ok_desc {n:Nat}:∀ (f:Nat) (p:Array Nat) (m q:Nat),PermN n p→1 ≤ m→m + f ≤ n→KOk n (fun r=>PermN n r.1∧1 ≤ r.2.1∧r.2.1 ≤ n) (kas_desc f p m q)
  | 0,p,m,q,hp,h1,h2=>⟨hp,h1,h2⟩
  | f + 1,p,m,q,hp,h1,h2=>by
    obtain ⟨a,b,c⟩:=hp.two (a:=m) (b:=m - 1) (by lia) (by lia) (by lia)
    refine ⟨a,b,c,fun d=>?_⟩
    cases d with
    | true =>
      show KOk n _ (if q > 0 then kas_desc f (kas_rev p (m - (q + 1)) m) (m + 1) 0 else kas_desc f p (m + 1) 0)
      split
      · exact ok_desc f _ (m + 1) 0 (hp.of (mirror_perm _ _ _ _)) (by lia) (by lia)
      · exact ok_desc f p (m + 1) 0 hp (by lia) (by lia)
    | false =>
      refine ⟨b,a,c.symm,fun d=>?_⟩
      cases d with
      | true=>exact ⟨hp,h1,(by lia:m ≤ n)⟩
      | false=>exact ok_desc f p (m + 1) (q + 1) hp (by lia) (by lia)
theorem ok_tail3 {n m:Nat} {p:Array Nat} (hp:PermN n p) (h1:1 ≤ m) (h2:m ≤ n):KOk n (fun r=>PermN n r.2∧r.1 ≤ n) (kas_tail3 m n p) :=
by
  unfold kas_tail3
  refine KOk.bind (P:=fun r=>m ≤ r∧r ≤ m + (n - m)) (fun r hr=>?_) (ok_asc (hp.of (mirror_perm _ _ _ _)) (n - m) m h1 (by lia))
  exact ⟨hp.of (mirror_perm _ _ _ _),(by lia:r ≤ n)⟩
theorem ok_descPart {n m:Nat} {p:Array Nat} (hp:PermN n p) (h1:1 ≤ m) (h2:m + 1 ≤ n):KOk n (fun r=>PermN n r.2∧r.1 ≤ n) (kas_descPart m n p):=by
  refine KOk.bind (fun r hr=>?_) (ok_desc (n - (m + 1)) p (m + 1) 0 hp (by lia) (by lia))
  obtain ⟨a,b,c⟩:=hr
  split
  · exact ok_tail3 (a.of (mirror_perm _ _ _ _)) b c
  · exact ok_tail3 a b c
theorem ok_count {n:Nat} {p:Array Nat} (hp:PermN n p) (h1:1 ≤ n):KOk n (fun r=>PermN n r.2∧r.1 ≤ n) (kas_count n p):=by
  refine KOk.bind (fun m hm=>?_) (ok_asc hp (n - 1) 1 (Nat.le_refl _) (by lia))
  split
  · exact ⟨hp,by lia⟩
  · next hne =>
    have hne':m ≠ n:=fun z=>hne (by simpa using z)
    split
    · obtain ⟨a,b,c⟩:=hp.two (a:=0) (b:=m - 1) (by lia) (by lia) (by lia)
      refine ⟨a,b,c,fun d=>?_⟩
      cases d with
      | true=>exact ⟨hp,by lia⟩
      | false=>exact ok_descPart (hp.of (mirror_perm _ _ _ _)) (by lia) (by lia)
    · exact ok_descPart hp (by lia) (by lia)
theorem ok_place {n k:Nat} {p:Array Nat} (hp:PermN n p) (hk:k < n):∀ (f l r:Nat),r ≤ k→l ≤ r→KOk n (fun _=>True) (kas_place p k f l r)
  | 0,l,r,_,_=>trivial
  | f + 1,l,r,h1,h2=>by
    unfold kas_place
    split
    · trivial
    · next hlr =>
      obtain ⟨a,b,c⟩:=hp.two (a:=k) (b:=(l + r) / 2) hk (by lia) (by lia)
      refine ⟨a,b,c,fun d=>?_⟩
      cases d with
      | true=>exact ok_place hp hk f l _ (by lia) (by lia)
      | false=>exact ok_place hp hk f _ r h1 (by lia)
theorem ok_bin {n:Nat}:∀ (f:Nat) (p:Array Nat) (k:Nat),PermN n p→k + f ≤ n→KOk n (PermN n) (kas_bin f p k)
  | 0,p,k,hp,_=>hp
  | f + 1,p,k,hp,h=>KOk.bind (fun l _=>ok_bin f _ (k + 1) (hp.of (bubble_perm _ _ _)) (by lia)) (ok_place hp (by lia) k 0 k (Nat.le_refl _) (Nat.zero_le _))
theorem ok_sort {n:Nat} (h1:1 ≤ n):KOk n (PermN n) (kas_sort n):=by
  refine KOk.bind (fun r hr=>?_) (ok_count (p:=List.toArray (List.range n)) (by unfold PermN; simp) h1)
  obtain ⟨a,b⟩:=hr
  split
  · exact ok_bin _ _ _ a (by lia)
  · exact a
def ltS (ss:List Str) (i j:Nat):Bool:=decide ((ss.getD i Str.empty).cps.toList < (ss.getD j Str.empty).cps.toList)
def ordS (ss:List Str):List Nat:=if ss.length < 2 then List.range ss.length else (kev (ltS ss) (kas_sort ss.length)).toList
theorem ordS_perm (ss:List Str):(ordS ss).Perm (List.range ss.length):=by
  unfold ordS
  split
  · exact List.Perm.refl _
  · exact KOk.ev (ltS ss) _ (ok_sort (n:=ss.length) (by lia))
end L2
namespace L2
open PySem PySem.Spec PyProof.Rows PySem.W
theorem range_getD (vs:List Value):((List.range vs.length).map fun i=>vs.getD i Value.none) = vs:=by
  apply List.ext_getElem?
  intro i
  by_cases hi:i < vs.length
  · rw [List.getElem?_map]
    simp [hi]
  · rw [List.getElem?_eq_none (by simpa using hi),List.getElem?_eq_none (by lia)]
section
variable {prog:Program} {w:World} {A:Around} {E:Value→Shared→Prop} {s:Shared}
theorem collect_tupl {l:Addr} {vs:List Value} {Q:List Value→Shared→Prop} (hl:s.heap.IsTuple l vs.toArray)
    (h:Q vs { s with heap:=(s.heap.push (seqObj "list" #[] 0)).update s.heap.objs.size (Obj.mapSeq (· ++ vs.toArray)) }) (hsz:vs.length ≤ sizeLine:=by size_fits) :
    wpAny (model prog w) A (collect (.ref l)) Q E s:=by
  obtain ⟨ob,hob,cob,m,dob⟩:=id hl
  have hob2:=Heap.get?_push_of_some (seqObj "list" #[] 0) hob
  have en:(s.heap.push (seqObj "list" #[] 0)).get? s.heap.objs.size = some (seqObj "list" #[] 0):=Heap.get?_push_size _ rfl
  have el:((#[]:Array Value) ++ vs.toArray).toList = vs:=by simp
  unfold collect
  refine wpAny_bind (wpAny_runValue (codeAny_builtin entry_proto_collect' (wpAny_bind (wpAny_newList (wpAny_pure ⟨Code.quiet_builtin _ (by decide +kernel),codeAny_builtin entry_list_iadd' ?go⟩)))))
  case go =>
    show wpAny _ _ (Builtin.List.listExtendWith (.ref s.heap.objs.size) (.ref l) (.ref s.heap.objs.size)) _ _ { s with heap:=s.heap.push (seqObj "list" #[] 0) }
    unfold Builtin.List.listExtendWith
    refine wpAny_bind (wpAny_typeOf (T:="tuple") ⟨ob,hob2,cob⟩ ?_)
    have tt:(Value.type "tuple" == Value.type "tuple") = true:=rfl
    rw [if_pos (by rw [tt,Bool.or_true])]
    refine wpAny_bind (listItems_at hob2 dob (wpAny_bind (listItems_at en rfl ?_)))
    rw [if_neg (by simp)]
    refine wpAny_bind (listUpdate_at en rfl (wpAny_pure ?_) (Nat.zero_le _) (by simp only [Array.size_append,List.size_toArray,List.length_nil,Array.size_empty]; lia))
    refine wpAny_bind (wpAny_load (get?_update_seq en _) ?_)
    show wpAny _ _ (pure ((#[]:Array Value) ++ vs.toArray).toList) Q E _
    rw [el]
    exact wpAny_pure h
theorem list_sort_tupsP {a:Addr} {vs fs:List Value} {ss:List Str} {n:Nat} {P:PySem.Fin→Shared→Prop} (ho:s.heap.get? a = some (seqObj "list" vs.toArray n)) (t:KatTups s.heap vs fs) (hS:StrsAre fs ss)
    (ne:∀ (i j:Nat) x y,ss[i]? = some x→ss[j]? = some y→i ≠ j→x ≠ y) (h64:vs.length < 64)
    (h:P (.done (.ret .none)) { s with heap:=sortedHeap s.heap a vs ((ordS ss).map fun i=>vs.getD i Value.none).toArray }) :
    wpAny (model prog w) A (Builtin.«list.sort» ⟨[.ref a],[]⟩) P E s:=by
  rw [list_sort_plain]
  have ha:a < s.heap.objs.size:=Heap.lt_size ho
  have lss':vs.length = ss.length:=by rw [← strs_len hS,KatTups_len t]
  refine wpAny_bind (listItems_at ho rfl ?_)
  refine wpAny_bind (listUpdate_at ho rfl ?_ (by rw [List.size_toArray,sizeLine_eq]; lia) (Nat.zero_le _))
  obtain ⟨e1,ho1⟩:∃ e1,(s.heap.update a (Obj.mapSeq fun _=>#[])).get? a = some (seqObj "list" #[] e1):=⟨_,get?_update_seq ho (fun _=>#[])⟩
  refine wpAny_bind (seqEpoch_at ho1 rfl ?_)
  refine wpAny_bind (wpAny_newTuple ?_ (by show vs.length ≤ _; rw [sizeLine_eq]; lia))
  refine wpAny_bind (wpAny_newList ?_ (Nat.zero_le _))
  refine wpAny_holding ?_
  have ho6:(((s.heap.update a (Obj.mapSeq fun _=>#[])).push (seqObj "tuple" vs.toArray 0)).push (seqObj "list" #[] 0)).get? a = some (seqObj "list" #[] e1):=by
    rw [Heap.get?_push_ne _ _ _ (by rw [size_push',Heap.size_update]; exact Nat.ne_of_lt (Nat.lt_succ_of_lt ha)),Heap.get?_push_ne _ _ _ (by rw [Heap.size_update]; exact Nat.ne_of_lt ha)]
    exact ho1
  have t6:KatTups (((s.heap.update a (Obj.mapSeq fun _=>#[])).push (seqObj "tuple" vs.toArray 0)).push (seqObj "list" #[] 0)) vs fs:=KatTups_keep (fun b o e hc=>by
    have nb:b ≠ a:=fun z=>by
      subst z
      rw [ho] at e
      cases e
      exact absurd hc (by show ¬ Value.type "list" = Value.type "tuple"; decide)
    exact Heap.get?_push_of_some _ (Heap.get?_push_of_some _ ((Heap.get?_update_other _ _ (Ne.symm nb)).trans e))) t
  show wpAny (model prog w) A _ P E { s with heap:=((s.heap.update a (Obj.mapSeq fun _=>#[])).push (seqObj "tuple" vs.toArray 0)).push (seqObj "list" #[] 0) }
  dsimp only
  by_cases h2:vs.toArray.size < 2
  · rw [if_pos h2,if_pos h2]
    refine wpAny_bind (wpAny_pure ?_)
    rw [StateT.run_pure]
    refine wpAny_bind (wpAny_pure ?_)
    dsimp only
    refine wpAny_bind (seqEpoch_at ho6 rfl ?_)
    have es:(arrOf (SortSt.mk' general' (vs.toArray.zip vs.toArray) #[] 7 none)).map (·.2) = vs.toArray:=by
      show (vs.toArray.zip vs.toArray).map (·.2) = vs.toArray
      apply Array.toList_inj.mp
      simp [List.map_snd_zip]
    rw [es]
    refine wpAny_bind (listUpdate_at ho6 rfl ?_ (Nat.zero_le _) (by rw [List.size_toArray,sizeLine_eq]; lia))
    simp only [bne_self_eq_false,Bool.false_eq_true,if_false]
    have eo:((ordS ss).map fun i=>vs.getD i Value.none) = vs:=by
      unfold ordS
      rw [List.size_toArray] at h2
      rw [← lss',if_pos h2]
      exact range_getD vs
    rw [eo] at h
    exact wpAny_pure h
  · rw [if_neg h2,if_neg h2]
    have h2':2 ≤ vs.length:=by rw [List.size_toArray] at h2; lia
    have lf:=KatTups_len t
    refine wpAny_bind (kat_kind (T:=.type "str") t6 (by lia) (fun v hv=>?_) rfl ?_)
    · obtain ⟨x,tk,rfl⟩:=hS.all v hv
      exact .now
    refine wpAny_bind (wpAny_mono (kat_run (ks:=vs) (vs:=vs) (Q:=fun st' s'=>arrOf st' = (kev (ltS ss) (kas_sort vs.length)).map (kas_item (vs.toArray.zip vs.toArray))∧failedOf st' = none∧s' = { s with heap:=((s.heap.update a (Obj.mapSeq fun _=>#[])).push (seqObj "tuple" vs.toArray 0)).push (seqObj "list" #[] 0) }) (G:=fun p s'=>p = kev (ltS ss) (kas_sort vs.length)∧s' = { s with heap:=((s.heap.update a (Obj.mapSeq fun _=>#[])).push (seqObj "tuple" vs.toArray 0)).push (seqObj "list" #[] 0) })
      rfl h2' h64 (fun p' st' s' a1 a2 a3 a4=>⟨by rw [a2,a4.1],a3,a4.2⟩) (kev_wp (lt:=ltS ss) (fun j i jn in' nij C c=>?_) (ok_sort (by lia)) ⟨rfl,rfl⟩)) ?_ fun _ _ e=>e)
    · obtain ⟨x,hx⟩:∃ x,ss[i]? = some x:=⟨_,List.getElem?_eq_getElem (by lia)⟩
      obtain ⟨y,hy⟩:∃ y,ss[j]? = some y:=⟨_,List.getElem?_eq_getElem (by lia)⟩
      have nxy:y ≠ x:=ne j i y x hy hx nij
      obtain ⟨b,o,xs,k,tk,e1',o1,d1,f1⟩:=KatTups_at hS t6 hy
      obtain ⟨b',o',xs',k',tk',e2',o2,d2,f2⟩:=KatTups_at hS t6 hx
      unfold kas_ask
      rw [e1',e2']
      refine kat_lt o1 d1 o2 d2 ?_
      obtain ⟨r1,er1⟩:∃ r1,xs.toList = .str y tk :: r1:=by
        have:xs.toList[0]? = some (.str y tk):=by simpa using f1
        cases hh:xs.toList with
        | nil=>rw [hh] at this; cases this
        | cons p r=>rw [hh] at this; cases this; exact ⟨r,rfl⟩
      obtain ⟨r2,er2⟩:∃ r2,xs'.toList = .str x tk' :: r2:=by
        have:xs'.toList[0]? = some (.str x tk'):=by simpa using f2
        cases hh:xs'.toList with
        | nil=>rw [hh] at this; cases this
        | cons p r=>rw [hh] at this; cases this; exact ⟨r,rfl⟩
      rw [er1,er2,List.zip_cons_cons]
      refine kat_cons (wpAny_eqBool_str ?_)
      rw [decide_eq_false nxy]
      refine kat_no ?_
      show wpAny _ _ (oneLt' true (.str y tk) (.str x tk')) _ _ _
      refine oneLt_str ?_
      have el:ltS ss j i = decide (y.cps.toList < x.cps.toList):=by
        unfold ltS
        rw [List.getD_eq_getElem?_getD,List.getD_eq_getElem?_getD,hx,hy]
        rfl
      rw [el] at c
      exact c
    · rintro ⟨⟨⟩,st'⟩ s' ⟨har,hf,rfl⟩
      dsimp only
      have hout:=kat_snds (ks:=vs) (vs:=vs) rfl har
      have ev:ordS ss = (kev (ltS ss) (kas_sort vs.length)).toList:=by
        unfold ordS
        rw [← lss',if_neg (by lia)]
      rw [← ev] at hout
      rw [hout]
      refine wpAny_bind (seqEpoch_at ho6 rfl ?_)
      refine wpAny_bind (listUpdate_at ho6 rfl ?_ (Nat.zero_le _) (by rw [List.size_toArray,List.length_map,(ordS_perm ss).length_eq,List.length_range,sizeLine_eq]; lia))
      rw [hf]
      simp only [bne_self_eq_false,Bool.false_eq_true,if_false]
      exact wpAny_pure h
theorem sorted_tupsP {l:Addr} {vs fs:List Value} {ss:List Str} {Q:Value→Shared→Prop} (hl:s.heap.IsList l vs.toArray) (t:KatTups s.heap vs fs) (hS:StrsAre fs ss)
    (ne:∀ (i j:Nat) x y,ss[i]? = some x→ss[j]? = some y→i ≠ j→x ≠ y) (h64:vs.length < 64)
    (h:Q (.ref (s.heap.objs.size + 1)) { s with heap:=sortedAll s.heap vs ((ordS ss).map fun i=>vs.getD i Value.none).toArray }) :
    wpAny (model prog w) A (call (.builtin "sorted") [.ref l]) Q E s:=by
  refine Calls.call_function_entry kind_sorted plain_sorted entry_sorted (args_sorted1 _) ?_
  unfold Builtin.«sorted»
  refine wpAny_bind (m:=checkCount "sorted" 1 1 _) (wpAny_pure ?_)
  refine wpAny_bind (collect_list hl ?_ (by rw [sizeLine_eq]; lia))
  refine wpAny_bind (wpAny_newList ?_ (by rw [sizeLine_eq]; lia))
  have hsz:((s.heap.push (seqObj "list" #[] 0)).update s.heap.objs.size (Obj.mapSeq (· ++ vs.toArray))).objs.size = s.heap.objs.size + 1:=by
    rw [Heap.size_update,size_push']
  have hoL:(((s.heap.push (seqObj "list" #[] 0)).update s.heap.objs.size (Obj.mapSeq (· ++ vs.toArray))).push (seqObj "list" vs.toArray 0)).get? (s.heap.objs.size + 1) = some (seqObj "list" vs.toArray 0):=by
    rw [← hsz]; exact Heap.get?_push_size _ rfl
  have keep:∀ b o,s.heap.get? b = some o→(((s.heap.push (seqObj "list" #[] 0)).update s.heap.objs.size (Obj.mapSeq (· ++ vs.toArray))).push (seqObj "list" vs.toArray 0)).get? b = some o:=fun b o q=>by
    have hlt:b < s.heap.objs.size:=Heap.lt_size q
    rw [Heap.get?_push_ne _ _ _ (by rw [hsz]; exact Nat.ne_of_lt (Nat.lt_succ_of_lt hlt)),Heap.get?_update_ne _ _ _ _ (Nat.ne_of_lt hlt),Heap.get?_push_ne _ _ _ (Nat.ne_of_lt hlt)]
    exact q
  show wpAny _ _ _ _ _ { s with heap:=((s.heap.push (seqObj "list" #[] 0)).update s.heap.objs.size (Obj.mapSeq (· ++ vs.toArray))).push (seqObj "list" vs.toArray 0) }
  rw [hsz]
  refine wpAny_bind (wpAny_holding (wpAny_call_entry slot_list_sort ⟨_,hoL,rfl⟩ entry_list_sort (list_sort_tupsP (s:={ s with heap:=((s.heap.push (seqObj "list" #[] 0)).update s.heap.objs.size (Obj.mapSeq (· ++ vs.toArray))).push (seqObj "list" vs.toArray 0) }) hoL (KatTups_keep (fun b o q _=>keep b o q) t) hS ne h64 ⟨_,rfl,?_⟩) (args_list_sort _)))
  exact wpAny_pure ⟨_,rfl,h⟩
theorem sorted_tupsPT {l:Addr} {vs fs:List Value} {ss:List Str} {Q:Value→Shared→Prop} (hl:s.heap.IsTuple l vs.toArray) (t:KatTups s.heap vs fs) (hS:StrsAre fs ss)
    (ne:∀ (i j:Nat) x y,ss[i]? = some x→ss[j]? = some y→i ≠ j→x ≠ y) (h64:vs.length < 64)
    (h:Q (.ref (s.heap.objs.size + 1)) { s with heap:=sortedAll s.heap vs ((ordS ss).map fun i=>vs.getD i Value.none).toArray }) :
    wpAny (model prog w) A (call (.builtin "sorted") [.ref l]) Q E s:=by
  refine Calls.call_function_entry kind_sorted plain_sorted entry_sorted (args_sorted1 _) ?_
  unfold Builtin.«sorted»
  refine wpAny_bind (m:=checkCount "sorted" 1 1 _) (wpAny_pure ?_)
  refine wpAny_bind (collect_tupl hl ?_ (by rw [sizeLine_eq]; lia))
  refine wpAny_bind (wpAny_newList ?_ (by rw [sizeLine_eq]; lia))
  have hsz:((s.heap.push (seqObj "list" #[] 0)).update s.heap.objs.size (Obj.mapSeq (· ++ vs.toArray))).objs.size = s.heap.objs.size + 1:=by
    rw [Heap.size_update,size_push']
  have hoL:(((s.heap.push (seqObj "list" #[] 0)).update s.heap.objs.size (Obj.mapSeq (· ++ vs.toArray))).push (seqObj "list" vs.toArray 0)).get? (s.heap.objs.size + 1) = some (seqObj "list" vs.toArray 0):=by
    rw [← hsz]; exact Heap.get?_push_size _ rfl
  have keep:∀ b o,s.heap.get? b = some o→(((s.heap.push (seqObj "list" #[] 0)).update s.heap.objs.size (Obj.mapSeq (· ++ vs.toArray))).push (seqObj "list" vs.toArray 0)).get? b = some o:=fun b o q=>by
    have hlt:b < s.heap.objs.size:=Heap.lt_size q
    rw [Heap.get?_push_ne _ _ _ (by rw [hsz]; exact Nat.ne_of_lt (Nat.lt_succ_of_lt hlt)),Heap.get?_update_ne _ _ _ _ (Nat.ne_of_lt hlt),Heap.get?_push_ne _ _ _ (Nat.ne_of_lt hlt)]
    exact q
  show wpAny _ _ _ _ _ { s with heap:=((s.heap.push (seqObj "list" #[] 0)).update s.heap.objs.size (Obj.mapSeq (· ++ vs.toArray))).push (seqObj "list" vs.toArray 0) }
  rw [hsz]
  refine wpAny_bind (wpAny_holding (wpAny_call_entry slot_list_sort ⟨_,hoL,rfl⟩ entry_list_sort (list_sort_tupsP (s:={ s with heap:=((s.heap.push (seqObj "list" #[] 0)).update s.heap.objs.size (Obj.mapSeq (· ++ vs.toArray))).push (seqObj "list" vs.toArray 0) }) hoL (KatTups_keep (fun b o q _=>keep b o q) t) hS ne h64 ⟨_,rfl,?_⟩) (args_list_sort _)))
  exact wpAny_pure ⟨_,rfl,h⟩
end
def ordV (ss:List Str) (vs:List V):List V:=(ordS ss).map fun i=>vs.getD i V.non
theorem ord_vals {ss:List Str} {vs:List V} {its:List Value} (r:Vals vs its):∀ l:List Nat,Vals (l.map fun i=>vs.getD i V.non) (l.map fun i=>its.getD i Value.none)
  | []=>.nil
  | i :: l=>by
    refine .cons ?_ (ord_vals (ss:=ss) r l)
    dsimp only
    rw [List.getD_eq_getElem?_getD,List.getD_eq_getElem?_getD]
    cases e:vs[i]? with
    | none =>
      have:its[i]? = none:=List.getElem?_eq_none (by rw [← r.length]; exact List.getElem?_eq_none_iff.mp e)
      rw [this]
      rfl
    | some v =>
      obtain ⟨u,eu,ru⟩:=r.get e
      rw [eu]
      exact ru
section
variable {X:Cx}
def rSortP (K:PySem.W.Frag) (tu:Bool) (xs:List V) (H:Hp) (Q:VK):Prop:=∃ (a:Addr) (vs:List V) (ss:List Str),xs = [V.ref a]∧Sq K tu H a vs∧vs.length < 64∧vs.length = ss.length∧(∀ (i:Nat) v z,vs[i]? = some v→ss[i]? = some z→∃ b ws,v = .ref b∧H b = some (.tup (.str z :: ws))) ∧
    ss.Nodup∧∀ l,H l = none→Q (.ref l) (upd H l (.lst (ordV ss vs)))
theorem nodup_ne {ss:List Str} (h:ss.Nodup) (i j:Nat) (x y:Str) (hi:ss[i]? = some x) (hj:ss[j]? = some y) (n:i ≠ j):x ≠ y:=fun e=>by
  subst e
  obtain ⟨a,ea⟩:=List.getElem?_eq_some_iff.mp hi
  obtain ⟨b,eb⟩:=List.getElem?_eq_some_iff.mp hj
  exact n ((List.getElem_inj h).mp (ea.trans eb.symm))
theorem call_sortedP {tu:Bool}:CallR X (.builtin "sorted") (rSortP X.K tu):=by
  intro pins s σ H xs us Q I r h
  obtain ⟨a,vs,ss,rfl,ha,h64,hl,ht,nd,q⟩:=h
  obtain ⟨u,rfl,ru⟩:=vals1 r
  cases ru
  have lo:(ordV ss vs).length = vs.length:=by
    unfold ordV
    rw [List.length_map,(ordS_perm ss).length_eq,List.length_range,hl]
  have fin:∀ its:List Value,Vals vs its→EP X pins σ Q (.ref (s.heap.objs.size + 1)) { s with heap:=sortedAll s.heap its ((ordS ss).map fun i=>its.getD i Value.none).toArray }:=fun its rv=>by
    obtain ⟨e,he⟩:=sortedAll_at s.heap its ((ordS ss).map fun i=>its.getD i Value.none).toArray
    refine ⟨.ref (s.heap.objs.size + 1),_,I.laid (a:=s.heap.objs.size + 1) (o:=.lst (ordV ss vs)) (t':=s.toks) (fun b o z=>sortedAll_old z) (Nat.le_succ _) ?_,rfl,q _ (I.hok.fresh (Nat.le_succ _))⟩
    exact ⟨by rw [lo,sizeLine_eq]; lia,_,e,ord_vals (ss:=ss) rv (ordS ss),he⟩
  cases tu with
  | false =>
    obtain ⟨its,rv,pl,hz⟩:=I.list ha
    have li:its.length = vs.length:=rv.length.symm
    obtain ⟨fs,t,hS⟩:=tups_of (P:=X.prog) (w:=X.w) I rv hl ht
    exact sorted_tupsP pl.isList t hS (nodup_ne nd) (by lia) (fin its rv)
  | true =>
    obtain ⟨its,rv,pl,hz⟩:=I.tuple ha
    have li:its.length = vs.length:=rv.length.symm
    obtain ⟨fs,t,hS⟩:=tups_of (P:=X.prog) (w:=X.w) I rv hl ht
    exact sorted_tupsPT pl t hS (nodup_ne nd) (by lia) (fin its rv)
end
end L2
namespace L2
open PySem PySem.Spec PyProof.Rows PySem.W
section
variable {X:Cx}
theorem call_sortedS:CallR X (.builtin "sorted") (fun xs H Q=>∃ (p:Addr) (ss:List Str),xs = [V.ref p]∧SqL X.K H p (ss.map V.str)∧ss.length < 64∧∀ (l:Addr) (zs:List Str),zs.Perm ss→H l = none→Q (.ref l) (upd H l (.lst (zs.map V.str)))):=by
  intro pins s σ H xs us Q I r h
  obtain ⟨p,ss,rfl,hS,h64,q⟩:=h
  obtain ⟨u,rfl,ru⟩:=vals1 r
  cases ru
  obtain ⟨its,rv,pl,_⟩:=I.list hS
  have hl:its.length = ss.length:=by
    have:=rv.length
    rw [List.length_map] at this
    exact this.symm
  refine sorted_strs pl.isList (strsAre_of (by simpa using rv)) (by rw [hl]; exact h64) fun out zs a1 a2 _=>?_
  obtain ⟨e,he⟩:=sortedAll_at s.heap its out
  refine ⟨.ref (s.heap.objs.size + 1),_,I.laid (a:=s.heap.objs.size + 1) (o:=.lst (zs.map V.str)) (t':=s.toks) (fun _ _ z=>sortedAll_old z) (Nat.le_succ _) ?_,rfl,q _ zs a2 (I.hok.fresh (Nat.le_succ _))⟩
  refine ⟨?_,out.toList,e,of_strs a1,?_⟩
  · rw [List.length_map,a2.length_eq]
    exact Nat.le_of_lt (small (by lia))
  · rw [he]
end
theorem rise_uniq:∀ {xs ys:List Int},xs.Pairwise (· < ·)→ys.Pairwise (· < ·)→(∀ k,k ∈ xs↔k ∈ ys)→xs = ys
  | [],[],_,_,_=>rfl
  | [],y :: ys,_,_,h=>absurd ((h y).mpr (List.mem_cons_self ..)) (by simp)
  | x :: xs,[],_,_,h=>absurd ((h x).mp (List.mem_cons_self ..)) (by simp)
  | x :: xs,y :: ys,hx,hy,h=>by
    rw [List.pairwise_cons] at hx hy
    have e:x = y:=by
      have h1:=(h x).mp (List.mem_cons_self ..)
      have h2:=(h y).mpr (List.mem_cons_self ..)
      rcases List.mem_cons.mp h1 with e | m1
      · exact e
      · rcases List.mem_cons.mp h2 with e | m2
        · exact e.symm
        · have:=hy.1 x m1
          have:=hx.1 y m2
          lia
    subst e
    congr 1
    refine rise_uniq hx.2 hy.2 fun k=>⟨fun m=>?_,fun m=>?_⟩
    · have lt:=hx.1 k m
      rcases List.mem_cons.mp ((h k).mp (List.mem_cons_of_mem _ m)) with e | m'
      · lia
      · exact m'
    · have lt:=hy.1 k m
      rcases List.mem_cons.mp ((h k).mpr (List.mem_cons_of_mem _ m)) with e | m'
      · lia
      · exact m'
def g3 (K:PySem.W.Frag):TG:=gTup K 3 (gCons (gName 0) (gCons (gName 1) (gCons (gName 2) gNil)))
theorem comp3 {K:PySem.W.Frag} {tu:Bool} {a p:Addr} {tt:TT} {te:TE} {cs:St} {Q:VK} {H1:Hp} {xs:List V} (Pv:Nat→List V→Hp→Prop) (h0:Pv 0 [] (upd H1 p (.lst [])))
    (hl:∀ i ys H,i ≤ xs.length→Pv i ys H→Sq K tu H a xs)
    (hs:∀ i x ys H,xs[i]? = some x→Pv i ys H→∃ q c1 c2 c3,x = .ref q∧SqT K H q [c1,c2,c3]∧tt (some c1 :: some c2 :: some c3 :: cs) H fun b H4=>if b = true then te (some c1 :: some c2 :: some c3 :: cs) H4 fun y H5=>H5 p = some (.lst ys)∧ys.length < sizeLine∧Pv (i + 1) (ys ++ [y]) (upd H5 p (.lst (ys ++ [y]))) else Pv (i + 1) ys H4)
    (hd:∀ ys H,Pv xs.length ys H→Q (.ref p) H):CompWT (fun _=>True) (g3 K) 3 (ItS K tu a) p tt te cs Q H1:=by
  refine compT_seq Pv h0 hl (fun i x ys H hx pv vs0 hv=>?_) hd
  obtain ⟨q,c1,c2,c3,rfl,hq,ht⟩:=hs i x ys H hx pv
  match vs0,hv with
  | [w1,w2,w3],_=>exact ⟨q,_,rfl,hq,rfl,c1,_,rfl,c2,_,rfl,c3,_,rfl,rfl,⟨[some c1,some c2,some c3],rfl,rfl⟩,ht⟩
theorem eqv_flat {K:PySem.W.Frag} {H:Hp} {x y:V} (n:Nat) (h1:flatV x = true) (h2:flatV y = true) (h3:eqV x y = true):Eqv K H n x y:=by
  cases n with
  | zero =>
    unfold Eqv
    exact .inl ⟨h1,h2,h3⟩
  | succ n =>
    unfold Eqv
    exact .inl ⟨h1,h2,h3⟩
theorem eqv_tup {K:PySem.W.Frag} {H:Hp} {a b:Addr} {xs ys:List V} {n:Nat} (ha:H a = some (.tup xs)) (hb:H b = some (.tup ys)) (hl:xs.length = ys.length) (h:∀ (i:Nat) u v,xs[i]? = some u→ys[i]? = some v→Eqv K H n u v):EqvS K H n (.ref a) (.ref b):=by
  unfold EqvS
  exact ⟨a,b,xs,ys,rfl,rfl,.inl ⟨SqT.of ha,SqT.of hb⟩,hl,h⟩
theorem eqv_deep {K:PySem.W.Frag} {H:Hp} {x y:V} {n:Nat} (h:EqvS K H n x y):Eqv K H (n + 1) x y:=by
  unfold Eqv
  exact .inr (.inr h)
mutual
theorem At.eqv {K:PySem.W.Frag} {H:Hp}:∀ {t:Tr} {x y:V} {n:Nat},nl t = true→dep t ≤ n→At H t x→At H t y→Eqv K H n x y
  | .int n,x,y,m,_,_,hx,hy=>by
    unfold At at hx hy
    subst hx hy
    exact eqv_flat m rfl rfl (by show (n == n) = true; simp)
  | .str n,x,y,m,_,_,hx,hy=>by
    unfold At at hx hy
    subst hx hy
    exact eqv_flat m rfl rfl (by show (n == n) = true; simp)
  | .bl n,x,y,m,_,_,hx,hy=>by
    unfold At at hx hy
    subst hx hy
    exact eqv_flat m rfl rfl (by cases n <;> rfl)
  | .non,x,y,m,_,_,hx,hy=>by
    unfold At at hx hy
    subst hx hy
    exact eqv_flat m rfl rfl rfl
  | .dct,x,y,m,h,_,_,_=>by
    unfold nl at h
    cases h
  | .lst l,x,y,m,h,_,_,_=>by
    unfold nl at h
    cases h
  | .tup l,x,y,m,h,hd,hx,hy=>by
    unfold dep at hd
    obtain ⟨k,rfl⟩:∃ k,m = k + 1:=⟨m - 1,by lia⟩
    unfold nl at h
    obtain ⟨a,vs,rfl,ea,ka⟩:=hx.tup
    obtain ⟨b,ws,rfl,eb,kb⟩:=hy.tup
    exact eqv_deep (eqv_tup ea eb (by rw [ka.len,kb.len]) (Ats.eqv h (by lia) ka kb))
theorem Ats.eqv {K:PySem.W.Frag} {H:Hp}:∀ {l:List Tr} {vs ws:List V} {n:Nat},nls l = true→deps l ≤ n→Ats H l vs→Ats H l ws→∀ (i:Nat) u v,vs[i]? = some u→ws[i]? = some v→Eqv K H n u v
  | [],vs,ws,n,_,_,ha,hb,i,u,v,hu,hv=>by
    unfold Ats at ha
    subst ha
    cases hu
  | t :: ts,vs,ws,n,h,hd,ha,hb,i,u,v,hu,hv=>by
    unfold nls at h
    rw [Bool.and_eq_true] at h
    unfold deps at hd
    unfold Ats at ha hb
    obtain ⟨v0,vs,rfl,h1,k1⟩:=ha
    obtain ⟨w0,ws,rfl,h2,k2⟩:=hb
    cases i with
    | zero =>
      cases hu
      cases hv
      exact At.eqv h.1 (by lia) h1 h2
    | succ i=>exact Ats.eqv h.2 (by lia) k1 k2 i u v hu hv
end
theorem At.eqvS {K:PySem.W.Frag} {H:Hp} {l:List Tr} {x y:V} {n:Nat} (h:nls l = true) (hd:deps l ≤ n) (hx:At H (.tup l) x) (hy:At H (.tup l) y):EqvS K H n x y:=by
  obtain ⟨a,vs,rfl,ea,ka⟩:=hx.tup
  obtain ⟨b,ws,rfl,eb,kb⟩:=hy.tup
  exact eqv_tup ea eb (by rw [ka.len,kb.len]) (Ats.eqv h hd ka kb)
section
variable {X:Cx}
theorem call_isinstO:CallR X (.builtin "isinstance") (fun vs H Q=>∃ x C t b,vs = [x,.ref C]∧TyOf X.K H x t∧PySem.W.kitOne X.K t (.ref C) = some b∧Q (.bl b) H):=by
  intro pins s σ H xs us Q I r h
  obtain ⟨x,C,t,b,rfl,ty,e,q⟩:=h
  obtain ⟨u,v,rfl,rx,rv⟩:=r.two
  cases (show v = Value.ref C from rv)
  exact isinst_ok I rx ty e fun tk=>⟨.bl b,H,I.tok _,rfl,q⟩
end
end L2
namespace L2
open PySem PySem.Spec PyProof.Rows
theorem ps_setCR {X:Cx} {elt iter:Expr} {ifs:List Expr} {tg:Expr} {y:Str} {g:TG} {pos pos' pos2:Pos} {sc:Scope} {wi:TI} {tt:TT} {te:TE} {i:Nat} (hN:X.N.Nodup) (hiN:X.N[i]? = some y) (hy:X.env.scope.names.lookup y = some .local) (xs:List Str) (caps:List Nat) (capsN:List Str)
    (hi:PI X tg iter wi)
    (hg:∀ cl C s H ex pn,PG (cxComp X (xs ++ capsN) sc cl C s H ex pn) tg g)
    (ht:∀ cl C s H ex pn,PTs (cxComp X (xs ++ capsN) sc cl C s H ex pn) ifs tt)
    (he:∀ cl C s H ex pn,PE (cxComp X (xs ++ capsN) sc cl C s H ex pn) elt te)
    (hkind:sc.kind = .function) (hcell:∀ y ∈ sc.names,y.2 ≠ .cell) (hnames:∀ y ∈ sc.names,y.2 = .local→sc.names.lookup y.1 = some .local)
    (hfr:∀ y ∈ sc.names,y.2 = .free→y.1 ∈ capsN)
    (hcap:∀ (j:Nat) (y:Str),capsN[j]? = some y→∃ i:Nat,caps[j]? = some i∧X.N[i]? = some y∧sc.names.lookup y = some .free∧(X.env.kindOf y = some .cell∨X.env.kindOf y = some .free)) (hlen:caps.length = capsN.length) (hc:X.calm = true)
    (hsw:swapsWith (.ListComp elt [⟨tg,iter,ifs,0⟩] sc pos) (some (.Name y pos')) pos2.line X.env = pure true:=by rfl)
    (hs:∀ x,foldedSetIterable iter X.env x = pure x:=by intro _; rfl) :
    PS X (.Assign [.Name y pos'] (.ListComp elt [⟨tg,iter,ifs,0⟩] sc pos) pos2) (tAsg (tCompR g xs.length wi tt te caps) (gName i)):=by
  intro pins s σ H D I h
  rw [exec_Assign_Name_used _ _ _ _ hsw,arm_evalThenUse_ListComp]
  refine wpAny_bind (wpAny_standAt (wpAny_bind (wpAny_bind (comp_goT (Gs:=fun _=>True) (hb:=false) (CW:=fun J p cs Q H1=>CompWT (fun _=>True) g xs.length J p tt te cs Q H1) (use:=some (assign (.Name y pos') X.env)) caps capsN hi hg ht he hkind hcell hnames hfr hcap hlen (.inl hc) (fun _ _ _ _ _ h=>h) hs I h fun C p H5 s5 ⟨m,hn⟩ I5 f q=>?_))))
  refine wpAny_assign_Name (store_ok2 I5 hN hiN (.inl hy) (show RelV (.ref p) (.ref p) from rfl) (fun s6 I6 ⟨a,sb,ha⟩=>?_) (.inr hy))
  have nC:C ≠ a:=by
    rcases ha with ha | ha
    · rw [ha]; exact f.2.1
    · exact fun z=>f.2.2.2.2.1 y a ha z.symm
  obtain ⟨o,es,ep,ho,r⟩:=hn
  refine ⟨m,⟨o,es,ep,(sb.2 C nC).trans ho,r⟩,fun h' sb'=>?_⟩
  have I7:=I6.turned (t':=s6.toks) (h':=h') (fun b o hb e=>(sb'.2 b hb).trans e) f.1 f.2.1 f.2.2.2.1 f.2.2.2.2.1 f.2.2.2.2.2
  exact wpAny_pure (wpAny_pure ⟨_,H5,I7,q⟩)
end L2
set_option maxHeartbeats 1000000
namespace L2
open PySem PySem.Spec PyProof.Rows
section
variable {X:Cx} {tg:Expr}
end
end L2
namespace L2
open PySem PySem.Spec PyProof.Rows
def Ite (K:PySem.W.Frag) (a:Addr):It :=
  ⟨fun i H=>∃ xs x,SqL K H a xs∧xs[i]? = some x,fun i H v H'=>∃ t x,v = .ref t∧H t = none∧H' = upd H t (.tup [.int i,x])∧∀ xs,SqL K H a xs→xs[i]? = some x,fun i H=>∃ xs,SqL K H a xs∧xs.length ≤ i⟩
theorem turn_enum {P:Program} {w:World} {K:PySem.W.Frag} {elts:List Expr} {x1} {tp:Pos} {e it a:Addr} (n:e ≠ it) :
    Turn P w K (.Tuple elts x1 tp) (Ite K a) [e,it] e (fun i h=>(∃ old,IsEnum h e it i old)∧h.IsListIter it a i) where
  mem:=by simp
  obj:=fun i h Z c hc=>by
    obtain ⟨⟨old,he⟩,⟨o1,e1,_,d1⟩⟩:=Z
    simp only [List.mem_cons,List.not_mem_nil,or_false] at hc
    rcases hc with rfl | rfl
    · exact ⟨_,he,fun v q=>by cases q⟩
    · exact ⟨_,e1,fun v q=>by rw [d1] at q; cases q⟩
  keep:=fun i h h' Z k=>by
    obtain ⟨⟨old,he⟩,j⟩:=Z
    exact ⟨⟨old,k e (by simp) _ he⟩,j.at fun o z=>k it (by simp) o z⟩
  item:=by
    intro X hP hw hK s hc i pins σ H E I hf Z hg
    subst hP hw hK
    obtain ⟨xs,x,qa,gx⟩:=hg
    obtain ⟨its,rv,p,_⟩:=I.list qa
    obtain ⟨u,hu,ru⟩:=rv.get gx
    obtain ⟨⟨old,he⟩,j⟩:=Z
    refine wpAny_pyNext_enum_item he j p.isList (x:=u) (by simpa using hu) n fun h1 a1 a2 a3 a4 kp=>?_
    refine ⟨_,rfl,wpAny_letOwnedTupleGo_enum a1 fun h2 b1 sb=>?_⟩
    have lz:=Heap.lt_size he
    have nT:=I.hok.fresh (Nat.le_refl s.heap.objs.size)
    have T2:=sb.extBut _ _ (Nat.ne_of_gt lz) a3
    have I1:Inv X pins σ (upd H s.heap.objs.size (.tup [.int i,x])) { s with heap:=h2,toks:=s.toks + 1 }:=I.turnsLaid (W:=[e,it]) (t':=s.toks + 1) (T:=s.heap.objs.size) (o:=.tup [.int i,x]) hf
      (fun c o hc z=>by
        simp only [List.mem_cons,List.not_mem_nil,or_false,not_or] at hc
        exact sb.extBut _ _ hc.1 (kp c o hc.1 hc.2 z)) (Nat.le_refl _) ⟨by show 2 ≤ sizeLine; decide,[.int i s.toks,u],.cons ⟨_,rfl⟩ (.cons ru .nil),⟨_,T2,rfl,_,rfl⟩⟩
    refine ⟨.ref s.heap.objs.size,_,I1,rfl,⟨_,x,rfl,nT,rfl,fun zs hq=>by rw [I.list_inj hq qa]; exact gx⟩,⟨⟨u,?_⟩,a2.extBut sb.extBut (Ne.symm n)⟩,fun c hc=>?_⟩
    · exact b1
    · have lt:c < s.heap.objs.size:=by
        simp only [List.mem_cons,List.not_mem_nil,or_false] at hc
        obtain ⟨o1,f1,_⟩:=j
        rcases hc with rfl | rfl
        · exact lz
        · exact Heap.lt_size f1
      rw [upd_ne (Nat.ne_of_lt lt)]
      exact (hf c hc).1
  done:=by
    intro X hP hw hK s hc i pins σ H E I hf Z hg
    subst hP hw hK
    obtain ⟨xs,qa,hx⟩:=hg
    obtain ⟨its,rv,p,_⟩:=I.list qa
    obtain ⟨⟨old,he⟩,j⟩:=Z
    have l1:=rv.length
    refine wpAny_pyNext_enum_end hc.none he j p.isList (by simp; lia) fun h' kp=>⟨rfl,I.turns (t':=s.toks) (W:=[e,it]) hf fun c o hc z=>kp c o (fun q=>hc (by simp [q])) z⟩
  self:=fun _ _ s _ _ st h=>by
    obtain ⟨⟨old,he⟩,_⟩:=st
    exact wpAny_pyIter_enum he h
def iEnum (K:PySem.W.Frag) (ta:TA):TI:=fun σ H R=>ta σ H fun vs H1=>∃ a xs,vs = [.ref a]∧SqL K H1 a xs∧R (Ite K a) H1
theorem pi_enum {X:Cx} {elts:List Expr} {x1} {tp:Pos} {a:Expr} {ta:TA} {p pos:Pos} (hg:Gl X "enumerate") (hm:X.mg "enumerate" = none) (ha:PA X [a] ta) (hs:starEach [a] X.env = [(false,eval a X.env)]:=by rfl) :
    PI X (.Tuple elts x1 tp) (.Call (.Name "enumerate" p) [a] [] pos) (iEnum X.K ta):=by
  intro pins s σ H R I h
  refine Call_ (ld_blt I hg hm boot_enumerate (PyProof.Rows.callWith_type1 (thn (ha pos pins s σ H _ I h) fun us s1 ⟨vs,H1,I1,r1,q1⟩=>?_) hs rfl))
  obtain ⟨a,xs,e,qa,q⟩:=q1
  subst e
  cases r1 with
  | cons r rr =>
    cases rr
    cases r
    obtain ⟨its,rv,p,_⟩:=I1.list qa
    refine call_enumerate_list p.isList fun h' z1 z2 z3 kp=>wpAny_pyIter_enum z1 ?_
    refine ⟨_,[_,s1.heap.objs.size],_,_,H1,rfl,I1.kept (t':=s1.toks) kp,turn_enum (by simp),⟨⟨_,z1⟩,z2⟩,fun c hc=>?_,q⟩
    have le:s1.heap.objs.size ≤ c:=by
      simp only [List.mem_cons,List.not_mem_nil,or_false] at hc
      rcases hc with rfl | rfl <;> lia
    exact I1.fpOk le (I1.hok.fresh le)
theorem for_enum {K:PySem.W.Frag} {a:Addr} {xs:List V} {g:TG} {tb:TS} {D:Ends} {σ:St} {H:Hp} (Pv:Nat→St→Hp→Prop) (h0:Pv 0 σ H) (hl:∀ i σ H,Pv i σ H→SqL K H a xs)
    (hs:∀ i x t σ H,xs[i]? = some x→Pv i σ H→H t = none→g (.ref t) σ (upd H t (.tup [.int i,x])) fun σ2 H2=>tb { D with nx:=Pv (i + 1),ct:=Pv (i + 1),bk:=D.nx } σ2 H2) (hd:∀ σ H,Pv xs.length σ H→D.nx σ H) :
    ∃ W:Nat→Nat→St→Hp→Prop,(∃ m,W 0 m σ H)∧∀ i m σ H,W i m σ H →
      ((Ite K a).stop i H∧D.nx σ H)∨((Ite K a).go i H∧∃ N:St→Hp→Prop,(∀ σ' H',N σ' H'→∃ m',m' < m∧W (i + 1) m' σ' H')∧∀ x H',(Ite K a).yld i H x H'→g x σ H' fun σ2 H2=>tb { D with nx:=N,ct:=N,bk:=D.nx } σ2 H2):=by
  refine ⟨fun i m σ H=>m = xs.length - i∧i ≤ xs.length∧Pv i σ H,⟨xs.length,by simp,Nat.zero_le _,h0⟩,?_⟩
  rintro i m σ H ⟨rfl,li,p⟩
  have q1:=hl i σ H p
  by_cases hlt:i < xs.length
  · refine .inr ⟨⟨xs,xs[i]'hlt,q1,by simp [hlt]⟩,Pv (i + 1),fun σ' H' p'=>⟨xs.length - (i + 1),by lia,rfl,hlt,p'⟩,fun x H' y=>?_⟩
    obtain ⟨t,u,rfl,ht,rfl,hx⟩:=y
    exact hs i u t σ H (hx xs q1) p ht
  · have e:i = xs.length:=by lia
    subst e
    exact .inl ⟨⟨xs,q1,Nat.le_refl _⟩,hd σ H p⟩
end L2
namespace K21
open PySem L2 PyProof.Rows
def top (i:Nat):Stmt:=PySem.Challenge.pw_clonewood_k21_knots_of_three_kinds.main.body.getD i (.Pass ⟨0,0,0,0⟩)
abbrev sPin:Stmt:=top 2
abbrev sKIn:Stmt:=inClass (top 4) 0
abbrev sCIn:Stmt:=inClass (top 5) 0
abbrev sCKd:Stmt:=inClass (top 5) 1
abbrev sCSt:Stmt:=inClass (top 5) 2
abbrev sCPt:Stmt:=inClass (top 5) 3
abbrev sCMv:Stmt:=inClass (top 5) 4
abbrev sFIn:Stmt:=inClass (top 6) 0
abbrev sFKd:Stmt:=inClass (top 6) 1
abbrev sFSt:Stmt:=inClass (top 6) 2
abbrev sFPt:Stmt:=inClass (top 6) 3
abbrev sFMv:Stmt:=inClass (top 6) 4
abbrev sDIn:Stmt:=inClass (top 7) 0
abbrev sDKd:Stmt:=inClass (top 7) 1
abbrev sDSt:Stmt:=inClass (top 7) 2
abbrev sDPt:Stmt:=inClass (top 7) 3
abbrev sDMv:Stmt:=inClass (top 7) 4
abbrev sDEn:Stmt:=inClass (top 7) 5
abbrev sDWe:Stmt:=inClass (top 7) 6
abbrev sDWo:Stmt:=inClass (top 7) 7
abbrev sDWl:Stmt:=inClass (top 7) 8
abbrev sDOt:Stmt:=inClass (top 7) 9
abbrev sKof:Stmt:=top 8
abbrev sCel:Stmt:=top 10
abbrev sMix:Stmt:=top 11
abbrev sNms:Stmt:=top 12
abbrev sCst:Stmt:=top 13
abbrev sFst:Stmt:=top 14
abbrev sDst:Stmt:=top 15
abbrev sLpl:Stmt:=top 16
abbrev sMvs:Stmt:=top 17
abbrev sLmv:Stmt:=top 18
abbrev sSho:Stmt:=top 19
abbrev sOne:Stmt:=top 20
abbrev sLen:Stmt:=top 21
abbrev sFol:Stmt:=top 22
abbrev sLaw:Stmt:=top 23
structure Txt (mg:Str→Option Value):Prop where
  isi:mg "isinstance" = none
  int:mg "int" = none
  str:mg "str" = none
  len:mg "len" = none
  rng:mg "range" = none
  tup:mg "tuple" = none
  lst:mg "list" = none
  min:mg "min" = none
  srt:mg "sorted" = none
  set:mg "set" = none
  enu:mg "enumerate" = none
  dct:mg "dict" = none
  plc:∃ t,mg "PLACE" = some (.int 2 t)
end K21
set_option maxHeartbeats 4000000
namespace K21
open PySem L2
section
variable {P:Program} {w:World} {K:PySem.W.Frag} {mg:Str→Option Value} {base:Heap} {f fMix:Addr} {fd dMix:FuncData}
def spCel (K:PySem.W.Frag):Sp:=fun vs H Q _=>∃ (a:Addr) (ns:List Int) (k:Int),vs = [.ref a,.int k]∧0 ≤ k∧SqL K H a (ns.map V.int)∧∀ z:Int,Q (.int z) H
theorem scCel:FnScope ["_law_script","_law_k"] ["_law_script","_law_k"] (defScope sCel):=⟨rfl,rfl,rfl,by decide +kernel,rfl,by decide +kernel,by decide +kernel⟩
theorem ok_Cel (F:Fun K "_law_cell_at" "_law_cell_at" sCel f fd) (T:Txt mg):FnOk P w K mg base CX0 1 f fd ["_law_script","_law_k"] (spCel K):=by
  refine F.ok scCel (fun vs H Q E h=>?_) (fun cdv A outer s H vs Q E hr h=>?_)
  · obtain ⟨a,ns,k,rfl,_⟩:=h
    rfl
  obtain ⟨a,ns,k,rfl,h0,hS,q⟩:=h
  refine ⟨_,(pss_cons (ps_if (pt_cmpR op_lt (pv 1) (pe_callB call_len_seq rfl T.len PySem.boot_len (pc (pv 0) pa_nil)) (nomark _))
    (pss_one (ps_ret (pe_ix ix_list (pv 0) (pv 1) (fun _ _=>rfl))))
    pss_nil)
    (pss_one (ps_ret pe_int))),?_⟩
  refine ⟨_,rfl,_,rfl,a,_,rfl,.inl hS,_,_,rfl,rfl,_,rfl,?_⟩
  refine ite2 (fun c=>?_) (fun c=>?_)
  · have c':k < (((ns.map V.int).length:Nat):Int):=of_decide_eq_true c
    rw [List.length_map] at c'
    obtain ⟨j,rfl⟩:=Int.eq_ofNat_of_zero_le h0
    have hk:j < ns.length:=by lia
    exact ⟨_,rfl,_,rfl,a,_,_,.int ns[j],rfl,rfl,hS,atI_nat (by simp [hk]),q _⟩
  · exact q 0
def spMix:Sp:=fun vs H Q _=>∃ (c k:Int),vs = [.int c,.int k]∧0 ≤ k∧k ≤ 1000∧∀ z:Int,0 ≤ z→z < 2147483587→Q (.int z) H
theorem scMix:FnScope ["_law_cell","_law_k","_law_j","_law_number"] ["_law_cell","_law_k"] (defScope sMix):=⟨rfl,rfl,rfl,by decide +kernel,rfl,by decide +kernel,by decide +kernel⟩
theorem ok_Mix (F:Fun K "_law_mixed" "_law_mixed" sMix f fd) (T:Txt mg):FnOk P w K mg base CX0 1 f fd ["_law_cell","_law_k"] spMix:=by
  refine F.ok scMix (fun vs H Q E h=>?_) (fun cdv A outer s H vs Q E hr h=>?_)
  · obtain ⟨c,k,rfl,_⟩:=h
    rfl
  obtain ⟨c,k,rfl,k0,k1,q⟩:=h
  refine ⟨_,(pss_cons (ps_if (PW.pt (pw_and (pt_cmpR op_gt (pv 0) pe_int (nomark _)) (pw_and1 (pt_cmpR op_eq (pe_op op_mod (pv 0) pe_int) pe_int (nomark _)))))
    (pss_cons (ps_set (i:=0) scMix.nd rfl (Or.inl rfl) (pe_op op_fdiv (pv 0) pe_int))
    (pss_cons (ps_for PassesOwn.never rfl (pi_range1 rfl T.rng (pc (pv 1) pa_nil)) (pg_name (i:=2) scMix.nd rfl (Or.inl rfl))
    (pss_one (ps_set (i:=0) scMix.nd rfl (Or.inl rfl) (pe_op op_fdivB (pv 0) pe_int))))
    (pss_one (ps_ret (pe_op op_mod (pv 0) pe_int)))))
    pss_nil)
    (pss_cons (ps_set (i:=3) scMix.nd rfl (Or.inl rfl) (pe_op op_mod (pe_op op_add (pe_op op_add (pe_op op_mod (pv 0) pe_int) (pe_op op_mul pe_int (pv 1))) pe_int) pe_int))
    (pss_cons (ps_set (i:=3) scMix.nd rfl (Or.inl rfl) (pe_op op_mod (pe_op op_mul (pv 3) (pv 3)) pe_int))
    (pss_one (ps_ret (pe_op op_mod (pe_op op_add (pe_op op_add (pe_op op_mul (pv 3) (pv 3)) (pe_op op_mul pe_int (pv 3))) (pe_op op_mul pe_int (pv 1))) pe_int)))))),?_⟩
  refine ⟨_,rfl,_,_,rfl,rfl,_,rfl,ite2 (fun c1=>?_) (fun c1=>?_)⟩
  · refine ⟨_,rfl,_,_,rfl,rfl,(by show (0:Int) < 2; decide),rfl,_,rfl,ite2 (fun c2=>?_) (fun c2=>?_)⟩
    · refine ⟨_,rfl,_,_,rfl,rfl,⟨by decide,by decide⟩,?_⟩
      refine ⟨_,rfl,k,rfl,by lia,by lia,?_⟩
      refine for_range (lo:=0) (n:=k.toNat) (fun j σ H2=>∃ (z:Int) (o:Option V),σ = [some (.int z),some (.int k),o,none]∧H2 = H) ⟨_,_,rfl,rfl⟩ ?_ ?_
      · rintro j σ H2 hj ⟨z,o,rfl,rfl⟩
        exact ⟨_,rfl,_,_,rfl,rfl,⟨by decide,by decide⟩,_,_,rfl,rfl⟩
      · rintro σ H2 ⟨z,o,rfl,rfl⟩
        exact ⟨_,rfl,_,_,rfl,rfl,(by show (0:Int) < 2147483587; decide),q _ (by show (0:Int) ≤ z % 2147483587; lia) (by show z % 2147483587 < 2147483587; lia)⟩
    · refine ⟨_,rfl,_,_,rfl,rfl,(by show (0:Int) < 2147483629; decide),_,rfl,_,_,rfl,rfl,.inl ⟨by decide,by decide⟩,_,_,rfl,rfl,_,_,rfl,rfl,_,_,rfl,rfl,(by show (0:Int) < 2147483629; decide),?_⟩
      have a0:0 ≤ (c % 2147483629 + 7919 * k + 17) % 2147483629:=by lia
      have a1:(c % 2147483629 + 7919 * k + 17) % 2147483629 < 2147483629:=by lia
      dsimp only
      generalize (c % 2147483629 + 7919 * k + 17) % 2147483629 = n at a0 a1
      refine ⟨_,rfl,_,rfl,_,_,rfl,rfl,.inl ⟨by lia,by lia⟩,_,_,rfl,rfl,(by show (0:Int) < 2147483629; decide),?_⟩
      have b0:=Int.emod_nonneg (n * n) (show (2147483629:Int) ≠ 0 by decide)
      have b1:=Int.emod_lt_of_pos (n * n) (show (0:Int) < 2147483629 by decide)
      dsimp only
      generalize n * n % 2147483629 = n2 at b0 b1
      exact ⟨_,rfl,_,rfl,_,_,rfl,rfl,.inl ⟨by lia,by lia⟩,_,rfl,_,_,rfl,rfl,.inl ⟨by decide,by decide⟩,_,_,rfl,rfl,_,rfl,_,_,rfl,rfl,.inl ⟨by decide,by decide⟩,_,_,rfl,rfl,_,_,rfl,rfl,(by show (0:Int) < 2147483587; decide),q _ (Int.emod_nonneg _ (by decide)) (Int.emod_lt_of_pos _ (by decide))⟩
  · refine iteF ?_
    refine ⟨_,rfl,_,_,rfl,rfl,(by show (0:Int) < 2147483629; decide),_,rfl,_,_,rfl,rfl,.inl ⟨by decide,by decide⟩,_,_,rfl,rfl,_,_,rfl,rfl,_,_,rfl,rfl,(by show (0:Int) < 2147483629; decide),?_⟩
    have a0:0 ≤ (c % 2147483629 + 7919 * k + 17) % 2147483629:=by lia
    have a1:(c % 2147483629 + 7919 * k + 17) % 2147483629 < 2147483629:=by lia
    dsimp only
    generalize (c % 2147483629 + 7919 * k + 17) % 2147483629 = n at a0 a1
    refine ⟨_,rfl,_,rfl,_,_,rfl,rfl,.inl ⟨by lia,by lia⟩,_,_,rfl,rfl,(by show (0:Int) < 2147483629; decide),?_⟩
    have b0:=Int.emod_nonneg (n * n) (show (2147483629:Int) ≠ 0 by decide)
    have b1:=Int.emod_lt_of_pos (n * n) (show (0:Int) < 2147483629 by decide)
    dsimp only
    generalize n * n % 2147483629 = n2 at b0 b1
    exact ⟨_,rfl,_,rfl,_,_,rfl,rfl,.inl ⟨by lia,by lia⟩,_,rfl,_,_,rfl,rfl,.inl ⟨by decide,by decide⟩,_,_,rfl,rfl,_,rfl,_,_,rfl,rfl,.inl ⟨by decide,by decide⟩,_,_,rfl,rfl,_,_,rfl,rfl,(by show (0:Int) < 2147483587; decide),q _ (Int.emod_nonneg _ (by decide)) (Int.emod_lt_of_pos _ (by decide))⟩
end
end K21
set_option maxHeartbeats 4000000
namespace K21
open PySem L2
abbrev Ent:=Str×Str×Int
def s4T (r:S4):Tr:=.tup [.int r.1,.int r.2.1,.int r.2.2.1,.int r.2.2.2]
def enT (e:Ent):Tr:=.tup [.str e.1,.str e.2.1,.int e.2.2]
inductive Kn where
  | cel (b:Int) (cs:List Int)
  | fil (b s:Int) (r:List S4)
  | fol (b m:Int) (es:List Ent)
def kw:Kn→Str
  | .cel ..=>Str.ofString "cells"
  | .fil ..=>Str.ofString "file"
  | .fol ..=>Str.ofString "folder"
def stT:Kn→List Tr
  | .cel b cs=>[.str (Str.ofString "cells"),.int b,.tup (cs.map .int)]
  | .fil b s r=>[.str (Str.ofString "file"),.int b,.int s,.tup (r.map s4T)]
  | .fol b m es=>[.str (Str.ofString "folder"),.int b,.int m,.tup (es.map enT)]
theorem nl_ints (l:List Int):nls (l.map Tr.int) = true:=nls_of fun t ht=>by
  obtain ⟨n,_,rfl⟩:=List.mem_map.mp ht
  rfl
theorem nl_s4 (l:List S4):nls (l.map s4T) = true:=nls_of fun t ht=>by
  obtain ⟨n,_,rfl⟩:=List.mem_map.mp ht
  rfl
theorem nl_en (l:List Ent):nls (l.map enT) = true:=nls_of fun t ht=>by
  obtain ⟨n,_,rfl⟩:=List.mem_map.mp ht
  rfl
theorem deps_le {n:Nat}:∀ {l:List Tr},(∀ t ∈ l,dep t ≤ n)→deps l ≤ n
  | [],_=>Nat.zero_le _
  | t :: l,h=>by
    unfold deps
    have:=h t (List.mem_cons_self ..)
    have:=deps_le (n:=n) (l:=l) fun u hu=>h u (List.mem_cons_of_mem _ hu)
    lia
theorem dp_ints (l:List Int):deps (l.map Tr.int) ≤ 1:=deps_le fun t ht=>by
  obtain ⟨n,_,rfl⟩:=List.mem_map.mp ht
  exact Nat.zero_le _
theorem dp_s4 (l:List S4):deps (l.map s4T) ≤ 1:=deps_le fun t ht=>by
  obtain ⟨n,_,rfl⟩:=List.mem_map.mp ht
  show deps [Tr.int _,.int _,.int _,.int _] + 1 ≤ 1
  exact Nat.le_refl _
theorem dp_en (l:List Ent):deps (l.map enT) ≤ 1:=deps_le fun t ht=>by
  obtain ⟨n,_,rfl⟩:=List.mem_map.mp ht
  exact Nat.le_refl _
theorem nl_st (k:Kn):nls (stT k) = true:=by
  cases k with
  | cel b cs =>
    show (true && (true && (nls (cs.map Tr.int) && true))) = true
    rw [nl_ints]
    rfl
  | fil b s r =>
    show (true && (true && (true && (nls (r.map s4T) && true)))) = true
    rw [nl_s4]
    rfl
  | fol b m es =>
    show (true && (true && (true && (nls (es.map enT) && true)))) = true
    rw [nl_en]
    rfl
theorem dp_st (k:Kn):deps (stT k) ≤ 2:=by
  refine deps_le fun t ht=>?_
  cases k with
  | cel b cs =>
    simp only [stT,List.mem_cons,List.not_mem_nil,or_false] at ht
    rcases ht with rfl | rfl | rfl
    · exact Nat.zero_le _
    · exact Nat.zero_le _
    · have:=dp_ints cs
      unfold dep
      lia
  | fil b s r =>
    simp only [stT,List.mem_cons,List.not_mem_nil,or_false] at ht
    rcases ht with rfl | rfl | rfl | rfl
    · exact Nat.zero_le _
    · exact Nat.zero_le _
    · exact Nat.zero_le _
    · have:=dp_s4 r
      unfold dep
      lia
  | fol b m es =>
    simp only [stT,List.mem_cons,List.not_mem_nil,or_false] at ht
    rcases ht with rfl | rfl | rfl | rfl
    · exact Nat.zero_le _
    · exact Nat.zero_le _
    · exact Nat.zero_le _
    · have:=dp_en es
      unfold dep
      lia
structure Cl where
  K0:Addr
  KC:Addr
  KF:Addr
  KD:Addr
structure CF (K:PySem.W.Frag) (mg:Str→Option Value) (c:Cl):Prop where
  clC:Cls K c.KC
  clF:Cls K c.KF
  clD:Cls K c.KD
  bC:NoAttr K c.KC "born"
  cC:NoAttr K c.KC "cells"
  bF:NoAttr K c.KF "born"
  sF:NoAttr K c.KF "size"
  rF:NoAttr K c.KF "row"
  bD:NoAttr K c.KD "born"
  lD:NoAttr K c.KD "limit"
  eD:NoAttr K c.KD "entries"
  nK0:mg "Knot" = some (.ref c.K0)
  nKC:mg "CellsKnot" = some (.ref c.KC)
  nKF:mg "FileKnot" = some (.ref c.KF)
  nKD:mg "FolderKnot" = some (.ref c.KD)
  tC:∀ {H:Hp} {a dx:Addr} {fs:List (Str×V)},H a = some (.ins c.KC dx fs)→TyOf K H (.ref a) (.ref c.KC)
  tF:∀ {H:Hp} {a dx:Addr} {fs:List (Str×V)},H a = some (.ins c.KF dx fs)→TyOf K H (.ref a) (.ref c.KF)
  tD:∀ {H:Hp} {a dx:Addr} {fs:List (Str×V)},H a = some (.ins c.KD dx fs)→TyOf K H (.ref a) (.ref c.KD)
  kC0:PySem.W.kitOne K (.ref c.KC) (.ref c.K0) = some true
  kCC:PySem.W.kitOne K (.ref c.KC) (.ref c.KC) = some true
  kCF:PySem.W.kitOne K (.ref c.KC) (.ref c.KF) = some false
  kCD:PySem.W.kitOne K (.ref c.KC) (.ref c.KD) = some false
  kF0:PySem.W.kitOne K (.ref c.KF) (.ref c.K0) = some true
  kFC:PySem.W.kitOne K (.ref c.KF) (.ref c.KC) = some false
  kFF:PySem.W.kitOne K (.ref c.KF) (.ref c.KF) = some true
  kFD:PySem.W.kitOne K (.ref c.KF) (.ref c.KD) = some false
  kD0:PySem.W.kitOne K (.ref c.KD) (.ref c.K0) = some true
  kDC:PySem.W.kitOne K (.ref c.KD) (.ref c.KC) = some false
  kDF:PySem.W.kitOne K (.ref c.KD) (.ref c.KF) = some false
  kDD:PySem.W.kitOne K (.ref c.KD) (.ref c.KD) = some true
def KnAt (c:Cl) (H:Hp):Kn→V→Prop
  | .cel b cs,x=>∃ p dx v,x = .ref p∧H p = some (.ins c.KC dx [("born",.int b),("cells",v)])∧At H (.tup (cs.map .int)) v
  | .fil b s r,x=>∃ p dx v,x = .ref p∧H p = some (.ins c.KF dx [("born",.int b),("size",.int s),("row",v)])∧At H (.tup (r.map s4T)) v
  | .fol b m es,x=>∃ p dx v,x = .ref p∧H p = some (.ins c.KD dx [("born",.int b),("limit",.int m),("entries",v)])∧At H (.tup (es.map enT)) v
theorem KnAt.mono {c:Cl} {H H':Hp} (s:Same H H'):∀ {k:Kn} {x:V},KnAt c H k x→KnAt c H' k x
  | .cel ..,_,⟨p,dx,v,e,h,a⟩=>⟨p,dx,v,e,s _ _ h,a.mono s⟩
  | .fil ..,_,⟨p,dx,v,e,h,a⟩=>⟨p,dx,v,e,s _ _ h,a.mono s⟩
  | .fol ..,_,⟨p,dx,v,e,h,a⟩=>⟨p,dx,v,e,s _ _ h,a.mono s⟩
def Kp (p:Addr) (H H':Hp):Prop:=∀ q u,q ≠ p→H q = some u→H' q = some u
theorem Kp.put {p:Addr} {H H':Hp} {o:HO} (h:Kp p H H'):Kp p H (upd H' p o):=fun q u n e=>by
  rw [upd_ne n]
  exact h q u n e
theorem Kp.tup {p C dx:Addr} {fs:List (Str×V)} {H H':Hp} (h:Kp p H H') (e:H p = some (.ins C dx fs)):∀ q u,H q = some (.tup u)→H' q = some (.tup u):=fun q u eq=>h q _ (fun z=>by rw [z,e] at eq; cases eq) eq
theorem made_same {x dx:Addr} {H H':Hp} {C:Addr} (hx:H x = none) (hd:H dx = none) (k:Kp x (upd (upd H dx (.own x)) x (.ins C dx [])) H'):Same H H':=fun q u e=>by
  have n1:=ne_of_none e hx
  refine k q u n1 ?_
  rw [upd_ne n1,upd_ne (ne_of_none e hd)]
  exact e
section
variable {P:Program} {w:World} {K:PySem.W.Frag} {mg:Str→Option Value} {base:Heap} {f fKIn:Addr} {fd dKIn:FuncData} {c:Cl}
def spKIn (K:PySem.W.Frag):Sp:=fun vs H Q _=>∃ p C dx x,vs = [.ref p,x]∧H p = some (.ins C dx [])∧Cls K C∧NoAttr K C "born"∧Q .non (upd H p (.ins C dx [("born",x)]))
theorem scKIn:FnScope ["self","born"] ["self","born"] (defScope sKIn):=⟨rfl,rfl,rfl,by decide +kernel,rfl,by decide +kernel,by decide +kernel⟩
theorem ok_KIn (F:Fun K "__init__" "Knot.__init__" sKIn f fd):FnOk P w K mg base CX0 1 f fd ["self","born"] (spKIn K):=by
  refine F.ok scKIn (fun vs H Q E h=>?_) (fun cdv A outer s H vs Q E hr h=>?_)
  · obtain ⟨p,C,dx,x,rfl,_⟩:=h
    rfl
  obtain ⟨p,C,dx,x,rfl,hp,cl,na,q⟩:=h
  refine ⟨_,(pss_one (ps_fld (pv 0) (pv 1) rfl)),?_⟩
  exact ⟨_,rfl,_,rfl,p,C,dx,_,rfl,hp,cl,na,by decide,q⟩
def TL (H:Hp) (l:List Tr) (v:V):Prop:=At H (.tup l) v∨At H (.lst l) v
theorem tl_keep {H H':Hp} {p C dx:Addr} {fs:List (Str×V)} (e:H p = some (.ins C dx fs)) (k:Kp p H H') {l:List Tr} {v:V} (hn:nls l = true) (h:TL H l v):TL H' l v:=by
  rcases h with h | h
  · exact .inl (At.keepT (Kp.tup k e) (by unfold nl; exact hn) h)
  · obtain ⟨a,vs,rfl,ea,ka⟩:=h.lst
    exact .inr (At.mkL (k a _ (fun z=>by rw [z,e] at ea; cases ea) ea) (Ats.keepT (Kp.tup k e) hn ka))
def spCIn (c:Cl):Sp:=fun vs H Q _=>∃ (p dx:Addr) (b  v:V) (l:List Tr),vs = [.ref p,b,v]∧H p = some (.ins c.KC dx [])∧TL H l v∧nls l = true∧∀ v' H',Kp p H H'→H' p = some (.ins c.KC dx [("born",b),("cells",v')])→At H' (.tup l) v'→Q .non H'
theorem scCIn:FnScope ["self","born","cells"] ["self","born","cells"] (defScope sCIn):=⟨rfl,rfl,rfl,by decide +kernel,rfl,by decide +kernel,by decide +kernel⟩
theorem ok_CIn (F:Fun K "__init__" "CellsKnot.__init__" sCIn f fd) (cf:CF K mg c) (KIncm:CMeth K c.K0 "__init__" fKIn) (GKIn:FnOk P w K mg base CX0 1 fKIn dKIn ["self","born"] (spKIn K)) (KInbd:Binds K dKIn ["self","born"] []) (T:Txt mg):FnOk P w K mg base CX0 2 f fd ["self","born","cells"] (spCIn c):=by
  refine F.ok scCIn (fun vs H Q E h=>?_) (fun cdv A outer s H vs Q E hr h=>?_)
  · obtain ⟨p,dx,b,v,l,rfl,_⟩:=h
    rfl
  obtain ⟨p,dx,b,v,l,rfl,hp,hv,hn,q⟩:=h
  refine ⟨_,(pss_cons (ps_expr (pe_cmeth (pe_glob (v:=.ref c.K0) rfl cf.nK0 rfl) KIncm GKIn (hr.mono (by decide)) KInbd .nil pass0 (pc (pv 0) (pc (pv 1) pa_nil))))
    (pss_one (ps_fld (pv 0) (pe_callTy call_tuple_of rfl T.tup PyProof.Rows.boot_tuple (pc (pv 2) pa_nil)) rfl))),?_⟩
  refine ⟨rfl,_,rfl,_,rfl,p,c.KC,dx,b,rfl,hp,cf.clC,cf.bC,?_⟩
  have k1:Kp p H (upd H p (.ins c.KC dx [("born",b)])):=Kp.put fun q u _ e=>e
  have hv1:=tl_keep hp k1 hn hv
  have hp1:(upd H p (.ins c.KC dx [("born",b)])) p = some (.ins c.KC dx [("born",b)]):=upd_same
  have fin:∀ v' H',Same (upd H p (.ins c.KC dx [("born",b)])) H'→At H' (.tup l) v'→Q .non (upd H' p (.ins c.KC dx [("born",b),("cells",v')])):=fun v' H' s' hv'=>by
    have hp':H' p = some (.ins c.KC dx [("born",b)]):=s' _ _ hp1
    refine q v' _ (Kp.put fun q u n e=>s' _ _ (k1 q u n e)) upd_same ?_
    exact At.keepT (Kp.tup (Kp.put fun q u _ e=>e) hp') (by unfold nl; exact hn) hv'
  rcases hv1 with h | h
  · obtain ⟨a,ys,rfl,ea,ka⟩:=h.tup
    exact ⟨_,rfl,a,ys,rfl,.inr ⟨SqT.of ea,_,rfl,p,c.KC,dx,_,rfl,hp1,cf.clC,cf.cC,by simp,fin _ _ (Same.refl _) h⟩⟩
  · obtain ⟨a,ys,rfl,ea,ka⟩:=h.lst
    exact ⟨_,rfl,a,ys,rfl,.inl ⟨SqL.of ea,fun t ht=>⟨_,rfl,p,c.KC,dx,_,rfl,same_new ht _ _ _ hp1,cf.clC,cf.cC,by simp,fin _ _ (same_new ht _) (At.mkT upd_same (ka.mono (same_new ht _)))⟩⟩⟩
theorem mk_C {H:Hp} {Q:VK} {v:V} {b:Int} {cs:List Int} (hv:TL H (cs.map .int) v) (q:∀ x H',Same H H'→KnAt c H' (.cel b cs) x→Q x H'):∀ x dx,H x = none→H dx = none→dx ≠ x →
    spCIn c (.ref x :: ([.int b,v] ++ [])) (upd (upd H dx (.own x)) x (.ins c.KC dx [])) (fun u H2=>u = .non∧Q (.ref x) H2) E0:=by
  intro x dx hx hd ne
  have s0:Same H (upd (upd H dx (.own x)) x (.ins c.KC dx [])):=fun q u e=>by
    rw [upd_ne (ne_of_none e hx),upd_ne (ne_of_none e hd)]
    exact e
  refine ⟨x,dx,.int b,v,cs.map .int,rfl,upd_same,?_,nl_ints cs,fun v' H' k e a=>⟨rfl,q _ H' (made_same hx hd k) ⟨x,dx,v',rfl,e,a⟩⟩⟩
  rcases hv with h | h
  · exact .inl (h.mono s0)
  · exact .inr (h.mono s0)
def spFIn (c:Cl):Sp:=fun vs H Q _=>∃ (p dx:Addr) (b m0 v:V) (l:List Tr),vs = [.ref p,b,m0,v]∧H p = some (.ins c.KF dx [])∧TL H l v∧nls l = true∧∀ v' H',Kp p H H'→H' p = some (.ins c.KF dx [("born",b),("size",m0),("row",v')])→At H' (.tup l) v'→Q .non H'
theorem scFIn:FnScope ["self","born","size","row"] ["self","born","size","row"] (defScope sFIn):=⟨rfl,rfl,rfl,by decide +kernel,rfl,by decide +kernel,by decide +kernel⟩
theorem ok_FIn (F:Fun K "__init__" "FileKnot.__init__" sFIn f fd) (cf:CF K mg c) (KIncm:CMeth K c.K0 "__init__" fKIn) (GKIn:FnOk P w K mg base CX0 1 fKIn dKIn ["self","born"] (spKIn K)) (KInbd:Binds K dKIn ["self","born"] []) (T:Txt mg):FnOk P w K mg base CX0 2 f fd ["self","born","size","row"] (spFIn c):=by
  refine F.ok scFIn (fun vs H Q E h=>?_) (fun cdv A outer s H vs Q E hr h=>?_)
  · obtain ⟨p,dx,b,m0,v,l,rfl,_⟩:=h
    rfl
  obtain ⟨p,dx,b,m0,v,l,rfl,hp,hv,hn,q⟩:=h
  refine ⟨_,(pss_cons (ps_expr (pe_cmeth (pe_glob (v:=.ref c.K0) rfl cf.nK0 rfl) KIncm GKIn (hr.mono (by decide)) KInbd .nil pass0 (pc (pv 0) (pc (pv 1) pa_nil))))
    (pss_cons (ps_fld (pv 0) (pv 2) rfl)
    (pss_one (ps_fld (pv 0) (pe_callTy call_tuple_of rfl T.tup PyProof.Rows.boot_tuple (pc (pv 3) pa_nil)) rfl)))),?_⟩
  refine ⟨rfl,_,rfl,_,rfl,p,c.KF,dx,b,rfl,hp,cf.clF,cf.bF,?_⟩
  have k1:Kp p H (upd H p (.ins c.KF dx [("born",b)])):=Kp.put fun q u _ e=>e
  refine ⟨_,rfl,_,rfl,p,c.KF,dx,_,rfl,upd_same,cf.clF,cf.sF,by simp,?_⟩
  have k2:Kp p H (upd (upd H p (.ins c.KF dx [("born",b)])) p (.ins c.KF dx [("born",b),("size",m0)])):=Kp.put k1
  have hv1:=tl_keep hp k2 hn hv
  have hp1:(upd (upd H p (.ins c.KF dx [("born",b)])) p (.ins c.KF dx [("born",b),("size",m0)])) p = some (.ins c.KF dx [("born",b),("size",m0)]):=upd_same
  have fin:∀ v' H',Same (upd (upd H p (.ins c.KF dx [("born",b)])) p (.ins c.KF dx [("born",b),("size",m0)])) H'→At H' (.tup l) v'→Q .non (upd H' p (.ins c.KF dx [("born",b),("size",m0),("row",v')])):=fun v' H' s' hv'=>by
    have hp':H' p = some (.ins c.KF dx [("born",b),("size",m0)]):=s' _ _ hp1
    refine q v' _ (Kp.put fun q u n e=>s' _ _ (k2 q u n e)) upd_same ?_
    exact At.keepT (Kp.tup (Kp.put fun q u _ e=>e) hp') (by unfold nl; exact hn) hv'
  rcases hv1 with h | h
  · obtain ⟨a,ys,rfl,ea,ka⟩:=h.tup
    exact ⟨_,rfl,a,ys,rfl,.inr ⟨SqT.of ea,_,rfl,p,c.KF,dx,_,rfl,hp1,cf.clF,cf.rF,by simp,fin _ _ (Same.refl _) h⟩⟩
  · obtain ⟨a,ys,rfl,ea,ka⟩:=h.lst
    exact ⟨_,rfl,a,ys,rfl,.inl ⟨SqL.of ea,fun t ht=>⟨_,rfl,p,c.KF,dx,_,rfl,same_new ht _ _ _ hp1,cf.clF,cf.rF,by simp,fin _ _ (same_new ht _) (At.mkT upd_same (ka.mono (same_new ht _)))⟩⟩⟩
theorem mk_F {H:Hp} {Q:VK} {v:V} {b s:Int} {r:List S4} (hv:TL H (r.map s4T) v) (q:∀ x H',Same H H'→KnAt c H' (.fil b s r) x→Q x H'):∀ x dx,H x = none→H dx = none→dx ≠ x →
    spFIn c (.ref x :: ([.int b,.int s,v] ++ [])) (upd (upd H dx (.own x)) x (.ins c.KF dx [])) (fun u H2=>u = .non∧Q (.ref x) H2) E0:=by
  intro x dx hx hd ne
  have s0:Same H (upd (upd H dx (.own x)) x (.ins c.KF dx [])):=fun q u e=>by
    rw [upd_ne (ne_of_none e hx),upd_ne (ne_of_none e hd)]
    exact e
  refine ⟨x,dx,.int b,.int s,v,r.map s4T,rfl,upd_same,?_,nl_s4 r,fun v' H' k e a=>⟨rfl,q _ H' (made_same hx hd k) ⟨x,dx,v',rfl,e,a⟩⟩⟩
  rcases hv with h | h
  · exact .inl (h.mono s0)
  · exact .inr (h.mono s0)
def spDIn (c:Cl):Sp:=fun vs H Q _=>∃ (p dx:Addr) (b m0 v:V) (l:List Tr),vs = [.ref p,b,m0,v]∧H p = some (.ins c.KD dx [])∧TL H l v∧nls l = true∧∀ v' H',Kp p H H'→H' p = some (.ins c.KD dx [("born",b),("limit",m0),("entries",v')])→At H' (.tup l) v'→Q .non H'
theorem scDIn:FnScope ["self","born","limit","entries"] ["self","born","limit","entries"] (defScope sDIn):=⟨rfl,rfl,rfl,by decide +kernel,rfl,by decide +kernel,by decide +kernel⟩
theorem ok_DIn (F:Fun K "__init__" "FolderKnot.__init__" sDIn f fd) (cf:CF K mg c) (KIncm:CMeth K c.K0 "__init__" fKIn) (GKIn:FnOk P w K mg base CX0 1 fKIn dKIn ["self","born"] (spKIn K)) (KInbd:Binds K dKIn ["self","born"] []) (T:Txt mg):FnOk P w K mg base CX0 2 f fd ["self","born","limit","entries"] (spDIn c):=by
  refine F.ok scDIn (fun vs H Q E h=>?_) (fun cdv A outer s H vs Q E hr h=>?_)
  · obtain ⟨p,dx,b,m0,v,l,rfl,_⟩:=h
    rfl
  obtain ⟨p,dx,b,m0,v,l,rfl,hp,hv,hn,q⟩:=h
  refine ⟨_,(pss_cons (ps_expr (pe_cmeth (pe_glob (v:=.ref c.K0) rfl cf.nK0 rfl) KIncm GKIn (hr.mono (by decide)) KInbd .nil pass0 (pc (pv 0) (pc (pv 1) pa_nil))))
    (pss_cons (ps_fld (pv 0) (pv 2) rfl)
    (pss_one (ps_fld (pv 0) (pe_callTy call_tuple_of rfl T.tup PyProof.Rows.boot_tuple (pc (pv 3) pa_nil)) rfl)))),?_⟩
  refine ⟨rfl,_,rfl,_,rfl,p,c.KD,dx,b,rfl,hp,cf.clD,cf.bD,?_⟩
  have k1:Kp p H (upd H p (.ins c.KD dx [("born",b)])):=Kp.put fun q u _ e=>e
  refine ⟨_,rfl,_,rfl,p,c.KD,dx,_,rfl,upd_same,cf.clD,cf.lD,by simp,?_⟩
  have k2:Kp p H (upd (upd H p (.ins c.KD dx [("born",b)])) p (.ins c.KD dx [("born",b),("limit",m0)])):=Kp.put k1
  have hv1:=tl_keep hp k2 hn hv
  have hp1:(upd (upd H p (.ins c.KD dx [("born",b)])) p (.ins c.KD dx [("born",b),("limit",m0)])) p = some (.ins c.KD dx [("born",b),("limit",m0)]):=upd_same
  have fin:∀ v' H',Same (upd (upd H p (.ins c.KD dx [("born",b)])) p (.ins c.KD dx [("born",b),("limit",m0)])) H'→At H' (.tup l) v'→Q .non (upd H' p (.ins c.KD dx [("born",b),("limit",m0),("entries",v')])):=fun v' H' s' hv'=>by
    have hp':H' p = some (.ins c.KD dx [("born",b),("limit",m0)]):=s' _ _ hp1
    refine q v' _ (Kp.put fun q u n e=>s' _ _ (k2 q u n e)) upd_same ?_
    exact At.keepT (Kp.tup (Kp.put fun q u _ e=>e) hp') (by unfold nl; exact hn) hv'
  rcases hv1 with h | h
  · obtain ⟨a,ys,rfl,ea,ka⟩:=h.tup
    exact ⟨_,rfl,a,ys,rfl,.inr ⟨SqT.of ea,_,rfl,p,c.KD,dx,_,rfl,hp1,cf.clD,cf.eD,by simp,fin _ _ (Same.refl _) h⟩⟩
  · obtain ⟨a,ys,rfl,ea,ka⟩:=h.lst
    exact ⟨_,rfl,a,ys,rfl,.inl ⟨SqL.of ea,fun t ht=>⟨_,rfl,p,c.KD,dx,_,rfl,same_new ht _ _ _ hp1,cf.clD,cf.eD,by simp,fin _ _ (same_new ht _) (At.mkT upd_same (ka.mono (same_new ht _)))⟩⟩⟩
theorem mk_D {H:Hp} {Q:VK} {v:V} {b m:Int} {es:List Ent} (hv:TL H (es.map enT) v) (q:∀ x H',Same H H'→KnAt c H' (.fol b m es) x→Q x H'):∀ x dx,H x = none→H dx = none→dx ≠ x →
    spDIn c (.ref x :: ([.int b,.int m,v] ++ [])) (upd (upd H dx (.own x)) x (.ins c.KD dx [])) (fun u H2=>u = .non∧Q (.ref x) H2) E0:=by
  intro x dx hx hd ne
  have s0:Same H (upd (upd H dx (.own x)) x (.ins c.KD dx [])):=fun q u e=>by
    rw [upd_ne (ne_of_none e hx),upd_ne (ne_of_none e hd)]
    exact e
  refine ⟨x,dx,.int b,.int m,v,es.map enT,rfl,upd_same,?_,nl_en es,fun v' H' k e a=>⟨rfl,q _ H' (made_same hx hd k) ⟨x,dx,v',rfl,e,a⟩⟩⟩
  rcases hv with h | h
  · exact .inl (h.mono s0)
  · exact .inr (h.mono s0)
end
end K21
set_option maxHeartbeats 4000000
namespace K21
open PySem L2
section
variable {P:Program} {w:World} {K:PySem.W.Frag} {mg:Str→Option Value} {base:Heap} {f fCIn fFIn fDIn fPin fDOt:Addr} {fd dCIn dFIn dDIn dPin dDOt:FuncData} {c:Cl}
def spKd (c:Cl) (k0:Kn→Prop):Sp:=fun vs H Q _=>∃ k x,vs = [x]∧KnAt c H k x∧k0 k∧Q (.str (kw k)) H
def spSt (c:Cl) (k0:Kn→Prop):Sp:=fun vs H Q _=>∃ k x,vs = [x]∧KnAt c H k x∧k0 k∧∀ t H',Same H H'→At H' (.tup (stT k)) t→Q t H'
def isC (k:Kn):Prop:=∃ b cs,k = .cel b cs
def isF (k:Kn):Prop:=∃ b s r,k = .fil b s r
def isD (k:Kn):Prop:=∃ b m es,k = .fol b m es
theorem scCKd:FnScope ["self"] ["self"] (defScope sCKd):=⟨rfl,rfl,rfl,by decide +kernel,rfl,by decide +kernel,by decide +kernel⟩
theorem ok_CKd (F:Fun K "kind" "CellsKnot.kind" sCKd f fd):FnOk P w K mg base CX0 1 f fd ["self"] (spKd c isC):=by
  refine F.ok scCKd (fun vs H Q E h=>?_) (fun cdv A outer s H vs Q E hr h=>?_)
  · obtain ⟨k,x,rfl,_⟩:=h
    rfl
  obtain ⟨k,x,rfl,hk,⟨b,cs,rfl⟩,q⟩:=h
  exact ⟨_,(pss_one (ps_ret pe_str)),q⟩
theorem scFKd:FnScope ["self"] ["self"] (defScope sFKd):=⟨rfl,rfl,rfl,by decide +kernel,rfl,by decide +kernel,by decide +kernel⟩
theorem ok_FKd (F:Fun K "kind" "FileKnot.kind" sFKd f fd):FnOk P w K mg base CX0 1 f fd ["self"] (spKd c isF):=by
  refine F.ok scFKd (fun vs H Q E h=>?_) (fun cdv A outer s H vs Q E hr h=>?_)
  · obtain ⟨k,x,rfl,_⟩:=h
    rfl
  obtain ⟨k,x,rfl,hk,⟨b,cs,r,rfl⟩,q⟩:=h
  exact ⟨_,(pss_one (ps_ret pe_str)),q⟩
theorem scDKd:FnScope ["self"] ["self"] (defScope sDKd):=⟨rfl,rfl,rfl,by decide +kernel,rfl,by decide +kernel,by decide +kernel⟩
theorem ok_DKd (F:Fun K "kind" "FolderKnot.kind" sDKd f fd):FnOk P w K mg base CX0 1 f fd ["self"] (spKd c isD):=by
  refine F.ok scDKd (fun vs H Q E h=>?_) (fun cdv A outer s H vs Q E hr h=>?_)
  · obtain ⟨k,x,rfl,_⟩:=h
    rfl
  obtain ⟨k,x,rfl,hk,⟨b,cs,r,rfl⟩,q⟩:=h
  exact ⟨_,(pss_one (ps_ret pe_str)),q⟩
theorem scCSt:FnScope ["self"] ["self"] (defScope sCSt):=⟨rfl,rfl,rfl,by decide +kernel,rfl,by decide +kernel,by decide +kernel⟩
theorem ok_CSt (F:Fun K "stuff" "CellsKnot.stuff" sCSt f fd) (cf:CF K mg c):FnOk P w K mg base CX0 1 f fd ["self"] (spSt c isC):=by
  refine F.ok scCSt (fun vs H Q E h=>?_) (fun cdv A outer s H vs Q E hr h=>?_)
  · obtain ⟨k,x,rfl,_⟩:=h
    rfl
  obtain ⟨k,x,rfl,hk,⟨b,cs,rfl⟩,q⟩:=h
  obtain ⟨p,dx,v,rfl,e,a⟩:=hk
  refine ⟨_,(pss_one (ps_ret (pe_tup (pc pe_str (pc (pe_fld (pv 0) rfl) (pc (pe_fld (pv 0) rfl) pa_nil)))))),?_⟩
  refine ⟨_,rfl,p,c.KC,dx,_,_,rfl,e,cf.clC,cf.bC,rfl,_,rfl,p,c.KC,dx,_,_,rfl,e,cf.clC,cf.cC,rfl,(by show 3 ≤ sizeLine; decide),fun t ht=>?_⟩
  exact q _ _ (same_new ht _) (At.mkT upd_same (Ats.cons (At.str _) (Ats.cons (At.int _) (Ats.cons (a.mono (same_new ht _)) (Ats.nil _)))))
theorem scFSt:FnScope ["self"] ["self"] (defScope sFSt):=⟨rfl,rfl,rfl,by decide +kernel,rfl,by decide +kernel,by decide +kernel⟩
theorem ok_FSt (F:Fun K "stuff" "FileKnot.stuff" sFSt f fd) (cf:CF K mg c):FnOk P w K mg base CX0 1 f fd ["self"] (spSt c isF):=by
  refine F.ok scFSt (fun vs H Q E h=>?_) (fun cdv A outer s H vs Q E hr h=>?_)
  · obtain ⟨k,x,rfl,_⟩:=h
    rfl
  obtain ⟨k,x,rfl,hk,⟨b,s',r,rfl⟩,q⟩:=h
  obtain ⟨p,dx,v,rfl,e,a⟩:=hk
  refine ⟨_,(pss_one (ps_ret (pe_tup (pc pe_str (pc (pe_fld (pv 0) rfl) (pc (pe_fld (pv 0) rfl) (pc (pe_fld (pv 0) rfl) pa_nil))))))),?_⟩
  refine ⟨_,rfl,p,c.KF,dx,_,_,rfl,e,cf.clF,cf.bF,rfl,_,rfl,p,c.KF,dx,_,_,rfl,e,cf.clF,cf.sF,rfl,_,rfl,p,c.KF,dx,_,_,rfl,e,cf.clF,cf.rF,rfl,(by show 4 ≤ sizeLine; decide),fun t ht=>?_⟩
  exact q _ _ (same_new ht _) (At.mkT upd_same (Ats.cons (At.str _) (Ats.cons (At.int _) (Ats.cons (At.int _) (Ats.cons (a.mono (same_new ht _)) (Ats.nil _))))))
theorem scDSt:FnScope ["self"] ["self"] (defScope sDSt):=⟨rfl,rfl,rfl,by decide +kernel,rfl,by decide +kernel,by decide +kernel⟩
theorem ok_DSt (F:Fun K "stuff" "FolderKnot.stuff" sDSt f fd) (cf:CF K mg c):FnOk P w K mg base CX0 1 f fd ["self"] (spSt c isD):=by
  refine F.ok scDSt (fun vs H Q E h=>?_) (fun cdv A outer s H vs Q E hr h=>?_)
  · obtain ⟨k,x,rfl,_⟩:=h
    rfl
  obtain ⟨k,x,rfl,hk,⟨b,s',r,rfl⟩,q⟩:=h
  obtain ⟨p,dx,v,rfl,e,a⟩:=hk
  refine ⟨_,(pss_one (ps_ret (pe_tup (pc pe_str (pc (pe_fld (pv 0) rfl) (pc (pe_fld (pv 0) rfl) (pc (pe_fld (pv 0) rfl) pa_nil))))))),?_⟩
  refine ⟨_,rfl,p,c.KD,dx,_,_,rfl,e,cf.clD,cf.bD,rfl,_,rfl,p,c.KD,dx,_,_,rfl,e,cf.clD,cf.lD,rfl,_,rfl,p,c.KD,dx,_,_,rfl,e,cf.clD,cf.eD,rfl,(by show 4 ≤ sizeLine; decide),fun t ht=>?_⟩
  exact q _ _ (same_new ht _) (At.mkT upd_same (Ats.cons (At.str _) (Ats.cons (At.int _) (Ats.cons (At.int _) (Ats.cons (a.mono (same_new ht _)) (Ats.nil _))))))
def plK:Kn→List Int
  | .cel ..=>[]
  | .fil _ _ r=>r.map (·.2.2.1)
  | .fol _ _ es=>es.map (·.2.2)
def Pts (ns ms:List Int):Prop:=ms.Pairwise (· < ·)∧∀ k,k ∈ ms↔k ∈ ns
theorem Pts.uniq {ns a b:List Int} (h:Pts ns a) (k:Pts ns b):a = b:=rise_uniq h.1 k.1 fun x=>(h.2 x).trans (k.2 x).symm
def szK:Kn→Nat
  | .cel _ cs=>cs.length
  | .fil _ _ r=>r.length
  | .fol _ _ es=>es.length
def spPt (c:Cl) (k0:Kn→Prop):Sp:=fun vs H Q _=>∃ k x,vs = [x]∧KnAt c H k x∧k0 k∧szK k ≤ 20∧∀ p H' ms,Same H H'→H p = none→H' p = some (.lst (ms.map V.int))→Pts (plK k) ms→Q (.ref p) H'
theorem scCPt:FnScope ["self"] ["self"] (defScope sCPt):=⟨rfl,rfl,rfl,by decide +kernel,rfl,by decide +kernel,by decide +kernel⟩
theorem ok_CPt (F:Fun K "points" "CellsKnot.points" sCPt f fd):FnOk P w K mg base CX0 1 f fd ["self"] (spPt c isC):=by
  refine F.ok scCPt (fun vs H Q E h=>?_) (fun cdv A outer s H vs Q E hr h=>?_)
  · obtain ⟨k,x,rfl,_⟩:=h
    rfl
  obtain ⟨k,x,rfl,hk,⟨b,cs,rfl⟩,_,q⟩:=h
  refine ⟨_,(pss_one (ps_ret (pe_lst pa_nil))),?_⟩
  exact ⟨by decide,fun p hp=>q p _ [] (same_new hp _) hp upd_same ⟨List.Pairwise.nil,fun k=>Iff.rfl⟩⟩
def spPin:Sp:=fun vs H Q _=>∃ (r:List S4) (x:V),vs = [x]∧At H (.tup (r.map s4T)) x∧r.length ≤ 20∧∀ p H' ms,Same H H'→H p = none→H' p = some (.lst (ms.map V.int))→Pts (r.map (·.2.2.1)) ms→Q (.ref p) H'
theorem scPin:FnScope ["row"] ["row"] (defScope sPin):=⟨rfl,rfl,rfl,by decide +kernel,rfl,by decide +kernel,by decide +kernel⟩
theorem ok_Pin (F:Fun K "places_in" "places_in" sPin f fd) (T:Txt mg):FnOk P w K mg base CX0 1 f fd ["row"] spPin:=by
  refine F.ok scPin (fun vs H Q E h=>?_) (fun cdv A outer s H vs Q E hr h=>?_)
  · obtain ⟨r,x,rfl,_⟩:=h
    rfl
  obtain ⟨r,x,rfl,hx,hl,q⟩:=h
  obtain ⟨t1,plc⟩:=T.plc
  obtain ⟨a,vs,rfl,ea,ka⟩:=hx.tup
  have ln:=ka.len
  rw [List.length_map] at ln
  refine ⟨_,(pss_one (ps_ret (pe_sset rfl rfl T.srt rfl T.set (pe_comp [] [] (pi_seq (pv 0)) (fun _ _ _ _ _ _=>pts_nil)
          (fun _ _ _ _ _ _=>(pe_ix (ix_tupK (K:=K) rfl) (pv 0) (pe_glob (v:=.int 2) rfl plc ⟨_,rfl⟩) (fun _ _=>rfl)))
          rfl (by decide +kernel) (by decide +kernel) rfl (by decide +kernel) (fun _ _ z=>nomatch z) rfl (by decide +kernel) rfl)))),?_⟩
  refine ⟨_,rfl,a,true,rfl,⟨_,Sq.of (tu:=true) ea⟩,fun p hp=>?_⟩
  refine comp_seq (K:=K) (tu:=true) (a:=a) (xs:=vs) (fun i us H2=>Same H H2∧H2 p = some (.lst us)∧us = ((r.take i).map (·.2.2.1)).map V.int) ⟨same_new hp _,upd_same,rfl⟩ (fun i us H2 _ h2=>Sq.of (tu:=true) (h2.1 _ _ ea)) ?_ ?_
  · rintro i v us H2 hv ⟨s2,e2,rfl⟩
    obtain ⟨t,ht,hat⟩:=(ka.mono s2).get hv
    rw [List.getElem?_map] at ht
    obtain ⟨y,hy,rfl⟩:=Option.map_eq_some_iff.mp ht
    obtain ⟨b,ws,rfl,eb,kb⟩:=hat.tup
    obtain ⟨u,hu,hau⟩:=kb.at (i:=2) rfl
    unfold At at hau
    subst hau
    have li:i < r.length:=(List.getElem?_eq_some_iff.mp hy).1
    refine ttT ⟨_,rfl,b,ws,2,_,rfl,rfl,SqT.of eb,atI_nat hu,e2,small (by simp; lia),same_over s2 hp _,upd_same,?_⟩
    rw [List.take_add_one,hy,List.map_append,List.map_append]
    rfl
  · rintro us H2 ⟨s2,e2,rfl⟩
    rw [ln,List.take_length] at e2
    refine ⟨p,r.map (·.2.2.1),rfl,SqL.of e2,by rw [List.length_map]; lia,fun l ms h1 h2 hn=>?_⟩
    exact q l _ ms (s2.trans (same_new hn _)) (s2.free hn) upd_same ⟨h1,h2⟩
end
end K21
set_option maxHeartbeats 4000000
namespace K21
open PySem L2
theorem en_at {H:Hp} {y:Ent} {v:V} (h:At H (enT y) v):∃ b c1 c2 c3,v = .ref b∧H b = some (.tup [c1,c2,c3])∧c1 = .str y.1∧c2 = .str y.2.1∧c3 = .int y.2.2:=by
  obtain ⟨b,ws,rfl,eb,kb⟩:=At.tup h
  match ws,kb.len,kb with
  | [c1,c2,c3],_,kb =>
    obtain ⟨_,h0,a0⟩:=kb.get (i:=0) rfl
    obtain ⟨_,h1,a1⟩:=kb.get (i:=1) rfl
    obtain ⟨_,h2,a2⟩:=kb.get (i:=2) rfl
    cases h0; cases h1; cases h2
    unfold At at a0 a1 a2
    exact ⟨b,c1,c2,c3,rfl,eb,a0,a1,a2⟩
theorem s4_at {H:Hp} {y:S4} {v:V} (h:At H (s4T y) v):∃ b,v = .ref b∧H b = some (.tup [.int y.1,.int y.2.1,.int y.2.2.1,.int y.2.2.2]):=by
  obtain ⟨b,ws,rfl,eb,kb⟩:=At.tup h
  match ws,kb.len,kb with
  | [c1,c2,c3,c4],_,kb =>
    obtain ⟨_,h0,a0⟩:=kb.get (i:=0) rfl
    obtain ⟨_,h1,a1⟩:=kb.get (i:=1) rfl
    obtain ⟨_,h2,a2⟩:=kb.get (i:=2) rfl
    obtain ⟨_,h3,a3⟩:=kb.get (i:=3) rfl
    cases h0; cases h1; cases h2; cases h3
    unfold At at a0 a1 a2 a3
    subst a0 a1 a2 a3
    exact ⟨b,rfl,eb⟩
theorem keepL {H:Hp} {p:Addr} {a b:List V} (h:H p = some (.lst a)):∀ q u,H q = some (.tup u)→upd H p (.lst b) q = some (.tup u):=fun q u e=>by
  rw [upd_ne (ne_of e h (by intro z; cases z))]
  exact e
section
variable {P:Program} {w:World} {K:PySem.W.Frag} {mg:Str→Option Value} {base:Heap} {f fCIn fFIn fDIn fPin fDOt:Addr} {fd dCIn dFIn dDIn dPin dDOt:FuncData} {c:Cl}
theorem scFPt:FnScope ["self"] ["self"] (defScope sFPt):=⟨rfl,rfl,rfl,by decide +kernel,rfl,by decide +kernel,by decide +kernel⟩
theorem ok_FPt (F:Fun K "points" "FileKnot.points" sFPt f fd) (cf:CF K mg c) (hPin:Has K mg "places_in" sPin ["row"] fPin dPin) (GPin:FnOk P w K mg base CX0 1 fPin dPin ["row"] spPin):FnOk P w K mg base CX0 2 f fd ["self"] (spPt c isF):=by
  refine F.ok scFPt (fun vs H Q E h=>?_) (fun cdv A outer s H vs Q E hr h=>?_)
  · obtain ⟨k,x,rfl,_⟩:=h
    rfl
  obtain ⟨k,x,rfl,hk,⟨b,s',r,rfl⟩,hz,q⟩:=h
  obtain ⟨p,dx,v,rfl,e,a⟩:=hk
  refine ⟨_,(pss_one (ps_ret (pe_call GPin (hr.mono (by decide)) rfl hPin.nm hPin.fn.kp hPin.bd .nil pass0 (pc (pe_fld (pv 0) rfl) pa_nil)))),?_⟩
  exact ⟨_,rfl,p,c.KF,dx,_,v,rfl,e,cf.clF,cf.rF,rfl,r,v,rfl,a,hz,q⟩
theorem scDPt:FnScope ["self"] ["self"] (defScope sDPt):=⟨rfl,rfl,rfl,by decide +kernel,rfl,by decide +kernel,by decide +kernel⟩
theorem ok_DPt (F:Fun K "points" "FolderKnot.points" sDPt f fd) (cf:CF K mg c) (T:Txt mg):FnOk P w K mg base CX0 1 f fd ["self"] (spPt c isD):=by
  refine F.ok scDPt (fun vs H Q E h=>?_) (fun cdv A outer s H vs Q E hr h=>?_)
  · obtain ⟨k,x,rfl,_⟩:=h
    rfl
  obtain ⟨k,x,rfl,hk,⟨b,s',es,rfl⟩,hz,q⟩:=h
  obtain ⟨p0,dx,v,rfl,e,hx⟩:=hk
  obtain ⟨a,vs,rfl,ea,ka⟩:=hx.tup
  have ln:=ka.len
  rw [List.length_map] at ln
  have hz':es.length ≤ 20:=hz
  refine ⟨_,(pss_one (ps_ret (pe_sset rfl rfl T.srt rfl T.set (pe_compR (g:=g3 K) ["name","kind","place"] [] [] (pi_seq (pe_fld (pv 0) rfl)) (fun _ _ _ _ _ _=>pg_tup rfl (pgs_cons (pg_name (i:=0) (show (["name","kind","place"]:List Str).Nodup by decide +kernel) rfl (Or.inl rfl)) (pgs_cons (pg_name (i:=1) (show (["name","kind","place"]:List Str).Nodup by decide +kernel) rfl (Or.inl rfl)) (pgs_cons (pg_name (i:=2) (show (["name","kind","place"]:List Str).Nodup by decide +kernel) rfl (Or.inl rfl)) pgs_nil)))) (fun _ _ _ _ _ _=>pts_nil)
          (fun _ _ _ _ _ _=>(pv 2))
          rfl (by decide +kernel) (by decide +kernel) (by decide +kernel) (fun _ _ z=>nomatch z) rfl rfl)))),?_⟩
  refine ⟨_,rfl,p0,c.KD,dx,_,_,rfl,e,cf.clD,cf.eD,rfl,a,true,rfl,⟨_,Sq.of (tu:=true) ea⟩,fun p hp=>?_⟩
  refine comp3 (K:=K) (tu:=true) (a:=a) (xs:=vs) (fun i us H2=>Same H H2∧H2 p = some (.lst us)∧us = ((es.take i).map (·.2.2)).map V.int) ⟨same_new hp _,upd_same,rfl⟩ (fun i us H2 _ h2=>Sq.of (tu:=true) (h2.1 _ _ ea)) ?_ ?_
  · rintro i v us H2 hv ⟨s2,e2,rfl⟩
    obtain ⟨t,ht,hat⟩:=(ka.mono s2).get hv
    rw [List.getElem?_map] at ht
    obtain ⟨y,hy,rfl⟩:=Option.map_eq_some_iff.mp ht
    obtain ⟨b,c1,c2,c3,rfl,eb,rfl,rfl,rfl⟩:=en_at hat
    have li:i < es.length:=(List.getElem?_eq_some_iff.mp hy).1
    refine ⟨b,_,_,_,rfl,SqT.of eb,ttT ⟨_,rfl,e2,small (by simp; lia),same_over s2 hp _,upd_same,?_⟩⟩
    rw [List.take_add_one,hy,List.map_append,List.map_append]
    rfl
  · rintro us H2 ⟨s2,e2,rfl⟩
    rw [ln,List.take_length] at e2
    refine ⟨p,es.map (·.2.2),rfl,SqL.of e2,by rw [List.length_map]; lia,fun l ms h1 h2 hn=>?_⟩
    exact q l _ ms (s2.trans (same_new hn _)) (s2.free hn) upd_same ⟨h1,h2⟩
def mvI (kvs:List (Key×V)) (n:Int):Int:=match valV kvs (Sum.inl n) with
  | some (.int m)=>m
  | _=>n
def Ints (kvs:List (Key×V)):Prop:=∀ k v,(k,v) ∈ kvs→valV kvs k = some v∧∃ n,v = .int n
def mvK (kvs:List (Key×V)):Kn→Kn
  | .cel b cs=>.cel b cs
  | .fil b s r=>.fil b s (r.map fun y=>(y.1,y.2.1,mvI kvs y.2.2.1,y.2.2.2))
  | .fol b m es=>.fol b m (es.map fun y=>(y.1,y.2.1,mvI kvs y.2.2))
theorem valV_mem {κ:Type} [DecidableEq κ] {k:κ} {v:V}:∀ {kvs:List (κ×V)},valV kvs k = some v→(k,v) ∈ kvs
  | p :: r,h=>by
    unfold valV at h
    rw [List.find?_cons] at h
    by_cases e:p.1 = k
    · rw [decide_eq_true e] at h
      cases h
      subst e
      exact List.mem_cons_self ..
    · rw [decide_eq_false e] at h
      exact List.mem_cons_of_mem _ (valV_mem h)
theorem mv_get {kvs:List (Key×V)} (h:Ints kvs) (n:Int):(valV kvs (Sum.inl n)).getD (.int n) = .int (mvI kvs n):=by
  unfold mvI
  cases e:valV kvs (Sum.inl n) with
  | none=>rfl
  | some v =>
    obtain ⟨_,m,rfl⟩:=h _ _ (valV_mem e)
    rfl
def spMv (c:Cl) (k0:Kn→Prop):Sp:=fun vs H Q _=>∃ k x d kvs,vs = [x,.ref d]∧KnAt c H k x∧k0 k∧szK k ≤ 20∧H d = some (.dK kvs)∧Ints kvs∧∀ y H',Same H H'→KnAt c H' (mvK kvs k) y→Q y H'
theorem scCMv:FnScope ["self","places"] ["self","places"] (defScope sCMv):=⟨rfl,rfl,rfl,by decide +kernel,rfl,by decide +kernel,by decide +kernel⟩
theorem ok_CMv (F:Fun K "moved" "CellsKnot.moved" sCMv f fd) (cf:CF K mg c) (CInmk:Mk K c.KC fCIn) (CInnm:mg "CellsKnot" = some (.ref c.KC)) (CInbd:Binds K dCIn ["self","born","cells"] []) (GCIn:FnOk P w K mg base CX0 2 fCIn dCIn ["self","born","cells"] (spCIn c)):FnOk P w K mg base CX0 4 f fd ["self","places"] (spMv c isC):=by
  refine F.ok scCMv (fun vs H Q E h=>?_) (fun cdv A outer s H vs Q E hr h=>?_)
  · obtain ⟨k,x,d,kvs,rfl,_⟩:=h
    rfl
  obtain ⟨k,x,d,kvs,rfl,hk,⟨b,cs,rfl⟩,hz,hd,hi,q⟩:=h
  obtain ⟨p,dx,v,rfl,e,a⟩:=hk
  refine ⟨_,(pss_one (ps_ret (pe_make CInmk GCIn (hr.mono (by decide)) rfl CInnm CInbd .nil pass0 (pc (pe_fld (pv 0) rfl) (pc (pe_fld (pv 0) rfl) pa_nil))))),?_⟩
  exact ⟨_,rfl,p,c.KC,dx,_,_,rfl,e,cf.clC,cf.bC,rfl,_,rfl,p,c.KC,dx,_,_,rfl,e,cf.clC,cf.cC,rfl,mk_C (.inl a) fun x H' s' hk=>q x H' s' hk⟩
theorem scFMv:FnScope ["self","places","row"] ["self","places"] (defScope sFMv):=⟨rfl,rfl,rfl,by decide +kernel,rfl,by decide +kernel,by decide +kernel⟩
theorem ok_FMv (F:Fun K "moved" "FileKnot.moved" sFMv f fd) (cf:CF K mg c) (FInmk:Mk K c.KF fFIn) (FInnm:mg "FileKnot" = some (.ref c.KF)) (FInbd:Binds K dFIn ["self","born","size","row"] []) (GFIn:FnOk P w K mg base CX0 2 fFIn dFIn ["self","born","size","row"] (spFIn c)):FnOk P w K mg base CX0 4 f fd ["self","places"] (spMv c isF):=by
  refine F.ok scFMv (fun vs H Q E h=>?_) (fun cdv A outer s H vs Q E hr h=>?_)
  · obtain ⟨k,x,d,kvs,rfl,_⟩:=h
    rfl
  obtain ⟨k,x,d,kvs,rfl,hk,⟨b,s',r,rfl⟩,hz,hd,hi,q⟩:=h
  obtain ⟨p0,dx,v,rfl,e,hx⟩:=hk
  obtain ⟨a,vs,rfl,ea,ka⟩:=hx.tup
  have ln:=ka.len
  rw [List.length_map] at ln
  have hz':r.length ≤ 20:=hz
  have hu:=hu_of hr
  refine ⟨_,(pss_cons (ps_setCR (g:=g4 K) (i:=2) scFMv.nd rfl rfl ["at","long","place","skip"] [1] ["places"] (pi_seq (pe_fld (pv 0) rfl)) (fun _ _ _ _ _ _=>pg_tup rfl (pgs_cons (pg_name (i:=0) (show (["at","long","place","skip","places"]:List Str).Nodup by decide +kernel) rfl (Or.inl rfl)) (pgs_cons (pg_name (i:=1) (show (["at","long","place","skip","places"]:List Str).Nodup by decide +kernel) rfl (Or.inl rfl)) (pgs_cons (pg_name (i:=2) (show (["at","long","place","skip","places"]:List Str).Nodup by decide +kernel) rfl (Or.inl rfl)) (pgs_cons (pg_name (i:=3) (show (["at","long","place","skip","places"]:List Str).Nodup by decide +kernel) rfl (Or.inl rfl)) pgs_nil))))) (fun _ _ _ _ _ _=>pts_nil)
          (fun _ _ _ _ _ _=>(pe_tup (pc (pv 0) (pc (pv 1) (pc (pe_dget2 hu (pv 4) (pv 2) (pv 2) ⟨rfl,rfl,rfl,rfl⟩) (pc (pv 3) pa_nil))))))
          rfl (by decide +kernel) (by decide +kernel) (by decide +kernel) (fun j y hj=>by
            match j,hj with
            | 0,hj=>cases hj; exact ⟨1,rfl,rfl,rfl,.inl rfl⟩) rfl rfl)
    (pss_one (ps_ret (pe_make FInmk GFIn (hr.mono (by decide)) rfl FInnm FInbd .nil pass0 (pc (pe_fld (pv 0) rfl) (pc (pe_fld (pv 0) rfl) (pc (pv 2) pa_nil))))))),?_⟩
  refine ⟨_,rfl,p0,c.KF,dx,_,_,rfl,e,cf.clF,cf.rF,rfl,a,true,rfl,⟨_,Sq.of (tu:=true) ea⟩,fun p hp=>?_⟩
  refine comp4 (K:=K) (tu:=true) (a:=a) (xs:=vs) (fun i us H2=>Same H H2∧H2 p = some (.lst us)∧Ats H2 (((r.take i).map fun y=>(y.1,y.2.1,mvI kvs y.2.2.1,y.2.2.2)).map s4T) us) ⟨same_new hp _,upd_same,Ats.nil _⟩ (fun i us H2 _ h2=>Sq.of (tu:=true) (h2.1 _ _ ea)) ?_ ?_
  · rintro i v us H2 hv ⟨s2,e2,k2⟩
    obtain ⟨t,ht,hat⟩:=(ka.mono s2).get hv
    rw [List.getElem?_map] at ht
    obtain ⟨y,hy,rfl⟩:=Option.map_eq_some_iff.mp ht
    obtain ⟨q1,rfl,eb⟩:=s4_at hat
    have li:i < r.length:=(List.getElem?_eq_some_iff.mp hy).1
    have lu:=k2.len
    rw [List.length_map,List.length_map,List.length_take] at lu
    refine ⟨q1,_,_,_,_,rfl,SqT.of eb,ttT ?_⟩
    refine ⟨_,rfl,_,rfl,_,rfl,d,rfl,.inl ⟨_,.inl (s2 _ _ hd)⟩,_,rfl,_,rfl,_,DGet.k (k:=Sum.inl y.2.2.1) (s2 _ _ hd),?_⟩
    rw [mv_get hi]
    refine ⟨_,rfl,(by show 4 ≤ sizeLine; decide),fun t ht=>⟨same_new ht _ _ _ e2,small (by lia),same_over (s2.trans (same_new ht _)) hp _,upd_same,?_⟩⟩
    rw [List.take_add_one,hy,List.map_append,List.map_append]
    have kt:∀ q u,upd H2 t (.tup [.int y.1,.int y.2.1,.int (mvI kvs y.2.2.1),.int y.2.2.2]) q = some (.tup u)→upd (upd H2 t (.tup [.int y.1,.int y.2.1,.int (mvI kvs y.2.2.1),.int y.2.2.2])) p (.lst (us ++ [.ref t])) q = some (.tup u):=keepL (same_new ht _ _ _ e2)
    refine Ats.keepT kt (nls_of fun t m=>?_) (Ats.app (Ats.cons (At.mkT upd_same (Ats.cons (At.int _) (Ats.cons (At.int _) (Ats.cons (At.int _) (Ats.cons (At.int _) (Ats.nil _)))))) (Ats.nil _)) (k2.mono (same_new ht _)))
    rcases List.mem_append.mp m with m | m
    · obtain ⟨z,_,rfl⟩:=List.mem_map.mp m
      rfl
    · rw [List.mem_singleton.mp m]
      rfl
  · rintro us H2 ⟨s2,e2,k2⟩
    rw [ln,List.take_length] at k2
    exact ⟨_,rfl,p0,c.KF,dx,_,_,rfl,s2 _ _ e,cf.clF,cf.bF,rfl,_,rfl,p0,c.KF,dx,_,_,rfl,s2 _ _ e,cf.clF,cf.sF,rfl,_,rfl,mk_F (.inr (At.mkL e2 k2)) fun x H' s' hk=>q x H' (s2.trans s') hk⟩
end
end K21
set_option maxHeartbeats 4000000
namespace K21
open PySem L2
section
variable {P:Program} {w:World} {K:PySem.W.Frag} {mg:Str→Option Value} {base:Heap} {f fCIn fFIn fDIn fPin fDOt:Addr} {fd dCIn dFIn dDIn dPin dDOt:FuncData} {c:Cl}
theorem scDMv:FnScope ["self","places","entries"] ["self","places"] (defScope sDMv):=⟨rfl,rfl,rfl,by decide +kernel,rfl,by decide +kernel,by decide +kernel⟩
theorem ok_DMv (F:Fun K "moved" "FolderKnot.moved" sDMv f fd) (cf:CF K mg c) (DInmk:Mk K c.KD fDIn) (DInnm:mg "FolderKnot" = some (.ref c.KD)) (DInbd:Binds K dDIn ["self","born","limit","entries"] []) (GDIn:FnOk P w K mg base CX0 2 fDIn dDIn ["self","born","limit","entries"] (spDIn c)):FnOk P w K mg base CX0 4 f fd ["self","places"] (spMv c isD):=by
  refine F.ok scDMv (fun vs H Q E h=>?_) (fun cdv A outer s H vs Q E hr h=>?_)
  · obtain ⟨k,x,d,kvs,rfl,_⟩:=h
    rfl
  obtain ⟨k,x,d,kvs,rfl,hk,⟨b,s',r,rfl⟩,hz,hd,hi,q⟩:=h
  obtain ⟨p0,dx,v,rfl,e,hx⟩:=hk
  obtain ⟨a,vs,rfl,ea,ka⟩:=hx.tup
  have ln:=ka.len
  rw [List.length_map] at ln
  have hz':r.length ≤ 20:=hz
  have hu:=hu_of hr
  refine ⟨_,(pss_cons (ps_setCR (g:=g3 K) (i:=2) scDMv.nd rfl rfl ["name","kind","place"] [1] ["places"] (pi_seq (pe_fld (pv 0) rfl)) (fun _ _ _ _ _ _=>pg_tup rfl (pgs_cons (pg_name (i:=0) (show (["name","kind","place","places"]:List Str).Nodup by decide +kernel) rfl (Or.inl rfl)) (pgs_cons (pg_name (i:=1) (show (["name","kind","place","places"]:List Str).Nodup by decide +kernel) rfl (Or.inl rfl)) (pgs_cons (pg_name (i:=2) (show (["name","kind","place","places"]:List Str).Nodup by decide +kernel) rfl (Or.inl rfl)) pgs_nil)))) (fun _ _ _ _ _ _=>pts_nil)
          (fun _ _ _ _ _ _=>(pe_tup (pc (pv 0) (pc (pv 1) (pc (pe_dget2 hu (pv 3) (pv 2) (pv 2) ⟨rfl,rfl,rfl,rfl⟩) pa_nil)))))
          rfl (by decide +kernel) (by decide +kernel) (by decide +kernel) (fun j y hj=>by
            match j,hj with
            | 0,hj=>cases hj; exact ⟨1,rfl,rfl,rfl,.inl rfl⟩) rfl rfl)
    (pss_one (ps_ret (pe_make DInmk GDIn (hr.mono (by decide)) rfl DInnm DInbd .nil pass0 (pc (pe_fld (pv 0) rfl) (pc (pe_fld (pv 0) rfl) (pc (pv 2) pa_nil))))))),?_⟩
  refine ⟨_,rfl,p0,c.KD,dx,_,_,rfl,e,cf.clD,cf.eD,rfl,a,true,rfl,⟨_,Sq.of (tu:=true) ea⟩,fun p hp=>?_⟩
  refine comp3 (K:=K) (tu:=true) (a:=a) (xs:=vs) (fun i us H2=>Same H H2∧H2 p = some (.lst us)∧Ats H2 (((r.take i).map fun y=>(y.1,y.2.1,mvI kvs y.2.2)).map enT) us) ⟨same_new hp _,upd_same,Ats.nil _⟩ (fun i us H2 _ h2=>Sq.of (tu:=true) (h2.1 _ _ ea)) ?_ ?_
  · rintro i v us H2 hv ⟨s2,e2,k2⟩
    obtain ⟨t,ht,hat⟩:=(ka.mono s2).get hv
    rw [List.getElem?_map] at ht
    obtain ⟨y,hy,rfl⟩:=Option.map_eq_some_iff.mp ht
    obtain ⟨q1,c1,c2,c3,rfl,eb,rfl,rfl,rfl⟩:=en_at hat
    have li:i < r.length:=(List.getElem?_eq_some_iff.mp hy).1
    have lu:=k2.len
    rw [List.length_map,List.length_map,List.length_take] at lu
    refine ⟨q1,_,_,_,rfl,SqT.of eb,ttT ?_⟩
    refine ⟨_,rfl,_,rfl,_,rfl,d,rfl,.inl ⟨_,.inl (s2 _ _ hd)⟩,_,rfl,_,rfl,_,DGet.k (k:=Sum.inl y.2.2) (s2 _ _ hd),?_⟩
    rw [mv_get hi]
    refine ⟨(by show 3 ≤ sizeLine; decide),fun t ht=>⟨same_new ht _ _ _ e2,small (by lia),same_over (s2.trans (same_new ht _)) hp _,upd_same,?_⟩⟩
    rw [List.take_add_one,hy,List.map_append,List.map_append]
    have kt:∀ q u,upd H2 t (.tup [.str y.1,.str y.2.1,.int (mvI kvs y.2.2)]) q = some (.tup u)→upd (upd H2 t (.tup [.str y.1,.str y.2.1,.int (mvI kvs y.2.2)])) p (.lst (us ++ [.ref t])) q = some (.tup u):=keepL (same_new ht _ _ _ e2)
    refine Ats.keepT kt (nls_of fun t m=>?_) (Ats.app (Ats.cons (At.mkT upd_same (Ats.cons (At.str _) (Ats.cons (At.str _) (Ats.cons (At.int _) (Ats.nil _))))) (Ats.nil _)) (k2.mono (same_new ht _)))
    rcases List.mem_append.mp m with m | m
    · obtain ⟨z,_,rfl⟩:=List.mem_map.mp m
      rfl
    · rw [List.mem_singleton.mp m]
      rfl
  · rintro us H2 ⟨s2,e2,k2⟩
    rw [ln,List.take_length] at k2
    exact ⟨_,rfl,p0,c.KD,dx,_,_,rfl,s2 _ _ e,cf.clD,cf.bD,rfl,_,rfl,p0,c.KD,dx,_,_,rfl,s2 _ _ e,cf.clD,cf.lD,rfl,_,rfl,mk_D (.inr (At.mkL e2 k2)) fun x H' s' hk=>q x H' (s2.trans s') hk⟩
def fndE (es:List Ent) (n:Str):Option Ent:=es.find? fun e=>decide (e.1 = n)
def EnAt (H:Hp) (o:Option Ent) (v:V):Prop:=match o with
  | none=>v = .non
  | some e=>At H (.tup [.str e.2.1,.int e.2.2]) v
def spDEn (c:Cl):Sp:=fun vs H Q _=>∃ b m es x n,vs = [x,.str n]∧KnAt c H (.fol b m es) x∧∀ v H',Same H H'→EnAt H' (fndE es n) v→Q v H'
theorem fnd_drop {es:List Ent} {n:Str} {i:Nat} {y:Ent} (hy:es[i]? = some y) (h:fndE es n = fndE (es.drop i) n):fndE es n = if decide (y.1 = n) = true then some y else fndE (es.drop (i + 1)) n:=by
  rw [h]
  have li:i < es.length:=(List.getElem?_eq_some_iff.mp hy).1
  rw [List.drop_eq_getElem_cons li]
  have ey:es[i] = y:=(List.getElem?_eq_some_iff.mp hy).2
  rw [ey]
  unfold fndE
  rw [List.find?_cons]
  cases decide (y.1 = n) <;> rfl
theorem scDEn:FnScope ["self","name","known","kind","place"] ["self","name"] (defScope sDEn):=⟨rfl,rfl,rfl,by decide +kernel,rfl,by decide +kernel,by decide +kernel⟩
theorem ok_DEn (F:Fun K "entry" "FolderKnot.entry" sDEn f fd) (cf:CF K mg c):FnOk P w K mg base CX0 1 f fd ["self","name"] (spDEn c):=by
  refine F.ok scDEn (fun vs H Q E h=>?_) (fun cdv A outer s H vs Q E hr h=>?_)
  · obtain ⟨b,m,es,x,n,rfl,_⟩:=h
    rfl
  obtain ⟨b,m,es,x,n,rfl,hk,q⟩:=h
  obtain ⟨p0,dx,v,rfl,e,hx⟩:=hk
  obtain ⟨a,vs,rfl,ea,ka⟩:=hx.tup
  have ln:=ka.len
  rw [List.length_map] at ln
  refine ⟨_,(pss_cons (ps_for PassesOwn.never rfl (pi_seq (pe_fld (pv 0) rfl)) (pg_tup rfl (pgs_cons (pg_name (i:=2) scDEn.nd rfl (Or.inl rfl)) (pgs_cons (pg_name (i:=3) scDEn.nd rfl (Or.inl rfl)) (pgs_cons (pg_name (i:=4) scDEn.nd rfl (Or.inl rfl)) pgs_nil))))
    (pss_one (ps_if (pt_cmpR op_eq (pv 2) (pv 1) (nomark _))
    (pss_one (ps_ret (pe_tup (pc (pv 3) (pc (pv 4) pa_nil)))))
    pss_nil)))
    (pss_one (ps_ret pe_non))),?_⟩
  refine ⟨_,rfl,p0,c.KD,dx,_,_,rfl,e,cf.clD,cf.eD,rfl,a,true,rfl,⟨_,Sq.of (tu:=true) ea⟩,?_⟩
  refine for_seq (K:=K) (tu:=true) (a:=a) (xs:=vs) (fun i σ H2=>H2 = H∧(∃ o1 o2 o3,σ = [some (.ref p0),some (.str n),o1,o2,o3])∧fndE es n = fndE (es.drop i) n) ⟨rfl,⟨_,_,_,rfl⟩,rfl⟩ (fun i σ H2 _ h2=>by rw [h2.1]; exact Sq.of (tu:=true) ea) ?_ ?_
  · rintro i v σ H2 hv ⟨rfl,⟨o1,o2,o3,rfl⟩,hf⟩
    obtain ⟨t,ht,hat⟩:=ka.get hv
    rw [List.getElem?_map] at ht
    obtain ⟨y,hy,rfl⟩:=Option.map_eq_some_iff.mp ht
    obtain ⟨q1,c1,c2,c3,rfl,eb,rfl,rfl,rfl⟩:=en_at hat
    have fd:=fnd_drop hy hf
    refine ⟨q1,_,rfl,SqT.of eb,rfl,_,_,rfl,_,_,rfl,_,_,rfl,rfl,?_⟩
    refine ⟨_,rfl,_,rfl,rfl,_,rfl,?_⟩
    have ed:decide (V.str y.1 = V.str n) = decide (y.1 = n):=decide_eq_decide.mpr ⟨fun h=>by injection h,fun h=>by rw [h]⟩
    rw [ed]
    refine ite2 (fun k=>?_) (fun k=>?_)
    · rw [if_pos k] at fd
      refine ⟨_,rfl,_,rfl,(by show 2 ≤ sizeLine; decide),fun t ht=>q _ _ (same_new ht _) ?_⟩
      rw [fd]
      exact At.mkT upd_same (Ats.cons (At.str _) (Ats.cons (At.int _) (Ats.nil _)))
    · rw [if_neg k] at fd
      exact ⟨rfl,⟨_,_,_,rfl⟩,fd⟩
  · rintro σ H2 ⟨rfl,⟨o1,o2,o3,rfl⟩,hf⟩
    refine q _ _ (Same.refl _) ?_
    rw [hf,ln,List.drop_length]
    rfl
def othE (es:List Ent) (n:Str):List Ent:=es.filter fun e=>decide (e.1 ≠ n)
def spDOt (c:Cl):Sp:=fun vs H Q _=>∃ b m es x n,vs = [x,.str n]∧KnAt c H (.fol b m es) x∧es.length ≤ 20∧∀ p H' us,Same H H'→H p = none→H' p = some (.lst us)→Ats H' ((othE es n).map enT) us→Q (.ref p) H'
theorem scDOt:FnScope ["self","name"] ["self","name"] (defScope sDOt):=⟨rfl,rfl,rfl,by decide +kernel,rfl,by decide +kernel,by decide +kernel⟩
theorem ok_DOt (F:Fun K "others" "FolderKnot.others" sDOt f fd) (cf:CF K mg c):FnOk P w K mg base CX0 1 f fd ["self","name"] (spDOt c):=by
  refine F.ok scDOt (fun vs H Q E h=>?_) (fun cdv A outer s H vs Q E hr h=>?_)
  · obtain ⟨b,m,es,x,n,rfl,_⟩:=h
    rfl
  obtain ⟨b,m,es,x,n,rfl,hk,hz,q⟩:=h
  obtain ⟨p0,dx,v,rfl,e,hx⟩:=hk
  obtain ⟨a,vs,rfl,ea,ka⟩:=hx.tup
  have ln:=ka.len
  rw [List.length_map] at ln
  refine ⟨_,(pss_one (ps_ret (pe_comp [1] ["name"] (pi_seq (pe_fld (pv 0) rfl)) (fun _ _ _ _ _ _=>(pts_one (pt_cmpR op_ne (pe_ix (ix_tupK (K:=K) rfl) (pv 0) pe_int (fun _ _=>rfl)) (pv 1) (nomark _))))
          (fun _ _ _ _ _ _=>(pv 0))
          rfl (by decide +kernel) (by decide +kernel) rfl (by decide +kernel) (fun j y hj=>by
            match j,hj with
            | 0,hj=>cases hj; exact ⟨1,rfl,rfl,rfl,.inl rfl⟩) rfl (by decide +kernel) rfl))),?_⟩
  refine ⟨_,rfl,p0,c.KD,dx,_,_,rfl,e,cf.clD,cf.eD,rfl,a,true,rfl,⟨_,Sq.of (tu:=true) ea⟩,fun p hp=>?_⟩
  refine comp_seq (K:=K) (tu:=true) (a:=a) (xs:=vs) (fun i us H2=>Same H H2∧H2 p = some (.lst us)∧Ats H2 ((othE (es.take i) n).map enT) us) ⟨same_new hp _,upd_same,Ats.nil _⟩ (fun i us H2 _ h2=>Sq.of (tu:=true) (h2.1 _ _ ea)) ?_ ?_
  · rintro i v us H2 hv ⟨s2,e2,k2⟩
    obtain ⟨t,ht,hat⟩:=(ka.mono s2).get hv
    rw [List.getElem?_map] at ht
    obtain ⟨y,hy,rfl⟩:=Option.map_eq_some_iff.mp ht
    have hat':=hat
    obtain ⟨q1,c1,c2,c3,rfl,eb,rfl,rfl,rfl⟩:=en_at hat
    have li:i < es.length:=(List.getElem?_eq_some_iff.mp hy).1
    have lu:=k2.len
    have lf:=List.length_filter_le (fun e:Ent=>decide (e.1 ≠ n)) (es.take i)
    rw [List.length_map] at lu
    unfold othE at lu
    rw [List.length_take] at lf
    refine ⟨_,rfl,q1,_,0,_,rfl,rfl,SqT.of eb,atI_nat (j:=0) rfl,_,rfl,rfl,_,rfl,?_⟩
    have ed:decide (V.str y.1 = V.str n) = decide (y.1 = n):=decide_eq_decide.mpr ⟨fun h=>by injection h,fun h=>by rw [h]⟩
    rw [ed]
    have et:othE (es.take (i + 1)) n = othE (es.take i) n ++ (if decide (y.1 ≠ n) = true then [y] else []):=by
      unfold othE
      rw [List.take_add_one,hy,List.filter_append]
      congr 1
      show List.filter _ [y] = _
      rw [List.filter_cons]
      rfl
    rw [et,show (!decide (y.1 = n)) = decide (y.1 ≠ n) by rw [decide_not]]
    refine ite2 (fun k=>?_) (fun k=>?_)
    · rw [if_pos k,List.map_append]
      refine ⟨_,rfl,e2,small (by lia),same_over s2 hp _,upd_same,?_⟩
      exact Ats.keepT (keepL e2) (nls_of fun t m=>by
        rcases List.mem_append.mp m with m | m
        · obtain ⟨z,_,rfl⟩:=List.mem_map.mp m
          rfl
        · rw [List.mem_singleton.mp m]
          rfl) (Ats.app (Ats.cons hat' (Ats.nil _)) k2)
    · rw [if_neg k,List.append_nil]
      exact ⟨s2,e2,k2⟩
  · rintro us H2 ⟨s2,e2,k2⟩
    rw [ln,List.take_length] at k2
    exact q p H2 us s2 hp e2 k2
end
end K21
set_option maxHeartbeats 4000000
namespace K21
open PySem L2
def e0:Ent:=(Str.empty,Str.empty,0)
def srtE (l:List Ent):List Ent:=(ordS (l.map (·.1))).map fun i=>l.getD i e0
theorem ats_pick {H:Hp} {l:List Ent} {vs:List V} (k:Ats H (l.map enT) vs):∀ ix:List Nat,(∀ i ∈ ix,i < l.length)→Ats H ((ix.map fun i=>l.getD i e0).map enT) (ix.map fun i=>vs.getD i V.non)
  | [],_=>Ats.nil _
  | i :: ix,h=>by
    have hi:=h i (List.mem_cons_self ..)
    have lv:=k.len
    rw [List.length_map] at lv
    obtain ⟨v,hv,hat⟩:=k.at (i:=i) (t:=enT l[i]) (by rw [List.getElem?_map,List.getElem?_eq_getElem hi]; rfl)
    refine Ats.cons ?_ (ats_pick k ix fun j hj=>h j (List.mem_cons_of_mem _ hj))
    dsimp only
    rw [List.getD_eq_getElem?_getD,List.getD_eq_getElem?_getD,hv,List.getElem?_eq_getElem hi]
    exact hat
theorem ats_srt {H:Hp} {l:List Ent} {vs:List V} (k:Ats H (l.map enT) vs):Ats H ((srtE l).map enT) (ordV (l.map (·.1)) vs):=by
  refine ats_pick k _ fun i hi=>?_
  have:=(ordS_perm (l.map (·.1))).mem_iff.mp hi
  rw [List.length_map] at this
  exact List.mem_range.mp this
theorem srt_len (l:List Ent):(srtE l).length = l.length:=by
  unfold srtE
  rw [List.length_map,(ordS_perm _).length_eq,List.length_range,List.length_map]
theorem ent_first {H:Hp} {l:List Ent} {vs:List V} (k:Ats H (l.map enT) vs):∀ (i:Nat) v z,vs[i]? = some v→(l.map (·.1))[i]? = some z→∃ b ws,v = .ref b∧H b = some (.tup (.str z :: ws)):=by
  intro i v z hv hz
  obtain ⟨t,ht,hat⟩:=k.get hv
  rw [List.getElem?_map] at ht hz
  obtain ⟨y,hy,rfl⟩:=Option.map_eq_some_iff.mp ht
  rw [hy] at hz
  cases hz
  obtain ⟨b,c1,c2,c3,rfl,eb,rfl,rfl,rfl⟩:=en_at hat
  exact ⟨b,_,rfl,eb⟩
def addE (es:List Ent) (y:Ent):List Ent:=othE es y.1 ++ [y]
theorem add_len (es:List Ent) (y:Ent):(addE es y).length ≤ es.length + 1:=by
  unfold addE othE
  rw [List.length_append]
  have:=List.length_filter_le (fun e:Ent=>decide (e.1 ≠ y.1)) es
  simp only [List.length_cons,List.length_nil]
  lia
theorem add_nodup {es:List Ent} {y:Ent} (h:(es.map (·.1)).Nodup):((addE es y).map (·.1)).Nodup:=by
  unfold addE
  rw [List.map_append]
  refine List.nodup_append.mpr ⟨?_,by simp,fun a ha b hb=>?_⟩
  · exact h.sublist ((List.filter_sublist ..).map _)
  · obtain ⟨e,he,rfl⟩:=List.mem_map.mp ha
    have:=(List.mem_filter.mp he).2
    have ne:e.1 ≠ y.1:=of_decide_eq_true this
    have:b = y.1:=by simpa using hb
    rw [this]
    exact ne
section
variable {P:Program} {w:World} {K:PySem.W.Frag} {mg:Str→Option Value} {base:Heap} {f fCIn fFIn fDIn fPin fDOt:Addr} {fd dCIn dFIn dDIn dPin dDOt:FuncData} {c:Cl}
def spDWe (c:Cl):Sp:=fun vs H Q _=>∃ (b m b2:Int) (es:List Ent) (x:V) (y:Ent),vs = [x,.int b2,.str y.1,.str y.2.1,.int y.2.2]∧KnAt c H (.fol b m es) x∧es.length ≤ 20∧(es.map (·.1)).Nodup∧∀ z H',Same H H'→KnAt c H' (.fol b2 m (srtE (addE es y))) z→Q z H'
theorem scDWe:FnScope ["self","born","name","kind","place"] ["self","born","name","kind","place"] (defScope sDWe):=⟨rfl,rfl,rfl,by decide +kernel,rfl,by decide +kernel,by decide +kernel⟩
theorem ok_DWe (F:Fun K "with_entry" "FolderKnot.with_entry" sDWe f fd) (cf:CF K mg c) (DInmk:Mk K c.KD fDIn) (DInnm:mg "FolderKnot" = some (.ref c.KD)) (DInbd:Binds K dDIn ["self","born","limit","entries"] []) (GDIn:FnOk P w K mg base CX0 2 fDIn dDIn ["self","born","limit","entries"] (spDIn c))
    (hDOt:MHas K c.KD "others" "FolderKnot.others" sDOt ["self","name"] fDOt dDOt) (GDOt:FnOk P w K mg base CX0 1 fDOt dDOt ["self","name"] (spDOt c)) (T:Txt mg):FnOk P w K mg base CX0 4 f fd ["self","born","name","kind","place"] (spDWe c):=by
  refine F.ok scDWe (fun vs H Q E h=>?_) (fun cdv A outer s H vs Q E hr h=>?_)
  · obtain ⟨b,m,b2,es,x,y,rfl,_⟩:=h
    rfl
  obtain ⟨b,m,b2,es,x,y,rfl,hk,hz,nd,q⟩:=h
  have hk0:=hk
  obtain ⟨p0,dx,v,rfl,e,hx⟩:=hk
  refine ⟨_,(pss_one (ps_ret (pe_make DInmk GDIn (hr.mono (by decide)) rfl DInnm DInbd .nil pass0 (pc (pv 1) (pc (pe_fld (pv 0) rfl) (pc (pe_callB (call_sortedP (tu:=false)) rfl T.srt PyProof.Rows.boot_sorted (pc (pe_op op_cat (pe_meth (pv 0) cf.clD hDOt.me GDOt (hr.mono (by decide)) hDOt.bd .nil pass0 (pc (pv 2) pa_nil)) (pe_lst (pc (pe_tup (pc (pv 2) (pc (pv 3) (pc (pv 4) pa_nil)))) pa_nil))) pa_nil)) pa_nil)))))),?_⟩
  refine ⟨_,rfl,_,rfl,p0,c.KD,dx,_,_,rfl,e,cf.clD,cf.lD,rfl,?_⟩
  refine ⟨_,rfl,p0,dx,_,rfl,e,rfl,_,rfl,b,m,es,_,_,rfl,hk0,hz,fun p H1 us s1 hp e1 k1=>?_⟩
  refine ⟨_,rfl,_,rfl,_,rfl,(by show 3 ≤ sizeLine; decide),fun t ht=>⟨(by show 1 ≤ sizeLine; decide),fun l hl=>?_⟩⟩
  have lo:us.length ≤ 20:=by
    have:=k1.len
    have lf:=List.length_filter_le (fun e:Ent=>decide (e.1 ≠ y.1)) es
    rw [List.length_map] at this
    unfold othE at this
    lia
  have sA:=(same_new ht (HO.tup [V.str y.1,V.str y.2.1,V.int y.2.2])).trans (same_new hl (HO.lst [V.ref t]))
  have el:upd (upd H1 t (.tup [.str y.1,.str y.2.1,.int y.2.2])) l (.lst [.ref t]) l = some (.lst [.ref t]):=upd_same
  refine ⟨p,l,us,[.ref t],rfl,rfl,sA _ _ e1,el,Nat.le_of_lt (small (by simp; lia)),fun r hr'=>?_⟩
  have sB:=sA.trans (same_new hr' (HO.lst (us ++ [V.ref t])))
  have kA:Ats (upd (upd (upd H1 t (.tup [.str y.1,.str y.2.1,.int y.2.2])) l (.lst [.ref t])) r (.lst (us ++ [.ref t]))) ((addE es y).map enT) (us ++ [.ref t]):=by
    unfold addE
    rw [List.map_append]
    refine Ats.app (Ats.cons (At.mkT (vs:=[.str y.1,.str y.2.1,.int y.2.2]) ?_ (Ats.cons (At.str _) (Ats.cons (At.str _) (Ats.cons (At.int _) (Ats.nil _))))) (Ats.nil _)) (k1.mono sB)
    exact same_new hr' _ _ _ (same_new hl _ _ _ upd_same)
  have lA:=kA.len
  have al:=add_len es y
  rw [List.length_map] at lA
  refine ⟨r,us ++ [.ref t],(addE es y).map (·.1),rfl,SqL.of upd_same,by lia,by rw [List.length_map]; exact lA,ent_first kA,add_nodup nd,fun o ho=>?_⟩
  have sC:=sB.trans (same_new ho (HO.lst (ordV ((addE es y).map (·.1)) (us ++ [V.ref t]))))
  exact mk_D (.inr (At.mkL upd_same ((ats_srt kA).mono (same_new ho _)))) fun z H' s' hz=>q z H' (s1.trans (sC.trans s')) hz
def spDWo (c:Cl):Sp:=fun vs H Q _=>∃ (b m b2:Int) (es:List Ent) (x:V) (n:Str),vs = [x,.int b2,.str n]∧KnAt c H (.fol b m es) x∧es.length ≤ 20∧∀ z H',Same H H'→KnAt c H' (.fol b2 m (othE es n)) z→Q z H'
theorem scDWo:FnScope ["self","born","name"] ["self","born","name"] (defScope sDWo):=⟨rfl,rfl,rfl,by decide +kernel,rfl,by decide +kernel,by decide +kernel⟩
theorem ok_DWo (F:Fun K "without_entry" "FolderKnot.without_entry" sDWo f fd) (cf:CF K mg c) (DInmk:Mk K c.KD fDIn) (DInnm:mg "FolderKnot" = some (.ref c.KD)) (DInbd:Binds K dDIn ["self","born","limit","entries"] []) (GDIn:FnOk P w K mg base CX0 2 fDIn dDIn ["self","born","limit","entries"] (spDIn c))
    (hDOt:MHas K c.KD "others" "FolderKnot.others" sDOt ["self","name"] fDOt dDOt) (GDOt:FnOk P w K mg base CX0 1 fDOt dDOt ["self","name"] (spDOt c)):FnOk P w K mg base CX0 4 f fd ["self","born","name"] (spDWo c):=by
  refine F.ok scDWo (fun vs H Q E h=>?_) (fun cdv A outer s H vs Q E hr h=>?_)
  · obtain ⟨b,m,b2,es,x,n,rfl,_⟩:=h
    rfl
  obtain ⟨b,m,b2,es,x,n,rfl,hk,hz,q⟩:=h
  have hk0:=hk
  obtain ⟨p0,dx,v,rfl,e,hx⟩:=hk
  refine ⟨_,(pss_one (ps_ret (pe_make DInmk GDIn (hr.mono (by decide)) rfl DInnm DInbd .nil pass0 (pc (pv 1) (pc (pe_fld (pv 0) rfl) (pc (pe_meth (pv 0) cf.clD hDOt.me GDOt (hr.mono (by decide)) hDOt.bd .nil pass0 (pc (pv 2) pa_nil)) pa_nil)))))),?_⟩
  refine ⟨_,rfl,_,rfl,p0,c.KD,dx,_,_,rfl,e,cf.clD,cf.lD,rfl,?_⟩
  refine ⟨_,rfl,p0,dx,_,rfl,e,rfl,_,rfl,b,m,es,_,_,rfl,hk0,hz,fun p H1 us s1 hp e1 k1=>?_⟩
  exact mk_D (.inr (At.mkL e1 k1)) fun z H' s' hz=>q z H' (s1.trans s') hz
def spDWl (c:Cl):Sp:=fun vs H Q _=>∃ (b m b2 m2:Int) (es:List Ent) (x:V),vs = [x,.int b2,.int m2]∧KnAt c H (.fol b m es) x∧∀ z H',Same H H'→KnAt c H' (.fol b2 m2 es) z→Q z H'
theorem scDWl:FnScope ["self","born","many"] ["self","born","many"] (defScope sDWl):=⟨rfl,rfl,rfl,by decide +kernel,rfl,by decide +kernel,by decide +kernel⟩
theorem ok_DWl (F:Fun K "with_limit" "FolderKnot.with_limit" sDWl f fd) (cf:CF K mg c) (DInmk:Mk K c.KD fDIn) (DInnm:mg "FolderKnot" = some (.ref c.KD)) (DInbd:Binds K dDIn ["self","born","limit","entries"] []) (GDIn:FnOk P w K mg base CX0 2 fDIn dDIn ["self","born","limit","entries"] (spDIn c)):FnOk P w K mg base CX0 4 f fd ["self","born","many"] (spDWl c):=by
  refine F.ok scDWl (fun vs H Q E h=>?_) (fun cdv A outer s H vs Q E hr h=>?_)
  · obtain ⟨b,m,b2,m2,es,x,rfl,_⟩:=h
    rfl
  obtain ⟨b,m,b2,m2,es,x,rfl,hk,q⟩:=h
  obtain ⟨p0,dx,v,rfl,e,hx⟩:=hk
  refine ⟨_,(pss_one (ps_ret (pe_make DInmk GDIn (hr.mono (by decide)) rfl DInnm DInbd .nil pass0 (pc (pv 1) (pc (pv 2) (pc (pe_fld (pv 0) rfl) pa_nil)))))),?_⟩
  exact ⟨_,rfl,_,rfl,_,rfl,p0,c.KD,dx,_,_,rfl,e,cf.clD,cf.eD,rfl,mk_D (.inl hx) fun z H' s' hz=>q z H' s' hz⟩
def spKof (c:Cl):Sp:=fun vs H Q _=>∃ (k:Kn) (t:V),vs = [t]∧At H (.tup (stT k)) t∧∀ z H',Same H H'→KnAt c H' k z→Q z H'
theorem scKof:FnScope ["stuff"] ["stuff"] (defScope sKof):=⟨rfl,rfl,rfl,by decide +kernel,rfl,by decide +kernel,by decide +kernel⟩
theorem ok_Kof (F:Fun K "knot_of" "knot_of" sKof f fd) (cf:CF K mg c) (CInmk:Mk K c.KC fCIn) (CInnm:mg "CellsKnot" = some (.ref c.KC)) (CInbd:Binds K dCIn ["self","born","cells"] []) (GCIn:FnOk P w K mg base CX0 2 fCIn dCIn ["self","born","cells"] (spCIn c))
    (FInmk:Mk K c.KF fFIn) (FInnm:mg "FileKnot" = some (.ref c.KF)) (FInbd:Binds K dFIn ["self","born","size","row"] []) (GFIn:FnOk P w K mg base CX0 2 fFIn dFIn ["self","born","size","row"] (spFIn c))
    (DInmk:Mk K c.KD fDIn) (DInnm:mg "FolderKnot" = some (.ref c.KD)) (DInbd:Binds K dDIn ["self","born","limit","entries"] []) (GDIn:FnOk P w K mg base CX0 2 fDIn dDIn ["self","born","limit","entries"] (spDIn c)):FnOk P w K mg base CX0 4 f fd ["stuff"] (spKof c):=by
  refine F.ok scKof (fun vs H Q E h=>?_) (fun cdv A outer s H vs Q E hr h=>?_)
  · obtain ⟨k,t,rfl,_⟩:=h
    rfl
  obtain ⟨k,t,rfl,ht,q⟩:=h
  obtain ⟨a,vs,rfl,ea,ka⟩:=ht.tup
  refine ⟨_,(pss_cons (ps_if (pt_cmpR op_eq (pe_ix ix_tup (pv 0) pe_int (fun _ _=>rfl)) pe_str (nomark _))
    (pss_one (ps_ret (pe_make CInmk GCIn (hr.mono (by decide)) rfl CInnm CInbd .nil pass0 (pc (pe_ix ix_tup (pv 0) pe_int (fun _ _=>rfl)) (pc (pe_ix ix_tup (pv 0) pe_int (fun _ _=>rfl)) pa_nil)))))
    pss_nil)
    (pss_cons (ps_if (pt_cmpR op_eq (pe_ix ix_tup (pv 0) pe_int (fun _ _=>rfl)) pe_str (nomark _))
    (pss_one (ps_ret (pe_make FInmk GFIn (hr.mono (by decide)) rfl FInnm FInbd .nil pass0 (pc (pe_ix ix_tup (pv 0) pe_int (fun _ _=>rfl)) (pc (pe_ix ix_tup (pv 0) pe_int (fun _ _=>rfl)) (pc (pe_ix ix_tup (pv 0) pe_int (fun _ _=>rfl)) pa_nil))))))
    pss_nil)
    (pss_one (ps_ret (pe_make DInmk GDIn (hr.mono (by decide)) rfl DInnm DInbd .nil pass0 (pc (pe_ix ix_tup (pv 0) pe_int (fun _ _=>rfl)) (pc (pe_ix ix_tup (pv 0) pe_int (fun _ _=>rfl)) (pc (pe_ix ix_tup (pv 0) pe_int (fun _ _=>rfl)) pa_nil)))))))),?_⟩
  cases k with
  | cel b cs =>
    obtain ⟨v0,h0,a0⟩:=ka.at (i:=0) rfl
    obtain ⟨v1,h1,a1⟩:=ka.at (i:=1) rfl
    obtain ⟨v2,h2,a2⟩:=ka.at (i:=2) rfl
    have e0:v0 = .str (Str.ofString "cells"):=by unfold At at a0; exact a0
    have e1:v1 = .int b:=by unfold At at a1; exact a1
    subst e0 e1
    refine ⟨_,rfl,a,_,0,_,rfl,rfl,SqT.of ea,atI_nat h0,rfl,_,rfl,?_⟩
    rw [decide_eq_true rfl]
    exact iteT ⟨_,rfl,a,_,1,_,rfl,rfl,SqT.of ea,atI_nat h1,_,rfl,a,_,2,_,rfl,rfl,SqT.of ea,atI_nat h2,mk_C (.inl a2) q⟩
  | fil b s' r =>
    obtain ⟨v0,h0,a0⟩:=ka.at (i:=0) rfl
    obtain ⟨v1,h1,a1⟩:=ka.at (i:=1) rfl
    obtain ⟨v2,h2,a2⟩:=ka.at (i:=2) rfl
    obtain ⟨v3,h3,a3⟩:=ka.at (i:=3) rfl
    have e0:v0 = .str (Str.ofString "file"):=by unfold At at a0; exact a0
    have e1:v1 = .int b:=by unfold At at a1; exact a1
    have e2:v2 = .int s':=by unfold At at a2; exact a2
    subst e0 e1 e2
    refine ⟨_,rfl,a,_,0,_,rfl,rfl,SqT.of ea,atI_nat h0,rfl,_,rfl,?_⟩
    rw [decide_eq_false (show ¬ V.str (Str.ofString "file") = V.str (Str.ofString "cells") from fun z=>by injection z with z; revert z; decide +kernel)]
    refine iteF ⟨_,rfl,a,_,0,_,rfl,rfl,SqT.of ea,atI_nat h0,rfl,_,rfl,?_⟩
    rw [decide_eq_true rfl]
    exact iteT ⟨_,rfl,a,_,1,_,rfl,rfl,SqT.of ea,atI_nat h1,_,rfl,a,_,2,_,rfl,rfl,SqT.of ea,atI_nat h2,_,rfl,a,_,3,_,rfl,rfl,SqT.of ea,atI_nat h3,mk_F (.inl a3) q⟩
  | fol b m es =>
    obtain ⟨v0,h0,a0⟩:=ka.at (i:=0) rfl
    obtain ⟨v1,h1,a1⟩:=ka.at (i:=1) rfl
    obtain ⟨v2,h2,a2⟩:=ka.at (i:=2) rfl
    obtain ⟨v3,h3,a3⟩:=ka.at (i:=3) rfl
    have e0:v0 = .str (Str.ofString "folder"):=by unfold At at a0; exact a0
    have e1:v1 = .int b:=by unfold At at a1; exact a1
    have e2:v2 = .int m:=by unfold At at a2; exact a2
    subst e0 e1 e2
    refine ⟨_,rfl,a,_,0,_,rfl,rfl,SqT.of ea,atI_nat h0,rfl,_,rfl,?_⟩
    rw [decide_eq_false (show ¬ V.str (Str.ofString "folder") = V.str (Str.ofString "cells") from fun z=>by injection z with z; revert z; decide +kernel)]
    refine iteF ⟨_,rfl,a,_,0,_,rfl,rfl,SqT.of ea,atI_nat h0,rfl,_,rfl,?_⟩
    rw [decide_eq_false (show ¬ V.str (Str.ofString "folder") = V.str (Str.ofString "file") from fun z=>by injection z with z; revert z; decide +kernel)]
    exact iteF ⟨_,rfl,a,_,1,_,rfl,rfl,SqT.of ea,atI_nat h1,_,rfl,a,_,2,_,rfl,rfl,SqT.of ea,atI_nat h2,_,rfl,a,_,3,_,rfl,rfl,SqT.of ea,atI_nat h3,mk_D (.inl a3) q⟩
end
end K21
set_option maxHeartbeats 4000000
namespace K21
open PySem L2
def sgS:Str:=Str.ofString "0123456789abcdefghijklmnopqrstuvwxyz"
def sgL:List Nat:=[48,49,50,51,52,53,54,55,56,57,97,98,99,100,101,102,103,104,105,106,107,108,109,110,111,112,113,114,115,116,117,118,119,120,121,122]
theorem sgS_codes:sgS.cps.toList = sgL:=by decide +kernel
def sgC (i:Nat):Nat:=sgL.getD i 0
theorem sg_rise:∀ i:Nat,i < 36→∀ j:Nat,j < 36→i < j→sgC i < sgC j:=by decide +kernel
theorem sg_at (i:Int) (h0:0 ≤ i) (h1:i < 36):atI sgS.cps.toList i = some (sgC i.toNat):=by
  rw [sgS_codes]
  have e:i = ((i.toNat:Nat):Int):=by lia
  rw [e]
  refine atI_nat ?_
  unfold sgC
  rw [Int.toNat_natCast,List.getD_eq_getElem?_getD]
  have:i.toNat < sgL.length:=by
    show i.toNat < 36
    lia
  rw [List.getElem?_eq_getElem this]
  rfl
def one (c:Nat):Str:=⟨#[c]⟩
theorem glued_nil:∀ (l:List Str) (acc:Array Nat),(l.foldl (fun a p=>a ++ (Str.ofString "").cps ++ p.cps) acc).toList = acc.toList ++ (l.map (·.cps.toList)).flatten
  | [],acc=>by simp
  | x :: l,acc=>by
    have e:(Str.ofString "").cps = #[]:=by decide +kernel
    rw [List.foldl_cons,glued_nil l]
    simp [e]
theorem join_codes (l:List Str):(Txt.join (Str.ofString "") l).cps.toList = (l.map (·.cps.toList)).flatten:=by
  cases l with
  | nil=>decide +kernel
  | cons x l =>
    show ((List.foldl (fun a p=>a ++ (Str.ofString "").cps ++ p.cps) x.cps l)).toList = _
    rw [glued_nil]
    rfl
theorem join_ones:∀ cs:List Nat,(Txt.join (Str.ofString "") (cs.map one)).cps.toList = cs:=fun cs=>by
  rw [join_codes,List.map_map]
  induction cs with
  | nil=>rfl
  | cons c cs ih =>
    show [c] ++ ((cs.map _).flatten) = c :: cs
    rw [ih]
    rfl
theorem len_codes (z:Str):z.length = z.cps.toList.length:=by
  rw [codes_len]
theorem app_codes (a b:Str):(a ++ b).cps.toList = a.cps.toList ++ b.cps.toList:=by
  show (a.cps ++ b.cps).toList = _
  rw [Array.toList_append]
theorem sg_inj {i j:Nat} (hi:i < 36) (hj:j < 36) (h:sgC i = sgC j):i = j:=by
  rcases Nat.lt_trichotomy i j with l | l | l
  · have:=sg_rise i hi j hj l
    lia
  · exact l
  · have:=sg_rise j hj i hi l
    lia
theorem slc_to {z:Str} {j:Int} (h0:0 ≤ j) (h1:j ≤ z.length):(Txt.slice z none (some j)).cps.toList = z.cps.toList.take j.toNat:=by
  have e:Txt.slice z none (some j) = _:=StrLaws.sliceText_to (x:=z) (j:=j) ⟨h0,by rw [codes_len]; exact h1⟩
  rw [e]
  show (z.cps.toList.drop 0).take (j - 0).toNat = _
  rw [List.drop_zero,Int.sub_zero]
theorem slc_from {z:Str} {j:Int} (h0:0 ≤ j) (h1:j ≤ z.length):(Txt.slice z (some j) none).cps.toList = z.cps.toList.drop j.toNat:=by
  have e:Txt.slice z (some j) none = _:=StrLaws.sliceText_from (x:=z) (i:=j) ⟨h0,by rw [codes_len]; exact h1⟩
  rw [e]
  show (z.cps.toList.drop j.toNat).take ((z.cps.toList.length:Int) - j).toNat = _
  rw [List.take_of_length_le]
  rw [List.length_drop,codes_len]
  lia
theorem slc_hi (l:Option Int) {j:Int} {n:Nat} (h:(n:Int) ≤ j):Builtin.Str.strSliceIndices l (some j) 1 n = Builtin.Str.strSliceIndices l (some (n:Int)) 1 n:=by
  have a:¬ (j < 0):=by lia
  have b:¬ ((n:Int) < 0):=by lia
  have c:min j (n:Int) = n:=by lia
  simp [Builtin.Str.strSliceIndices,a,b,c]
theorem str_ext {a b:Str} (h:a.cps.toList = b.cps.toList):a = b:=by
  cases a
  cases b
  simp only [Str.mk.injEq]
  exact Array.toList_inj.mp h
theorem nodup_rng {g:Nat→Str} {n:Nat} (h:∀ i j,i < n→j < n→g i = g j→i = j):((List.range n).map g).Nodup:=by
  refine List.pairwise_map.mpr ?_
  refine List.Pairwise.imp_of_mem (fun {a b} ha hb hab=>?_) (List.nodup_range (n:=n))
  exact fun e=>hab (h a b (List.mem_range.mp ha) (List.mem_range.mp hb) e)
section
variable {P:Program} {w:World} {K:PySem.W.Frag} {mg:Str→Option Value} {base:Heap} {f fCel fMix:Addr} {fd dCel dMix:FuncData}
theorem comp_rng {lo:Int} {n:Nat} {p:Addr} {tt:TT} {te:TE} {cs:St} {Q:VK} {H1:Hp} (Pv:Nat→List V→Hp→Prop) (h0:Pv 0 [] (upd H1 p (.lst [])))
    (hs:∀ i ys H,i < n→Pv i ys H→tt (some (.int (lo + i)) :: cs) H fun b H4=>if b = true then te (some (.int (lo + i)) :: cs) H4 fun y H5=>H5 p = some (.lst ys)∧ys.length < sizeLine∧Pv (i + 1) (ys ++ [y]) (upd H5 p (.lst (ys ++ [y]))) else Pv (i + 1) ys H4)
    (hd:∀ ys H,Pv n ys H→Q (.ref p) H):CompW (Itr lo n) p tt te cs Q H1:=by
  refine comp_by n Pv h0 ?_ ?_
  · intro i ys H hi pv
    refine ⟨hi,fun v H3 y=>?_⟩
    obtain ⟨rfl,rfl⟩:=y
    exact hs i ys _ hi pv
  · intro ys H pv
    exact ⟨Nat.le_refl _,hd ys H pv⟩
def spNms:Sp:=fun vs H Q _=>∃ n:Int,vs = [.int n,.int 8]∧∀ p H' (zs:List Str),Same H H'→H p = none→H' p = some (.lst (zs.map V.str))→zs.length = 8→zs.Nodup→Q (.ref p) H'
theorem scNms:FnScope ["_law_cell","_law_many","_law_signs","_law_base","_law_at","_law_names_here"] ["_law_cell","_law_many"] (defScope sNms):=⟨rfl,rfl,rfl,by decide +kernel,rfl,by decide +kernel,by decide +kernel⟩
theorem ok_Nms (F:Fun K "_law_names" "_law_names" sNms f fd) (hMix:Has K mg "_law_mixed" sMix ["_law_cell","_law_k"] fMix dMix) (GMix:FnOk P w K mg base CX0 1 fMix dMix ["_law_cell","_law_k"] spMix) (T:Txt mg):FnOk P w K mg base CX0 2 f fd ["_law_cell","_law_many"] spNms:=by
  refine F.ok scNms (fun vs H Q E h=>?_) (fun cdv A outer s H vs Q E hr h=>?_)
  · obtain ⟨n,rfl,_⟩:=h
    rfl
  obtain ⟨n,rfl,q⟩:=h
  refine ⟨_,(pss_cons (ps_set (i:=2) scNms.nd rfl (Or.inr rfl) pe_str)
    (pss_cons (ps_set (i:=3) scNms.nd rfl (Or.inr rfl) (pe_bm PySem.F.plainAttrs_str PySem.F.slot_str_join PySem.F.type_str_join mt_join pe_str (pc (pe_comp [0,2] ["_law_cell","_law_signs"] (pi_range1 rfl T.rng (pc (pe_op op_mod (pv 0) pe_int) pa_nil)) (fun _ _ _ _ _ _=>pts_nil)
          (fun _ _ _ _ _ _=>(pe_ix ix_str (pv 2) (pe_op op_mod (pe_call GMix (hr.mono (by decide)) rfl hMix.nm hMix.fn.kp hMix.bd .nil pass0 (pc (pv 1) (pc (pv 0) pa_nil))) pe_int) (fun _ _=>rfl)))
          rfl (by decide +kernel) (by decide +kernel) rfl (by decide +kernel) (fun j y hj=>by
            match j,hj with
            | 0,hj=>cases hj; exact ⟨0,rfl,rfl,rfl,.inl rfl⟩
            | 1,hj=>cases hj; exact ⟨2,rfl,rfl,rfl,.inl rfl⟩) rfl (by decide +kernel) rfl) pa_nil)))
    (pss_cons (ps_set (i:=4) scNms.nd rfl (Or.inr rfl) (pe_op op_mod (pe_op op_fdiv (pv 0) pe_int) (pe_op op_add (pe_callB call_len_str rfl T.len PySem.boot_len (pc (pv 3) pa_nil)) pe_int)))
    (pss_cons (ps_setC1 (i:=5) scNms.nd rfl rfl [0,2,3,4] ["_law_cell","_law_signs","_law_base","_law_at"] (pi_range1 rfl T.rng (pc (pv 1) pa_nil)) (fun _ _ _ _ _ _=>pts_nil)
          (fun _ _ _ _ _ _=>(pe_op op_add_str (pe_op op_add_str (pe_slice sl_str (pv 3) po_none (po_some (pv 4))) (pe_ix ix_str (pv 2) (pe_op op_add (pe_op op_mul (pv 0) pe_int) (pe_op op_mod (pe_op op_fdiv (pv 1) pe_int) pe_int)) (fun _ _=>rfl))) (pe_slice sl_str (pv 3) (po_some (pv 4)) po_none)))
          rfl (by decide +kernel) (by decide +kernel) rfl (by decide +kernel) (fun j y hj=>by
            match j,hj with
            | 0,hj=>cases hj; exact ⟨0,rfl,rfl,rfl,.inl rfl⟩
            | 1,hj=>cases hj; exact ⟨2,rfl,rfl,rfl,.inl rfl⟩
            | 2,hj=>cases hj; exact ⟨3,rfl,rfl,rfl,.inl rfl⟩
            | 3,hj=>cases hj; exact ⟨4,rfl,rfl,rfl,.inl rfl⟩) rfl (by decide +kernel) rfl)
    (pss_cons (ps_if (PW.pt (pw_and (pt_cmpR op_eq (pe_op op_mod (pe_op op_fdiv (pv 0) pe_int) pe_int) pe_int (nomark _)) (pw_and1 (pt_cmpR op_gt (pv 1) pe_int (nomark _)))))
    (pss_one (ps_asg (pe_slice sl_str (pe_op op_add_str (pe_ix ix_list (pv 5) pe_int (fun _ _=>rfl)) pe_str) po_none (po_some pe_int)) (pg_sub (pv 5) pe_int set_list)))
    pss_nil)
    (pss_one (ps_ret (pv 5)))))))),?_⟩
  refine ⟨rfl,_,rfl,_,_,rfl,rfl,(by show (0:Int) < 7; decide),?_⟩
  have a0:0 ≤ n % 7:=by lia
  have a1:n % 7 < 7:=by lia
  dsimp only
  generalize n % 7 = size at a0 a1
  refine ⟨size,rfl,by lia,by lia,fun p hp=>?_⟩
  refine comp_rng (fun i us H2=>∃ cs:List Nat,Same H H2∧H2 p = some (.lst us)∧us = (cs.map one).map V.str∧cs.length = i) ⟨[],same_new hp _,upd_same,rfl,rfl⟩ ?_ ?_
  · rintro i us H2 hi ⟨cs,s2,e2,rfl,lc⟩
    have hi':i < size.toNat:=hi
    refine ttT ⟨_,rfl,_,rfl,_,rfl,n,0 + (i:Int),rfl,by lia,by lia,fun z z0 z1=>⟨_,_,rfl,rfl,(by show (0:Int) < 36; decide),?_⟩⟩
    dsimp only
    exact ⟨sgS,_,sgC (z % 36).toNat,rfl,rfl,by decide +kernel,sg_at _ (by lia) (by lia),e2,small (by simp; lia),cs ++ [sgC (z % 36).toNat],same_over s2 hp _,upd_same,by rw [List.map_append,List.map_append]; rfl,by simp [lc]⟩
  rintro us H2 ⟨cs,s2,e2,rfl,lc⟩
  refine ⟨Str.ofString "",p,cs.map one,rfl,rfl,SqL.of e2,?_,?_⟩
  · have:∀ l:List Nat,((l.map one).map (·.length)).sum = l.length:=fun l=>by
      induction l with
      | nil=>rfl
      | cons c l ih =>
        show 1 + ((l.map one).map (·.length)).sum = l.length + 1
        rw [ih,Nat.add_comm]
    rw [this,List.length_map]
    have e0:(Str.ofString "").length = 0:=by decide +kernel
    rw [e0]
    lia
  have bc:=join_ones cs
  generalize Txt.join (Str.ofString "") (cs.map one) = bs at bc
  have lb:bs.length = cs.length:=by rw [len_codes,bc]
  have bz:bs.length ≤ sizeLine:=Nat.le_of_lt (small (by lia))
  refine ⟨_,rfl,_,_,rfl,rfl,⟨by decide,by decide⟩,_,rfl,bs,rfl,bz,_,_,rfl,rfl,_,_,rfl,rfl,(by show (0:Int) < (bs.length:Int) + 1; lia),?_⟩
  have c0:=Int.emod_nonneg (n / 7) (show (bs.length:Int) + 1 ≠ 0 by lia)
  have c1:=Int.emod_lt_of_pos (n / 7) (show (0:Int) < (bs.length:Int) + 1 by lia)
  dsimp only
  generalize n / 7 % ((bs.length:Int) + 1) = at' at c0 c1
  have d0:0 ≤ n / 49 % 4:=by lia
  have d1:n / 49 % 4 < 4:=by lia
  obtain ⟨m,em⟩:∃ m:Nat,n / 49 % 4 = (m:Int):=⟨(n / 49 % 4).toNat,by lia⟩
  refine ⟨_,rfl,8,rfl,by decide,by decide,fun p2 hp2=>?_⟩
  have tA:=slc_to (z:=bs) (j:=at') c0 (by lia)
  have tB:=slc_from (z:=bs) (j:=at') c0 (by lia)
  have lA:(Txt.slice bs none (some at')).length + (Txt.slice bs (some at') none).length = bs.length:=by
    rw [len_codes (Txt.slice bs none (some at')),len_codes (Txt.slice bs (some at') none),tA,tB,len_codes bs,← List.length_append,List.take_append_drop]
  obtain ⟨nm,enm⟩:∃ nm:Nat→Str,nm = fun k=>Txt.slice bs none (some at') ++ one (sgC (4 * k + m)) ++ Txt.slice bs (some at') none:=⟨_,rfl⟩
  have lone:∀ c,(one c).length = 1:=fun c=>rfl
  have lnm:∀ k,(nm k).length = bs.length + 1:=fun k=>by
    rw [enm,Str.length_append,Str.length_append,lone]
    lia
  have inj:∀ i j,i < 8→j < 8→nm i = nm j→i = j:=fun i j hi hj h=>by
    have h2:=congrArg (fun z=>z.cps.toList) h
    rw [enm] at h2
    simp only [app_codes] at h2
    have h3:(Txt.slice bs none (some at')).cps.toList ++ sgC (4 * i + m) :: (Txt.slice bs (some at') none).cps.toList = (Txt.slice bs none (some at')).cps.toList ++ sgC (4 * j + m) :: (Txt.slice bs (some at') none).cps.toList:=by
      have e:∀ c,(one c).cps.toList = [c]:=fun c=>rfl
      rw [e,e] at h2
      simpa using h2
    have h4:=List.append_cancel_left h3
    injection h4 with h4
    have:=sg_inj (by lia) (by lia) h4
    lia
  refine comp_rng (fun i us H5=>Same H2 H5∧H5 p2 = some (.lst us)∧us = ((List.range i).map nm).map V.str) ⟨same_new hp2 _,upd_same,rfl⟩ ?_ ?_
  · rintro i us H5 hi ⟨s5,e5,rfl⟩
    have hi':i < 8:=hi
    refine ttT ⟨_,rfl,_,rfl,_,rfl,bs,rfl,bz,_,rfl,_,rfl,_,_,rfl,rfl,.inl ⟨by lia,by lia⟩,_,rfl,_,_,rfl,rfl,⟨by decide,by decide⟩,_,_,rfl,rfl,(by show (0:Int) < 4; decide),_,_,rfl,rfl,?_⟩
    dsimp only
    rw [em]
    have ei:((0 + (i:Int)) * 4 + (m:Int)).toNat = 4 * i + m:=by lia
    refine ⟨sgS,_,sgC (4 * i + m),rfl,rfl,by decide +kernel,by rw [← ei]; exact sg_at _ (by lia) (by lia),_,_,rfl,rfl,?_,_,rfl,_,rfl,_,rfl,bs,rfl,bz,_,_,rfl,rfl,?_,e5,small (by simp; lia),same_over s5 hp2 _,upd_same,?_⟩
    · show (Txt.slice bs none (some at')).length + 1 ≤ sizeLine
      exact Nat.le_of_lt (small (by lia))
    · rw [Str.length_append]
      show (Txt.slice bs none (some at')).length + 1 + (Txt.slice bs (some at') none).length ≤ sizeLine
      exact Nat.le_of_lt (small (by lia))
    · rw [List.range_succ,List.map_append,List.map_append,enm]
      rfl
  rintro us H5 ⟨s5,e5,rfl⟩
  have s05:=s2.trans s5
  refine ⟨_,rfl,_,_,rfl,rfl,⟨by decide,by decide⟩,_,_,rfl,rfl,(by show (0:Int) < 2; decide),rfl,_,rfl,ite2 (fun k=>?_) (fun k=>?_)⟩
  · refine ⟨_,rfl,_,_,rfl,rfl,_,rfl,ite2 (fun _=>?_) (fun z=>absurd rfl z)⟩
    have l0:(Str.ofString "0").length = 1:=by decide +kernel
    have ln0:=lnm 0
    refine ⟨_,rfl,p2,_,0,.str (nm 0),rfl,rfl,SqL.of e5,rfl,_,_,rfl,rfl,Nat.le_of_lt (small (by lia)),_,rfl,_,rfl,Nat.le_of_lt (small (by rw [Str.length_append]; lia)),?_⟩
    have ez:(Txt.slice (nm 0 ++ Str.ofString "0") none (some 8)).length = bs.length + 2:=by
      have l2:(nm 0 ++ Str.ofString "0").length = bs.length + 2:=by rw [Str.length_append]; lia
      rw [len_codes]
      by_cases h8:(8:Int) ≤ ((nm 0 ++ Str.ofString "0").length:Int)
      · rw [slc_to (by decide) h8,List.length_take,codes_len,l2]
        show min 8 _ = _
        lia
      · have e:Txt.slice (nm 0 ++ Str.ofString "0") none (some 8) = nm 0 ++ Str.ofString "0":=by
          have h9:Txt.slice (nm 0 ++ Str.ofString "0") none (some 8) = Txt.slice (nm 0 ++ Str.ofString "0") none (some ((nm 0 ++ Str.ofString "0").length:Int)):=by
            unfold Txt.slice
            rw [slc_hi none (by lia)]
          rw [h9]
          refine str_ext ?_
          rw [slc_to (by lia) (Int.le_refl _),Int.toNat_natCast,List.take_of_length_le (by rw [codes_len]; exact Nat.le_refl _)]
        rw [e,codes_len,l2]
    generalize Txt.slice (nm 0 ++ Str.ofString "0") none (some 8) = z0 at ez
    refine ⟨_,rfl,p2,_,1,1,rfl,rfl,e5,rfl,_,rfl,?_⟩
    have eset:(((List.range 8).map nm).map V.str).set 1 (.str z0) = ((List.range 8).map fun k=>if k = 1 then z0 else nm k).map V.str:=rfl
    refine q p2 _ ((List.range 8).map fun k=>if k = 1 then z0 else nm k) (same_over s05 (s2.free hp2) _) (s2.free hp2) ?_ rfl (nodup_rng fun i j hi hj h=>?_)
    · rw [upd_same]
      exact congrArg (fun l=>some (HO.lst l)) eset
    · have li:=lnm i
      have lj:=lnm j
      by_cases h1:i = 1
      · by_cases h2:j = 1
        · lia
        · rw [if_pos h1,if_neg h2] at h
          rw [h] at ez
          lia
      · by_cases h2:j = 1
        · rw [if_neg h1,if_pos h2] at h
          rw [← h] at ez
          lia
        · rw [if_neg h1,if_neg h2] at h
          exact inj i j hi hj h
  · refine iteF ⟨_,rfl,q p2 H5 ((List.range 8).map nm) s05 (s2.free hp2) e5 rfl (nodup_rng inj)⟩
end
end K21
set_option maxHeartbeats 4000000
namespace K21
open PySem L2
theorem ats_ints {H:Hp}:∀ cs:List Int,Ats H (cs.map Tr.int) (cs.map V.int)
  | []=>Ats.nil _
  | c :: cs=>Ats.cons (At.int c) (ats_ints cs)
section
variable {P:Program} {w:World} {K:PySem.W.Frag} {mg:Str→Option Value} {base:Heap} {f fCel fMix:Addr} {fd dCel dMix:FuncData}
def spStf (K:PySem.W.Frag) (k0:Kn→Prop):Sp:=fun vs H Q _=>∃ (a:Addr) (ns:List Int),vs = [.ref a]∧SqL K H a (ns.map V.int)∧∀ k x H',Same H H'→k0 k→szK k ≤ 8→At H' (.tup (stT k)) x→Q x H'
theorem scCst:FnScope ["_law_script","_law_cell","_law_born"] ["_law_script"] (defScope sCst):=⟨rfl,rfl,rfl,by decide +kernel,rfl,by decide +kernel,by decide +kernel⟩
theorem ok_Cst (F:Fun K "_law_cells_stuff" "_law_cells_stuff" sCst f fd) (hCel:Has K mg "_law_cell_at" sCel ["_law_script","_law_k"] fCel dCel) (GCel:FnOk P w K mg base CX0 1 fCel dCel ["_law_script","_law_k"] (spCel K))
    (hMix:Has K mg "_law_mixed" sMix ["_law_cell","_law_k"] fMix dMix) (GMix:FnOk P w K mg base CX0 1 fMix dMix ["_law_cell","_law_k"] spMix) (T:Txt mg):FnOk P w K mg base CX0 2 f fd ["_law_script"] (spStf K isC):=by
  refine F.ok scCst (fun vs H Q E h=>?_) (fun cdv A outer s H vs Q E hr h=>?_)
  · obtain ⟨a,ns,rfl,_⟩:=h
    rfl
  obtain ⟨a,ns,rfl,hS,q⟩:=h
  refine ⟨_,(pss_cons (ps_set (i:=1) scCst.nd rfl (Or.inr rfl) (pe_call GCel (hr.mono (by decide)) rfl hCel.nm hCel.fn.kp hCel.bd .nil pass0 (pc (pv 0) (pc pe_int pa_nil))))
    (pss_cons (ps_set (i:=2) scCst.nd rfl (Or.inl rfl) (pe_op op_add pe_int (pe_op op_mod (pe_call GCel (hr.mono (by decide)) rfl hCel.nm hCel.fn.kp hCel.bd .nil pass0 (pc (pv 0) (pc pe_int pa_nil))) pe_int)))
    (pss_one (ps_ret (pe_tup (pc pe_str (pc (pv 2) (pc (pe_callTy call_tuple_of rfl T.tup PyProof.Rows.boot_tuple (pc (pe_comp [1] ["_law_cell"] (pi_range1 rfl T.rng (pc (pe_op op_add pe_int (pe_op op_mod (pv 1) pe_int)) pa_nil)) (fun _ _ _ _ _ _=>pts_nil)
          (fun _ _ _ _ _ _=>(pe_op op_mod (pe_call GMix (hr.mono (by decide)) rfl hMix.nm hMix.fn.kp hMix.bd .nil pass0 (pc (pv 1) (pc (pv 0) pa_nil))) pe_int))
          rfl (by decide +kernel) (by decide +kernel) rfl (by decide +kernel) (fun j y hj=>by
            match j,hj with
            | 0,hj=>cases hj; exact ⟨1,rfl,rfl,rfl,.inl rfl⟩) rfl (by decide +kernel) rfl) pa_nil)) pa_nil)))))))),?_⟩
  refine ⟨_,rfl,a,ns,1,rfl,by decide,hS,fun z=>⟨_,rfl,a,ns,0,rfl,by decide,hS,fun z0=>⟨_,_,rfl,rfl,(by show (0:Int) < 4294967295; decide),_,_,rfl,rfl,?_⟩⟩⟩
  refine ⟨_,rfl,_,rfl,_,_,rfl,rfl,(by show (0:Int) < 8; decide),_,_,rfl,rfl,?_⟩
  have b0:0 ≤ 1 + z % 8:=by lia
  have b1:1 + z % 8 ≤ 8:=by lia
  dsimp only
  generalize 1 + z % 8 = many at b0 b1
  generalize 1 + z0 % 4294967295 = born
  refine ⟨many,rfl,by lia,by lia,fun p hp=>?_⟩
  refine comp_rng (fun i us H2=>∃ cs:List Int,Same H H2∧H2 p = some (.lst us)∧us = cs.map V.int∧cs.length = i) ⟨[],same_new hp _,upd_same,rfl,rfl⟩ ?_ ?_
  · rintro i us H2 hi ⟨cs,s2,e2,rfl,lc⟩
    have hi':i < many.toNat:=hi
    refine ttT ⟨_,rfl,_,rfl,z,0 + (i:Int),rfl,by lia,by lia,fun y y0 y1=>⟨_,_,rfl,rfl,(by show (0:Int) < 1000000; decide),e2,small (by simp; lia),cs ++ [y % 1000000],same_over s2 hp _,upd_same,by rw [List.map_append]; rfl,by simp [lc]⟩⟩
  rintro us H2 ⟨cs,s2,e2,rfl,lc⟩
  refine ⟨p,_,rfl,.inl ⟨SqL.of e2,fun t ht=>⟨(by show 3 ≤ sizeLine; decide),fun o ho=>?_⟩⟩⟩
  have sA:=(same_new ht (HO.tup (cs.map V.int))).trans (same_new ho (HO.tup [V.str (Str.ofString "cells"),V.int born,V.ref t]))
  refine q (.cel born cs) _ _ (s2.trans sA) ⟨_,_,rfl⟩ (by show cs.length ≤ 8; lia) (At.mkT upd_same (Ats.cons (At.str _) (Ats.cons (At.int _) (Ats.cons (At.mkT (same_new ho _ _ _ upd_same) (ats_ints cs)) (Ats.nil _)))))
theorem scFst:FnScope ["_law_script","_law_cell","_law_row","_law_at","_law_k","_law_number","_law_long"] ["_law_script"] (defScope sFst):=⟨rfl,rfl,rfl,by decide +kernel,rfl,by decide +kernel,by decide +kernel⟩
theorem ok_Fst (F:Fun K "_law_file_stuff" "_law_file_stuff" sFst f fd) (hCel:Has K mg "_law_cell_at" sCel ["_law_script","_law_k"] fCel dCel) (GCel:FnOk P w K mg base CX0 1 fCel dCel ["_law_script","_law_k"] (spCel K))
    (hMix:Has K mg "_law_mixed" sMix ["_law_cell","_law_k"] fMix dMix) (GMix:FnOk P w K mg base CX0 1 fMix dMix ["_law_cell","_law_k"] spMix) (T:Txt mg):FnOk P w K mg base CX0 2 f fd ["_law_script"] (spStf K isF):=by
  refine F.ok scFst (fun vs H Q E h=>?_) (fun cdv A outer s H vs Q E hr h=>?_)
  · obtain ⟨a,ns,rfl,_⟩:=h
    rfl
  obtain ⟨a,ns,rfl,hS,q⟩:=h
  refine ⟨_,(pss_cons (ps_set (i:=1) scFst.nd rfl (Or.inl rfl) (pe_call GCel (hr.mono (by decide)) rfl hCel.nm hCel.fn.kp hCel.bd .nil pass0 (pc (pv 0) (pc pe_int pa_nil))))
    (pss_cons (ps_set (i:=2) scFst.nd rfl (Or.inl rfl) (pe_lst pa_nil))
    (pss_cons (ps_set (i:=3) scFst.nd rfl (Or.inl rfl) pe_int)
    (pss_cons (ps_for PassesOwn.never rfl (pi_range1 rfl T.rng (pc (pe_op op_mod (pv 1) pe_int) pa_nil)) (pg_name (i:=4) scFst.nd rfl (Or.inl rfl))
    (pss_cons (ps_set (i:=5) scFst.nd rfl (Or.inl rfl) (pe_call GMix (hr.mono (by decide)) rfl hMix.nm hMix.fn.kp hMix.bd .nil pass0 (pc (pv 1) (pc (pv 4) pa_nil))))
    (pss_cons (ps_set (i:=6) scFst.nd rfl (Or.inl rfl) (pe_op op_add pe_int (pe_op op_mod (pv 5) pe_int)))
    (pss_cons (ps_set (i:=3) scFst.nd rfl (Or.inl rfl) (pe_op op_add (pe_op op_add (pv 3) pe_int) (pe_op op_mod (pe_op op_fdiv (pv 5) pe_int) pe_int)))
    (pss_cons (ps_expr (pe_bm PySem.F.plainAttrs_list PySem.F.slot_list_append PySem.F.type_list_append mt_append (pv 2) (pc (pe_tup (pc (pv 3) (pc (pv 6) (pc (pe_op op_add pe_int (pe_op op_mod (pe_op op_fdiv (pv 5) pe_int) pe_int)) (pc (pe_op op_mod (pe_op op_fdiv (pv 5) pe_int) (pe_op op_sub pe_int (pv 6))) pa_nil))))) pa_nil)))
    (pss_cons (ps_if (PW.pt (pw_and (pt_cmpR op_gt (pv 4) pe_int (nomark _)) (pw_and1 (pt_cmpR op_eq (pe_op op_mod (pe_op op_fdiv (pv 5) pe_int) pe_int) pe_int (nomark _)))))
    (pss_one (ps_asg (pe_tup (pc (pv 3) (pc (pv 6) (pc (pe_ix ix_tup (pe_ix ix_list (pv 2) pe_int (fun _ _=>rfl)) pe_int (fun _ _=>rfl)) (pc (pe_ix ix_tup (pe_ix ix_list (pv 2) (pe_un un_neg pe_int) (fun _ _=>rfl)) pe_int (fun _ _=>rfl)) pa_nil))))) (pg_sub (pv 2) (pe_un un_neg pe_int) set_list)))
    pss_nil)
    (pss_one (ps_set (i:=3) scFst.nd rfl (Or.inl rfl) (pe_op op_add (pv 3) (pv 6))))))))))
    (pss_one (ps_ret (pe_tup (pc pe_str (pc (pe_op op_add pe_int (pe_op op_mod (pe_call GCel (hr.mono (by decide)) rfl hCel.nm hCel.fn.kp hCel.bd .nil pass0 (pc (pv 0) (pc pe_int pa_nil))) pe_int)) (pc (pe_callB (call_min2 rfl) rfl T.min PyProof.Rows.boot_min (pc pe_int (pc (pv 3) pa_nil))) (pc (pe_callTy call_tuple_of rfl T.tup PyProof.Rows.boot_tuple (pc (pv 2) pa_nil)) pa_nil))))))))))),?_⟩
  refine ⟨_,rfl,a,ns,2,rfl,by decide,hS,fun z=>⟨(by show 0 ≤ sizeLine; decide),fun p hp=>?_⟩⟩
  refine ⟨_,rfl,_,_,rfl,rfl,(by show (0:Int) < 9; decide),?_⟩
  have b0:0 ≤ z % 9:=by lia
  have b1:z % 9 ≤ 8:=by lia
  obtain ⟨many,em⟩:∃ many,many = z % 9:=⟨_,rfl⟩
  rw [← em] at b0 b1
  refine ⟨many,by rw [em],by lia,by lia,?_⟩
  refine for_range (lo:=0) (n:=many.toNat) (fun i σ H2=>∃ (r:List S4) (us:List V) (at':Int) (o4 o5 o6:Option V),σ = [some (.ref a),some (.int z),some (.ref p),some (.int at'),o4,o5,o6]∧Same H H2∧H2 p = some (.lst us)∧Ats H2 (r.map s4T) us∧r.length = i) ⟨[],[],0,none,none,none,rfl,same_new hp _,upd_same,Ats.nil _,rfl⟩ ?_ ?_
  · rintro i σ H2 hi ⟨r,us,at',o4,o5,o6,rfl,s2,e2,k2,lr⟩
    have hi':i < many.toNat:=hi
    have lu:=k2.len
    rw [List.length_map] at lu
    refine ⟨_,rfl,_,rfl,z,0 + (i:Int),rfl,by lia,by lia,fun y y0 y1=>?_⟩
    refine ⟨_,rfl,_,_,rfl,rfl,(by show (0:Int) < 3; decide),_,_,rfl,rfl,?_⟩
    have l0:1 ≤ 1 + y % 3:=by lia
    have l1:1 + y % 3 ≤ 3:=by lia
    dsimp only
    generalize 1 + y % 3 = long at l0 l1
    refine ⟨_,rfl,_,_,rfl,rfl,_,rfl,_,_,rfl,rfl,⟨by decide,by decide⟩,_,_,rfl,rfl,(by show (0:Int) < 2; decide),_,_,rfl,rfl,?_⟩
    dsimp only
    generalize at' + 1 + y / 3 % 2 = at2
    refine ⟨_,rfl,.inl ⟨rfl,_,SqL.of e2⟩,_,rfl,_,rfl,_,rfl,_,_,rfl,rfl,⟨by decide,by decide⟩,_,_,rfl,rfl,(by show (0:Int) < 598; decide),_,_,rfl,rfl,_,rfl,_,_,rfl,rfl,⟨by decide,by decide⟩,_,rfl,_,_,rfl,rfl,_,_,rfl,rfl,(by show (0:Int) < 9 - long; lia),(by show 4 ≤ sizeLine; decide),fun t ht=>?_⟩
    dsimp only
    generalize 2 + y / 9 % 598 = pl
    generalize y / 5382 % (9 - long) = sk
    have ep:=same_new ht (HO.tup [V.int at2,V.int long,V.int pl,V.int sk]) _ _ e2
    refine ⟨p,us,_,rfl,rfl,ep,small (by lia),?_⟩
    have st:Same H2 (upd H2 t (HO.tup [V.int at2,V.int long,V.int pl,V.int sk])):=same_new ht _
    have et:upd H2 t (HO.tup [V.int at2,V.int long,V.int pl,V.int sk]) t = some (.tup [V.int at2,V.int long,V.int pl,V.int sk]):=upd_same
    revert st et ep
    generalize upd H2 t (HO.tup [V.int at2,V.int long,V.int pl,V.int sk]) = H3
    intro ep st et
    have k3:Ats (upd H3 p (.lst (us ++ [.ref t]))) ((r ++ [(at2,long,pl,sk)]).map s4T) (us ++ [.ref t]):=by
      refine Ats.keepT (keepL ep) (nl_s4 _) ?_
      rw [List.map_append]
      exact Ats.app (Ats.cons (At.mkT et (Ats.cons (At.int _) (Ats.cons (At.int _) (Ats.cons (At.int _) (Ats.cons (At.int _) (Ats.nil _)))))) (Ats.nil _)) (k2.mono st)
    have s3:Same H (upd H3 p (.lst (us ++ [.ref t]))):=same_over (s2.trans st) hp _
    have e3:upd H3 p (.lst (us ++ [.ref t])) p = some (.lst (us ++ [.ref t])):=upd_same
    have et3:upd H3 p (.lst (us ++ [.ref t])) t = some (.tup [V.int at2,V.int long,V.int pl,V.int sk]):=keepL ep t _ et
    revert k3 s3 e3 et3
    generalize upd H3 p (.lst (us ++ [.ref t])) = H4
    intro k3 s3 e3 et3
    refine' (fun (fin:∀ (r':List S4) (us':List V) (H5:Hp),Same H H5→H5 p = some (.lst us')→Ats H5 (r'.map s4T) us'→r'.length = i + 1→∃ (r:List S4) (us:List V) (at':Int) (o4 o5 o6:Option V),[some (.ref a),some (.int z),some (.ref p),some (.int (at2 + long)),some (.int (0 + (i:Int))),some (.int y),some (.int long)] = [some (.ref a),some (.int z),some (.ref p),some (.int at'),o4,o5,o6]∧Same H H5∧H5 p = some (.lst us)∧Ats H5 (r.map s4T) us∧r.length = i + 1)=>?go) (fun r' us' H5 s5 e5 k5 l5=>⟨r',us',_,_,_,_,rfl,s5,e5,k5,l5⟩)
    refine ⟨_,rfl,_,_,rfl,rfl,_,rfl,ite2 (fun c1=>?_) (fun c1=>?_)⟩
    · refine ⟨_,rfl,_,_,rfl,rfl,⟨by decide,by decide⟩,_,_,rfl,rfl,(by show (0:Int) < 3; decide),rfl,_,rfl,ite2 (fun c2=>?_) (fun c2=>?_)⟩
      · have ne:0 < (r ++ [(at2,long,pl,sk)]).length:=by simp
        obtain ⟨v0,hv0,a0⟩:=k3.at (i:=0) (t:=s4T (r ++ [(at2,long,pl,sk)])[0]) (by rw [List.getElem?_map,List.getElem?_eq_getElem ne]; rfl)
        generalize (r ++ [(at2,long,pl,sk)])[0] = y0 at a0
        obtain ⟨b0',rfl,eb0⟩:=s4_at a0
        refine ⟨_,rfl,_,rfl,_,rfl,p,_,0,_,rfl,rfl,SqL.of e3,atI_nat hv0,b0',_,2,_,rfl,rfl,SqT.of eb0,atI_nat (j:=2) rfl,_,rfl,_,rfl,p,us ++ [.ref t],-1,.ref t,rfl,rfl,SqL.of e3,atI_last _ _,t,_,3,_,rfl,rfl,SqT.of et3,atI_nat (j:=3) rfl,(by show 4 ≤ sizeLine; decide),fun o ho=>?_⟩
        have so:=same_new ho (HO.tup [V.int at2,V.int long,V.int y0.2.2.1,V.int sk])
        have eo:upd H4 o (HO.tup [V.int at2,V.int long,V.int y0.2.2.1,V.int sk]) o = some (.tup [V.int at2,V.int long,V.int y0.2.2.1,V.int sk]):=upd_same
        have e4:=so _ _ e3
        have hix:ixN (us ++ [V.ref t]).length (-1) = some us.length:=by
          unfold ixN
          rw [if_neg (by decide),if_pos (by simp; lia)]
          congr 1
          simp
          lia
        have hset:(us ++ [V.ref t]).set us.length (.ref o) = us ++ [.ref o]:=by simp
        refine ⟨_,rfl,_,rfl,p,us ++ [.ref t],-1,us.length,rfl,rfl,e4,hix,?_⟩
        rw [hset]
        refine ⟨_,rfl,_,rfl,_,_,rfl,rfl,fin (r ++ [(at2,long,y0.2.2.1,sk)]) _ _ (same_over (s3.trans so) hp _) upd_same ?_ (by simp [lr])⟩
        refine Ats.keepT (keepL e4) (nl_s4 _) ?_
        rw [List.map_append]
        refine Ats.app (Ats.cons (At.mkT eo (Ats.cons (At.int _) (Ats.cons (At.int _) (Ats.cons (At.int _) (Ats.cons (At.int _) (Ats.nil _)))))) (Ats.nil _)) ?_
        have kt:=Ats.take us.length k3
        rw [List.take_left' rfl,List.map_append,List.take_left' (by rw [List.length_map]; lia)] at kt
        exact kt.mono so
      · exact ⟨_,rfl,_,rfl,_,_,rfl,rfl,fin _ _ H4 s3 e3 k3 (by simp [lr])⟩
    · exact iteF ⟨_,rfl,_,rfl,_,_,rfl,rfl,fin _ _ H4 s3 e3 k3 (by simp [lr])⟩
  · rintro σ H2 ⟨r,us,at',o4,o5,o6,rfl,s2,e2,k2,lr⟩
    refine ⟨_,rfl,a,ns,3,rfl,by decide,s2.seq hS,fun z3=>⟨_,_,rfl,rfl,(by show (0:Int) < 4294967295; decide),_,_,rfl,rfl,_,rfl,_,_,rfl,_,rfl,p,us,rfl,.inl ⟨SqL.of e2,fun t ht=>⟨(by show 4 ≤ sizeLine; decide),fun o ho=>?_⟩⟩⟩⟩
    generalize (if at' < 40 then at' else 40) = sz
    have sA:=(same_new ht (HO.tup us)).trans (same_new ho (HO.tup [V.str (Str.ofString "file"),V.int (1 + z3 % 4294967295),V.int sz,V.ref t]))
    refine q (.fil (1 + z3 % 4294967295) sz r) _ _ (s2.trans sA) ⟨_,_,_,rfl⟩ (by show r.length ≤ 8; lia) (At.mkT upd_same (Ats.cons (At.str _) (Ats.cons (At.int _) (Ats.cons (At.int _) (Ats.cons (At.mkT (same_new ho _ _ _ upd_same) (k2.mono sA)) (Ats.nil _))))))
end
end K21
set_option maxHeartbeats 4000000
namespace K21
open PySem L2
theorem mem_putK {κ:Type} [DecidableEq κ] {kvs:List (κ×V)} {k j:κ} {y v:V} (h:(j,v) ∈ putK kvs k y):(j = k∧v = y)∨(j ≠ k∧(j,v) ∈ kvs):=by
  unfold putK at h
  split at h
  · obtain ⟨p,mp,e⟩:=List.mem_map.mp h
    by_cases hk:p.1 = k
    · rw [if_pos hk] at e
      cases e
      exact .inl ⟨hk,rfl⟩
    · rw [if_neg hk] at e
      subst e
      exact .inr ⟨hk,mp⟩
  · next hn =>
    rcases List.mem_append.mp h with m | m
    · refine .inr ⟨fun z=>hn (List.any_eq_true.mpr ⟨_,m,decide_eq_true z⟩),m⟩
    · cases List.mem_singleton.mp m
      exact .inl ⟨rfl,rfl⟩
theorem ints_put {kvs:List (Key×V)} (h:Ints kvs) (k:Key) (n:Int):Ints (putK kvs k (.int n)):=fun j v m=>by
  rw [valV_put]
  rcases mem_putK m with ⟨rfl,rfl⟩ | ⟨ne,m⟩
  · rw [if_pos rfl]
    exact ⟨rfl,n,rfl⟩
  · rw [if_neg ne]
    exact h j v m
section
variable {P:Program} {w:World} {K:PySem.W.Frag} {mg:Str→Option Value} {base:Heap} {f fCel fMix fLpl:Addr} {fd dCel dMix dLpl:FuncData}
def spDst (K:PySem.W.Frag):Sp:=fun vs H Q _=>∃ (a pn:Addr) (ns:List Int) (zs:List Str),vs = [.ref a,.ref pn]∧SqL K H a (ns.map V.int)∧H pn = some (.lst (zs.map V.str))∧zs.Nodup∧zs.length ≤ 8 ∧
  ∀ b m es x H',Same H H'→es.length ≤ 8→(es.map (·.1)).Nodup→At H' (.tup (stT (.fol b m es))) x→Q x H'
theorem scDst:FnScope ["_law_script","_law_names_here","_law_entries","_law_k","_law_name","_law_number","_law_place","_law_born"] ["_law_script","_law_names_here"] (defScope sDst):=⟨rfl,rfl,rfl,by decide +kernel,rfl,by decide +kernel,by decide +kernel⟩
theorem ok_Dst (F:Fun K "_law_folder_stuff" "_law_folder_stuff" sDst f fd) (hCel:Has K mg "_law_cell_at" sCel ["_law_script","_law_k"] fCel dCel) (GCel:FnOk P w K mg base CX0 1 fCel dCel ["_law_script","_law_k"] (spCel K))
    (hMix:Has K mg "_law_mixed" sMix ["_law_cell","_law_k"] fMix dMix) (GMix:FnOk P w K mg base CX0 1 fMix dMix ["_law_cell","_law_k"] spMix) (T:Txt mg):FnOk P w K mg base CX0 2 f fd ["_law_script","_law_names_here"] (spDst K):=by
  refine F.ok scDst (fun vs H Q E h=>?_) (fun cdv A outer s H vs Q E hr h=>?_)
  · obtain ⟨a,pn,ns,zs,rfl,_⟩:=h
    rfl
  obtain ⟨a,pn,ns,zs,rfl,hS,hpn,nd,hz,q⟩:=h
  refine ⟨_,(pss_cons (ps_set (i:=2) scDst.nd rfl (Or.inl rfl) (pe_lst pa_nil))
    (pss_cons (ps_for PassesOwn.never rfl (pi_enum rfl T.enu (pc (pe_callB (call_sortedS) rfl T.srt PyProof.Rows.boot_sorted (pc (pv 1) pa_nil)) pa_nil)) (pg_tup rfl (pgs_cons (pg_name (i:=3) scDst.nd rfl (Or.inl rfl)) (pgs_cons (pg_name (i:=4) scDst.nd rfl (Or.inl rfl)) pgs_nil)))
    (pss_cons (ps_set (i:=5) scDst.nd rfl (Or.inl rfl) (pe_call GMix (hr.mono (by decide)) rfl hMix.nm hMix.fn.kp hMix.bd .nil pass0 (pc (pe_call GCel (hr.mono (by decide)) rfl hCel.nm hCel.fn.kp hCel.bd .nil pass0 (pc (pv 0) (pc pe_int pa_nil))) (pc (pv 3) pa_nil))))
    (pss_cons (ps_set (i:=6) scDst.nd rfl (Or.inl rfl) (pe_op op_add pe_int (pe_op op_mod (pe_op op_fdiv (pv 5) pe_int) pe_int)))
    (pss_cons (ps_if (pt_cmpR op_eq (pe_op op_mod (pe_op op_fdiv (pv 5) pe_int) pe_int) pe_int (nomark _))
    (pss_one (ps_set (i:=6) scDst.nd rfl (Or.inl rfl) pe_int))
    pss_nil)
    (pss_one (ps_expr (pe_bm PySem.F.plainAttrs_list PySem.F.slot_list_append PySem.F.type_list_append mt_append (pv 2) (pc (pe_tup (pc (pv 4) (pc (pe_ix ix_list (pe_lst (pc pe_str (pc pe_str pa_nil))) (pe_op op_mod (pv 5) pe_int) (fun _ _=>rfl)) (pc (pv 6) pa_nil)))) pa_nil))))))))
    (pss_cons (ps_set (i:=7) scDst.nd rfl (Or.inl rfl) (pe_op op_add pe_int (pe_op op_mod (pe_call GCel (hr.mono (by decide)) rfl hCel.nm hCel.fn.kp hCel.bd .nil pass0 (pc (pv 0) (pc pe_int pa_nil))) pe_int)))
    (pss_one (ps_ret (pe_tup (pc pe_str (pc (pv 7) (pc (pe_op op_mod (pe_call GCel (hr.mono (by decide)) rfl hCel.nm hCel.fn.kp hCel.bd .nil pass0 (pc (pv 0) (pc pe_int pa_nil))) pe_int) (pc (pe_callTy call_tuple_of rfl T.tup PyProof.Rows.boot_tuple (pc (pv 2) pa_nil)) pa_nil)))))))))),?_⟩
  refine ⟨(by show 0 ≤ sizeLine; decide),fun p hp=>⟨_,rfl,pn,zs,rfl,SqL.of (same_new hp _ _ _ hpn),by lia,fun l ys pm hl=>?_⟩⟩
  have yl:ys.length ≤ 8:=by rw [pm.length_eq]; exact hz
  have ynd:ys.Nodup:=pm.nodup_iff.mpr nd
  have s0:Same H (upd (upd H p (.lst [])) l (.lst (ys.map V.str))):=(same_new hp _).trans (same_new hl _)
  have nlp:l ≠ p:=(new_free hl).1
  refine ⟨l,_,rfl,SqL.of upd_same,for_enum (K:=K) (a:=l) (xs:=ys.map V.str) (fun i σ H2=>∃ (es:List Ent) (us:List V) (o3 o4 o5 o6:Option V),σ = [some (.ref a),some (.ref pn),some (.ref p),o3,o4,o5,o6,none]∧Same H H2∧H2 l = some (.lst (ys.map V.str))∧H2 p = some (.lst us)∧Ats H2 (es.map enT) us∧es.map (·.1) = ys.take i)
    ⟨[],[],none,none,none,none,rfl,s0,upd_same,(by rw [upd_ne nlp.symm]; exact upd_same),Ats.nil _,rfl⟩ (fun i σ H2 h2=>?_) ?_ ?_⟩
  · obtain ⟨_,_,_,_,_,_,_,_,e,_⟩:=h2
    exact SqL.of e
  · rintro i x t σ H2 hx ⟨es,us,o3,o4,o5,o6,rfl,s2,el,ep,k2,en⟩ ht
    rw [List.getElem?_map] at hx
    obtain ⟨nm,hnm,rfl⟩:=Option.map_eq_some_iff.mp hx
    have li:i < ys.length:=(List.getElem?_eq_some_iff.mp hnm).1
    have st:=same_new ht (HO.tup [V.int (i:Int),V.str nm])
    have lu:=k2.len
    have le:=congrArg List.length en
    rw [List.length_map,List.length_take] at le
    rw [List.length_map] at lu
    refine ⟨t,_,rfl,SqT.of upd_same,rfl,_,_,rfl,_,_,rfl,rfl,?_⟩
    have s3:=s2.trans st
    have el3:=st _ _ el
    have ep3:=st _ _ ep
    have k3:=k2.mono st
    revert s3 el3 ep3 k3
    generalize upd H2 t (HO.tup [V.int (i:Int),V.str nm]) = H3
    intro s3 el3 ep3 k3
    refine ⟨_,rfl,a,ns,5,rfl,by decide,s3.seq hS,fun z=>⟨_,rfl,z,(i:Int),rfl,by lia,by lia,fun y y0 y1=>?_⟩⟩
    refine ⟨_,rfl,_,_,rfl,rfl,⟨by decide,by decide⟩,_,_,rfl,rfl,(by show (0:Int) < 598; decide),_,_,rfl,rfl,?_⟩
    have fin:∀ (pl:Int) (D:Ends),(D.nx = fun σ H2=>∃ (es:List Ent) (us:List V) (o3 o4 o5 o6:Option V),σ = [some (.ref a),some (.ref pn),some (.ref p),o3,o4,o5,o6,none]∧Same H H2∧H2 l = some (.lst (ys.map V.str))∧H2 p = some (.lst us)∧Ats H2 (es.map enT) us∧es.map (·.1) = ys.take (i + 1)) →
        tDrop (tBM K "list" rAppend (tVar 2) (tCons (tTup (tCons (tVar 4) (tCons (tOp (rIxL K) (tLst (tCons (tC (.str (Str.ofString "folder"))) (tCons (tC (.str (Str.ofString "file"))) tNil))) (tOp (rI (fun _ j=>0 < j) fun i j=>V.int (i % j)) (tVar 5) (tC (.int 2)))) (tCons (tVar 6) tNil)))) tNil)) D [some (.ref a),some (.ref pn),some (.ref p),some (.int (i:Int)),some (.str nm),some (.int y),some (.int pl),none] H3:=by
      intro pl D eD
      refine ⟨_,rfl,.inl ⟨rfl,_,SqL.of ep3⟩,_,rfl,(by show 2 ≤ sizeLine; decide),fun o ho=>?_⟩
      refine ⟨_,rfl,_,_,rfl,rfl,(by show (0:Int) < 2; decide),?_⟩
      obtain ⟨kd,hkd⟩:∃ kd:Str,atI [V.str (Str.ofString "folder"),V.str (Str.ofString "file")] (y % 2) = some (.str kd):=by
        have:y % 2 = 0∨y % 2 = 1:=by lia
        rcases this with h | h
        · exact ⟨_,by rw [h]; rfl⟩
        · exact ⟨_,by rw [h]; rfl⟩
      refine ⟨o,_,_,.str kd,rfl,rfl,SqL.of upd_same,hkd,_,rfl,(by show 3 ≤ sizeLine; decide),fun t2 ht2=>?_⟩
      have sA:=(same_new ho (HO.lst [V.str (Str.ofString "folder"),V.str (Str.ofString "file")])).trans (same_new ht2 (HO.tup [V.str nm,V.str kd,V.int pl]))
      have epA:=sA _ _ ep3
      have ne1:l ≠ p:=nlp
      refine ⟨p,us,_,rfl,rfl,epA,small (by lia),?_⟩
      rw [eD]
      refine ⟨es ++ [(nm,kd,pl)],us ++ [.ref t2],_,_,_,_,rfl,same_over (s3.trans sA) hp _,?_,upd_same,?_,?_⟩
      · rw [upd_ne nlp]
        exact sA _ _ el3
      · refine Ats.keepT (keepL epA) (nl_en _) ?_
        rw [List.map_append]
        exact Ats.app (Ats.cons (At.mkT upd_same (Ats.cons (At.str _) (Ats.cons (At.str _) (Ats.cons (At.int _) (Ats.nil _))))) (Ats.nil _)) (k3.mono sA)
      · rw [List.map_append,en,List.take_add_one,hnm]
        rfl
    refine ⟨_,rfl,_,_,rfl,rfl,⟨by decide,by decide⟩,_,_,rfl,rfl,(by show (0:Int) < 4; decide),rfl,_,rfl,ite2 (fun c=>?_) (fun c=>?_)⟩
    · exact fin 77 _ rfl
    · exact fin (2 + y / 2 % 598) _ rfl
  · rintro σ H2 ⟨es,us,o3,o4,o5,o6,rfl,s2,el,ep,k2,en⟩
    rw [List.length_map,List.take_length] at en
    have le:=congrArg List.length en
    rw [List.length_map] at le
    refine ⟨_,rfl,a,ns,6,rfl,by decide,s2.seq hS,fun z6=>⟨_,_,rfl,rfl,(by show (0:Int) < 4294967295; decide),_,_,rfl,rfl,?_⟩⟩
    refine ⟨_,rfl,_,rfl,a,ns,7,rfl,by decide,s2.seq hS,fun z7=>⟨_,_,rfl,rfl,(by show (0:Int) < 1000; decide),_,rfl,p,us,rfl,.inl ⟨SqL.of ep,fun t ht=>⟨(by show 4 ≤ sizeLine; decide),fun o ho=>?_⟩⟩⟩⟩
    have sA:=(same_new ht (HO.tup us)).trans (same_new ho (HO.tup [V.str (Str.ofString "folder"),V.int (1 + z6 % 4294967295),V.int (z7 % 1000),V.ref t]))
    exact q _ _ es _ _ (s2.trans sA) (by lia) (by rw [en]; exact ynd) (At.mkT upd_same (Ats.cons (At.str _) (Ats.cons (At.int _) (Ats.cons (At.int _) (Ats.cons (At.mkT (same_new ho _ _ _ upd_same) (k2.mono sA)) (Ats.nil _))))))
def spLpl:Sp:=fun vs H Q _=>∃ (k:Kn) (t:V),vs = [t]∧At H (.tup (stT k)) t∧szK k ≤ 20∧∀ p H',Same H H'→H p = none→H' p = some (.lst ((plK k).map V.int))→Q (.ref p) H'
theorem scLpl:FnScope ["_law_stuff"] ["_law_stuff"] (defScope sLpl):=⟨rfl,rfl,rfl,by decide +kernel,rfl,by decide +kernel,by decide +kernel⟩
theorem ok_Lpl (F:Fun K "_law_places" "_law_places" sLpl f fd) (T:Txt mg):FnOk P w K mg base CX0 1 f fd ["_law_stuff"] spLpl:=by
  refine F.ok scLpl (fun vs H Q E h=>?_) (fun cdv A outer s H vs Q E hr h=>?_)
  · obtain ⟨k,t,rfl,_⟩:=h
    rfl
  obtain ⟨k,t,rfl,ht,hz,q⟩:=h
  obtain ⟨a,vs,rfl,ea,ka⟩:=ht.tup
  refine ⟨_,(pss_cons (ps_if (pt_cmpR op_eq (pe_ix ix_tup (pv 0) pe_int (fun _ _=>rfl)) pe_str (nomark _))
    (pss_one (ps_ret (pe_lst pa_nil)))
    pss_nil)
    (pss_one (ps_ret (pe_comp [] [] (pi_seq (pe_ix ix_tup (pv 0) pe_int (fun _ _=>rfl))) (fun _ _ _ _ _ _=>pts_nil)
          (fun _ _ _ _ _ _=>(pe_ix (ix_tupK (K:=K) rfl) (pv 0) pe_int (fun _ _=>rfl)))
          rfl (by decide +kernel) (by decide +kernel) rfl (by decide +kernel) (fun _ _ z=>nomatch z) rfl (by decide +kernel) rfl)))),?_⟩
  cases k with
  | cel b cs =>
    obtain ⟨v0,h0,a0⟩:=ka.at (i:=0) rfl
    have e0:v0 = .str (Str.ofString "cells"):=by unfold At at a0; exact a0
    subst e0
    refine ⟨_,rfl,a,_,0,_,rfl,rfl,SqT.of ea,atI_nat h0,rfl,_,rfl,?_⟩
    rw [decide_eq_true rfl]
    exact iteT ⟨by decide,fun p hp=>q p _ (same_new hp _) hp upd_same⟩
  | fil b s' r =>
    obtain ⟨v0,h0,a0⟩:=ka.at (i:=0) rfl
    obtain ⟨v3,h3,a3⟩:=ka.at (i:=3) rfl
    have e0:v0 = .str (Str.ofString "file"):=by unfold At at a0; exact a0
    subst e0
    obtain ⟨b3,ws,rfl,eb,kb⟩:=a3.tup
    have ln:=kb.len
    rw [List.length_map] at ln
    have hz':r.length ≤ 20:=hz
    refine ⟨_,rfl,a,_,0,_,rfl,rfl,SqT.of ea,atI_nat h0,rfl,_,rfl,?_⟩
    rw [decide_eq_false (show ¬ V.str (Str.ofString "file") = V.str (Str.ofString "cells") from fun z=>by injection z with z; revert z; decide +kernel)]
    refine iteF ⟨_,rfl,a,_,3,_,rfl,rfl,SqT.of ea,atI_nat h3,b3,true,rfl,⟨_,Sq.of (tu:=true) eb⟩,fun p hp=>?_⟩
    refine comp_seq (K:=K) (tu:=true) (a:=b3) (xs:=ws) (fun i us H2=>Same H H2∧H2 p = some (.lst us)∧us = ((r.take i).map (·.2.2.1)).map V.int) ⟨same_new hp _,upd_same,rfl⟩ (fun i us H2 _ h2=>Sq.of (tu:=true) (h2.1 _ _ eb)) ?_ ?_
    · rintro i v us H2 hv ⟨s2,e2,rfl⟩
      obtain ⟨t,ht,hat⟩:=(kb.mono s2).get hv
      rw [List.getElem?_map] at ht
      obtain ⟨y,hy,rfl⟩:=Option.map_eq_some_iff.mp ht
      obtain ⟨b1,rfl,eb1⟩:=s4_at hat
      have li:i < r.length:=(List.getElem?_eq_some_iff.mp hy).1
      refine ttT ⟨_,rfl,b1,_,2,_,rfl,rfl,SqT.of eb1,atI_nat (j:=2) rfl,e2,small (by simp; lia),same_over s2 hp _,upd_same,?_⟩
      rw [List.take_add_one,hy,List.map_append,List.map_append]
      rfl
    · rintro us H2 ⟨s2,e2,rfl⟩
      rw [ln,List.take_length] at e2
      exact q p H2 s2 hp e2
  | fol b m es =>
    obtain ⟨v0,h0,a0⟩:=ka.at (i:=0) rfl
    obtain ⟨v3,h3,a3⟩:=ka.at (i:=3) rfl
    have e0:v0 = .str (Str.ofString "folder"):=by unfold At at a0; exact a0
    subst e0
    obtain ⟨b3,ws,rfl,eb,kb⟩:=a3.tup
    have ln:=kb.len
    rw [List.length_map] at ln
    have hz':es.length ≤ 20:=hz
    refine ⟨_,rfl,a,_,0,_,rfl,rfl,SqT.of ea,atI_nat h0,rfl,_,rfl,?_⟩
    rw [decide_eq_false (show ¬ V.str (Str.ofString "folder") = V.str (Str.ofString "cells") from fun z=>by injection z with z; revert z; decide +kernel)]
    refine iteF ⟨_,rfl,a,_,3,_,rfl,rfl,SqT.of ea,atI_nat h3,b3,true,rfl,⟨_,Sq.of (tu:=true) eb⟩,fun p hp=>?_⟩
    refine comp_seq (K:=K) (tu:=true) (a:=b3) (xs:=ws) (fun i us H2=>Same H H2∧H2 p = some (.lst us)∧us = ((es.take i).map (·.2.2)).map V.int) ⟨same_new hp _,upd_same,rfl⟩ (fun i us H2 _ h2=>Sq.of (tu:=true) (h2.1 _ _ eb)) ?_ ?_
    · rintro i v us H2 hv ⟨s2,e2,rfl⟩
      obtain ⟨t,ht,hat⟩:=(kb.mono s2).get hv
      rw [List.getElem?_map] at ht
      obtain ⟨y,hy,rfl⟩:=Option.map_eq_some_iff.mp ht
      obtain ⟨b1,c1,c2,c3,rfl,eb1,rfl,rfl,rfl⟩:=en_at hat
      have li:i < es.length:=(List.getElem?_eq_some_iff.mp hy).1
      refine ttT ⟨_,rfl,b1,_,2,_,rfl,rfl,SqT.of eb1,atI_nat (j:=2) rfl,e2,small (by simp; lia),same_over s2 hp _,upd_same,?_⟩
      rw [List.take_add_one,hy,List.map_append,List.map_append]
      rfl
    · rintro us H2 ⟨s2,e2,rfl⟩
      rw [ln,List.take_length] at e2
      exact q p H2 s2 hp e2
end
end K21
set_option maxHeartbeats 4000000
namespace K21
open PySem L2
theorem pl_len (k:Kn):(plK k).length ≤ szK k:=by
  cases k with
  | cel b cs=>exact Nat.zero_le _
  | fil b s r=>exact Nat.le_of_eq (List.length_map _)
  | fol b m es=>exact Nat.le_of_eq (List.length_map _)
section
variable {P:Program} {w:World} {K:PySem.W.Frag} {mg:Str→Option Value} {base:Heap} {f fCel fMix fLpl:Addr} {fd dCel dMix dLpl:FuncData}
def spMvs:Sp:=fun vs H Q _=>∃ (k:Kn) (t:V) (n:Int),vs = [t,.int n]∧At H (.tup (stT k)) t∧szK k ≤ 20∧∀ d kvs H',Same H H'→H d = none→H' d = some (.dK kvs)→Ints kvs→Q (.ref d) H'
theorem scMvs:FnScope ["_law_stuff","_law_cell","_law_moves_here","_law_places_here","_law_many","_law_k","_law_place"] ["_law_stuff","_law_cell"] (defScope sMvs):=⟨rfl,rfl,rfl,by decide +kernel,rfl,by decide +kernel,by decide +kernel⟩
theorem ok_Mvs (F:Fun K "_law_moves" "_law_moves" sMvs f fd) (hLpl:Has K mg "_law_places" sLpl ["_law_stuff"] fLpl dLpl) (GLpl:FnOk P w K mg base CX0 1 fLpl dLpl ["_law_stuff"] spLpl)
    (hMix:Has K mg "_law_mixed" sMix ["_law_cell","_law_k"] fMix dMix) (GMix:FnOk P w K mg base CX0 1 fMix dMix ["_law_cell","_law_k"] spMix) (T:Txt mg):FnOk P w K mg base CX0 2 f fd ["_law_stuff","_law_cell"] spMvs:=by
  refine F.ok scMvs (fun vs H Q E h=>?_) (fun cdv A outer s H vs Q E hr h=>?_)
  · obtain ⟨k,t,n,rfl,_⟩:=h
    rfl
  obtain ⟨k,t,n,rfl,ht,hz,q⟩:=h
  have hu:=hu_of hr
  have lk:=pl_len k
  refine ⟨_,(pss_cons (ps_set (i:=2) scMvs.nd rfl (Or.inl rfl) pe_dnewK)
    (pss_cons (ps_set (i:=3) scMvs.nd rfl (Or.inl rfl) (pe_sset rfl rfl T.srt rfl T.set (pe_call GLpl (hr.mono (by decide)) rfl hLpl.nm hLpl.fn.kp hLpl.bd .nil pass0 (pc (pv 0) pa_nil))))
    (pss_cons (ps_set (i:=4) scMvs.nd rfl (Or.inl rfl) (pe_callB call_len_seq rfl T.len PySem.boot_len (pc (pv 3) pa_nil)))
    (pss_cons (ps_for PassesOwn.never rfl (pi_enum rfl T.enu (pc (pv 3) pa_nil)) (pg_tup rfl (pgs_cons (pg_name (i:=5) scMvs.nd rfl (Or.inl rfl)) (pgs_cons (pg_name (i:=6) scMvs.nd rfl (Or.inl rfl)) pgs_nil)))
    (pss_one (ps_if (pt_cmpR op_eq (pe_op op_mod (pv 1) pe_int) pe_int (nomark _))
    (pss_one (ps_dput hu (pv 2) (pv 6) (pe_ix ix_list (pv 3) (pe_op op_mod (pe_op op_add (pe_op op_add (pv 5) pe_int) (pe_op op_fdiv (pv 1) pe_int)) (pv 4)) (fun _ _=>rfl)) rfl))
    (pss_one (ps_if (pt_cmpR op_gt (pe_op op_mod (pe_call GMix (hr.mono (by decide)) rfl hMix.nm hMix.fn.kp hMix.bd .nil pass0 (pc (pv 1) (pc (pv 5) pa_nil))) pe_int) pe_int (nomark _))
    (pss_one (ps_dput hu (pv 2) (pv 6) (pe_op op_add (pe_op op_add pe_int (pe_op op_mul pe_int (pv 5))) (pe_op op_mod (pv 1) pe_int)) rfl))
    pss_nil)))))
    (pss_cons (ps_dput hu (pv 2) pe_int pe_int rfl)
    (pss_one (ps_ret (pv 2)))))))),?_⟩
  refine fun d hd=>⟨_,rfl,k,t,rfl,ht.mono (same_new hd _),hz,fun p H1 s1 hp e1=>⟨p,plK k,rfl,SqL.of e1,by lia,fun l ms asc mem hl=>?_⟩⟩
  have nd:ms.Nodup:=asc.imp fun h=>Int.ne_of_lt h
  have lm:ms.length ≤ (plK k).length:=nodup_le nd fun x hx=>(mem x).mp hx
  have s0:Same H (upd H1 l (.lst (ms.map V.int))):=(same_new hd _).trans (s1.trans (same_new hl _))
  have ed0:upd H1 l (.lst (ms.map V.int)) d = some (.dK []):=same_new hl _ _ _ (s1 _ _ upd_same)
  have nld:l ≠ d:=fun z=>by
    rw [z] at hl
    have e:=s1 _ _ (upd_same (H:=H) (a:=d) (o:=HO.dK []))
    rw [hl] at e
    cases e
  refine ⟨_,rfl,l,_,rfl,.inl (SqL.of upd_same),?_⟩
  refine ⟨_,rfl,l,_,rfl,SqL.of upd_same,for_enum (K:=K) (a:=l) (xs:=ms.map V.int) (fun i σ H2=>∃ (kvs:List (Key×V)) (o5 o6:Option V),σ = [some t,some (.int n),some (.ref d),some (.ref l),some (.int ((ms.map V.int).length:Nat)),o5,o6]∧Same H H2∧H2 l = some (.lst (ms.map V.int))∧H2 d = some (.dK kvs)∧Ints kvs∧kvs.length ≤ i)
    ⟨[],none,none,rfl,s0,upd_same,ed0,(fun _ _ m=>nomatch m),Nat.le_refl _⟩ (fun i σ H2 h2=>?_) ?_ ?_⟩
  · obtain ⟨_,_,_,_,_,e,_⟩:=h2
    exact SqL.of e
  · rintro i x tt σ H2 hx ⟨kvs,o5,o6,rfl,s2,el,ed,hi,lv⟩ htt
    rw [List.getElem?_map] at hx
    obtain ⟨pl,hpl,rfl⟩:=Option.map_eq_some_iff.mp hx
    have li:i < ms.length:=(List.getElem?_eq_some_iff.mp hpl).1
    have st:=same_new htt (HO.tup [V.int (i:Int),V.int pl])
    refine ⟨tt,_,rfl,SqT.of upd_same,rfl,_,_,rfl,_,_,rfl,rfl,?_⟩
    have s3:=s2.trans st
    have el3:=st _ _ el
    have ed3:=st _ _ ed
    revert s3 el3 ed3
    generalize upd H2 tt (HO.tup [V.int (i:Int),V.int pl]) = H3
    intro s3 el3 ed3
    have put:∀ m:Int,∃ (kvs':List (Key×V)) (o5 o6:Option V),[some t,some (.int n),some (.ref d),some (.ref l),some (.int ((ms.map V.int).length:Nat)),some (.int (i:Int)),some (.int pl)] = [some t,some (.int n),some (.ref d),some (.ref l),some (.int ((ms.map V.int).length:Nat)),o5,o6]∧Same H (upd H3 d (.dK (putK kvs (Sum.inl pl) (.int m))))∧upd H3 d (.dK (putK kvs (Sum.inl pl) (.int m))) l = some (.lst (ms.map V.int))∧upd H3 d (.dK (putK kvs (Sum.inl pl) (.int m))) d = some (.dK kvs')∧Ints kvs'∧kvs'.length ≤ i + 1:=fun m=>by
      refine ⟨_,_,_,rfl,same_over s3 hd _,by rw [upd_ne nld]; exact el3,upd_same,ints_put hi _ m,?_⟩
      have:=length_putK kvs (Sum.inl pl:Key) (.int m)
      lia
    refine ⟨_,rfl,_,_,rfl,rfl,(by show (0:Int) < 3; decide),rfl,_,rfl,ite2 (fun c=>?_) (fun c=>?_)⟩
    · have lpos:(0:Int) < ((ms.map V.int).length:Nat):=by rw [List.length_map]; lia
      refine ⟨_,rfl,_,rfl,_,_,rfl,rfl,_,rfl,_,_,rfl,rfl,⟨by decide,by decide⟩,_,_,rfl,rfl,_,rfl,_,_,rfl,rfl,lpos,?_⟩
      have b0:=Int.emod_nonneg ((i:Int) + 1 + n / 3) (show (((ms.map V.int).length:Nat):Int) ≠ 0 by lia)
      have b1:=Int.emod_lt_of_pos ((i:Int) + 1 + n / 3) lpos
      dsimp only
      generalize ((i:Int) + 1 + n / 3) % (((ms.map V.int).length:Nat):Int) = ix at b0 b1
      obtain ⟨j,rfl⟩:=Int.eq_ofNat_of_zero_le b0
      have hj:j < ms.length:=by rw [List.length_map] at b1; lia
      refine ⟨l,_,_,.int ms[j],rfl,rfl,SqL.of el3,atI_nat (by rw [List.getElem?_map,List.getElem?_eq_getElem hj]; rfl),_,rfl,_,rfl,d,_,rfl,DPut.k (k:=Sum.inl pl) ed3 (small (by lia)),put _⟩
    · refine ⟨_,rfl,_,rfl,n,(i:Int),rfl,by lia,by lia,fun y y0 y1=>⟨_,_,rfl,rfl,(by show (0:Int) < 3; decide),_,_,rfl,rfl,_,rfl,ite2 (fun c2=>?_) (fun c2=>?_)⟩⟩
      · exact ⟨_,rfl,_,_,rfl,rfl,.inl ⟨by decide,by decide⟩,_,_,rfl,rfl,_,rfl,_,_,rfl,rfl,(by show (0:Int) < 7; decide),_,_,rfl,rfl,_,rfl,_,rfl,d,_,rfl,DPut.k (k:=Sum.inl pl) ed3 (small (by lia)),put _⟩
      · exact ⟨kvs,_,_,rfl,s3,el3,ed3,hi,by lia⟩
  · rintro σ H2 ⟨kvs,o5,o6,rfl,s2,el,ed,hi,lv⟩
    rw [List.length_map] at lv
    exact ⟨_,rfl,d,_,rfl,DPut.k (k:=Sum.inl 1) ed (small (by lia)),_,rfl,q d _ _ (same_over s2 hd _) hd upd_same (ints_put hi _ 5)⟩
def spLmv:Sp:=fun vs H Q _=>∃ (k:Kn) (t:V) (d:Addr) (kvs:List (Key×V)),vs = [t,.ref d]∧At H (.tup (stT k)) t∧szK k ≤ 20∧H d = some (.dK kvs)∧Ints kvs∧∀ y H',Same H H'→At H' (.tup (stT (mvK kvs k))) y→Q y H'
theorem scLmv:FnScope ["_law_stuff","_law_moves_here","_law_rows"] ["_law_stuff","_law_moves_here"] (defScope sLmv):=⟨rfl,rfl,rfl,by decide +kernel,rfl,by decide +kernel,by decide +kernel⟩
theorem ok_Lmv (F:Fun K "_law_moved" "_law_moved" sLmv f fd) (T:Txt mg):FnOk P w K mg base CX0 1 f fd ["_law_stuff","_law_moves_here"] spLmv:=by
  refine F.ok scLmv (fun vs H Q E h=>?_) (fun cdv A outer s H vs Q E hr h=>?_)
  · obtain ⟨k,t,d,kvs,rfl,_⟩:=h
    rfl
  obtain ⟨k,t,d,kvs,rfl,ht,hz,hd,hi,q⟩:=h
  have hu:=hu_of hr
  have ht0:=ht
  obtain ⟨a,vs,rfl,ea,ka⟩:=ht.tup
  refine ⟨_,(pss_cons (ps_if (pt_cmpR op_eq (pe_ix ix_tup (pv 0) pe_int (fun _ _=>rfl)) pe_str (nomark _))
    (pss_one (ps_ret (pv 0)))
    pss_nil)
    (pss_cons (ps_setC1 (i:=2) scLmv.nd rfl rfl [1] ["_law_moves_here"] (pi_seq (pe_ix ix_tup (pv 0) pe_int (fun _ _=>rfl))) (fun _ _ _ _ _ _=>pts_nil)
          (fun _ _ _ _ _ _=>(pe_op op_catA (pe_op op_catA (pe_slice (sl_tupK (K:=K) rfl) (pv 0) po_none (po_some pe_int)) (pe_tup (pc (pe_dget2 hu (pv 1) (pe_ix (ix_tupK (K:=K) rfl) (pv 0) pe_int (fun _ _=>rfl)) (pe_ix (ix_tupK (K:=K) rfl) (pv 0) pe_int (fun _ _=>rfl)) ⟨rfl,rfl,rfl,rfl⟩) pa_nil))) (pe_slice (sl_tupK (K:=K) rfl) (pv 0) (po_some pe_int) po_none)))
          rfl (by decide +kernel) (by decide +kernel) rfl (by decide +kernel) (fun j y hj=>by
            match j,hj with
            | 0,hj=>cases hj; exact ⟨1,rfl,rfl,rfl,.inl rfl⟩) rfl (by decide +kernel) rfl)
    (pss_one (ps_ret (pe_op op_catA (pe_slice sl_tup (pv 0) po_none (po_some pe_int)) (pe_tup (pc (pe_callTy call_tuple_of rfl T.tup PyProof.Rows.boot_tuple (pc (pv 2) pa_nil)) pa_nil))))))),?_⟩
  cases k with
  | cel b cs =>
    obtain ⟨v0,h0,a0⟩:=ka.at (i:=0) rfl
    have e0:v0 = .str (Str.ofString "cells"):=by unfold At at a0; exact a0
    subst e0
    refine ⟨_,rfl,a,_,0,_,rfl,rfl,SqT.of ea,atI_nat h0,rfl,_,rfl,?_⟩
    rw [decide_eq_true rfl]
    exact iteT ⟨_,rfl,q _ H (Same.refl H) ht0⟩
  | fil b s' r =>
    obtain ⟨v0,h0,a0⟩:=ka.at (i:=0) rfl
    obtain ⟨v1,h1,a1⟩:=ka.at (i:=1) rfl
    obtain ⟨v2,h2,a2⟩:=ka.at (i:=2) rfl
    obtain ⟨v3,h3,a3⟩:=ka.at (i:=3) rfl
    have e0:v0 = .str (Str.ofString "file"):=by unfold At at a0; exact a0
    have e1:v1 = .int b:=by unfold At at a1; exact a1
    have e2':v2 = .int s':=by unfold At at a2; exact a2
    subst e0 e1 e2'
    have evs:vs = [.str (Str.ofString "file"),.int b,.int s',v3]:=by
      match vs,ka.len,h0,h1,h2,h3 with
      | [x0,x1,x2,x3],_,h0,h1,h2,h3 =>
        cases h0; cases h1; cases h2; cases h3
        rfl
    subst evs
    obtain ⟨b3,ws,rfl,eb,kb⟩:=a3.tup
    have ln:=kb.len
    rw [List.length_map] at ln
    have hz':r.length ≤ 20:=hz
    refine ⟨_,rfl,a,_,0,_,rfl,rfl,SqT.of ea,atI_nat h0,rfl,_,rfl,?_⟩
    rw [decide_eq_false (show ¬ V.str (Str.ofString "file") = V.str (Str.ofString "cells") from fun z=>by injection z with z; revert z; decide +kernel)]
    refine iteF ⟨_,rfl,a,_,3,_,rfl,rfl,SqT.of ea,atI_nat h3,b3,true,rfl,⟨_,Sq.of (tu:=true) eb⟩,fun p hp=>?_⟩
    refine comp_seq (K:=K) (tu:=true) (a:=b3) (xs:=ws) (fun i us H2=>Same H H2∧H2 p = some (.lst us)∧Ats H2 (((r.take i).map fun y=>(y.1,y.2.1,mvI kvs y.2.2.1,y.2.2.2)).map s4T) us) ⟨same_new hp _,upd_same,Ats.nil _⟩ (fun i us H2 _ h2=>Sq.of (tu:=true) (h2.1 _ _ eb)) ?_ ?_
    · rintro i v us H2 hv ⟨s2,e2,k2⟩
      obtain ⟨t,ht,hat⟩:=(kb.mono s2).get hv
      rw [List.getElem?_map] at ht
      obtain ⟨y,hy,rfl⟩:=Option.map_eq_some_iff.mp ht
      obtain ⟨b1,rfl,eb1⟩:=s4_at hat
      have li:i < r.length:=(List.getElem?_eq_some_iff.mp hy).1
      have lu:=k2.len
      rw [List.length_map,List.length_map,List.length_take] at lu
      refine ttT ⟨_,rfl,_,rfl,b1,_,rfl,SqT.of eb1,(fun h=>absurd h.2 (show ¬ HT.sIx 4 4 (some 2) = 4 by decide)),fun t1 ht1=>?_⟩
      have u1:=same_new ht1 (HO.tup (cutV [V.int y.1,V.int y.2.1,V.int y.2.2.1,V.int y.2.2.2] none (some 2)))
      have eb2:=u1 _ _ eb1
      refine ⟨_,rfl,d,rfl,.inl ⟨_,.inl (u1 _ _ (s2 _ _ hd))⟩,_,rfl,b1,_,2,_,rfl,rfl,SqT.of eb2,atI_nat (j:=2) rfl,_,rfl,b1,_,2,_,rfl,rfl,SqT.of eb2,atI_nat (j:=2) rfl,_,DGet.k (k:=Sum.inl y.2.2.1) (u1 _ _ (s2 _ _ hd)),?_⟩
      rw [mv_get hi]
      refine ⟨(by show 1 ≤ sizeLine; decide),fun t2 ht2=>?_⟩
      have u2:=same_new ht2 (HO.tup [V.int (mvI kvs y.2.2.1)])
      refine ⟨t1,t2,_,_,rfl,rfl,u2 _ _ upd_same,upd_same,(by show 3 ≤ sizeLine; decide),fun t3 H4 u3 e4=>?_⟩
      have uA:=u1.trans (u2.trans u3)
      refine ⟨_,rfl,_,rfl,b1,_,rfl,SqT.of (uA _ _ eb1),(fun h=>absurd h.1 (show ¬ HT.sIx 4 0 (some 3) = 0 by decide)),fun t4 ht4=>?_⟩
      have u4:=same_new ht4 (HO.tup (cutV [V.int y.1,V.int y.2.1,V.int y.2.2.1,V.int y.2.2.2] (some 3) none))
      refine ⟨t3,t4,_,_,rfl,rfl,u4 _ _ e4,upd_same,(by show 4 ≤ sizeLine; decide),fun t5 H6 u5 e6=>?_⟩
      have uB:=uA.trans (u4.trans u5)
      have e7:H6 t5 = some (.tup [V.int y.1,V.int y.2.1,V.int (mvI kvs y.2.2.1),V.int y.2.2.2]):=e6
      refine ⟨uB _ _ e2,small (by lia),same_over (s2.trans uB) hp _,upd_same,?_⟩
      refine Ats.keepT (keepL (uB _ _ e2)) (nl_s4 _) ?_
      rw [List.take_add_one,hy,List.map_append,List.map_append]
      exact Ats.app (Ats.cons (At.mkT e7 (Ats.cons (At.int _) (Ats.cons (At.int _) (Ats.cons (At.int _) (Ats.cons (At.int _) (Ats.nil _)))))) (Ats.nil _)) (k2.mono uB)
    · rintro us H2 ⟨s2,e2,k2⟩
      rw [ln,List.take_length] at k2
      refine ⟨_,rfl,_,rfl,a,_,rfl,SqT.of (s2 _ _ ea),(fun h=>absurd h.2 (show ¬ HT.sIx 4 4 (some 3) = 4 by decide)),fun t1 ht1=>?_⟩
      have u1:=same_new ht1 (HO.tup (cutV [V.str (Str.ofString "file"),V.int b,V.int s',V.ref b3] none (some 3)))
      refine ⟨_,rfl,p,us,rfl,.inl ⟨SqL.of (u1 _ _ e2),fun t2 ht2=>⟨(by show 1 ≤ sizeLine; decide),fun t3 ht3=>?_⟩⟩⟩
      have u2:=same_new ht2 (HO.tup us)
      have u3:=same_new ht3 (HO.tup [V.ref t2])
      refine ⟨t1,t3,_,_,rfl,rfl,u3 _ _ (u2 _ _ upd_same),upd_same,(by show 4 ≤ sizeLine; decide),fun t4 H5 u4 e5=>?_⟩
      have uA:=u1.trans (u2.trans (u3.trans u4))
      have e6:H5 t4 = some (.tup [V.str (Str.ofString "file"),V.int b,V.int s',V.ref t2]):=e5
      exact q _ H5 (s2.trans uA) (At.mkT e6 (Ats.cons (At.str _) (Ats.cons (At.int _) (Ats.cons (At.int _) (Ats.cons (At.mkT (u4 _ _ (u3 _ _ upd_same)) (k2.mono uA)) (Ats.nil _))))))
  | fol b m es =>
    obtain ⟨v0,h0,a0⟩:=ka.at (i:=0) rfl
    obtain ⟨v1,h1,a1⟩:=ka.at (i:=1) rfl
    obtain ⟨v2,h2,a2⟩:=ka.at (i:=2) rfl
    obtain ⟨v3,h3,a3⟩:=ka.at (i:=3) rfl
    have e0:v0 = .str (Str.ofString "folder"):=by unfold At at a0; exact a0
    have e1:v1 = .int b:=by unfold At at a1; exact a1
    have e2':v2 = .int m:=by unfold At at a2; exact a2
    subst e0 e1 e2'
    have evs:vs = [.str (Str.ofString "folder"),.int b,.int m,v3]:=by
      match vs,ka.len,h0,h1,h2,h3 with
      | [x0,x1,x2,x3],_,h0,h1,h2,h3 =>
        cases h0; cases h1; cases h2; cases h3
        rfl
    subst evs
    obtain ⟨b3,ws,rfl,eb,kb⟩:=a3.tup
    have ln:=kb.len
    rw [List.length_map] at ln
    have hz':es.length ≤ 20:=hz
    refine ⟨_,rfl,a,_,0,_,rfl,rfl,SqT.of ea,atI_nat h0,rfl,_,rfl,?_⟩
    rw [decide_eq_false (show ¬ V.str (Str.ofString "folder") = V.str (Str.ofString "cells") from fun z=>by injection z with z; revert z; decide +kernel)]
    refine iteF ⟨_,rfl,a,_,3,_,rfl,rfl,SqT.of ea,atI_nat h3,b3,true,rfl,⟨_,Sq.of (tu:=true) eb⟩,fun p hp=>?_⟩
    refine comp_seq (K:=K) (tu:=true) (a:=b3) (xs:=ws) (fun i us H2=>Same H H2∧H2 p = some (.lst us)∧Ats H2 (((es.take i).map fun y=>(y.1,y.2.1,mvI kvs y.2.2)).map enT) us) ⟨same_new hp _,upd_same,Ats.nil _⟩ (fun i us H2 _ h2=>Sq.of (tu:=true) (h2.1 _ _ eb)) ?_ ?_
    · rintro i v us H2 hv ⟨s2,e2,k2⟩
      obtain ⟨t,ht,hat⟩:=(kb.mono s2).get hv
      rw [List.getElem?_map] at ht
      obtain ⟨y,hy,rfl⟩:=Option.map_eq_some_iff.mp ht
      obtain ⟨b1,c1,c2,c3,rfl,eb1,rfl,rfl,rfl⟩:=en_at hat
      have li:i < es.length:=(List.getElem?_eq_some_iff.mp hy).1
      have lu:=k2.len
      rw [List.length_map,List.length_map,List.length_take] at lu
      refine ttT ⟨_,rfl,_,rfl,b1,_,rfl,SqT.of eb1,(fun h=>absurd h.2 (show ¬ HT.sIx 3 3 (some 2) = 3 by decide)),fun t1 ht1=>?_⟩
      have u1:=same_new ht1 (HO.tup (cutV [V.str y.1,V.str y.2.1,V.int y.2.2] none (some 2)))
      have eb2:=u1 _ _ eb1
      refine ⟨_,rfl,d,rfl,.inl ⟨_,.inl (u1 _ _ (s2 _ _ hd))⟩,_,rfl,b1,_,2,_,rfl,rfl,SqT.of eb2,atI_nat (j:=2) rfl,_,rfl,b1,_,2,_,rfl,rfl,SqT.of eb2,atI_nat (j:=2) rfl,_,DGet.k (k:=Sum.inl y.2.2) (u1 _ _ (s2 _ _ hd)),?_⟩
      rw [mv_get hi]
      refine ⟨(by show 1 ≤ sizeLine; decide),fun t2 ht2=>?_⟩
      have u2:=same_new ht2 (HO.tup [V.int (mvI kvs y.2.2)])
      refine ⟨t1,t2,_,_,rfl,rfl,u2 _ _ upd_same,upd_same,(by show 3 ≤ sizeLine; decide),fun t3 H4 u3 e4=>?_⟩
      have uA:=u1.trans (u2.trans u3)
      refine ⟨_,rfl,_,rfl,b1,_,rfl,SqT.of (uA _ _ eb1),(fun h=>absurd h.1 (show ¬ HT.sIx 3 0 (some 3) = 0 by decide)),fun t4 ht4=>?_⟩
      have u4:=same_new ht4 (HO.tup (cutV [V.str y.1,V.str y.2.1,V.int y.2.2] (some 3) none))
      refine ⟨t3,t4,_,_,rfl,rfl,u4 _ _ e4,upd_same,(by show 3 ≤ sizeLine; decide),fun t5 H6 u5 e6=>?_⟩
      have uB:=uA.trans (u4.trans u5)
      have e7:H6 t5 = some (.tup [V.str y.1,V.str y.2.1,V.int (mvI kvs y.2.2)]):=e6
      refine ⟨uB _ _ e2,small (by lia),same_over (s2.trans uB) hp _,upd_same,?_⟩
      refine Ats.keepT (keepL (uB _ _ e2)) (nl_en _) ?_
      rw [List.take_add_one,hy,List.map_append,List.map_append]
      exact Ats.app (Ats.cons (At.mkT e7 (Ats.cons (At.str _) (Ats.cons (At.str _) (Ats.cons (At.int _) (Ats.nil _))))) (Ats.nil _)) (k2.mono uB)
    · rintro us H2 ⟨s2,e2,k2⟩
      rw [ln,List.take_length] at k2
      refine ⟨_,rfl,_,rfl,a,_,rfl,SqT.of (s2 _ _ ea),(fun h=>absurd h.2 (show ¬ HT.sIx 4 4 (some 3) = 4 by decide)),fun t1 ht1=>?_⟩
      have u1:=same_new ht1 (HO.tup (cutV [V.str (Str.ofString "folder"),V.int b,V.int m,V.ref b3] none (some 3)))
      refine ⟨_,rfl,p,us,rfl,.inl ⟨SqL.of (u1 _ _ e2),fun t2 ht2=>⟨(by show 1 ≤ sizeLine; decide),fun t3 ht3=>?_⟩⟩⟩
      have u2:=same_new ht2 (HO.tup us)
      have u3:=same_new ht3 (HO.tup [V.ref t2])
      refine ⟨t1,t3,_,_,rfl,rfl,u3 _ _ (u2 _ _ upd_same),upd_same,(by show 4 ≤ sizeLine; decide),fun t4 H5 u4 e5=>?_⟩
      have uA:=u1.trans (u2.trans (u3.trans u4))
      have e6:H5 t4 = some (.tup [V.str (Str.ofString "folder"),V.int b,V.int m,V.ref t2]):=e5
      exact q _ H5 (s2.trans uA) (At.mkT e6 (Ats.cons (At.str _) (Ats.cons (At.int _) (Ats.cons (At.int _) (Ats.cons (At.mkT (u4 _ _ (u3 _ _ upd_same)) (k2.mono uA)) (Ats.nil _))))))
def spLen:Sp:=fun vs H Q _=>∃ b m es t n,vs = [t,.str n]∧At H (.tup (stT (.fol b m es))) t∧∀ v H',Same H H'→EnAt H' (fndE es n) v→Q v H'
theorem scLen:FnScope ["_law_stuff","_law_name","_law_row"] ["_law_stuff","_law_name"] (defScope sLen):=⟨rfl,rfl,rfl,by decide +kernel,rfl,by decide +kernel,by decide +kernel⟩
theorem ok_Len (F:Fun K "_law_entry" "_law_entry" sLen f fd):FnOk P w K mg base CX0 1 f fd ["_law_stuff","_law_name"] spLen:=by
  refine F.ok scLen (fun vs H Q E h=>?_) (fun cdv A outer s H vs Q E hr h=>?_)
  · obtain ⟨b,m,es,t,n,rfl,_⟩:=h
    rfl
  obtain ⟨b,m,es,t,n,rfl,ht,q⟩:=h
  obtain ⟨a0,vs0,rfl,ea0,ka0⟩:=ht.tup
  obtain ⟨v3,h3,a3⟩:=ka0.at (i:=3) rfl
  obtain ⟨a,vs,rfl,ea,ka⟩:=a3.tup
  have ln:=ka.len
  rw [List.length_map] at ln
  refine ⟨_,(pss_cons (ps_for PassesOwn.never rfl (pi_seq (pe_ix ix_tup (pv 0) pe_int (fun _ _=>rfl))) (pg_name (i:=2) scLen.nd rfl (Or.inl rfl))
    (pss_one (ps_if (pt_cmpR op_eq (pe_ix ix_tup (pv 2) pe_int (fun _ _=>rfl)) (pv 1) (nomark _))
    (pss_one (ps_ret (pe_slice sl_tup (pv 2) (po_some pe_int) po_none)))
    pss_nil)))
    (pss_one (ps_ret pe_non))),?_⟩
  refine ⟨_,rfl,a0,_,3,_,rfl,rfl,SqT.of ea0,atI_nat h3,a,true,rfl,⟨_,Sq.of (tu:=true) ea⟩,?_⟩
  refine for_seq (K:=K) (tu:=true) (a:=a) (xs:=vs) (fun i σ H2=>H2 = H∧(∃ o1,σ = [some (.ref a0),some (.str n),o1])∧fndE es n = fndE (es.drop i) n) ⟨rfl,⟨_,rfl⟩,rfl⟩ (fun i σ H2 _ h2=>by rw [h2.1]; exact Sq.of (tu:=true) ea) ?_ ?_
  · rintro i v σ H2 hv ⟨rfl,⟨o1,rfl⟩,hf⟩
    obtain ⟨t,ht,hat⟩:=ka.get hv
    rw [List.getElem?_map] at ht
    obtain ⟨y,hy,rfl⟩:=Option.map_eq_some_iff.mp ht
    obtain ⟨q1,c1,c2,c3,rfl,eb,rfl,rfl,rfl⟩:=en_at hat
    have fd:=fnd_drop hy hf
    refine ⟨_,rfl,q1,_,0,_,rfl,rfl,SqT.of eb,atI_nat (j:=0) rfl,_,rfl,rfl,_,rfl,?_⟩
    have ed:decide (V.str y.1 = V.str n) = decide (y.1 = n):=decide_eq_decide.mpr ⟨fun h=>by injection h,fun h=>by rw [h]⟩
    rw [ed]
    refine ite2 (fun k=>?_) (fun k=>?_)
    · rw [if_pos k] at fd
      refine ⟨_,rfl,_,rfl,q1,_,rfl,SqT.of eb,(fun h=>absurd h.1 (show ¬ HT.sIx 3 0 (some 1) = 0 by decide)),fun t ht=>q _ _ (same_new ht _) ?_⟩
      rw [fd]
      exact At.mkT (vs:=[.str y.2.1,.int y.2.2]) upd_same (Ats.cons (At.str _) (Ats.cons (At.int _) (Ats.nil _)))
    · rw [if_neg k] at fd
      exact ⟨rfl,⟨_,rfl⟩,fd⟩
  · rintro σ H2 ⟨rfl,⟨o1,rfl⟩,hf⟩
    refine q _ _ (Same.refl _) ?_
    rw [hf,ln,List.drop_length]
    rfl
end
end K21
set_option maxHeartbeats 4000000
namespace K21
open PySem L2
theorem flat_ints (l:List Int):(l.map V.int).all flatV = true:=by
  rw [List.all_map]
  exact List.all_eq_true.mpr fun _ _=>rfl
theorem eqVs_ints:∀ l:List Int,eqVs (l.map V.int) (l.map V.int) = true
  | []=>rfl
  | x :: l=>by
    show (eqV (.int x) (.int x) && eqVs (l.map V.int) (l.map V.int)) = true
    rw [eqVs_ints l]
    show ((x == x) && true) = true
    simp
def spSho (c:Cl) (k0:Kn→Prop):Sp:=fun vs H Q _=>∃ (k:Kn) (x t:V),vs = [x,t]∧KnAt c H k x∧At H (.tup (stT k)) t∧k0 k∧szK k ≤ 20∧∀ H',Same H H'→Q (.bl true) H'
end K21
set_option maxHeartbeats 4000000
namespace K21
open PySem L2
section
variable {P:Program} {w:World} {K:PySem.W.Frag} {mg:Str→Option Value} {base:Heap} {f fKd fSt fPt fLpl:Addr} {fd dKd dSt dPt dLpl:FuncData} {c:Cl}
theorem scShoC:FnScope ["_law_knot","_law_stuff","_law_kinds","_law_told"] ["_law_knot","_law_stuff"] (defScope sSho):=⟨rfl,rfl,rfl,by decide +kernel,rfl,by decide +kernel,by decide +kernel⟩
theorem ok_ShoC (F:Fun K "_law_shows" "_law_shows" sSho f fd) (cf:CF K mg c) (hCKd:MHas K c.KC "kind" "CellsKnot.kind" sCKd ["self"] fKd dKd) (GCKd:FnOk P w K mg base CX0 1 fKd dKd ["self"] (spKd c isC))
    (hCSt:MHas K c.KC "stuff" "CellsKnot.stuff" sCSt ["self"] fSt dSt) (GCSt:FnOk P w K mg base CX0 1 fSt dSt ["self"] (spSt c isC))
    (hCPt:MHas K c.KC "points" "CellsKnot.points" sCPt ["self"] fPt dPt) (GCPt:FnOk P w K mg base CX0 2 fPt dPt ["self"] (spPt c isC))
    (hLpl:Has K mg "_law_places" sLpl ["_law_stuff"] fLpl dLpl) (GLpl:FnOk P w K mg base CX0 1 fLpl dLpl ["_law_stuff"] spLpl) (T:Txt mg):FnOk P w K mg base CX0 3 f fd ["_law_knot","_law_stuff"] (spSho c isC):=by
  refine F.ok scShoC (fun vs H Q E h=>?_) (fun cdv A outer s H vs Q E hr h=>?_)
  · obtain ⟨k,x,t,rfl,_⟩:=h
    rfl
  obtain ⟨k,x,t,rfl,hk,ht,⟨b,cs,rfl⟩,hz,q⟩:=h
  have hk0:=hk
  have ht0:=ht
  obtain ⟨p,dx,v,rfl,e,av⟩:=hk
  obtain ⟨a,vs,rfl,ea,ka⟩:=ht.tup
  obtain ⟨v0,h0,a0⟩:=ka.at (i:=0) rfl
  obtain ⟨v1,h1,a1⟩:=ka.at (i:=1) rfl
  obtain ⟨v2,h2,a2⟩:=ka.at (i:=2) rfl
  have e0:v0 = .str (Str.ofString "cells"):=by unfold At at a0; exact a0
  have e1:v1 = .int b:=by unfold At at a1; exact a1
  subst e0 e1
  refine ⟨_,(pss_cons (ps_if (PW.pt (pw_or (pt_not (pt_val (pe_callB call_isinstO rfl T.isi PyProof.Rows.boot_isinstance (pc (pv 0) (pc (pe_glob (v:=.ref c.K0) rfl cf.nK0 rfl) pa_nil))))) (pw_or (pt_cmpR op_ne (pe_meth0 (pv 0) cf.clC hCKd.me GCKd (hr.mono (by decide)) hCKd.bd .nil pass0) (pe_ix ix_tup (pv 1) pe_int (fun _ _=>rfl)) (nomark _)) (pw_or1 (pt_cmpR op_ne (pe_fld (pv 0) rfl) (pe_ix ix_tup (pv 1) pe_int (fun _ _=>rfl)) (nomark _))))))
    (pss_one (ps_ret pe_bl))
    pss_nil)
    (pss_cons (ps_set (i:=2) scShoC.nd rfl (Or.inl rfl) (pe_lst (pc (pe_callB call_isinstO rfl T.isi PyProof.Rows.boot_isinstance (pc (pv 0) (pc (pe_glob (v:=.ref c.KC) rfl cf.nKC rfl) pa_nil))) (pc (pe_callB call_isinstO rfl T.isi PyProof.Rows.boot_isinstance (pc (pv 0) (pc (pe_glob (v:=.ref c.KF) rfl cf.nKF rfl) pa_nil))) (pc (pe_callB call_isinstO rfl T.isi PyProof.Rows.boot_isinstance (pc (pv 0) (pc (pe_glob (v:=.ref c.KD) rfl cf.nKD rfl) pa_nil))) pa_nil)))))
    (pss_cons (ps_if (pt_cmpR (op_neL (hu_of hr |> Nat.lt_of_succ_lt)) (pv 2) (pe_comp [1] ["_law_stuff"] (pi_list (pe_lst (pc pe_str (pc pe_str (pc pe_str pa_nil))))) (fun _ _ _ _ _ _=>pts_nil)
          (fun _ _ _ _ _ _=>(pe_cmpR op_eq (pe_ix (ix_tupK (K:=K) rfl) (pv 1) pe_int (fun _ _=>rfl)) (pv 0) (nomark _)))
          rfl (by decide +kernel) (by decide +kernel) rfl (by decide +kernel) (fun j y hj=>by
            match j,hj with
            | 0,hj=>cases hj; exact ⟨1,rfl,rfl,rfl,.inl rfl⟩) rfl (by decide +kernel) rfl) (nomark _))
    (pss_one (ps_ret pe_bl))
    pss_nil)
    (pss_cons (ps_set (i:=3) scShoC.nd rfl (Or.inl rfl) (pe_meth0 (pv 0) cf.clC hCSt.me GCSt (hr.mono (by decide)) hCSt.bd .nil pass0))
    (pss_cons (ps_if (PW.pt (pw_or (pt_not (pt_val (pe_callB call_isinst rfl T.isi PyProof.Rows.boot_isinstance (pc (pv 3) (pc (pe_bltn (v:=.ty "tuple") rfl T.tup PyProof.Rows.boot_tuple rfl) pa_nil))))) (pw_or1 (pt_cmpR (op_neD (hu40 hr)) (pv 3) (pv 1) (nomark _)))))
    (pss_one (ps_ret pe_bl))
    pss_nil)
    (pss_cons (ps_set (i:=3) scShoC.nd rfl (Or.inl rfl) (pe_meth0 (pv 0) cf.clC hCPt.me GCPt (hr.mono (by decide)) hCPt.bd .nil pass0))
    (pss_cons (ps_if (PW.pt (pw_or (pt_not (pt_val (pe_callB call_isinst rfl T.isi PyProof.Rows.boot_isinstance (pc (pv 3) (pc (pe_bltn (v:=.ty "list") rfl T.lst PyProof.Rows.boot_list rfl) pa_nil))))) (pw_or1 (pt_cmpR (op_neL (hu_of hr |> Nat.lt_of_succ_lt)) (pv 3) (pe_sset rfl rfl T.srt rfl T.set (pe_call GLpl (hr.mono (by decide)) rfl hLpl.nm hLpl.fn.kp hLpl.bd .nil pass0 (pc (pv 1) pa_nil))) (nomark _)))))
    (pss_one (ps_ret pe_bl))
    pss_nil)
    (pss_cons (ps_if (pt_val (pe_callB call_isinstO rfl T.isi PyProof.Rows.boot_isinstance (pc (pv 0) (pc (pe_glob (v:=.ref c.KC) rfl cf.nKC rfl) pa_nil))))
    (pss_one (ps_ret (pe_cmpR (op_eqD (hu40 hr)) (pe_fld (pv 0) rfl) (pe_ix ix_tup (pv 1) pe_int (fun _ _=>rfl)) (nomark _))))
    pss_nil)
    (pss_cons (ps_if (pt_val (pe_callB call_isinstO rfl T.isi PyProof.Rows.boot_isinstance (pc (pv 0) (pc (pe_glob (v:=.ref c.KF) rfl cf.nKF rfl) pa_nil))))
    (pss_one (ps_ret (pe_and (pe_cmpR op_eq (pe_fld (pv 0) rfl) (pe_ix ix_tup (pv 1) pe_int (fun _ _=>rfl)) (nomark _)) (pe_one (pe_cmpR (op_eqD (hu40 hr)) (pe_fld (pv 0) rfl) (pe_ix ix_tup (pv 1) pe_int (fun _ _=>rfl)) (nomark _))))))
    pss_nil)
    (pss_one (ps_ret (pe_and (pe_callB call_isinstO rfl T.isi PyProof.Rows.boot_isinstance (pc (pv 0) (pc (pe_glob (v:=.ref c.KD) rfl cf.nKD rfl) pa_nil))) (pe_and (pe_cmpR op_eq (pe_fld (pv 0) rfl) (pe_ix ix_tup (pv 1) pe_int (fun _ _=>rfl)) (nomark _)) (pe_one (pe_cmpR (op_eqD (hu40 hr)) (pe_fld (pv 0) rfl) (pe_ix ix_tup (pv 1) pe_int (fun _ _=>rfl)) (nomark _)))))))))))))))),?_⟩
  refine ⟨_,rfl,.ref p,c.K0,.ref c.KC,true,rfl,cf.tC e,cf.kC0,_,rfl,iteF ⟨_,rfl,p,dx,_,rfl,e,rfl,(.cel b cs),_,rfl,hk0,⟨_,_,rfl⟩,_,rfl,a,_,0,_,rfl,rfl,SqT.of ea,atI_nat h0,rfl,_,rfl,?_⟩⟩
  rw [show decide (V.str (kw (.cel b cs)) = V.str (Str.ofString "cells")) = true from decide_eq_true rfl]
  refine iteF ⟨_,rfl,p,c.KC,dx,_,_,rfl,e,cf.clC,cf.bC,rfl,_,rfl,a,_,1,_,rfl,rfl,SqT.of ea,atI_nat h1,rfl,_,rfl,?_⟩
  rw [decide_eq_true rfl]
  refine iteF ?_
  refine ⟨_,rfl,.ref p,c.KC,.ref c.KC,true,rfl,cf.tC e,cf.kCC,_,rfl,.ref p,c.KF,.ref c.KC,false,rfl,cf.tC e,cf.kCF,_,rfl,.ref p,c.KD,.ref c.KC,false,rfl,cf.tC e,cf.kCD,(by show 3 ≤ sizeLine; decide),fun p1 hp1=>?_⟩
  have s1:=same_new hp1 (HO.lst [V.bl true,V.bl false,V.bl false])
  have f1:upd H p1 (HO.lst [V.bl true,V.bl false,V.bl false]) p1 = some (.lst [V.bl true,V.bl false,V.bl false]):=upd_same
  revert s1 f1
  generalize upd H p1 (HO.lst [V.bl true,V.bl false,V.bl false]) = H1
  intro s1 f1
  refine ⟨_,rfl,(by show 3 ≤ sizeLine; decide),fun p2 hp2=>⟨p2,rfl,⟨_,SqL.of upd_same⟩,fun p3 hp3=>?_⟩⟩
  have s2:=same_new hp2 (HO.lst [V.str (Str.ofString "cells"),V.str (Str.ofString "file"),V.str (Str.ofString "folder")])
  have f2:upd H1 p2 (HO.lst [V.str (Str.ofString "cells"),V.str (Str.ofString "file"),V.str (Str.ofString "folder")]) p2 = some (.lst [V.str (Str.ofString "cells"),V.str (Str.ofString "file"),V.str (Str.ofString "folder")]):=upd_same
  revert s2 f2 hp3
  generalize upd H1 p2 (HO.lst [V.str (Str.ofString "cells"),V.str (Str.ofString "file"),V.str (Str.ofString "folder")]) = H2
  intro hp3 s2 f2
  refine comp_list (K:=K) (a:=p2) (xs:=[V.str (Str.ofString "cells"),V.str (Str.ofString "file"),V.str (Str.ofString "folder")]) (fun i us H3=>Same H2 H3∧H3 p3 = some (.lst us)∧us = ([V.bl true,V.bl false,V.bl false]:List V).take i) ⟨same_new hp3 _,upd_same,rfl⟩ (fun i us H3 _ h3=>SqL.of (h3.1 _ _ f2)) ?_ ?_
  · rintro i y us H3 hy ⟨s3,e3,rfl⟩
    have ea3:=s3 _ _ (s2 _ _ (s1 _ _ ea))
    have go:∀ (w0:Str) (bb:Bool),y = .str w0→decide (V.str (Str.ofString "cells") = V.str w0) = bb→([V.bl true,V.bl false,V.bl false]:List V)[i]? = some (.bl bb)→tOp rEq (tOp (rIxT K) (tVar 1) (tC (V.int 0))) (tVar 0) [some y,some (.ref a)] H3 fun y' H5=>H5 p3 = some (.lst (([V.bl true,V.bl false,V.bl false]:List V).take i))∧(([V.bl true,V.bl false,V.bl false]:List V).take i).length < sizeLine∧Same H2 (upd H5 p3 (.lst (([V.bl true,V.bl false,V.bl false]:List V).take i ++ [y'])))∧upd H5 p3 (.lst (([V.bl true,V.bl false,V.bl false]:List V).take i ++ [y'])) p3 = some (.lst (([V.bl true,V.bl false,V.bl false]:List V).take i ++ [y']))∧([V.bl true,V.bl false,V.bl false]:List V).take i ++ [y'] = ([V.bl true,V.bl false,V.bl false]:List V).take (i + 1):=by
      intro w0 bb hyw hdec hbb
      subst hyw
      refine ⟨_,rfl,a,_,0,_,rfl,rfl,SqT.of ea3,atI_nat h0,_,rfl,rfl,e3,small (by rw [List.length_take]; simp; lia),same_over s3 hp3 _,upd_same,?_⟩
      rw [hdec,List.take_add_one,hbb]
      rfl
    match i,hy with
    | 0,hy=>cases hy; exact ttT (go _ true rfl (by decide +kernel) rfl)
    | 1,hy=>cases hy; exact ttT (go _ false rfl (by decide +kernel) rfl)
    | 2,hy=>cases hy; exact ttT (go _ false rfl (by decide +kernel) rfl)
  rintro us H3 ⟨s3,e3,rfl⟩
  have sA:=s1.trans (s2.trans s3)
  refine ⟨p1,p3,_,_,rfl,rfl,SqL.of (s3 _ _ (s2 _ _ f1)),SqL.of e3,rfl,rfl,_,rfl,iteF ?_⟩
  have eA:=sA _ _ e
  refine ⟨_,rfl,p,dx,_,rfl,eA,rfl,(.cel b cs),_,rfl,hk0.mono sA,⟨_,_,rfl⟩,fun t1 H4 s4 ht1=>?_⟩
  have sB:=sA.trans s4
  obtain ⟨a1',ws1,ht1e,eb1,kb1⟩:=ht1.tup
  refine ⟨_,rfl,t1,"tuple",.type "tuple",true,rfl,(by rw [ht1e]; exact .tup eb1),k0_tt K,_,rfl,iteF ⟨_,rfl,_,rfl,2,At.eqvS (nl_st (.cel b cs)) (dp_st (.cel b cs)) ht1 (ht0.mono sB),by decide,_,rfl,iteF ?_⟩⟩
  have eB:=sB _ _ e
  refine ⟨_,rfl,p,dx,_,rfl,eB,rfl,(.cel b cs),_,rfl,hk0.mono sB,⟨_,_,rfl⟩,hz,fun p5 H5 ms s5 hp5 e5 pts5=>?_⟩
  have sC:=sB.trans s5
  refine ⟨_,rfl,.ref p5,"list",.type "list",true,rfl,.lst e5,kt_ll K,_,rfl,iteF ⟨_,rfl,_,rfl,(.cel b cs),_,rfl,ht0.mono sC,hz,fun p6 H6 s6 hp6 e6=>⟨p6,_,rfl,SqL.of e6,?_,fun l ms2 asc mem hl=>?_⟩⟩⟩
  · have:=pl_len (.cel b cs)
    lia
  have sD:=sC.trans (s6.trans (same_new hl (HO.lst (ms2.map V.int))))
  have em:ms = ms2:=pts5.uniq ⟨asc,mem⟩
  subst em
  refine ⟨p5,l,_,_,rfl,rfl,SqL.of (same_new hl _ _ _ (s6 _ _ e5)),SqL.of upd_same,flat_ints ms,flat_ints ms,_,rfl,?_⟩
  rw [show (if true = true then !eqVs (ms.map V.int) (ms.map V.int) else eqVs (ms.map V.int) (ms.map V.int)) = false by rw [eqVs_ints]; rfl]
  refine iteF ?_
  have eD:=sD _ _ e
  have eaD:=sD _ _ ea
  have qq:=q _ sD
  revert eD eaD qq sD
  generalize upd H6 l (HO.lst (ms.map V.int)) = H7
  intro sD eD eaD qq
  refine ⟨_,rfl,.ref p,c.KC,.ref c.KC,true,rfl,cf.tC eD,cf.kCC,_,rfl,iteT ?_⟩
  exact ⟨_,rfl,p,c.KC,dx,_,_,rfl,eD,cf.clC,cf.cC,rfl,_,rfl,a,_,2,_,rfl,rfl,SqT.of eaD,atI_nat h2,2,At.eqvS (nl_ints cs) (Nat.le_trans (dp_ints cs) (by decide)) (av.mono sD) (a2.mono sD),by decide,qq⟩
end
end K21
set_option maxHeartbeats 4000000
namespace K21
open PySem L2
section
variable {P:Program} {w:World} {K:PySem.W.Frag} {mg:Str→Option Value} {base:Heap} {f fKd fSt fPt fLpl:Addr} {fd dKd dSt dPt dLpl:FuncData} {c:Cl}
theorem scShoF:FnScope ["_law_knot","_law_stuff","_law_kinds","_law_told"] ["_law_knot","_law_stuff"] (defScope sSho):=⟨rfl,rfl,rfl,by decide +kernel,rfl,by decide +kernel,by decide +kernel⟩
theorem ok_ShoF (F:Fun K "_law_shows" "_law_shows" sSho f fd) (cf:CF K mg c) (hFKd:MHas K c.KF "kind" "FileKnot.kind" sFKd ["self"] fKd dKd) (GFKd:FnOk P w K mg base CX0 1 fKd dKd ["self"] (spKd c isF))
    (hFSt:MHas K c.KF "stuff" "FileKnot.stuff" sFSt ["self"] fSt dSt) (GFSt:FnOk P w K mg base CX0 1 fSt dSt ["self"] (spSt c isF))
    (hFPt:MHas K c.KF "points" "FileKnot.points" sFPt ["self"] fPt dPt) (GFPt:FnOk P w K mg base CX0 2 fPt dPt ["self"] (spPt c isF))
    (hLpl:Has K mg "_law_places" sLpl ["_law_stuff"] fLpl dLpl) (GLpl:FnOk P w K mg base CX0 1 fLpl dLpl ["_law_stuff"] spLpl) (T:Txt mg):FnOk P w K mg base CX0 3 f fd ["_law_knot","_law_stuff"] (spSho c isF):=by
  refine F.ok scShoF (fun vs H Q E h=>?_) (fun cdv A outer s H vs Q E hr h=>?_)
  · obtain ⟨k,x,t,rfl,_⟩:=h
    rfl
  obtain ⟨k,x,t,rfl,hk,ht,⟨b,s',r,rfl⟩,hz,q⟩:=h
  have hk0:=hk
  have ht0:=ht
  obtain ⟨p,dx,v,rfl,e,av⟩:=hk
  obtain ⟨a,vs,rfl,ea,ka⟩:=ht.tup
  obtain ⟨v0,h0,a0⟩:=ka.at (i:=0) rfl
  obtain ⟨v1,h1,a1⟩:=ka.at (i:=1) rfl
  obtain ⟨v2,h2,a2⟩:=ka.at (i:=2) rfl
  obtain ⟨v3,h3,a3⟩:=ka.at (i:=3) rfl
  have e0:v0 = .str (Str.ofString "file"):=by unfold At at a0; exact a0
  have e1:v1 = .int b:=by unfold At at a1; exact a1
  subst e0 e1
  have e2':v2 = .int s':=by unfold At at a2; exact a2
  subst e2'
  refine ⟨_,(pss_cons (ps_if (PW.pt (pw_or (pt_not (pt_val (pe_callB call_isinstO rfl T.isi PyProof.Rows.boot_isinstance (pc (pv 0) (pc (pe_glob (v:=.ref c.K0) rfl cf.nK0 rfl) pa_nil))))) (pw_or (pt_cmpR op_ne (pe_meth0 (pv 0) cf.clF hFKd.me GFKd (hr.mono (by decide)) hFKd.bd .nil pass0) (pe_ix ix_tup (pv 1) pe_int (fun _ _=>rfl)) (nomark _)) (pw_or1 (pt_cmpR op_ne (pe_fld (pv 0) rfl) (pe_ix ix_tup (pv 1) pe_int (fun _ _=>rfl)) (nomark _))))))
    (pss_one (ps_ret pe_bl))
    pss_nil)
    (pss_cons (ps_set (i:=2) scShoF.nd rfl (Or.inl rfl) (pe_lst (pc (pe_callB call_isinstO rfl T.isi PyProof.Rows.boot_isinstance (pc (pv 0) (pc (pe_glob (v:=.ref c.KC) rfl cf.nKC rfl) pa_nil))) (pc (pe_callB call_isinstO rfl T.isi PyProof.Rows.boot_isinstance (pc (pv 0) (pc (pe_glob (v:=.ref c.KF) rfl cf.nKF rfl) pa_nil))) (pc (pe_callB call_isinstO rfl T.isi PyProof.Rows.boot_isinstance (pc (pv 0) (pc (pe_glob (v:=.ref c.KD) rfl cf.nKD rfl) pa_nil))) pa_nil)))))
    (pss_cons (ps_if (pt_cmpR (op_neL (hu_of hr |> Nat.lt_of_succ_lt)) (pv 2) (pe_comp [1] ["_law_stuff"] (pi_list (pe_lst (pc pe_str (pc pe_str (pc pe_str pa_nil))))) (fun _ _ _ _ _ _=>pts_nil)
          (fun _ _ _ _ _ _=>(pe_cmpR op_eq (pe_ix (ix_tupK (K:=K) rfl) (pv 1) pe_int (fun _ _=>rfl)) (pv 0) (nomark _)))
          rfl (by decide +kernel) (by decide +kernel) rfl (by decide +kernel) (fun j y hj=>by
            match j,hj with
            | 0,hj=>cases hj; exact ⟨1,rfl,rfl,rfl,.inl rfl⟩) rfl (by decide +kernel) rfl) (nomark _))
    (pss_one (ps_ret pe_bl))
    pss_nil)
    (pss_cons (ps_set (i:=3) scShoF.nd rfl (Or.inl rfl) (pe_meth0 (pv 0) cf.clF hFSt.me GFSt (hr.mono (by decide)) hFSt.bd .nil pass0))
    (pss_cons (ps_if (PW.pt (pw_or (pt_not (pt_val (pe_callB call_isinst rfl T.isi PyProof.Rows.boot_isinstance (pc (pv 3) (pc (pe_bltn (v:=.ty "tuple") rfl T.tup PyProof.Rows.boot_tuple rfl) pa_nil))))) (pw_or1 (pt_cmpR (op_neD (hu40 hr)) (pv 3) (pv 1) (nomark _)))))
    (pss_one (ps_ret pe_bl))
    pss_nil)
    (pss_cons (ps_set (i:=3) scShoF.nd rfl (Or.inl rfl) (pe_meth0 (pv 0) cf.clF hFPt.me GFPt (hr.mono (by decide)) hFPt.bd .nil pass0))
    (pss_cons (ps_if (PW.pt (pw_or (pt_not (pt_val (pe_callB call_isinst rfl T.isi PyProof.Rows.boot_isinstance (pc (pv 3) (pc (pe_bltn (v:=.ty "list") rfl T.lst PyProof.Rows.boot_list rfl) pa_nil))))) (pw_or1 (pt_cmpR (op_neL (hu_of hr |> Nat.lt_of_succ_lt)) (pv 3) (pe_sset rfl rfl T.srt rfl T.set (pe_call GLpl (hr.mono (by decide)) rfl hLpl.nm hLpl.fn.kp hLpl.bd .nil pass0 (pc (pv 1) pa_nil))) (nomark _)))))
    (pss_one (ps_ret pe_bl))
    pss_nil)
    (pss_cons (ps_if (pt_val (pe_callB call_isinstO rfl T.isi PyProof.Rows.boot_isinstance (pc (pv 0) (pc (pe_glob (v:=.ref c.KC) rfl cf.nKC rfl) pa_nil))))
    (pss_one (ps_ret (pe_cmpR (op_eqD (hu40 hr)) (pe_fld (pv 0) rfl) (pe_ix ix_tup (pv 1) pe_int (fun _ _=>rfl)) (nomark _))))
    pss_nil)
    (pss_cons (ps_if (pt_val (pe_callB call_isinstO rfl T.isi PyProof.Rows.boot_isinstance (pc (pv 0) (pc (pe_glob (v:=.ref c.KF) rfl cf.nKF rfl) pa_nil))))
    (pss_one (ps_ret (pe_and (pe_cmpR op_eq (pe_fld (pv 0) rfl) (pe_ix ix_tup (pv 1) pe_int (fun _ _=>rfl)) (nomark _)) (pe_one (pe_cmpR (op_eqD (hu40 hr)) (pe_fld (pv 0) rfl) (pe_ix ix_tup (pv 1) pe_int (fun _ _=>rfl)) (nomark _))))))
    pss_nil)
    (pss_one (ps_ret (pe_and (pe_callB call_isinstO rfl T.isi PyProof.Rows.boot_isinstance (pc (pv 0) (pc (pe_glob (v:=.ref c.KD) rfl cf.nKD rfl) pa_nil))) (pe_and (pe_cmpR op_eq (pe_fld (pv 0) rfl) (pe_ix ix_tup (pv 1) pe_int (fun _ _=>rfl)) (nomark _)) (pe_one (pe_cmpR (op_eqD (hu40 hr)) (pe_fld (pv 0) rfl) (pe_ix ix_tup (pv 1) pe_int (fun _ _=>rfl)) (nomark _)))))))))))))))),?_⟩
  refine ⟨_,rfl,.ref p,c.K0,.ref c.KF,true,rfl,cf.tF e,cf.kF0,_,rfl,iteF ⟨_,rfl,p,dx,_,rfl,e,rfl,(.fil b s' r),_,rfl,hk0,⟨_,_,_,rfl⟩,_,rfl,a,_,0,_,rfl,rfl,SqT.of ea,atI_nat h0,rfl,_,rfl,?_⟩⟩
  rw [show decide (V.str (kw (.fil b s' r)) = V.str (Str.ofString "file")) = true from decide_eq_true rfl]
  refine iteF ⟨_,rfl,p,c.KF,dx,_,_,rfl,e,cf.clF,cf.bF,rfl,_,rfl,a,_,1,_,rfl,rfl,SqT.of ea,atI_nat h1,rfl,_,rfl,?_⟩
  rw [decide_eq_true rfl]
  refine iteF ?_
  refine ⟨_,rfl,.ref p,c.KC,.ref c.KF,false,rfl,cf.tF e,cf.kFC,_,rfl,.ref p,c.KF,.ref c.KF,true,rfl,cf.tF e,cf.kFF,_,rfl,.ref p,c.KD,.ref c.KF,false,rfl,cf.tF e,cf.kFD,(by show 3 ≤ sizeLine; decide),fun p1 hp1=>?_⟩
  have s1:=same_new hp1 (HO.lst [V.bl false,V.bl true,V.bl false])
  have f1:upd H p1 (HO.lst [V.bl false,V.bl true,V.bl false]) p1 = some (.lst [V.bl false,V.bl true,V.bl false]):=upd_same
  revert s1 f1
  generalize upd H p1 (HO.lst [V.bl false,V.bl true,V.bl false]) = H1
  intro s1 f1
  refine ⟨_,rfl,(by show 3 ≤ sizeLine; decide),fun p2 hp2=>⟨p2,rfl,⟨_,SqL.of upd_same⟩,fun p3 hp3=>?_⟩⟩
  have s2:=same_new hp2 (HO.lst [V.str (Str.ofString "cells"),V.str (Str.ofString "file"),V.str (Str.ofString "folder")])
  have f2:upd H1 p2 (HO.lst [V.str (Str.ofString "cells"),V.str (Str.ofString "file"),V.str (Str.ofString "folder")]) p2 = some (.lst [V.str (Str.ofString "cells"),V.str (Str.ofString "file"),V.str (Str.ofString "folder")]):=upd_same
  revert s2 f2 hp3
  generalize upd H1 p2 (HO.lst [V.str (Str.ofString "cells"),V.str (Str.ofString "file"),V.str (Str.ofString "folder")]) = H2
  intro hp3 s2 f2
  refine comp_list (K:=K) (a:=p2) (xs:=[V.str (Str.ofString "cells"),V.str (Str.ofString "file"),V.str (Str.ofString "folder")]) (fun i us H3=>Same H2 H3∧H3 p3 = some (.lst us)∧us = ([V.bl false,V.bl true,V.bl false]:List V).take i) ⟨same_new hp3 _,upd_same,rfl⟩ (fun i us H3 _ h3=>SqL.of (h3.1 _ _ f2)) ?_ ?_
  · rintro i y us H3 hy ⟨s3,e3,rfl⟩
    have ea3:=s3 _ _ (s2 _ _ (s1 _ _ ea))
    have go:∀ (w0:Str) (bb:Bool),y = .str w0→decide (V.str (Str.ofString "file") = V.str w0) = bb→([V.bl false,V.bl true,V.bl false]:List V)[i]? = some (.bl bb)→tOp rEq (tOp (rIxT K) (tVar 1) (tC (V.int 0))) (tVar 0) [some y,some (.ref a)] H3 fun y' H5=>H5 p3 = some (.lst (([V.bl false,V.bl true,V.bl false]:List V).take i))∧(([V.bl false,V.bl true,V.bl false]:List V).take i).length < sizeLine∧Same H2 (upd H5 p3 (.lst (([V.bl false,V.bl true,V.bl false]:List V).take i ++ [y'])))∧upd H5 p3 (.lst (([V.bl false,V.bl true,V.bl false]:List V).take i ++ [y'])) p3 = some (.lst (([V.bl false,V.bl true,V.bl false]:List V).take i ++ [y']))∧([V.bl false,V.bl true,V.bl false]:List V).take i ++ [y'] = ([V.bl false,V.bl true,V.bl false]:List V).take (i + 1):=by
      intro w0 bb hyw hdec hbb
      subst hyw
      refine ⟨_,rfl,a,_,0,_,rfl,rfl,SqT.of ea3,atI_nat h0,_,rfl,rfl,e3,small (by rw [List.length_take]; simp; lia),same_over s3 hp3 _,upd_same,?_⟩
      rw [hdec,List.take_add_one,hbb]
      rfl
    match i,hy with
    | 0,hy=>cases hy; exact ttT (go _ false rfl (by decide +kernel) rfl)
    | 1,hy=>cases hy; exact ttT (go _ true rfl (by decide +kernel) rfl)
    | 2,hy=>cases hy; exact ttT (go _ false rfl (by decide +kernel) rfl)
  rintro us H3 ⟨s3,e3,rfl⟩
  have sA:=s1.trans (s2.trans s3)
  refine ⟨p1,p3,_,_,rfl,rfl,SqL.of (s3 _ _ (s2 _ _ f1)),SqL.of e3,rfl,rfl,_,rfl,iteF ?_⟩
  have eA:=sA _ _ e
  refine ⟨_,rfl,p,dx,_,rfl,eA,rfl,(.fil b s' r),_,rfl,hk0.mono sA,⟨_,_,_,rfl⟩,fun t1 H4 s4 ht1=>?_⟩
  have sB:=sA.trans s4
  obtain ⟨a1',ws1,ht1e,eb1,kb1⟩:=ht1.tup
  refine ⟨_,rfl,t1,"tuple",.type "tuple",true,rfl,(by rw [ht1e]; exact .tup eb1),k0_tt K,_,rfl,iteF ⟨_,rfl,_,rfl,2,At.eqvS (nl_st (.fil b s' r)) (dp_st (.fil b s' r)) ht1 (ht0.mono sB),by decide,_,rfl,iteF ?_⟩⟩
  have eB:=sB _ _ e
  refine ⟨_,rfl,p,dx,_,rfl,eB,rfl,(.fil b s' r),_,rfl,hk0.mono sB,⟨_,_,_,rfl⟩,hz,fun p5 H5 ms s5 hp5 e5 pts5=>?_⟩
  have sC:=sB.trans s5
  refine ⟨_,rfl,.ref p5,"list",.type "list",true,rfl,.lst e5,kt_ll K,_,rfl,iteF ⟨_,rfl,_,rfl,(.fil b s' r),_,rfl,ht0.mono sC,hz,fun p6 H6 s6 hp6 e6=>⟨p6,_,rfl,SqL.of e6,?_,fun l ms2 asc mem hl=>?_⟩⟩⟩
  · have:=pl_len (.fil b s' r)
    lia
  have sD:=sC.trans (s6.trans (same_new hl (HO.lst (ms2.map V.int))))
  have em:ms = ms2:=pts5.uniq ⟨asc,mem⟩
  subst em
  refine ⟨p5,l,_,_,rfl,rfl,SqL.of (same_new hl _ _ _ (s6 _ _ e5)),SqL.of upd_same,flat_ints ms,flat_ints ms,_,rfl,?_⟩
  rw [show (if true = true then !eqVs (ms.map V.int) (ms.map V.int) else eqVs (ms.map V.int) (ms.map V.int)) = false by rw [eqVs_ints]; rfl]
  refine iteF ?_
  have eD:=sD _ _ e
  have eaD:=sD _ _ ea
  have qq:=q _ sD
  revert eD eaD qq sD
  generalize upd H6 l (HO.lst (ms.map V.int)) = H7
  intro sD eD eaD qq
  refine ⟨_,rfl,.ref p,c.KC,.ref c.KF,false,rfl,cf.tF eD,cf.kFC,_,rfl,iteF ⟨_,rfl,.ref p,c.KF,.ref c.KF,true,rfl,cf.tF eD,cf.kFF,_,rfl,iteT ?_⟩⟩
  refine ⟨_,rfl,p,c.KF,dx,_,_,rfl,eD,cf.clF,cf.sF,rfl,_,rfl,a,_,2,_,rfl,rfl,SqT.of eaD,atI_nat h2,rfl,_,rfl,?_⟩
  rw [decide_eq_true rfl]
  exact iteT ⟨_,rfl,p,c.KF,dx,_,_,rfl,eD,cf.clF,cf.rF,rfl,_,rfl,a,_,3,_,rfl,rfl,SqT.of eaD,atI_nat h3,2,At.eqvS (nl_s4 r) (Nat.le_trans (dp_s4 r) (by decide)) (av.mono sD) (a3.mono sD),by decide,qq⟩
end
end K21
set_option maxHeartbeats 4000000
namespace K21
open PySem L2
section
variable {P:Program} {w:World} {K:PySem.W.Frag} {mg:Str→Option Value} {base:Heap} {f fKd fSt fPt fLpl:Addr} {fd dKd dSt dPt dLpl:FuncData} {c:Cl}
theorem scShoD:FnScope ["_law_knot","_law_stuff","_law_kinds","_law_told"] ["_law_knot","_law_stuff"] (defScope sSho):=⟨rfl,rfl,rfl,by decide +kernel,rfl,by decide +kernel,by decide +kernel⟩
theorem ok_ShoD (F:Fun K "_law_shows" "_law_shows" sSho f fd) (cf:CF K mg c) (hDKd:MHas K c.KD "kind" "FolderKnot.kind" sDKd ["self"] fKd dKd) (GDKd:FnOk P w K mg base CX0 1 fKd dKd ["self"] (spKd c isD))
    (hDSt:MHas K c.KD "stuff" "FolderKnot.stuff" sDSt ["self"] fSt dSt) (GDSt:FnOk P w K mg base CX0 1 fSt dSt ["self"] (spSt c isD))
    (hDPt:MHas K c.KD "points" "FolderKnot.points" sDPt ["self"] fPt dPt) (GDPt:FnOk P w K mg base CX0 2 fPt dPt ["self"] (spPt c isD))
    (hLpl:Has K mg "_law_places" sLpl ["_law_stuff"] fLpl dLpl) (GLpl:FnOk P w K mg base CX0 1 fLpl dLpl ["_law_stuff"] spLpl) (T:Txt mg):FnOk P w K mg base CX0 3 f fd ["_law_knot","_law_stuff"] (spSho c isD):=by
  refine F.ok scShoD (fun vs H Q E h=>?_) (fun cdv A outer s H vs Q E hr h=>?_)
  · obtain ⟨k,x,t,rfl,_⟩:=h
    rfl
  obtain ⟨k,x,t,rfl,hk,ht,⟨b,m,es,rfl⟩,hz,q⟩:=h
  have hk0:=hk
  have ht0:=ht
  obtain ⟨p,dx,v,rfl,e,av⟩:=hk
  obtain ⟨a,vs,rfl,ea,ka⟩:=ht.tup
  obtain ⟨v0,h0,a0⟩:=ka.at (i:=0) rfl
  obtain ⟨v1,h1,a1⟩:=ka.at (i:=1) rfl
  obtain ⟨v2,h2,a2⟩:=ka.at (i:=2) rfl
  obtain ⟨v3,h3,a3⟩:=ka.at (i:=3) rfl
  have e0:v0 = .str (Str.ofString "folder"):=by unfold At at a0; exact a0
  have e1:v1 = .int b:=by unfold At at a1; exact a1
  subst e0 e1
  have e2':v2 = .int m:=by unfold At at a2; exact a2
  subst e2'
  refine ⟨_,(pss_cons (ps_if (PW.pt (pw_or (pt_not (pt_val (pe_callB call_isinstO rfl T.isi PyProof.Rows.boot_isinstance (pc (pv 0) (pc (pe_glob (v:=.ref c.K0) rfl cf.nK0 rfl) pa_nil))))) (pw_or (pt_cmpR op_ne (pe_meth0 (pv 0) cf.clD hDKd.me GDKd (hr.mono (by decide)) hDKd.bd .nil pass0) (pe_ix ix_tup (pv 1) pe_int (fun _ _=>rfl)) (nomark _)) (pw_or1 (pt_cmpR op_ne (pe_fld (pv 0) rfl) (pe_ix ix_tup (pv 1) pe_int (fun _ _=>rfl)) (nomark _))))))
    (pss_one (ps_ret pe_bl))
    pss_nil)
    (pss_cons (ps_set (i:=2) scShoD.nd rfl (Or.inl rfl) (pe_lst (pc (pe_callB call_isinstO rfl T.isi PyProof.Rows.boot_isinstance (pc (pv 0) (pc (pe_glob (v:=.ref c.KC) rfl cf.nKC rfl) pa_nil))) (pc (pe_callB call_isinstO rfl T.isi PyProof.Rows.boot_isinstance (pc (pv 0) (pc (pe_glob (v:=.ref c.KF) rfl cf.nKF rfl) pa_nil))) (pc (pe_callB call_isinstO rfl T.isi PyProof.Rows.boot_isinstance (pc (pv 0) (pc (pe_glob (v:=.ref c.KD) rfl cf.nKD rfl) pa_nil))) pa_nil)))))
    (pss_cons (ps_if (pt_cmpR (op_neL (hu_of hr |> Nat.lt_of_succ_lt)) (pv 2) (pe_comp [1] ["_law_stuff"] (pi_list (pe_lst (pc pe_str (pc pe_str (pc pe_str pa_nil))))) (fun _ _ _ _ _ _=>pts_nil)
          (fun _ _ _ _ _ _=>(pe_cmpR op_eq (pe_ix (ix_tupK (K:=K) rfl) (pv 1) pe_int (fun _ _=>rfl)) (pv 0) (nomark _)))
          rfl (by decide +kernel) (by decide +kernel) rfl (by decide +kernel) (fun j y hj=>by
            match j,hj with
            | 0,hj=>cases hj; exact ⟨1,rfl,rfl,rfl,.inl rfl⟩) rfl (by decide +kernel) rfl) (nomark _))
    (pss_one (ps_ret pe_bl))
    pss_nil)
    (pss_cons (ps_set (i:=3) scShoD.nd rfl (Or.inl rfl) (pe_meth0 (pv 0) cf.clD hDSt.me GDSt (hr.mono (by decide)) hDSt.bd .nil pass0))
    (pss_cons (ps_if (PW.pt (pw_or (pt_not (pt_val (pe_callB call_isinst rfl T.isi PyProof.Rows.boot_isinstance (pc (pv 3) (pc (pe_bltn (v:=.ty "tuple") rfl T.tup PyProof.Rows.boot_tuple rfl) pa_nil))))) (pw_or1 (pt_cmpR (op_neD (hu40 hr)) (pv 3) (pv 1) (nomark _)))))
    (pss_one (ps_ret pe_bl))
    pss_nil)
    (pss_cons (ps_set (i:=3) scShoD.nd rfl (Or.inl rfl) (pe_meth0 (pv 0) cf.clD hDPt.me GDPt (hr.mono (by decide)) hDPt.bd .nil pass0))
    (pss_cons (ps_if (PW.pt (pw_or (pt_not (pt_val (pe_callB call_isinst rfl T.isi PyProof.Rows.boot_isinstance (pc (pv 3) (pc (pe_bltn (v:=.ty "list") rfl T.lst PyProof.Rows.boot_list rfl) pa_nil))))) (pw_or1 (pt_cmpR (op_neL (hu_of hr |> Nat.lt_of_succ_lt)) (pv 3) (pe_sset rfl rfl T.srt rfl T.set (pe_call GLpl (hr.mono (by decide)) rfl hLpl.nm hLpl.fn.kp hLpl.bd .nil pass0 (pc (pv 1) pa_nil))) (nomark _)))))
    (pss_one (ps_ret pe_bl))
    pss_nil)
    (pss_cons (ps_if (pt_val (pe_callB call_isinstO rfl T.isi PyProof.Rows.boot_isinstance (pc (pv 0) (pc (pe_glob (v:=.ref c.KC) rfl cf.nKC rfl) pa_nil))))
    (pss_one (ps_ret (pe_cmpR (op_eqD (hu40 hr)) (pe_fld (pv 0) rfl) (pe_ix ix_tup (pv 1) pe_int (fun _ _=>rfl)) (nomark _))))
    pss_nil)
    (pss_cons (ps_if (pt_val (pe_callB call_isinstO rfl T.isi PyProof.Rows.boot_isinstance (pc (pv 0) (pc (pe_glob (v:=.ref c.KF) rfl cf.nKF rfl) pa_nil))))
    (pss_one (ps_ret (pe_and (pe_cmpR op_eq (pe_fld (pv 0) rfl) (pe_ix ix_tup (pv 1) pe_int (fun _ _=>rfl)) (nomark _)) (pe_one (pe_cmpR (op_eqD (hu40 hr)) (pe_fld (pv 0) rfl) (pe_ix ix_tup (pv 1) pe_int (fun _ _=>rfl)) (nomark _))))))
    pss_nil)
    (pss_one (ps_ret (pe_and (pe_callB call_isinstO rfl T.isi PyProof.Rows.boot_isinstance (pc (pv 0) (pc (pe_glob (v:=.ref c.KD) rfl cf.nKD rfl) pa_nil))) (pe_and (pe_cmpR op_eq (pe_fld (pv 0) rfl) (pe_ix ix_tup (pv 1) pe_int (fun _ _=>rfl)) (nomark _)) (pe_one (pe_cmpR (op_eqD (hu40 hr)) (pe_fld (pv 0) rfl) (pe_ix ix_tup (pv 1) pe_int (fun _ _=>rfl)) (nomark _)))))))))))))))),?_⟩
  refine ⟨_,rfl,.ref p,c.K0,.ref c.KD,true,rfl,cf.tD e,cf.kD0,_,rfl,iteF ⟨_,rfl,p,dx,_,rfl,e,rfl,(.fol b m es),_,rfl,hk0,⟨_,_,_,rfl⟩,_,rfl,a,_,0,_,rfl,rfl,SqT.of ea,atI_nat h0,rfl,_,rfl,?_⟩⟩
  rw [show decide (V.str (kw (.fol b m es)) = V.str (Str.ofString "folder")) = true from decide_eq_true rfl]
  refine iteF ⟨_,rfl,p,c.KD,dx,_,_,rfl,e,cf.clD,cf.bD,rfl,_,rfl,a,_,1,_,rfl,rfl,SqT.of ea,atI_nat h1,rfl,_,rfl,?_⟩
  rw [decide_eq_true rfl]
  refine iteF ?_
  refine ⟨_,rfl,.ref p,c.KC,.ref c.KD,false,rfl,cf.tD e,cf.kDC,_,rfl,.ref p,c.KF,.ref c.KD,false,rfl,cf.tD e,cf.kDF,_,rfl,.ref p,c.KD,.ref c.KD,true,rfl,cf.tD e,cf.kDD,(by show 3 ≤ sizeLine; decide),fun p1 hp1=>?_⟩
  have s1:=same_new hp1 (HO.lst [V.bl false,V.bl false,V.bl true])
  have f1:upd H p1 (HO.lst [V.bl false,V.bl false,V.bl true]) p1 = some (.lst [V.bl false,V.bl false,V.bl true]):=upd_same
  revert s1 f1
  generalize upd H p1 (HO.lst [V.bl false,V.bl false,V.bl true]) = H1
  intro s1 f1
  refine ⟨_,rfl,(by show 3 ≤ sizeLine; decide),fun p2 hp2=>⟨p2,rfl,⟨_,SqL.of upd_same⟩,fun p3 hp3=>?_⟩⟩
  have s2:=same_new hp2 (HO.lst [V.str (Str.ofString "cells"),V.str (Str.ofString "file"),V.str (Str.ofString "folder")])
  have f2:upd H1 p2 (HO.lst [V.str (Str.ofString "cells"),V.str (Str.ofString "file"),V.str (Str.ofString "folder")]) p2 = some (.lst [V.str (Str.ofString "cells"),V.str (Str.ofString "file"),V.str (Str.ofString "folder")]):=upd_same
  revert s2 f2 hp3
  generalize upd H1 p2 (HO.lst [V.str (Str.ofString "cells"),V.str (Str.ofString "file"),V.str (Str.ofString "folder")]) = H2
  intro hp3 s2 f2
  refine comp_list (K:=K) (a:=p2) (xs:=[V.str (Str.ofString "cells"),V.str (Str.ofString "file"),V.str (Str.ofString "folder")]) (fun i us H3=>Same H2 H3∧H3 p3 = some (.lst us)∧us = ([V.bl false,V.bl false,V.bl true]:List V).take i) ⟨same_new hp3 _,upd_same,rfl⟩ (fun i us H3 _ h3=>SqL.of (h3.1 _ _ f2)) ?_ ?_
  · rintro i y us H3 hy ⟨s3,e3,rfl⟩
    have ea3:=s3 _ _ (s2 _ _ (s1 _ _ ea))
    have go:∀ (w0:Str) (bb:Bool),y = .str w0→decide (V.str (Str.ofString "folder") = V.str w0) = bb→([V.bl false,V.bl false,V.bl true]:List V)[i]? = some (.bl bb)→tOp rEq (tOp (rIxT K) (tVar 1) (tC (V.int 0))) (tVar 0) [some y,some (.ref a)] H3 fun y' H5=>H5 p3 = some (.lst (([V.bl false,V.bl false,V.bl true]:List V).take i))∧(([V.bl false,V.bl false,V.bl true]:List V).take i).length < sizeLine∧Same H2 (upd H5 p3 (.lst (([V.bl false,V.bl false,V.bl true]:List V).take i ++ [y'])))∧upd H5 p3 (.lst (([V.bl false,V.bl false,V.bl true]:List V).take i ++ [y'])) p3 = some (.lst (([V.bl false,V.bl false,V.bl true]:List V).take i ++ [y']))∧([V.bl false,V.bl false,V.bl true]:List V).take i ++ [y'] = ([V.bl false,V.bl false,V.bl true]:List V).take (i + 1):=by
      intro w0 bb hyw hdec hbb
      subst hyw
      refine ⟨_,rfl,a,_,0,_,rfl,rfl,SqT.of ea3,atI_nat h0,_,rfl,rfl,e3,small (by rw [List.length_take]; simp; lia),same_over s3 hp3 _,upd_same,?_⟩
      rw [hdec,List.take_add_one,hbb]
      rfl
    match i,hy with
    | 0,hy=>cases hy; exact ttT (go _ false rfl (by decide +kernel) rfl)
    | 1,hy=>cases hy; exact ttT (go _ false rfl (by decide +kernel) rfl)
    | 2,hy=>cases hy; exact ttT (go _ true rfl (by decide +kernel) rfl)
  rintro us H3 ⟨s3,e3,rfl⟩
  have sA:=s1.trans (s2.trans s3)
  refine ⟨p1,p3,_,_,rfl,rfl,SqL.of (s3 _ _ (s2 _ _ f1)),SqL.of e3,rfl,rfl,_,rfl,iteF ?_⟩
  have eA:=sA _ _ e
  refine ⟨_,rfl,p,dx,_,rfl,eA,rfl,(.fol b m es),_,rfl,hk0.mono sA,⟨_,_,_,rfl⟩,fun t1 H4 s4 ht1=>?_⟩
  have sB:=sA.trans s4
  obtain ⟨a1',ws1,ht1e,eb1,kb1⟩:=ht1.tup
  refine ⟨_,rfl,t1,"tuple",.type "tuple",true,rfl,(by rw [ht1e]; exact .tup eb1),k0_tt K,_,rfl,iteF ⟨_,rfl,_,rfl,2,At.eqvS (nl_st (.fol b m es)) (dp_st (.fol b m es)) ht1 (ht0.mono sB),by decide,_,rfl,iteF ?_⟩⟩
  have eB:=sB _ _ e
  refine ⟨_,rfl,p,dx,_,rfl,eB,rfl,(.fol b m es),_,rfl,hk0.mono sB,⟨_,_,_,rfl⟩,hz,fun p5 H5 ms s5 hp5 e5 pts5=>?_⟩
  have sC:=sB.trans s5
  refine ⟨_,rfl,.ref p5,"list",.type "list",true,rfl,.lst e5,kt_ll K,_,rfl,iteF ⟨_,rfl,_,rfl,(.fol b m es),_,rfl,ht0.mono sC,hz,fun p6 H6 s6 hp6 e6=>⟨p6,_,rfl,SqL.of e6,?_,fun l ms2 asc mem hl=>?_⟩⟩⟩
  · have:=pl_len (.fol b m es)
    lia
  have sD:=sC.trans (s6.trans (same_new hl (HO.lst (ms2.map V.int))))
  have em:ms = ms2:=pts5.uniq ⟨asc,mem⟩
  subst em
  refine ⟨p5,l,_,_,rfl,rfl,SqL.of (same_new hl _ _ _ (s6 _ _ e5)),SqL.of upd_same,flat_ints ms,flat_ints ms,_,rfl,?_⟩
  rw [show (if true = true then !eqVs (ms.map V.int) (ms.map V.int) else eqVs (ms.map V.int) (ms.map V.int)) = false by rw [eqVs_ints]; rfl]
  refine iteF ?_
  have eD:=sD _ _ e
  have eaD:=sD _ _ ea
  have qq:=q _ sD
  revert eD eaD qq sD
  generalize upd H6 l (HO.lst (ms.map V.int)) = H7
  intro sD eD eaD qq
  refine ⟨_,rfl,.ref p,c.KC,.ref c.KD,false,rfl,cf.tD eD,cf.kDC,_,rfl,iteF ⟨_,rfl,.ref p,c.KF,.ref c.KD,false,rfl,cf.tD eD,cf.kDF,_,rfl,iteF ?_⟩⟩
  refine ⟨_,rfl,.ref p,c.KD,.ref c.KD,true,rfl,cf.tD eD,cf.kDD,_,rfl,iteT ⟨_,rfl,p,c.KD,dx,_,_,rfl,eD,cf.clD,cf.lD,rfl,_,rfl,a,_,2,_,rfl,rfl,SqT.of eaD,atI_nat h2,rfl,_,rfl,?_⟩⟩
  rw [decide_eq_true rfl]
  exact iteT ⟨_,rfl,p,c.KD,dx,_,_,rfl,eD,cf.clD,cf.eD,rfl,_,rfl,a,_,3,_,rfl,rfl,SqT.of eaD,atI_nat h3,2,At.eqvS (nl_en es) (Nat.le_trans (dp_en es) (by decide)) (av.mono sD) (a3.mono sD),by decide,qq⟩
end
end K21
set_option maxHeartbeats 4000000
namespace K21
open PySem L2
theorem sz_mv (kvs:List (Key×V)) (k:Kn):szK (mvK kvs k) = szK k:=by
  cases k with
  | cel b cs=>rfl
  | fil b s r=>exact List.length_map _
  | fol b m es=>exact List.length_map _
section
variable {P:Program} {w:World} {K:PySem.W.Frag} {mg:Str→Option Value} {base:Heap} {f:Addr} {fd:FuncData} {c:Cl}
def any (_:Kn):Prop:=True
theorem sho_all (hC:FnOk P w K mg base CX0 3 f fd ["_law_knot","_law_stuff"] (spSho c isC)) (hF:FnOk P w K mg base CX0 3 f fd ["_law_knot","_law_stuff"] (spSho c isF)) (hD:FnOk P w K mg base CX0 3 f fd ["_law_knot","_law_stuff"] (spSho c isD)):FnOk P w K mg base CX0 3 f fd ["_law_knot","_law_stuff"] (spSho c any):=by
  refine ⟨fun vs H Q E ⟨k,x,t,e,_⟩=>by rw [e]; rfl,fun A outer s H args us vs Q E hr he hb hv ⟨k,x,t,e,h1,h2,_,h4,q⟩=>?_⟩
  cases k with
  | cel b cs=>exact hC.run A outer s H args us vs Q E hr he hb hv ⟨_,x,t,e,h1,h2,⟨_,_,rfl⟩,h4,q⟩
  | fil b s' r=>exact hF.run A outer s H args us vs Q E hr he hb hv ⟨_,x,t,e,h1,h2,⟨_,_,_,rfl⟩,h4,q⟩
  | fol b m es=>exact hD.run A outer s H args us vs Q E hr he hb hv ⟨_,x,t,e,h1,h2,⟨_,_,_,rfl⟩,h4,q⟩
def spOne (c:Cl) (k0:Kn→Prop):Sp:=fun vs H Q _=>∃ (k:Kn) (x t:V) (n:Int),vs = [x,t,.int n]∧KnAt c H k x∧At H (.tup (stT k)) t∧k0 k∧szK k ≤ 20∧∀ H',Same H H'→Q (.bl true) H'
theorem one_all (hC:FnOk P w K mg base CX0 5 f fd ["_law_knot","_law_stuff","_law_cell"] (spOne c isC)) (hF:FnOk P w K mg base CX0 5 f fd ["_law_knot","_law_stuff","_law_cell"] (spOne c isF)) (hD:FnOk P w K mg base CX0 5 f fd ["_law_knot","_law_stuff","_law_cell"] (spOne c isD)):FnOk P w K mg base CX0 5 f fd ["_law_knot","_law_stuff","_law_cell"] (spOne c any):=by
  refine ⟨fun vs H Q E ⟨k,x,t,n,e,_⟩=>by rw [e]; rfl,fun A outer s H args us vs Q E hr he hb hv ⟨k,x,t,n,e,h1,h2,_,h4,q⟩=>?_⟩
  cases k with
  | cel b cs=>exact hC.run A outer s H args us vs Q E hr he hb hv ⟨_,x,t,n,e,h1,h2,⟨_,_,rfl⟩,h4,q⟩
  | fil b s' r=>exact hF.run A outer s H args us vs Q E hr he hb hv ⟨_,x,t,n,e,h1,h2,⟨_,_,_,rfl⟩,h4,q⟩
  | fol b m es=>exact hD.run A outer s H args us vs Q E hr he hb hv ⟨_,x,t,n,e,h1,h2,⟨_,_,_,rfl⟩,h4,q⟩
end
end K21
set_option maxHeartbeats 4000000
namespace K21
open PySem L2
section
variable {P:Program} {w:World} {K:PySem.W.Frag} {mg:Str→Option Value} {base:Heap} {f fPt fMv fMvs fSho fLmv fKof:Addr} {fd dPt dMv dMvs dSho dLmv dKof:FuncData} {c:Cl}
theorem scOneC:FnScope ["_law_knot","_law_stuff","_law_cell","_law_moves_here","_law_handed"] ["_law_knot","_law_stuff","_law_cell"] (defScope sOne):=⟨rfl,rfl,rfl,by decide +kernel,rfl,by decide +kernel,by decide +kernel⟩
theorem ok_OneC (F:Fun K "_law_one" "_law_one" sOne f fd) (cf:CF K mg c) (hCPt:MHas K c.KC "points" "CellsKnot.points" sCPt ["self"] fPt dPt) (GCPt:FnOk P w K mg base CX0 2 fPt dPt ["self"] (spPt c isC))
    (hCMv:MHas K c.KC "moved" "CellsKnot.moved" sCMv ["self","places"] fMv dMv) (GCMv:FnOk P w K mg base CX0 4 fMv dMv ["self","places"] (spMv c isC))
    (hMvs:Has K mg "_law_moves" sMvs ["_law_stuff","_law_cell"] fMvs dMvs) (GMvs:FnOk P w K mg base CX0 2 fMvs dMvs ["_law_stuff","_law_cell"] spMvs)
    (hSho:Has K mg "_law_shows" sSho ["_law_knot","_law_stuff"] fSho dSho) (GSho:FnOk P w K mg base CX0 3 fSho dSho ["_law_knot","_law_stuff"] (spSho c any))
    (hLmv:Has K mg "_law_moved" sLmv ["_law_stuff","_law_moves_here"] fLmv dLmv) (GLmv:FnOk P w K mg base CX0 1 fLmv dLmv ["_law_stuff","_law_moves_here"] spLmv)
    (hKof:Has K mg "knot_of" sKof ["stuff"] fKof dKof) (GKof:FnOk P w K mg base CX0 4 fKof dKof ["stuff"] (spKof c)) (T:Txt mg):FnOk P w K mg base CX0 5 f fd ["_law_knot","_law_stuff","_law_cell"] (spOne c isC):=by
  refine F.ok scOneC (fun vs H Q E h=>?_) (fun cdv A outer s H vs Q E hr h=>?_)
  · obtain ⟨k,x,t,n,rfl,_⟩:=h
    rfl
  obtain ⟨k,x,t,n,rfl,hk,ht,⟨b,cs,rfl⟩,hz,q⟩:=h
  have hk0:=hk
  obtain ⟨p,dx,v,rfl,e,av⟩:=hk
  refine ⟨_,(pss_cons (ps_set (i:=3) scOneC.nd rfl (Or.inl rfl) (pe_call GMvs (hr.mono (by decide)) rfl hMvs.nm hMvs.fn.kp hMvs.bd .nil pass0 (pc (pv 1) (pc (pv 2) pa_nil))))
    (pss_cons (ps_set (i:=4) scOneC.nd rfl (Or.inl rfl) (pe_callTy call_dictD rfl T.dct PyProof.Rows.boot_dict (pc (pv 3) pa_nil)))
    (pss_cons (ps_if (PW.pt (pw_or (pt_not (pt_val (pe_call GSho (hr.mono (by decide)) rfl hSho.nm hSho.fn.kp hSho.bd .nil pass0 (pc (pv 0) (pc (pv 1) pa_nil))))) (pw_or1 (pt_not (pt_val (pe_call GSho (hr.mono (by decide)) rfl hSho.nm hSho.fn.kp hSho.bd .nil pass0 (pc (pe_meth (pv 0) cf.clC hCMv.me GCMv (hr.mono (by decide)) hCMv.bd .nil pass0 (pc (pv 4) pa_nil)) (pc (pe_call GLmv (hr.mono (by decide)) rfl hLmv.nm hLmv.fn.kp hLmv.bd .nil pass0 (pc (pv 1) (pc (pv 3) pa_nil))) pa_nil))))))))
    (pss_one (ps_ret pe_bl))
    pss_nil)
    (pss_cons (ps_if (PW.pt (pw_or (pt_cmpR (op_neDK (hu_of hr |> Nat.lt_of_succ_lt)) (pv 4) (pv 3) (nomark _)) (pw_or1 (pt_not (pt_val (pe_call GSho (hr.mono (by decide)) rfl hSho.nm hSho.fn.kp hSho.bd .nil pass0 (pc (pe_call GKof (hr.mono (by decide)) rfl hKof.nm hKof.fn.kp hKof.bd .nil pass0 (pc (pv 1) pa_nil)) (pc (pv 1) pa_nil))))))))
    (pss_one (ps_ret pe_bl))
    pss_nil)
    (pss_cons (ps_expr (pe_bm PySem.F.plainAttrs_list PySem.F.slot_list_append PySem.F.type_list_append mt_append (pe_meth0 (pv 0) cf.clC hCPt.me GCPt (hr.mono (by decide)) hCPt.bd .nil pass0) (pc pe_int pa_nil)))
    (pss_one (ps_ret (pe_call GSho (hr.mono (by decide)) rfl hSho.nm hSho.fn.kp hSho.bd .nil pass0 (pc (pv 0) (pc (pv 1) pa_nil)))))))))),?_⟩
  refine ⟨_,rfl,_,rfl,(.cel b cs),t,n,rfl,ht,hz,fun d kvs H1 s1 hd e1 hi=>⟨_,rfl,d,kvs,rfl,e1,fun l hl=>?_⟩⟩
  have s2:=s1.trans (same_new hl (HO.dK kvs))
  have ed2:=same_new hl (HO.dK kvs) _ _ e1
  have el2:upd H1 l (HO.dK kvs) l = some (.dK kvs):=upd_same
  revert s2 ed2 el2
  generalize upd H1 l (HO.dK kvs) = H2
  intro s2 ed2 el2
  refine ⟨_,rfl,_,rfl,(.cel b cs),_,_,rfl,hk0.mono s2,ht.mono s2,trivial,hz,fun H3 s3=>⟨_,rfl,iteF ?_⟩⟩
  have s03:=s2.trans s3
  refine ⟨_,rfl,p,dx,_,rfl,s03 _ _ e,rfl,_,rfl,(.cel b cs),_,l,kvs,rfl,hk0.mono s03,⟨_,_,rfl⟩,hz,s3 _ _ el2,hi,fun y H4 s4 hy=>?_⟩
  have s04:=s03.trans s4
  refine ⟨_,rfl,_,rfl,(.cel b cs),t,d,kvs,rfl,ht.mono s04,hz,s4 _ _ (s3 _ _ ed2),hi,fun t2 H5 s5 ht2=>?_⟩
  have s05:=s04.trans s5
  refine ⟨mvK kvs (.cel b cs),y,t2,rfl,hy.mono s5,ht2,trivial,by rw [sz_mv]; exact hz,fun H6 s6=>⟨_,rfl,iteF ?_⟩⟩
  have s06:=s05.trans s6
  have s26:=s3.trans (s4.trans (s5.trans s6))
  refine ⟨_,rfl,_,rfl,l,d,kvs,rfl,rfl,s26 _ _ el2,s26 _ _ ed2,hi,_,rfl,iteF ?_⟩
  refine ⟨_,rfl,(.cel b cs),t,rfl,ht.mono s06,fun z H7 s7 hz7=>⟨_,rfl,(.cel b cs),z,t,rfl,hz7,ht.mono (s06.trans s7),trivial,hz,fun H8 s8=>⟨_,rfl,iteF ?_⟩⟩⟩
  have s08:=s06.trans (s7.trans s8)
  refine ⟨_,rfl,p,dx,_,rfl,s08 _ _ e,rfl,(.cel b cs),_,rfl,hk0.mono s08,⟨_,_,rfl⟩,hz,fun p9 H9 ms s9 hp9 e9 pts=>⟨.inl ⟨rfl,_,SqL.of e9⟩,p9,_,_,rfl,rfl,e9,?_,?_⟩⟩
  · have l1:=pl_len (.cel b cs)
    have l2:=nodup_le (pts.1.imp fun h=>Int.ne_of_lt h) fun x hx=>(pts.2 x).mp hx
    exact small (by rw [List.length_map]; lia)
  · have s10:=s08.trans (same_over s9 hp9 (HO.lst (ms.map V.int ++ [V.int 3])))
    exact ⟨_,rfl,_,rfl,(.cel b cs),_,_,rfl,hk0.mono s10,ht.mono s10,trivial,hz,fun H11 s11=>q H11 (s10.trans s11)⟩
end
end K21
set_option maxHeartbeats 4000000
namespace K21
open PySem L2
section
variable {P:Program} {w:World} {K:PySem.W.Frag} {mg:Str→Option Value} {base:Heap} {f fPt fMv fMvs fSho fLmv fKof:Addr} {fd dPt dMv dMvs dSho dLmv dKof:FuncData} {c:Cl}
theorem scOneF:FnScope ["_law_knot","_law_stuff","_law_cell","_law_moves_here","_law_handed"] ["_law_knot","_law_stuff","_law_cell"] (defScope sOne):=⟨rfl,rfl,rfl,by decide +kernel,rfl,by decide +kernel,by decide +kernel⟩
theorem ok_OneF (F:Fun K "_law_one" "_law_one" sOne f fd) (cf:CF K mg c) (hFPt:MHas K c.KF "points" "FileKnot.points" sFPt ["self"] fPt dPt) (GFPt:FnOk P w K mg base CX0 2 fPt dPt ["self"] (spPt c isF))
    (hFMv:MHas K c.KF "moved" "FileKnot.moved" sFMv ["self","places"] fMv dMv) (GFMv:FnOk P w K mg base CX0 4 fMv dMv ["self","places"] (spMv c isF))
    (hMvs:Has K mg "_law_moves" sMvs ["_law_stuff","_law_cell"] fMvs dMvs) (GMvs:FnOk P w K mg base CX0 2 fMvs dMvs ["_law_stuff","_law_cell"] spMvs)
    (hSho:Has K mg "_law_shows" sSho ["_law_knot","_law_stuff"] fSho dSho) (GSho:FnOk P w K mg base CX0 3 fSho dSho ["_law_knot","_law_stuff"] (spSho c any))
    (hLmv:Has K mg "_law_moved" sLmv ["_law_stuff","_law_moves_here"] fLmv dLmv) (GLmv:FnOk P w K mg base CX0 1 fLmv dLmv ["_law_stuff","_law_moves_here"] spLmv)
    (hKof:Has K mg "knot_of" sKof ["stuff"] fKof dKof) (GKof:FnOk P w K mg base CX0 4 fKof dKof ["stuff"] (spKof c)) (T:Txt mg):FnOk P w K mg base CX0 5 f fd ["_law_knot","_law_stuff","_law_cell"] (spOne c isF):=by
  refine F.ok scOneF (fun vs H Q E h=>?_) (fun cdv A outer s H vs Q E hr h=>?_)
  · obtain ⟨k,x,t,n,rfl,_⟩:=h
    rfl
  obtain ⟨k,x,t,n,rfl,hk,ht,⟨b,s',r,rfl⟩,hz,q⟩:=h
  have hk0:=hk
  obtain ⟨p,dx,v,rfl,e,av⟩:=hk
  refine ⟨_,(pss_cons (ps_set (i:=3) scOneF.nd rfl (Or.inl rfl) (pe_call GMvs (hr.mono (by decide)) rfl hMvs.nm hMvs.fn.kp hMvs.bd .nil pass0 (pc (pv 1) (pc (pv 2) pa_nil))))
    (pss_cons (ps_set (i:=4) scOneF.nd rfl (Or.inl rfl) (pe_callTy call_dictD rfl T.dct PyProof.Rows.boot_dict (pc (pv 3) pa_nil)))
    (pss_cons (ps_if (PW.pt (pw_or (pt_not (pt_val (pe_call GSho (hr.mono (by decide)) rfl hSho.nm hSho.fn.kp hSho.bd .nil pass0 (pc (pv 0) (pc (pv 1) pa_nil))))) (pw_or1 (pt_not (pt_val (pe_call GSho (hr.mono (by decide)) rfl hSho.nm hSho.fn.kp hSho.bd .nil pass0 (pc (pe_meth (pv 0) cf.clF hFMv.me GFMv (hr.mono (by decide)) hFMv.bd .nil pass0 (pc (pv 4) pa_nil)) (pc (pe_call GLmv (hr.mono (by decide)) rfl hLmv.nm hLmv.fn.kp hLmv.bd .nil pass0 (pc (pv 1) (pc (pv 3) pa_nil))) pa_nil))))))))
    (pss_one (ps_ret pe_bl))
    pss_nil)
    (pss_cons (ps_if (PW.pt (pw_or (pt_cmpR (op_neDK (hu_of hr |> Nat.lt_of_succ_lt)) (pv 4) (pv 3) (nomark _)) (pw_or1 (pt_not (pt_val (pe_call GSho (hr.mono (by decide)) rfl hSho.nm hSho.fn.kp hSho.bd .nil pass0 (pc (pe_call GKof (hr.mono (by decide)) rfl hKof.nm hKof.fn.kp hKof.bd .nil pass0 (pc (pv 1) pa_nil)) (pc (pv 1) pa_nil))))))))
    (pss_one (ps_ret pe_bl))
    pss_nil)
    (pss_cons (ps_expr (pe_bm PySem.F.plainAttrs_list PySem.F.slot_list_append PySem.F.type_list_append mt_append (pe_meth0 (pv 0) cf.clF hFPt.me GFPt (hr.mono (by decide)) hFPt.bd .nil pass0) (pc pe_int pa_nil)))
    (pss_one (ps_ret (pe_call GSho (hr.mono (by decide)) rfl hSho.nm hSho.fn.kp hSho.bd .nil pass0 (pc (pv 0) (pc (pv 1) pa_nil)))))))))),?_⟩
  refine ⟨_,rfl,_,rfl,(.fil b s' r),t,n,rfl,ht,hz,fun d kvs H1 s1 hd e1 hi=>⟨_,rfl,d,kvs,rfl,e1,fun l hl=>?_⟩⟩
  have s2:=s1.trans (same_new hl (HO.dK kvs))
  have ed2:=same_new hl (HO.dK kvs) _ _ e1
  have el2:upd H1 l (HO.dK kvs) l = some (.dK kvs):=upd_same
  revert s2 ed2 el2
  generalize upd H1 l (HO.dK kvs) = H2
  intro s2 ed2 el2
  refine ⟨_,rfl,_,rfl,(.fil b s' r),_,_,rfl,hk0.mono s2,ht.mono s2,trivial,hz,fun H3 s3=>⟨_,rfl,iteF ?_⟩⟩
  have s03:=s2.trans s3
  refine ⟨_,rfl,p,dx,_,rfl,s03 _ _ e,rfl,_,rfl,(.fil b s' r),_,l,kvs,rfl,hk0.mono s03,⟨_,_,_,rfl⟩,hz,s3 _ _ el2,hi,fun y H4 s4 hy=>?_⟩
  have s04:=s03.trans s4
  refine ⟨_,rfl,_,rfl,(.fil b s' r),t,d,kvs,rfl,ht.mono s04,hz,s4 _ _ (s3 _ _ ed2),hi,fun t2 H5 s5 ht2=>?_⟩
  have s05:=s04.trans s5
  refine ⟨mvK kvs (.fil b s' r),y,t2,rfl,hy.mono s5,ht2,trivial,by rw [sz_mv]; exact hz,fun H6 s6=>⟨_,rfl,iteF ?_⟩⟩
  have s06:=s05.trans s6
  have s26:=s3.trans (s4.trans (s5.trans s6))
  refine ⟨_,rfl,_,rfl,l,d,kvs,rfl,rfl,s26 _ _ el2,s26 _ _ ed2,hi,_,rfl,iteF ?_⟩
  refine ⟨_,rfl,(.fil b s' r),t,rfl,ht.mono s06,fun z H7 s7 hz7=>⟨_,rfl,(.fil b s' r),z,t,rfl,hz7,ht.mono (s06.trans s7),trivial,hz,fun H8 s8=>⟨_,rfl,iteF ?_⟩⟩⟩
  have s08:=s06.trans (s7.trans s8)
  refine ⟨_,rfl,p,dx,_,rfl,s08 _ _ e,rfl,(.fil b s' r),_,rfl,hk0.mono s08,⟨_,_,_,rfl⟩,hz,fun p9 H9 ms s9 hp9 e9 pts=>⟨.inl ⟨rfl,_,SqL.of e9⟩,p9,_,_,rfl,rfl,e9,?_,?_⟩⟩
  · have l1:=pl_len (.fil b s' r)
    have l2:=nodup_le (pts.1.imp fun h=>Int.ne_of_lt h) fun x hx=>(pts.2 x).mp hx
    exact small (by rw [List.length_map]; lia)
  · have s10:=s08.trans (same_over s9 hp9 (HO.lst (ms.map V.int ++ [V.int 3])))
    exact ⟨_,rfl,_,rfl,(.fil b s' r),_,_,rfl,hk0.mono s10,ht.mono s10,trivial,hz,fun H11 s11=>q H11 (s10.trans s11)⟩
end
end K21
set_option maxHeartbeats 4000000
namespace K21
open PySem L2
section
variable {P:Program} {w:World} {K:PySem.W.Frag} {mg:Str→Option Value} {base:Heap} {f fPt fMv fMvs fSho fLmv fKof:Addr} {fd dPt dMv dMvs dSho dLmv dKof:FuncData} {c:Cl}
theorem scOneD:FnScope ["_law_knot","_law_stuff","_law_cell","_law_moves_here","_law_handed"] ["_law_knot","_law_stuff","_law_cell"] (defScope sOne):=⟨rfl,rfl,rfl,by decide +kernel,rfl,by decide +kernel,by decide +kernel⟩
theorem ok_OneD (F:Fun K "_law_one" "_law_one" sOne f fd) (cf:CF K mg c) (hDPt:MHas K c.KD "points" "FolderKnot.points" sDPt ["self"] fPt dPt) (GDPt:FnOk P w K mg base CX0 2 fPt dPt ["self"] (spPt c isD))
    (hDMv:MHas K c.KD "moved" "FolderKnot.moved" sDMv ["self","places"] fMv dMv) (GDMv:FnOk P w K mg base CX0 4 fMv dMv ["self","places"] (spMv c isD))
    (hMvs:Has K mg "_law_moves" sMvs ["_law_stuff","_law_cell"] fMvs dMvs) (GMvs:FnOk P w K mg base CX0 2 fMvs dMvs ["_law_stuff","_law_cell"] spMvs)
    (hSho:Has K mg "_law_shows" sSho ["_law_knot","_law_stuff"] fSho dSho) (GSho:FnOk P w K mg base CX0 3 fSho dSho ["_law_knot","_law_stuff"] (spSho c any))
    (hLmv:Has K mg "_law_moved" sLmv ["_law_stuff","_law_moves_here"] fLmv dLmv) (GLmv:FnOk P w K mg base CX0 1 fLmv dLmv ["_law_stuff","_law_moves_here"] spLmv)
    (hKof:Has K mg "knot_of" sKof ["stuff"] fKof dKof) (GKof:FnOk P w K mg base CX0 4 fKof dKof ["stuff"] (spKof c)) (T:Txt mg):FnOk P w K mg base CX0 5 f fd ["_law_knot","_law_stuff","_law_cell"] (spOne c isD):=by
  refine F.ok scOneD (fun vs H Q E h=>?_) (fun cdv A outer s H vs Q E hr h=>?_)
  · obtain ⟨k,x,t,n,rfl,_⟩:=h
    rfl
  obtain ⟨k,x,t,n,rfl,hk,ht,⟨b,m,es,rfl⟩,hz,q⟩:=h
  have hk0:=hk
  obtain ⟨p,dx,v,rfl,e,av⟩:=hk
  refine ⟨_,(pss_cons (ps_set (i:=3) scOneD.nd rfl (Or.inl rfl) (pe_call GMvs (hr.mono (by decide)) rfl hMvs.nm hMvs.fn.kp hMvs.bd .nil pass0 (pc (pv 1) (pc (pv 2) pa_nil))))
    (pss_cons (ps_set (i:=4) scOneD.nd rfl (Or.inl rfl) (pe_callTy call_dictD rfl T.dct PyProof.Rows.boot_dict (pc (pv 3) pa_nil)))
    (pss_cons (ps_if (PW.pt (pw_or (pt_not (pt_val (pe_call GSho (hr.mono (by decide)) rfl hSho.nm hSho.fn.kp hSho.bd .nil pass0 (pc (pv 0) (pc (pv 1) pa_nil))))) (pw_or1 (pt_not (pt_val (pe_call GSho (hr.mono (by decide)) rfl hSho.nm hSho.fn.kp hSho.bd .nil pass0 (pc (pe_meth (pv 0) cf.clD hDMv.me GDMv (hr.mono (by decide)) hDMv.bd .nil pass0 (pc (pv 4) pa_nil)) (pc (pe_call GLmv (hr.mono (by decide)) rfl hLmv.nm hLmv.fn.kp hLmv.bd .nil pass0 (pc (pv 1) (pc (pv 3) pa_nil))) pa_nil))))))))
    (pss_one (ps_ret pe_bl))
    pss_nil)
    (pss_cons (ps_if (PW.pt (pw_or (pt_cmpR (op_neDK (hu_of hr |> Nat.lt_of_succ_lt)) (pv 4) (pv 3) (nomark _)) (pw_or1 (pt_not (pt_val (pe_call GSho (hr.mono (by decide)) rfl hSho.nm hSho.fn.kp hSho.bd .nil pass0 (pc (pe_call GKof (hr.mono (by decide)) rfl hKof.nm hKof.fn.kp hKof.bd .nil pass0 (pc (pv 1) pa_nil)) (pc (pv 1) pa_nil))))))))
    (pss_one (ps_ret pe_bl))
    pss_nil)
    (pss_cons (ps_expr (pe_bm PySem.F.plainAttrs_list PySem.F.slot_list_append PySem.F.type_list_append mt_append (pe_meth0 (pv 0) cf.clD hDPt.me GDPt (hr.mono (by decide)) hDPt.bd .nil pass0) (pc pe_int pa_nil)))
    (pss_one (ps_ret (pe_call GSho (hr.mono (by decide)) rfl hSho.nm hSho.fn.kp hSho.bd .nil pass0 (pc (pv 0) (pc (pv 1) pa_nil)))))))))),?_⟩
  refine ⟨_,rfl,_,rfl,(.fol b m es),t,n,rfl,ht,hz,fun d kvs H1 s1 hd e1 hi=>⟨_,rfl,d,kvs,rfl,e1,fun l hl=>?_⟩⟩
  have s2:=s1.trans (same_new hl (HO.dK kvs))
  have ed2:=same_new hl (HO.dK kvs) _ _ e1
  have el2:upd H1 l (HO.dK kvs) l = some (.dK kvs):=upd_same
  revert s2 ed2 el2
  generalize upd H1 l (HO.dK kvs) = H2
  intro s2 ed2 el2
  refine ⟨_,rfl,_,rfl,(.fol b m es),_,_,rfl,hk0.mono s2,ht.mono s2,trivial,hz,fun H3 s3=>⟨_,rfl,iteF ?_⟩⟩
  have s03:=s2.trans s3
  refine ⟨_,rfl,p,dx,_,rfl,s03 _ _ e,rfl,_,rfl,(.fol b m es),_,l,kvs,rfl,hk0.mono s03,⟨_,_,_,rfl⟩,hz,s3 _ _ el2,hi,fun y H4 s4 hy=>?_⟩
  have s04:=s03.trans s4
  refine ⟨_,rfl,_,rfl,(.fol b m es),t,d,kvs,rfl,ht.mono s04,hz,s4 _ _ (s3 _ _ ed2),hi,fun t2 H5 s5 ht2=>?_⟩
  have s05:=s04.trans s5
  refine ⟨mvK kvs (.fol b m es),y,t2,rfl,hy.mono s5,ht2,trivial,by rw [sz_mv]; exact hz,fun H6 s6=>⟨_,rfl,iteF ?_⟩⟩
  have s06:=s05.trans s6
  have s26:=s3.trans (s4.trans (s5.trans s6))
  refine ⟨_,rfl,_,rfl,l,d,kvs,rfl,rfl,s26 _ _ el2,s26 _ _ ed2,hi,_,rfl,iteF ?_⟩
  refine ⟨_,rfl,(.fol b m es),t,rfl,ht.mono s06,fun z H7 s7 hz7=>⟨_,rfl,(.fol b m es),z,t,rfl,hz7,ht.mono (s06.trans s7),trivial,hz,fun H8 s8=>⟨_,rfl,iteF ?_⟩⟩⟩
  have s08:=s06.trans (s7.trans s8)
  refine ⟨_,rfl,p,dx,_,rfl,s08 _ _ e,rfl,(.fol b m es),_,rfl,hk0.mono s08,⟨_,_,_,rfl⟩,hz,fun p9 H9 ms s9 hp9 e9 pts=>⟨.inl ⟨rfl,_,SqL.of e9⟩,p9,_,_,rfl,rfl,e9,?_,?_⟩⟩
  · have l1:=pl_len (.fol b m es)
    have l2:=nodup_le (pts.1.imp fun h=>Int.ne_of_lt h) fun x hx=>(pts.2 x).mp hx
    exact small (by rw [List.length_map]; lia)
  · have s10:=s08.trans (same_over s9 hp9 (HO.lst (ms.map V.int ++ [V.int 3])))
    exact ⟨_,rfl,_,rfl,(.fol b m es),_,_,rfl,hk0.mono s10,ht.mono s10,trivial,hz,fun H11 s11=>q H11 (s10.trans s11)⟩
end
end K21
set_option maxHeartbeats 4000000
namespace K21
open PySem L2
theorem oth_len (es:List Ent) (n:Str):(othE es n).length ≤ es.length:=List.length_filter_le _ _
section
variable {P:Program} {w:World} {K:PySem.W.Frag} {mg:Str→Option Value} {base:Heap} {f fDEn fLen fSho fDWo fDWe fDWl:Addr} {fd dDEn dLen dSho dDWo dDWe dDWl:FuncData} {c:Cl}
def spFol (c:Cl):Sp:=fun vs H Q _=>∃ (b m n:Int) (es:List Ent) (x t:V) (pn:Addr) (zs:List Str),vs = [x,t,.ref pn,.int n]∧KnAt c H (.fol b m es) x∧At H (.tup (stT (.fol b m es))) t∧H pn = some (.lst (zs.map V.str))∧zs.length = 8∧es.length ≤ 8∧(es.map (·.1)).Nodup∧∀ H',Same H H'→Q (.bl true) H'
theorem scFol:FnScope ["_law_knot","_law_stuff","_law_names_here","_law_cell","_law_name","_law_born","_law_left","_law_row","_law_more","_law_many"] ["_law_knot","_law_stuff","_law_names_here","_law_cell"] (defScope sFol):=⟨rfl,rfl,rfl,by decide +kernel,rfl,by decide +kernel,by decide +kernel⟩
theorem ok_Fol (F:Fun K "_law_folder" "_law_folder" sFol f fd) (cf:CF K mg c) (hDEn:MHas K c.KD "entry" "FolderKnot.entry" sDEn ["self","name"] fDEn dDEn) (GDEn:FnOk P w K mg base CX0 1 fDEn dDEn ["self","name"] (spDEn c))
    (hLen:Has K mg "_law_entry" sLen ["_law_stuff","_law_name"] fLen dLen) (GLen:FnOk P w K mg base CX0 1 fLen dLen ["_law_stuff","_law_name"] spLen)
    (hSho:Has K mg "_law_shows" sSho ["_law_knot","_law_stuff"] fSho dSho) (GSho:FnOk P w K mg base CX0 3 fSho dSho ["_law_knot","_law_stuff"] (spSho c any))
    (hDWo:MHas K c.KD "without_entry" "FolderKnot.without_entry" sDWo ["self","born","name"] fDWo dDWo) (GDWo:FnOk P w K mg base CX0 4 fDWo dDWo ["self","born","name"] (spDWo c))
    (hDWe:MHas K c.KD "with_entry" "FolderKnot.with_entry" sDWe ["self","born","name","kind","place"] fDWe dDWe) (GDWe:FnOk P w K mg base CX0 4 fDWe dDWe ["self","born","name","kind","place"] (spDWe c))
    (hDWl:MHas K c.KD "with_limit" "FolderKnot.with_limit" sDWl ["self","born","many"] fDWl dDWl) (GDWl:FnOk P w K mg base CX0 4 fDWl dDWl ["self","born","many"] (spDWl c)) (T:Txt mg):FnOk P w K mg base CX0 5 f fd ["_law_knot","_law_stuff","_law_names_here","_law_cell"] (spFol c):=by
  refine F.ok scFol (fun vs H Q E h=>?_) (fun cdv A outer s H vs Q E hr h=>?_)
  · obtain ⟨b,m,n,es,x,t,pn,zs,rfl,_⟩:=h
    rfl
  obtain ⟨b,m,n,es,x,t,pn,zs,rfl,hk,ht,hpn,lz,hz,nd,q⟩:=h
  have hk0:=hk
  have ht0:=ht
  obtain ⟨p,dx,v,rfl,e,av⟩:=hk
  obtain ⟨a,vs,rfl,ea,ka⟩:=ht.tup
  obtain ⟨v2,h2,a2⟩:=ka.at (i:=2) rfl
  obtain ⟨v3,h3,a3⟩:=ka.at (i:=3) rfl
  have e2':v2 = .int m:=by unfold At at a2; exact a2
  subst e2'
  refine ⟨_,(pss_cons (ps_for PassesOwn.never rfl (pi_list (pv 2)) (pg_name (i:=4) scFol.nd rfl (Or.inr rfl))
    (pss_one (ps_if (pt_cmpR (op_alt op_ne (op_neD (hu40 hr))) (pe_meth (pv 0) cf.clD hDEn.me GDEn (hr.mono (by decide)) hDEn.bd .nil pass0 (pc (pv 4) pa_nil)) (pe_call GLen (hr.mono (by decide)) rfl hLen.nm hLen.fn.kp hLen.bd .nil pass0 (pc (pv 1) (pc (pv 4) pa_nil))) (nomark _))
    (pss_one (ps_ret pe_bl))
    pss_nil)))
    (pss_cons (ps_set (i:=4) scFol.nd rfl (Or.inr rfl) (pe_ix ix_list (pv 2) (pe_op op_mod (pv 3) (pe_callB call_len_seq rfl T.len PySem.boot_len (pc (pv 2) pa_nil))) (fun _ _=>rfl)))
    (pss_cons (ps_set (i:=5) scFol.nd rfl (Or.inl rfl) (pe_op op_add pe_int (pe_op op_mod (pe_op op_fdiv (pv 3) pe_int) pe_int)))
    (pss_cons (ps_set (i:=6) scFol.nd rfl (Or.inl rfl) (pe_callTy call_tuple_of rfl T.tup PyProof.Rows.boot_tuple (pc (pe_comp [4] ["_law_name"] (pi_seq (pe_ix ix_tup (pv 1) pe_int (fun _ _=>rfl))) (fun _ _ _ _ _ _=>(pts_one (pt_cmpR op_ne (pe_ix (ix_tupK (K:=K) rfl) (pv 0) pe_int (fun _ _=>rfl)) (pv 1) (nomark _))))
          (fun _ _ _ _ _ _=>(pv 0))
          rfl (by decide +kernel) (by decide +kernel) rfl (by decide +kernel) (fun j y hj=>by
            match j,hj with
            | 0,hj=>cases hj; exact ⟨4,rfl,rfl,rfl,.inl rfl⟩) rfl (by decide +kernel) rfl) pa_nil)))
    (pss_cons (ps_if (pt_not (pt_val (pe_call GSho (hr.mono (by decide)) rfl hSho.nm hSho.fn.kp hSho.bd .nil pass0 (pc (pe_meth (pv 0) cf.clD hDWo.me GDWo (hr.mono (by decide)) hDWo.bd .nil pass0 (pc (pv 5) (pc (pv 4) pa_nil))) (pc (pe_tup (pc pe_str (pc (pv 5) (pc (pe_ix ix_tup (pv 1) pe_int (fun _ _=>rfl)) (pc (pv 6) pa_nil))))) pa_nil)))))
    (pss_one (ps_ret pe_bl))
    pss_nil)
    (pss_cons (ps_set (i:=7) scFol.nd rfl (Or.inl rfl) (pe_tup (pc (pv 4) (pc (pe_ix ix_list (pe_lst (pc pe_str (pc pe_str pa_nil))) (pe_op op_mod (pe_op op_fdiv (pv 3) pe_int) pe_int) (fun _ _=>rfl)) (pc (pe_op op_add pe_int (pe_op op_mod (pe_op op_fdiv (pv 3) pe_int) pe_int)) pa_nil)))))
    (pss_cons (ps_set (i:=8) scFol.nd rfl (Or.inl rfl) (pe_callTy call_tuple_of rfl T.tup PyProof.Rows.boot_tuple (pc (pe_callB (call_sortedP (tu:=true)) rfl T.srt PyProof.Rows.boot_sorted (pc (pe_op op_catA (pv 6) (pe_tup (pc (pv 7) pa_nil))) pa_nil)) pa_nil)))
    (pss_cons (ps_if (pt_not (pt_val (pe_call GSho (hr.mono (by decide)) rfl hSho.nm hSho.fn.kp hSho.bd .nil pass0 (pc (pe_meth (pv 0) cf.clD hDWe.me GDWe (hr.mono (by decide)) hDWe.bd .nil pass0 (pc (pv 5) (pc (pv 4) (pc (pe_ix ix_tup (pv 7) pe_int (fun _ _=>rfl)) (pc (pe_ix ix_tup (pv 7) pe_int (fun _ _=>rfl)) pa_nil))))) (pc (pe_tup (pc pe_str (pc (pv 5) (pc (pe_ix ix_tup (pv 1) pe_int (fun _ _=>rfl)) (pc (pv 8) pa_nil))))) pa_nil)))))
    (pss_one (ps_ret pe_bl))
    pss_nil)
    (pss_cons (ps_set (i:=9) scFol.nd rfl (Or.inl rfl) (pe_op op_mod (pe_op op_fdiv (pv 3) pe_int) pe_int))
    (pss_cons (ps_if (pt_not (pt_val (pe_call GSho (hr.mono (by decide)) rfl hSho.nm hSho.fn.kp hSho.bd .nil pass0 (pc (pe_meth (pv 0) cf.clD hDWl.me GDWl (hr.mono (by decide)) hDWl.bd .nil pass0 (pc (pv 5) (pc (pv 9) pa_nil))) (pc (pe_tup (pc pe_str (pc (pv 5) (pc (pv 9) (pc (pe_ix ix_tup (pv 1) pe_int (fun _ _=>rfl)) pa_nil))))) pa_nil)))))
    (pss_one (ps_ret pe_bl))
    pss_nil)
    (pss_one (ps_ret (pe_call GSho (hr.mono (by decide)) rfl hSho.nm hSho.fn.kp hSho.bd .nil pass0 (pc (pv 0) (pc (pv 1) pa_nil))))))))))))))),?_⟩
  refine ⟨_,rfl,pn,rfl,⟨_,SqL.of hpn⟩,for_list (K:=K) (a:=pn) (xs:=zs.map V.str) (fun i σ H1=>(∃ o4,σ = [some (.ref p),some (.ref a),some (.ref pn),some (.int n),o4,none,none,none,none,none])∧Same H H1) ⟨⟨none,rfl⟩,Same.refl H⟩ (fun i σ H1 _ h1=>SqL.of (h1.2 _ _ hpn)) ?_ ?_⟩
  · rintro i y σ H1 hy ⟨⟨o4,rfl⟩,s1⟩
    rw [List.getElem?_map] at hy
    obtain ⟨nm,hnm,rfl⟩:=Option.map_eq_some_iff.mp hy
    refine ⟨_,rfl,p,dx,_,rfl,s1 _ _ e,rfl,_,rfl,b,m,es,_,nm,rfl,hk0.mono s1,fun v1 H2 s2 hv1=>?_⟩
    refine ⟨_,rfl,_,rfl,b,m,es,_,nm,rfl,ht0.mono (s1.trans s2),fun v2' H3 s3 hv2=>?_⟩
    have s03:=s1.trans (s2.trans s3)
    cases hf:fndE es nm with
    | none =>
      rw [hf] at hv1 hv2
      have g1:v1 = .non:=hv1
      have g2:v2' = .non:=hv2
      subst g1 g2
      refine .inl ⟨rfl,_,rfl,?_⟩
      rw [decide_eq_true rfl]
      exact iteF ⟨⟨_,rfl⟩,s03⟩
    | some y =>
      rw [hf] at hv1 hv2
      have g1:At H2 (.tup [.str y.2.1,.int y.2.2]) v1:=hv1
      have g2:At H3 (.tup [.str y.2.1,.int y.2.2]) v2':=hv2
      refine .inr ⟨2,At.eqvS (by rfl) (by show max 0 (max 0 0) ≤ 2; decide) (g1.mono s3) g2,by decide,_,rfl,iteF ⟨⟨_,rfl⟩,s03⟩⟩
  rintro σ H1 ⟨⟨o4,rfl⟩,s1⟩
  have lz':(zs.map V.str).length = 8:=by rw [List.length_map]; exact lz
  refine ⟨_,rfl,_,rfl,_,rfl,pn,_,rfl,.inl (SqL.of (s1 _ _ hpn)),_,_,rfl,rfl,(by show (0:Int) < (((zs.map V.str).length:Nat):Int); rw [lz']; decide),?_⟩
  rw [lz']
  have b0:0 ≤ n % 8:=by lia
  have b1:n % 8 < 8:=by lia
  obtain ⟨j,ej⟩:∃ j:Nat,n % 8 = (j:Int):=⟨(n % 8).toNat,by lia⟩
  have hj:j < zs.length:=by lia
  refine ⟨pn,_,_,.str zs[j],rfl,rfl,SqL.of (s1 _ _ hpn),(by show atI (zs.map V.str) (n % 8) = _; rw [ej]; exact atI_nat (by rw [List.getElem?_map,List.getElem?_eq_getElem hj]; rfl)),?_⟩
  generalize zs[j] = nm
  refine ⟨_,rfl,_,_,rfl,rfl,⟨by decide,by decide⟩,_,_,rfl,rfl,(by show (0:Int) < 4294967295; decide),_,_,rfl,rfl,?_⟩
  dsimp only
  generalize 1 + n / 8 % 4294967295 = born
  obtain ⟨b3,ws,rfl,eb,kb⟩:=a3.tup
  have ln:=kb.len
  rw [List.length_map] at ln
  refine ⟨_,rfl,a,_,3,_,rfl,rfl,SqT.of (s1 _ _ ea),atI_nat h3,b3,true,rfl,⟨_,Sq.of (tu:=true) (s1 _ _ eb)⟩,fun pl hpl=>?_⟩
  refine comp_seq (K:=K) (tu:=true) (a:=b3) (xs:=ws) (fun i us H2=>Same H1 H2∧H2 pl = some (.lst us)∧Ats H2 ((othE (es.take i) nm).map enT) us) ⟨same_new hpl _,upd_same,Ats.nil _⟩ (fun i us H2 _ h2=>Sq.of (tu:=true) (h2.1 _ _ (s1 _ _ eb))) ?_ ?_
  · rintro i v us H2 hv ⟨s2,e2,k2⟩
    obtain ⟨t,ht,hat⟩:=(kb.mono (s1.trans s2)).get hv
    rw [List.getElem?_map] at ht
    obtain ⟨y,hy,rfl⟩:=Option.map_eq_some_iff.mp ht
    have hat':=hat
    obtain ⟨q1,c1,c2,c3,rfl,eb1,rfl,rfl,rfl⟩:=en_at hat
    have li:i < es.length:=(List.getElem?_eq_some_iff.mp hy).1
    have lu:=k2.len
    have lf:=oth_len (es.take i) nm
    rw [List.length_map] at lu
    rw [List.length_take] at lf
    refine ⟨_,rfl,q1,_,0,_,rfl,rfl,SqT.of eb1,atI_nat (j:=0) rfl,_,rfl,rfl,_,rfl,?_⟩
    have ed:decide (V.str y.1 = V.str nm) = decide (y.1 = nm):=decide_eq_decide.mpr ⟨fun h=>by injection h,fun h=>by rw [h]⟩
    rw [ed]
    have et:othE (es.take (i + 1)) nm = othE (es.take i) nm ++ (if decide (y.1 ≠ nm) = true then [y] else []):=by
      unfold othE
      rw [List.take_add_one,hy,List.filter_append]
      congr 1
      show List.filter _ [y] = _
      rw [List.filter_cons]
      rfl
    rw [et,show (!decide (y.1 = nm)) = decide (y.1 ≠ nm) by rw [decide_not]]
    refine ite2 (fun k=>?_) (fun k=>?_)
    · rw [if_pos k]
      refine ⟨_,rfl,e2,small (by lia),same_over s2 hpl _,upd_same,?_⟩
      refine Ats.keepT (keepL e2) (nl_en _) ?_
      rw [List.map_append]
      exact Ats.app (Ats.cons hat' (Ats.nil _)) k2
    · rw [if_neg k,List.append_nil]
      exact ⟨s2,e2,k2⟩
  rintro us H2 ⟨s2,e2,k2⟩
  rw [ln,List.take_length] at k2
  refine ⟨pl,us,rfl,.inl ⟨SqL.of e2,fun tl htl=>?_⟩⟩
  have s3:=same_new htl (HO.tup us)
  have s03:=s1.trans (s2.trans s3)
  have kl:At (upd H2 tl (HO.tup us)) (.tup ((othE es nm).map enT)) (.ref tl):=At.mkT upd_same (k2.mono s3)
  have etl:upd H2 tl (HO.tup us) tl = some (.tup us):=upd_same
  have k3:=k2.mono s3
  revert s3 s03 kl etl k3
  generalize upd H2 tl (HO.tup us) = H3
  intro s3 s03 kl etl k3
  refine ⟨_,rfl,p,dx,_,rfl,s03 _ _ e,rfl,_,rfl,_,rfl,b,m,born,es,_,nm,rfl,hk0.mono s03,by lia,fun z H4 s4 hz4=>?_⟩
  have s04:=s03.trans s4
  refine ⟨_,rfl,_,rfl,a,_,2,_,rfl,rfl,SqT.of (s04 _ _ ea),atI_nat h2,_,rfl,(by show 4 ≤ sizeLine; decide),fun t4 ht4=>?_⟩
  have s5:=same_new ht4 (HO.tup [V.str (Str.ofString "folder"),V.int born,V.int m,V.ref tl])
  have lo:=oth_len es nm
  refine ⟨.fol born m (othE es nm),z,_,rfl,hz4.mono s5,At.mkT upd_same (Ats.cons (At.str _) (Ats.cons (At.int _) (Ats.cons (At.int _) (Ats.cons ((kl.mono s4).mono s5) (Ats.nil _))))),trivial,(by show (othE es nm).length ≤ 20; lia),fun H6 s6=>⟨_,rfl,iteF ?_⟩⟩
  have s36:=s4.trans (s5.trans s6)
  have s06:=s03.trans s36
  refine ⟨_,rfl,(by show 2 ≤ sizeLine; decide),fun o ho=>?_⟩
  refine ⟨_,rfl,_,_,rfl,rfl,⟨by decide,by decide⟩,_,_,rfl,rfl,(by show (0:Int) < 2; decide),?_⟩
  obtain ⟨kd,hkd⟩:∃ kd:Str,atI [V.str (Str.ofString "folder"),V.str (Str.ofString "file")] (n / 3 % 2) = some (.str kd):=by
    have:n / 3 % 2 = 0∨n / 3 % 2 = 1:=by lia
    rcases this with h | h
    · exact ⟨_,by rw [h]; rfl⟩
    · exact ⟨_,by rw [h]; rfl⟩
  refine ⟨o,_,_,.str kd,rfl,rfl,SqL.of upd_same,hkd,_,rfl,_,_,rfl,rfl,⟨by decide,by decide⟩,_,_,rfl,rfl,(by show (0:Int) < 598; decide),_,_,rfl,rfl,(by show 3 ≤ sizeLine; decide),fun tr htr=>?_⟩
  dsimp only at htr ⊢
  generalize 2 + n / 6 % 598 = pc at htr ⊢
  have s7:=(same_new ho (HO.lst [V.str (Str.ofString "folder"),V.str (Str.ofString "file")])).trans (same_new htr (HO.tup [V.str nm,V.str kd,V.int pc]))
  have etr:upd (upd H6 o (HO.lst [V.str (Str.ofString "folder"),V.str (Str.ofString "file")])) tr (HO.tup [V.str nm,V.str kd,V.int pc]) tr = some (.tup [V.str nm,V.str kd,V.int pc]):=upd_same
  revert s7 etr
  generalize upd (upd H6 o (HO.lst [V.str (Str.ofString "folder"),V.str (Str.ofString "file")])) tr (HO.tup [V.str nm,V.str kd,V.int pc]) = H7
  intro s7 etr
  have s37:=s36.trans s7
  have s07:=s06.trans s7
  refine ⟨_,rfl,_,rfl,(by show 1 ≤ sizeLine; decide),fun tx htx=>?_⟩
  have s8:=same_new htx (HO.tup [V.ref tr])
  have lus:=k2.len
  rw [List.length_map] at lus
  refine ⟨tl,tx,us,[.ref tr],rfl,rfl,s8 _ _ (s37 _ _ etl),upd_same,Nat.le_of_lt (small (by simp; lia)),fun r H9 s9 er=>?_⟩
  have s89:=s8.trans s9
  have s09:=s07.trans s89
  have kA:Ats H9 ((addE es (nm,kd,pc)).map enT) (us ++ [.ref tr]):=by
    unfold addE
    rw [List.map_append]
    exact Ats.app (Ats.cons (At.mkT (vs:=[.str nm,.str kd,.int pc]) (s89 _ _ etr) (Ats.cons (At.str _) (Ats.cons (At.str _) (Ats.cons (At.int _) (Ats.nil _))))) (Ats.nil _)) (k3.mono (s37.trans s89))
  have lA:=kA.len
  have al:=add_len es (nm,kd,pc)
  rw [List.length_map] at lA
  refine ⟨r,us ++ [.ref tr],(addE es (nm,kd,pc)).map (·.1),rfl,SqT.of er,by lia,by rw [List.length_map]; exact lA,ent_first kA,add_nodup nd,fun l hl=>?_⟩
  have s10:=same_new hl (HO.lst (ordV ((addE es (nm,kd,pc)).map (·.1)) (us ++ [V.ref tr])))
  refine ⟨l,_,rfl,.inl ⟨SqL.of upd_same,fun tm htm=>?_⟩⟩
  have s11:=same_new htm (HO.tup (ordV ((addE es (nm,kd,pc)).map (·.1)) (us ++ [V.ref tr])))
  have s0B:=s09.trans (s10.trans s11)
  have sB7:=s89.trans (s10.trans s11)
  have km:At (upd (upd H9 l (HO.lst (ordV ((addE es (nm,kd,pc)).map (·.1)) (us ++ [V.ref tr])))) tm (HO.tup (ordV ((addE es (nm,kd,pc)).map (·.1)) (us ++ [V.ref tr])))) (.tup ((srtE (addE es (nm,kd,pc))).map enT)) (.ref tm):=At.mkT upd_same ((ats_srt kA).mono (s10.trans s11))
  revert s0B sB7 km
  generalize upd (upd H9 l (HO.lst (ordV ((addE es (nm,kd,pc)).map (·.1)) (us ++ [V.ref tr])))) tm (HO.tup (ordV ((addE es (nm,kd,pc)).map (·.1)) (us ++ [V.ref tr]))) = HB
  intro s0B sB7 km
  refine ⟨_,rfl,p,dx,_,rfl,s0B _ _ e,rfl,_,rfl,_,rfl,_,rfl,tr,_,1,_,rfl,rfl,SqT.of (sB7 _ _ etr),atI_nat (j:=1) rfl,_,rfl,tr,_,2,_,rfl,rfl,SqT.of (sB7 _ _ etr),atI_nat (j:=2) rfl,b,m,born,es,_,(nm,kd,pc),rfl,hk0.mono s0B,by lia,nd,fun z2 HC sC hz2=>?_⟩
  have s0C:=s0B.trans sC
  refine ⟨_,rfl,_,rfl,a,_,2,_,rfl,rfl,SqT.of (s0C _ _ ea),atI_nat h2,_,rfl,(by show 4 ≤ sizeLine; decide),fun tD htD=>?_⟩
  have sD:=same_new htD (HO.tup [V.str (Str.ofString "folder"),V.int born,V.int m,V.ref tm])
  refine ⟨.fol born m (srtE (addE es (nm,kd,pc))),z2,_,rfl,hz2.mono sD,At.mkT upd_same (Ats.cons (At.str _) (Ats.cons (At.int _) (Ats.cons (At.int _) (Ats.cons ((km.mono sC).mono sD) (Ats.nil _))))),trivial,(by show (srtE _).length ≤ 20; rw [srt_len]; lia),fun HE sE=>⟨_,rfl,iteF ?_⟩⟩
  have s0E:=s0C.trans (sD.trans sE)
  refine ⟨_,rfl,_,_,rfl,rfl,⟨by decide,by decide⟩,_,_,rfl,rfl,(by show (0:Int) < 1000; decide),?_⟩
  dsimp only
  generalize n / 5 % 1000 = many
  refine ⟨_,rfl,p,dx,_,rfl,s0E _ _ e,rfl,_,rfl,_,rfl,b,m,born,many,es,_,rfl,hk0.mono s0E,fun z3 HF sF hz3=>?_⟩
  have s0F:=s0E.trans sF
  refine ⟨_,rfl,_,rfl,_,rfl,a,_,3,_,rfl,rfl,SqT.of (s0F _ _ ea),atI_nat h3,(by show 4 ≤ sizeLine; decide),fun tG htG=>?_⟩
  have sG:=same_new htG (HO.tup [V.str (Str.ofString "folder"),V.int born,V.int many,V.ref b3])
  refine ⟨.fol born many es,z3,_,rfl,hz3.mono sG,At.mkT upd_same (Ats.cons (At.str _) (Ats.cons (At.int _) (Ats.cons (At.int _) (Ats.cons ((a3.mono s0F).mono sG) (Ats.nil _))))),trivial,(by show es.length ≤ 20; lia),fun HH sH=>⟨_,rfl,iteF ?_⟩⟩
  have s0H:=s0F.trans (sG.trans sH)
  exact ⟨_,rfl,_,rfl,.fol b m es,_,_,rfl,hk0.mono s0H,ht0.mono s0H,trivial,(by show es.length ≤ 20; lia),fun HI sI=>q HI (s0H.trans sI)⟩
end
end K21
set_option maxHeartbeats 4000000
namespace K21
open PySem L2
theorem cut_take (zs:List Str) (j:Nat):cutV (zs.map V.str) none (some (j:Int)) = (zs.take j).map V.str:=by
  unfold cutV
  rw [HT.sIx_none,HT.sIx_nat,Nat.sub_zero,List.drop_zero,← List.take_eq_take_min,List.map_take]
theorem spC_weak {c:Cl} {vs:List V} {H:Hp} {x:V} {R:Hp→Prop} (h:spCIn c vs H (fun u H2=>u = .non∧(x = x→R H2)) E0):spCIn c vs H (fun u H2=>u = .non∧R H2) E0:=by
  obtain ⟨p,dx,b,v,l,e,h1,h2,h3,q⟩:=h
  exact ⟨p,dx,b,v,l,e,h1,h2,h3,fun v' H' k a b=>⟨(q v' H' k a b).1,(q v' H' k a b).2 rfl⟩⟩
theorem spF_weak {c:Cl} {vs:List V} {H:Hp} {x:V} {R:Hp→Prop} (h:spFIn c vs H (fun u H2=>u = .non∧(x = x→R H2)) E0):spFIn c vs H (fun u H2=>u = .non∧R H2) E0:=by
  obtain ⟨p,dx,b,m0,v,l,e,h1,h2,h3,q⟩:=h
  exact ⟨p,dx,b,m0,v,l,e,h1,h2,h3,fun v' H' k a b=>⟨(q v' H' k a b).1,(q v' H' k a b).2 rfl⟩⟩
theorem spD_weak {c:Cl} {vs:List V} {H:Hp} {x:V} {R:Hp→Prop} (h:spDIn c vs H (fun u H2=>u = .non∧(x = x→R H2)) E0):spDIn c vs H (fun u H2=>u = .non∧R H2) E0:=by
  obtain ⟨p,dx,b,m0,v,l,e,h1,h2,h3,q⟩:=h
  exact ⟨p,dx,b,m0,v,l,e,h1,h2,h3,fun v' H' k a b=>⟨(q v' H' k a b).1,(q v' H' k a b).2 rfl⟩⟩
theorem mk2_C {c:Cl} {H:Hp} {R:Hp→Prop} {v:V} {b:Int} {cs:List Int} {x dx:Addr} (hv:TL H (cs.map .int) v) (hx:H x = none) (hd:H dx = none) (ne:dx ≠ x) (q:∀ H',Same H H'→KnAt c H' (.cel b cs) (.ref x)→R H') :
    spCIn c (.ref x :: ([.int b,v] ++ [])) (upd (upd H dx (.own x)) x (.ins c.KC dx [])) (fun u H2=>u = .non∧R H2) E0 :=
  mk_C (Q:=fun y H'=>y = .ref x→R H') hv (fun y H' s' hk e=>q H' s' (e ▸ hk)) x dx hx hd ne |> spC_weak
theorem mk2_F {c:Cl} {H:Hp} {R:Hp→Prop} {v:V} {b s:Int} {r:List S4} {x dx:Addr} (hv:TL H (r.map s4T) v) (hx:H x = none) (hd:H dx = none) (ne:dx ≠ x) (q:∀ H',Same H H'→KnAt c H' (.fil b s r) (.ref x)→R H') :
    spFIn c (.ref x :: ([.int b,.int s,v] ++ [])) (upd (upd H dx (.own x)) x (.ins c.KF dx [])) (fun u H2=>u = .non∧R H2) E0 :=
  mk_F (Q:=fun y H'=>y = .ref x→R H') hv (fun y H' s' hk e=>q H' s' (e ▸ hk)) x dx hx hd ne |> spF_weak
theorem mk2_D {c:Cl} {H:Hp} {R:Hp→Prop} {v:V} {b m:Int} {es:List Ent} {x dx:Addr} (hv:TL H (es.map enT) v) (hx:H x = none) (hd:H dx = none) (ne:dx ≠ x) (q:∀ H',Same H H'→KnAt c H' (.fol b m es) (.ref x)→R H') :
    spDIn c (.ref x :: ([.int b,.int m,v] ++ [])) (upd (upd H dx (.own x)) x (.ins c.KD dx [])) (fun u H2=>u = .non∧R H2) E0 :=
  mk_D (Q:=fun y H'=>y = .ref x→R H') hv (fun y H' s' hk e=>q H' s' (e ▸ hk)) x dx hx hd ne |> spD_weak
section
variable {P:Program} {w:World} {K:PySem.W.Frag} {mg:Str→Option Value} {base:Heap} {f fCel fMix fNms fCst fFst fDst fCIn fFIn fDIn fOne fFol:Addr} {fd dCel dMix dNms dCst dFst dDst dCIn dFIn dDIn dOne dFol:FuncData} {c:Cl}
def spLaw (K:PySem.W.Frag):Sp:=fun vs H Q _=>∃ (a:Addr) (ns:List Int),vs = [.ref a]∧SqL K H a (ns.map V.int)∧ns.length ≤ 63∧∀ H',Q (.bl true) H'
theorem scLaw:FnScope ["_law_script","_law_names_here","_law_many","_law_stuffs","_law_knots","_law_k"] ["_law_script"] (defScope sLaw):=⟨rfl,rfl,rfl,by decide +kernel,rfl,by decide +kernel,by decide +kernel⟩
theorem ok_law (F:Fun K "law" "law" sLaw f fd) (cf:CF K mg c) (hCel:Has K mg "_law_cell_at" sCel ["_law_script","_law_k"] fCel dCel) (GCel:FnOk P w K mg base CX0 1 fCel dCel ["_law_script","_law_k"] (spCel K))
    (hMix:Has K mg "_law_mixed" sMix ["_law_cell","_law_k"] fMix dMix) (GMix:FnOk P w K mg base CX0 1 fMix dMix ["_law_cell","_law_k"] spMix)
    (hNms:Has K mg "_law_names" sNms ["_law_cell","_law_many"] fNms dNms) (GNms:FnOk P w K mg base CX0 2 fNms dNms ["_law_cell","_law_many"] spNms)
    (hCst:Has K mg "_law_cells_stuff" sCst ["_law_script"] fCst dCst) (GCst:FnOk P w K mg base CX0 2 fCst dCst ["_law_script"] (spStf K isC))
    (hFst:Has K mg "_law_file_stuff" sFst ["_law_script"] fFst dFst) (GFst:FnOk P w K mg base CX0 2 fFst dFst ["_law_script"] (spStf K isF))
    (hDst:Has K mg "_law_folder_stuff" sDst ["_law_script","_law_names_here"] fDst dDst) (GDst:FnOk P w K mg base CX0 2 fDst dDst ["_law_script","_law_names_here"] (spDst K))
    (CInmk:Mk K c.KC fCIn) (CInnm:mg "CellsKnot" = some (.ref c.KC)) (CInbd:Binds K dCIn ["self","born","cells"] []) (GCIn:FnOk P w K mg base CX0 2 fCIn dCIn ["self","born","cells"] (spCIn c))
    (FInmk:Mk K c.KF fFIn) (FInnm:mg "FileKnot" = some (.ref c.KF)) (FInbd:Binds K dFIn ["self","born","size","row"] []) (GFIn:FnOk P w K mg base CX0 2 fFIn dFIn ["self","born","size","row"] (spFIn c))
    (DInmk:Mk K c.KD fDIn) (DInnm:mg "FolderKnot" = some (.ref c.KD)) (DInbd:Binds K dDIn ["self","born","limit","entries"] []) (GDIn:FnOk P w K mg base CX0 2 fDIn dDIn ["self","born","limit","entries"] (spDIn c))
    (hOne:Has K mg "_law_one" sOne ["_law_knot","_law_stuff","_law_cell"] fOne dOne) (GOne:FnOk P w K mg base CX0 5 fOne dOne ["_law_knot","_law_stuff","_law_cell"] (spOne c any))
    (hFol:Has K mg "_law_folder" sFol ["_law_knot","_law_stuff","_law_names_here","_law_cell"] fFol dFol) (GFol:FnOk P w K mg base CX0 5 fFol dFol ["_law_knot","_law_stuff","_law_names_here","_law_cell"] (spFol c)) (T:Txt mg):FnOk P w K mg base CX0 6 f fd ["_law_script"] (spLaw K):=by
  refine F.ok scLaw (fun vs H Q E h=>?_) (fun cdv A outer s H vs Q E hr h=>?_)
  · obtain ⟨a,ns,rfl,_⟩:=h
    rfl
  obtain ⟨a,ns,rfl,hS,h63,q⟩:=h
  refine ⟨_,(pss_cons (ps_set (i:=1) scLaw.nd rfl (Or.inl rfl) (pe_call GNms (hr.mono (by decide)) rfl hNms.nm hNms.fn.kp hNms.bd .nil pass0 (pc (pe_call GCel (hr.mono (by decide)) rfl hCel.nm hCel.fn.kp hCel.bd .nil pass0 (pc (pv 0) (pc pe_int pa_nil))) (pc pe_int pa_nil))))
    (pss_cons (ps_set (i:=2) scLaw.nd rfl (Or.inl rfl) (pe_op op_mod (pe_call GCel (hr.mono (by decide)) rfl hCel.nm hCel.fn.kp hCel.bd .nil pass0 (pc (pv 0) (pc pe_int pa_nil))) pe_int))
    (pss_cons (ps_set (i:=3) scLaw.nd rfl (Or.inl rfl) (pe_lst (pc (pe_call GCst (hr.mono (by decide)) rfl hCst.nm hCst.fn.kp hCst.bd .nil pass0 (pc (pv 0) pa_nil)) (pc (pe_call GFst (hr.mono (by decide)) rfl hFst.nm hFst.fn.kp hFst.bd .nil pass0 (pc (pv 0) pa_nil)) (pc (pe_call GDst (hr.mono (by decide)) rfl hDst.nm hDst.fn.kp hDst.bd .nil pass0 (pc (pv 0) (pc (pe_slice sl_list (pv 1) po_none (po_some (pv 2))) pa_nil))) pa_nil)))))
    (pss_cons (ps_set (i:=4) scLaw.nd rfl (Or.inl rfl) (pe_lst (pc (pe_make CInmk GCIn (hr.mono (by decide)) rfl CInnm CInbd .nil pass0 (pc (pe_ix ix_tup (pe_ix ix_list (pv 3) pe_int (fun _ _=>rfl)) pe_int (fun _ _=>rfl)) (pc (pe_ix ix_tup (pe_ix ix_list (pv 3) pe_int (fun _ _=>rfl)) pe_int (fun _ _=>rfl)) pa_nil))) (pc (pe_make FInmk GFIn (hr.mono (by decide)) rfl FInnm FInbd .nil pass0 (pc (pe_ix ix_tup (pe_ix ix_list (pv 3) pe_int (fun _ _=>rfl)) pe_int (fun _ _=>rfl)) (pc (pe_ix ix_tup (pe_ix ix_list (pv 3) pe_int (fun _ _=>rfl)) pe_int (fun _ _=>rfl)) (pc (pe_ix ix_tup (pe_ix ix_list (pv 3) pe_int (fun _ _=>rfl)) pe_int (fun _ _=>rfl)) pa_nil)))) pa_nil))))
    (pss_cons (ps_expr (pe_bm PySem.F.plainAttrs_list PySem.F.slot_list_append PySem.F.type_list_append mt_append (pv 4) (pc (pe_make DInmk GDIn (hr.mono (by decide)) rfl DInnm DInbd .nil pass0 (pc (pe_ix ix_tup (pe_ix ix_list (pv 3) pe_int (fun _ _=>rfl)) pe_int (fun _ _=>rfl)) (pc (pe_ix ix_tup (pe_ix ix_list (pv 3) pe_int (fun _ _=>rfl)) pe_int (fun _ _=>rfl)) (pc (pe_ix ix_tup (pe_ix ix_list (pv 3) pe_int (fun _ _=>rfl)) pe_int (fun _ _=>rfl)) pa_nil)))) pa_nil)))
    (pss_cons (ps_for PassesOwn.never rfl (pi_range1 rfl T.rng (pc pe_int pa_nil)) (pg_name (i:=5) scLaw.nd rfl (Or.inl rfl))
    (pss_one (ps_if (pt_not (pt_val (pe_call GOne (hr.mono (by decide)) rfl hOne.nm hOne.fn.kp hOne.bd .nil pass0 (pc (pe_ix ix_list (pv 4) (pv 5) (fun _ _=>rfl)) (pc (pe_ix ix_list (pv 3) (pv 5) (fun _ _=>rfl)) (pc (pe_call GCel (hr.mono (by decide)) rfl hCel.nm hCel.fn.kp hCel.bd .nil pass0 (pc (pv 0) (pc (pe_op op_add pe_int (pv 5)) pa_nil))) pa_nil))))))
    (pss_one (ps_ret pe_bl))
    pss_nil)))
    (pss_one (ps_ret (pe_call GFol (hr.mono (by decide)) rfl hFol.nm hFol.fn.kp hFol.bd .nil pass0 (pc (pe_ix ix_list (pv 4) pe_int (fun _ _=>rfl)) (pc (pe_ix ix_list (pv 3) pe_int (fun _ _=>rfl)) (pc (pv 1) (pc (pe_call GMix (hr.mono (by decide)) rfl hMix.nm hMix.fn.kp hMix.bd .nil pass0 (pc (pe_call GCel (hr.mono (by decide)) rfl hCel.nm hCel.fn.kp hCel.bd .nil pass0 (pc (pv 0) (pc pe_int pa_nil))) (pc pe_int pa_nil))) pa_nil))))))))))))),?_⟩
  refine ⟨_,rfl,a,ns,4,rfl,by decide,hS,fun z=>⟨z,rfl,fun pn H1 zs s1 hpn e1 lz nd=>?_⟩⟩
  refine ⟨_,rfl,a,ns,8,rfl,by decide,s1.seq hS,fun z8=>⟨_,_,rfl,rfl,(by show (0:Int) < 8; decide),?_⟩⟩
  obtain ⟨j,ej⟩:∃ j:Nat,z8 % 8 = (j:Int):=⟨(z8 % 8).toNat,by lia⟩
  dsimp only
  rw [ej]
  refine ⟨_,rfl,a,ns,rfl,s1.seq hS,fun k1 x1 H2 s2 is1 sz1 at1=>?_⟩
  have s02:=s1.trans s2
  refine ⟨_,rfl,a,ns,rfl,s02.seq hS,fun k2 x2 H3 s3 is2 sz2 at2=>?_⟩
  have s03:=s02.trans s3
  have e3:=s3 _ _ (s2 _ _ e1)
  refine ⟨_,rfl,_,rfl,_,rfl,_,rfl,pn,_,rfl,SqL.of e3,fun ps hps=>?_⟩
  rw [cut_take]
  have s4:=same_new hps (HO.lst ((zs.take j).map V.str))
  refine ⟨a,ps,ns,zs.take j,rfl,(s03.trans s4).seq hS,upd_same,nd.sublist (List.take_sublist _ _),by rw [List.length_take]; lia,fun b3 m3 es x3 H5 s5 les nde at3=>?_⟩
  have s05:=s03.trans (s4.trans s5)
  refine ⟨(by show 3 ≤ sizeLine; decide),fun pst hpst=>?_⟩
  have s6:=same_new hpst (HO.lst [x1,x2,x3])
  have e6:upd H5 pst (HO.lst [x1,x2,x3]) pst = some (.lst [x1,x2,x3]):=upd_same
  have A1:=(at1.mono s3).mono (s4.trans (s5.trans s6))
  have A2:=at2.mono (s4.trans (s5.trans s6))
  have A3:=at3.mono s6
  have N6:=(s4.trans (s5.trans s6)) _ _ e3
  have s06:=s05.trans s6
  revert e6 A1 A2 A3 N6 s06
  generalize upd H5 pst (HO.lst [x1,x2,x3]) = H6
  intro e6 A1 A2 A3 N6 s06
  obtain ⟨b1,cs,rfl⟩:=is1
  obtain ⟨b2,z2,r,rfl⟩:=is2
  obtain ⟨a1,vs1,rfl,ea1,ka1⟩:=A1.tup
  obtain ⟨a2,vs2,rfl,ea2,ka2⟩:=A2.tup
  obtain ⟨a3,vs3,rfl,ea3,ka3⟩:=A3.tup
  have int_of:∀ {H:Hp} {n:Int} {v:V},At H (.int n) v→v = .int n:=fun h=>by unfold At at h; exact h
  obtain ⟨v11,h11,t11⟩:=ka1.at (i:=1) rfl
  obtain ⟨v12,h12,t12⟩:=ka1.at (i:=2) rfl
  obtain ⟨v21,h21,t21⟩:=ka2.at (i:=1) rfl
  obtain ⟨v22,h22,t22⟩:=ka2.at (i:=2) rfl
  obtain ⟨v23,h23,t23⟩:=ka2.at (i:=3) rfl
  obtain ⟨v31,h31,t31⟩:=ka3.at (i:=1) rfl
  obtain ⟨v32,h32,t32⟩:=ka3.at (i:=2) rfl
  obtain ⟨v33,h33,t33⟩:=ka3.at (i:=3) rfl
  cases int_of t11
  cases int_of t21
  cases int_of t22
  cases int_of t31
  cases int_of t32
  refine ⟨_,rfl,pst,_,0,_,rfl,rfl,SqL.of e6,rfl,a1,_,1,_,rfl,rfl,SqT.of ea1,atI_nat h11,_,rfl,pst,_,0,_,rfl,rfl,SqL.of e6,rfl,a1,_,2,_,rfl,rfl,SqT.of ea1,atI_nat h12,fun n1 m1 hn1 hm1 nm1=>mk2_C (.inl t12) hn1 hm1 nm1 fun H7 s7 hy1=>?_⟩
  refine ⟨_,rfl,pst,_,1,_,rfl,rfl,SqL.of (s7 _ _ e6),rfl,a2,_,1,_,rfl,rfl,SqT.of (s7 _ _ ea2),atI_nat h21,_,rfl,pst,_,1,_,rfl,rfl,SqL.of (s7 _ _ e6),rfl,a2,_,2,_,rfl,rfl,SqT.of (s7 _ _ ea2),atI_nat h22,_,rfl,pst,_,1,_,rfl,rfl,SqL.of (s7 _ _ e6),rfl,a2,_,3,_,rfl,rfl,SqT.of (s7 _ _ ea2),atI_nat h23,fun n2 m2 hn2 hm2 nm2=>mk2_F (.inl (t23.mono s7)) hn2 hm2 nm2 fun H8 s8 hy2=>?_⟩
  have s68:=s7.trans s8
  refine ⟨(by show 2 ≤ sizeLine; decide),fun pk hpk=>?_⟩
  have s9:=same_new hpk (HO.lst [.ref n1,.ref n2])
  have e9:upd H8 pk (HO.lst [.ref n1,.ref n2]) pk = some (.lst [.ref n1,.ref n2]):=upd_same
  have s69:=s68.trans s9
  have hy1':=(hy1.mono s8).mono s9
  have hy2':=hy2.mono s9
  revert e9 s69 hy1' hy2' s9
  generalize upd H8 pk (HO.lst [.ref n1,.ref n2]) = H9
  intro s9 e9 s69 hy1' hy2'
  refine ⟨_,rfl,.inl ⟨rfl,_,SqL.of e9⟩,_,rfl,pst,_,2,_,rfl,rfl,SqL.of (s69 _ _ e6),rfl,a3,_,1,_,rfl,rfl,SqT.of (s69 _ _ ea3),atI_nat h31,_,rfl,pst,_,2,_,rfl,rfl,SqL.of (s69 _ _ e6),rfl,a3,_,2,_,rfl,rfl,SqT.of (s69 _ _ ea3),atI_nat h32,_,rfl,pst,_,2,_,rfl,rfl,SqL.of (s69 _ _ e6),rfl,a3,_,3,_,rfl,rfl,SqT.of (s69 _ _ ea3),atI_nat h33,fun n3 m3' hn3 hm3 nm3=>mk2_D (.inl (t33.mono s69)) hn3 hm3 nm3 fun H10 s10 hy3=>?_⟩
  refine ⟨pk,_,_,rfl,rfl,s10 _ _ e9,(by show 2 < sizeLine; decide),?_⟩
  have sp0:Kp pk H10 (upd H10 pk (.lst ([.ref n1,.ref n2] ++ [.ref n3]))):=Kp.put fun q u _ e=>e
  have s8b:Same H8 (upd H10 pk (.lst ([.ref n1,.ref n2] ++ [.ref n3]))):=same_over (s9.trans s10) hpk _
  have eK:upd H10 pk (.lst ([.ref n1,.ref n2] ++ [.ref n3])) pk = some (.lst [.ref n1,.ref n2,.ref n3]):=upd_same
  have kd:KnAt c (upd H10 pk (.lst ([.ref n1,.ref n2] ++ [.ref n3]))) (.fol b3 m3 es) (.ref n3):=by
    obtain ⟨p,dx,v,e,h,at'⟩:=hy3
    have epk:=s10 _ _ e9
    exact ⟨p,dx,v,e,sp0 p _ (fun z=>by rw [z,epk] at h; cases h) h,At.keepT (keepL epk) (by unfold nl; exact nl_en es) at'⟩
  have hk1:=(hy1.mono s8).mono s8b
  have hk2:=hy2.mono s8b
  have sZ:=s68.trans s8b
  revert s8b eK kd hk1 hk2 sZ sp0
  generalize upd H10 pk (.lst ([.ref n1,.ref n2] ++ [.ref n3])) = HZ
  intro _ s8b eK kd hk1 hk2 sZ
  have s0Z:=s06.trans sZ
  have eS:=sZ _ _ e6
  refine ⟨3,rfl,by decide,by decide,for_range (lo:=0) (n:=3) (fun i σ HY=>∃ o5,σ = [some (.ref a),some (.ref pn),some (.int (j:Int)),some (.ref pst),some (.ref pk),o5]∧Same HZ HY) ⟨none,rfl,Same.refl _⟩ ?_ ?_⟩
  · rintro i σ HY hi ⟨o5,rfl,sY⟩
    have go:∀ (k:Kn) (x t:V),KnAt c HZ k x→At HZ (.tup (stT k)) t→szK k ≤ 8→([V.ref n1,.ref n2,.ref n3]:List V)[i]? = some x→([V.ref a1,.ref a2,.ref a3]:List V)[i]? = some t →
        tIfS (tNot (tB (tCall (spOne c any) [] E0 (tCons (tOp (rIxL K) (tVar 4) (tVar 5)) (tCons (tOp (rIxL K) (tVar 3) (tVar 5)) (tCons (tCall (spCel K) [] E0 (tCons (tVar 0) (tCons (tOp (rI0 fun i j=>V.int (i + j)) (tC (V.int 9)) (tVar 5)) tNil))) tNil)))))) (tRet (tC (V.bl false))) tNext { nx:=fun σ HY=>∃ o5,σ = [some (.ref a),some (.ref pn),some (.int (j:Int)),some (.ref pst),some (.ref pk),o5]∧Same HZ HY,rt:=Q } [some (.ref a),some (.ref pn),some (.int (j:Int)),some (.ref pst),some (.ref pk),some (.int (0 + (i:Int)))] HY:=by
      intro k x t hk ht hz hx hxt
      have e0i:(0 + (i:Int)) = (i:Int):=by lia
      rw [e0i]
      refine ⟨_,rfl,_,rfl,pk,_,_,x,rfl,rfl,SqL.of (sY _ _ eK),atI_nat hx,_,rfl,_,rfl,pst,_,_,t,rfl,rfl,SqL.of (sY _ _ eS),atI_nat hxt,_,rfl,_,rfl,_,_,rfl,rfl,a,ns,_,rfl,by lia,(s0Z.trans sY).seq hS,fun zz=>?_⟩
      exact ⟨k,x,t,zz,rfl,hk.mono sY,ht.mono sY,trivial,by lia,fun HX sX=>⟨_,rfl,iteF ⟨_,rfl,sY.trans sX⟩⟩⟩
    match i,hi with
    | 0,_=>exact go (.cel b1 cs) (.ref n1) (.ref a1) hk1 (A1.mono sZ) sz1 rfl rfl
    | 1,_=>exact go (.fil b2 z2 r) (.ref n2) (.ref a2) hk2 (A2.mono sZ) sz2 rfl rfl
    | 2,_=>exact go (.fol b3 m3 es) (.ref n3) (.ref a3) kd (A3.mono sZ) les rfl rfl
  · rintro σ HY ⟨o5,rfl,sY⟩
    have s0Y:=s0Z.trans sY
    refine ⟨_,rfl,pk,_,2,_,rfl,rfl,SqL.of (sY _ _ eK),rfl,_,rfl,pst,_,2,_,rfl,rfl,SqL.of (sY _ _ eS),rfl,_,rfl,_,rfl,a,ns,12,rfl,by decide,s0Y.seq hS,fun z12=>⟨z12,3,rfl,by decide,by decide,fun y y0 y1=>?_⟩⟩
    exact ⟨b3,m3,y,es,_,_,pn,zs,rfl,kd.mono sY,A3.mono (sZ.trans sY),sY _ _ (sZ _ _ N6),lz,les,nde,fun HW _=>q HW⟩
end
end K21
namespace K21
open PySem L2
theorem kit_own {K:PySem.W.Frag} {C D:Addr} {b:Bool} (hd:PySem.W.hasDictIn K D = true) (ty:PySem.W.typeIn K (.ref D) = some (.type "type")) (m:PySem.W.mroIn K C (.ref D) = some b) (h:C = D→b = true):PySem.W.kitOne K (.ref C) (.ref D) = some b:=by
  unfold PySem.W.kitOne
  by_cases z:C = D
  · rw [if_pos (by simpa using z),h z]
  · rw [if_neg (by simpa using z)]
    obtain ⟨cd,hc,_⟩:=PySem.W.any_some hd
    show (if ((PySem.W.clsIn K D).isSome && PySem.W.typeIn K (.ref D) == some (.type "type")) = true then PySem.W.subIn K (.ref C) (.ref D) else none) = _
    rw [hc,ty]
    simp only [Option.isSome_some,beq_self_eq_true,Bool.and_self,if_true]
    exact m
end K21
set_option maxHeartbeats 8000000
namespace K21
open PySem L2
theorem all_mk {l:PySem.W.OpenLaw} {w:World} {K:PySem.W.Frag} {h:Heap} {mg:Str→Option Value} {fa fPin fKof fCel fMix fNms fCst fFst fDst fLpl fMvs fLmv fSho fOne fLen fFol fLaw K0 fKIn KC fCIn fCKd fCSt fCPt fCMv KF fFIn fFKd fFSt fFPt fFMv KD fDIn fDKd fDSt fDPt fDMv fDEn fDWe fDWo fDWl fDOt:Addr} (X:K.In h) (G:h.Ns mainGlobals mg) (hfa:mg "law" = some (.ref fa))
    {odPin anPin odKof anKof odCel anCel odMix anMix odNms anNms odCst anCst odFst anFst odDst anDst odLpl anLpl odMvs anMvs odLmv anLmv odSho anSho odOne anOne odLen anLen odFol anFol odLaw anLaw odKIn anKIn odCIn anCIn odCKd anCKd odCSt anCSt odCPt anCPt odCMv anCMv odFIn anFIn odFKd anFKd odFSt anFSt odFPt anFPt odFMv anFMv odDIn anDIn odDKd anDKd odDSt anDSt odDPt anDPt odDMv anDMv odDEn anDEn odDWe anDWe odDWo anDWo odDWl anDWl odDOt anDOt  : Option Addr} {slPin slKof slCel slMix slNms slCst slFst slDst slLpl slMvs slLmv slSho slOne slLen slFol slLaw slKIn slCIn slCKd slCSt slCPt slCMv slFIn slFKd slFSt slFPt slFMv slDIn slDKd slDSt slDPt slDMv slDEn slDWe slDWo slDWl slDOt  : Array (Option Value)} {ocPin kVPin dcPin pmPin cdPin ctPin ocKof kVKof dcKof pmKof cdKof ctKof ocCel kVCel dcCel pmCel cdCel ctCel ocMix kVMix dcMix pmMix cdMix ctMix ocNms kVNms dcNms pmNms cdNms ctNms ocCst kVCst dcCst pmCst cdCst ctCst ocFst kVFst dcFst pmFst cdFst ctFst ocDst kVDst dcDst pmDst cdDst ctDst ocLpl kVLpl dcLpl pmLpl cdLpl ctLpl ocMvs kVMvs dcMvs pmMvs cdMvs ctMvs ocLmv kVLmv dcLmv pmLmv cdLmv ctLmv ocSho kVSho dcSho pmSho cdSho ctSho ocOne kVOne dcOne pmOne cdOne ctOne ocLen kVLen dcLen pmLen cdLen ctLen ocFol kVFol dcFol pmFol cdFol ctFol ocLaw kVLaw dcLaw pmLaw cdLaw ctLaw ocKIn kVKIn dcKIn pmKIn cdKIn ctKIn ocCIn kVCIn dcCIn pmCIn cdCIn ctCIn ocCKd kVCKd dcCKd pmCKd cdCKd ctCKd ocCSt kVCSt dcCSt pmCSt cdCSt ctCSt ocCPt kVCPt dcCPt pmCPt cdCPt ctCPt ocCMv kVCMv dcCMv pmCMv cdCMv ctCMv ocFIn kVFIn dcFIn pmFIn cdFIn ctFIn ocFKd kVFKd dcFKd pmFKd cdFKd ctFKd ocFSt kVFSt dcFSt pmFSt cdFSt ctFSt ocFPt kVFPt dcFPt pmFPt cdFPt ctFPt ocFMv kVFMv dcFMv pmFMv cdFMv ctFMv ocDIn kVDIn dcDIn pmDIn cdDIn ctDIn ocDKd kVDKd dcDKd pmDKd cdDKd ctDKd ocDSt kVDSt dcDSt pmDSt cdDSt ctDSt ocDPt kVDPt dcDPt pmDPt cdDPt ctDPt ocDMv kVDMv dcDMv pmDMv cdDMv ctDMv ocDEn kVDEn dcDEn pmDEn cdDEn ctDEn ocDWe kVDWe dcDWe pmDWe cdDWe ctDWe ocDWo kVDWo dcDWo pmDWo cdDWo ctDWo ocDWl kVDWl dcDWl pmDWl cdDWl ctDWl ocDOt kVDOt dcDOt pmDOt cdDOt ctDOt  : Value} {gt0:Tok}
    (aPin:PySem.W.nsIn K mainGlobals "places_in" = some (some (.ref fPin)))
    (lPin:K.lookup fPin = some ⟨ocPin,odPin,.func (PySem.W.fnOf "places_in" "places_in" (defArgs sPin) (defBody sPin) (defScope sPin) .none kVPin dcPin pmPin anPin cdPin ctPin),slPin⟩)
    (cPin:PySem.W.codeIn K cdPin "places_in" = true)
    (kPin:PySem.W.keepIn K (.ref fPin) = true)
    (aKof:PySem.W.nsIn K mainGlobals "knot_of" = some (some (.ref fKof)))
    (lKof:K.lookup fKof = some ⟨ocKof,odKof,.func (PySem.W.fnOf "knot_of" "knot_of" (defArgs sKof) (defBody sKof) (defScope sKof) .none kVKof dcKof pmKof anKof cdKof ctKof),slKof⟩)
    (cKof:PySem.W.codeIn K cdKof "knot_of" = true)
    (kKof:PySem.W.keepIn K (.ref fKof) = true)
    (aCel:PySem.W.nsIn K mainGlobals "_law_cell_at" = some (some (.ref fCel)))
    (lCel:K.lookup fCel = some ⟨ocCel,odCel,.func (PySem.W.fnOf "_law_cell_at" "_law_cell_at" (defArgs sCel) (defBody sCel) (defScope sCel) .none kVCel dcCel pmCel anCel cdCel ctCel),slCel⟩)
    (cCel:PySem.W.codeIn K cdCel "_law_cell_at" = true)
    (kCel:PySem.W.keepIn K (.ref fCel) = true)
    (aMix:PySem.W.nsIn K mainGlobals "_law_mixed" = some (some (.ref fMix)))
    (lMix:K.lookup fMix = some ⟨ocMix,odMix,.func (PySem.W.fnOf "_law_mixed" "_law_mixed" (defArgs sMix) (defBody sMix) (defScope sMix) .none kVMix dcMix pmMix anMix cdMix ctMix),slMix⟩)
    (cMix:PySem.W.codeIn K cdMix "_law_mixed" = true)
    (kMix:PySem.W.keepIn K (.ref fMix) = true)
    (aNms:PySem.W.nsIn K mainGlobals "_law_names" = some (some (.ref fNms)))
    (lNms:K.lookup fNms = some ⟨ocNms,odNms,.func (PySem.W.fnOf "_law_names" "_law_names" (defArgs sNms) (defBody sNms) (defScope sNms) .none kVNms dcNms pmNms anNms cdNms ctNms),slNms⟩)
    (cNms:PySem.W.codeIn K cdNms "_law_names" = true)
    (kNms:PySem.W.keepIn K (.ref fNms) = true)
    (aCst:PySem.W.nsIn K mainGlobals "_law_cells_stuff" = some (some (.ref fCst)))
    (lCst:K.lookup fCst = some ⟨ocCst,odCst,.func (PySem.W.fnOf "_law_cells_stuff" "_law_cells_stuff" (defArgs sCst) (defBody sCst) (defScope sCst) .none kVCst dcCst pmCst anCst cdCst ctCst),slCst⟩)
    (cCst:PySem.W.codeIn K cdCst "_law_cells_stuff" = true)
    (kCst:PySem.W.keepIn K (.ref fCst) = true)
    (aFst:PySem.W.nsIn K mainGlobals "_law_file_stuff" = some (some (.ref fFst)))
    (lFst:K.lookup fFst = some ⟨ocFst,odFst,.func (PySem.W.fnOf "_law_file_stuff" "_law_file_stuff" (defArgs sFst) (defBody sFst) (defScope sFst) .none kVFst dcFst pmFst anFst cdFst ctFst),slFst⟩)
    (cFst:PySem.W.codeIn K cdFst "_law_file_stuff" = true)
    (kFst:PySem.W.keepIn K (.ref fFst) = true)
    (aDst:PySem.W.nsIn K mainGlobals "_law_folder_stuff" = some (some (.ref fDst)))
    (lDst:K.lookup fDst = some ⟨ocDst,odDst,.func (PySem.W.fnOf "_law_folder_stuff" "_law_folder_stuff" (defArgs sDst) (defBody sDst) (defScope sDst) .none kVDst dcDst pmDst anDst cdDst ctDst),slDst⟩)
    (cDst:PySem.W.codeIn K cdDst "_law_folder_stuff" = true)
    (kDst:PySem.W.keepIn K (.ref fDst) = true)
    (aLpl:PySem.W.nsIn K mainGlobals "_law_places" = some (some (.ref fLpl)))
    (lLpl:K.lookup fLpl = some ⟨ocLpl,odLpl,.func (PySem.W.fnOf "_law_places" "_law_places" (defArgs sLpl) (defBody sLpl) (defScope sLpl) .none kVLpl dcLpl pmLpl anLpl cdLpl ctLpl),slLpl⟩)
    (cLpl:PySem.W.codeIn K cdLpl "_law_places" = true)
    (kLpl:PySem.W.keepIn K (.ref fLpl) = true)
    (aMvs:PySem.W.nsIn K mainGlobals "_law_moves" = some (some (.ref fMvs)))
    (lMvs:K.lookup fMvs = some ⟨ocMvs,odMvs,.func (PySem.W.fnOf "_law_moves" "_law_moves" (defArgs sMvs) (defBody sMvs) (defScope sMvs) .none kVMvs dcMvs pmMvs anMvs cdMvs ctMvs),slMvs⟩)
    (cMvs:PySem.W.codeIn K cdMvs "_law_moves" = true)
    (kMvs:PySem.W.keepIn K (.ref fMvs) = true)
    (aLmv:PySem.W.nsIn K mainGlobals "_law_moved" = some (some (.ref fLmv)))
    (lLmv:K.lookup fLmv = some ⟨ocLmv,odLmv,.func (PySem.W.fnOf "_law_moved" "_law_moved" (defArgs sLmv) (defBody sLmv) (defScope sLmv) .none kVLmv dcLmv pmLmv anLmv cdLmv ctLmv),slLmv⟩)
    (cLmv:PySem.W.codeIn K cdLmv "_law_moved" = true)
    (kLmv:PySem.W.keepIn K (.ref fLmv) = true)
    (aSho:PySem.W.nsIn K mainGlobals "_law_shows" = some (some (.ref fSho)))
    (lSho:K.lookup fSho = some ⟨ocSho,odSho,.func (PySem.W.fnOf "_law_shows" "_law_shows" (defArgs sSho) (defBody sSho) (defScope sSho) .none kVSho dcSho pmSho anSho cdSho ctSho),slSho⟩)
    (cSho:PySem.W.codeIn K cdSho "_law_shows" = true)
    (kSho:PySem.W.keepIn K (.ref fSho) = true)
    (aOne:PySem.W.nsIn K mainGlobals "_law_one" = some (some (.ref fOne)))
    (lOne:K.lookup fOne = some ⟨ocOne,odOne,.func (PySem.W.fnOf "_law_one" "_law_one" (defArgs sOne) (defBody sOne) (defScope sOne) .none kVOne dcOne pmOne anOne cdOne ctOne),slOne⟩)
    (cOne:PySem.W.codeIn K cdOne "_law_one" = true)
    (kOne:PySem.W.keepIn K (.ref fOne) = true)
    (aLen:PySem.W.nsIn K mainGlobals "_law_entry" = some (some (.ref fLen)))
    (lLen:K.lookup fLen = some ⟨ocLen,odLen,.func (PySem.W.fnOf "_law_entry" "_law_entry" (defArgs sLen) (defBody sLen) (defScope sLen) .none kVLen dcLen pmLen anLen cdLen ctLen),slLen⟩)
    (cLen:PySem.W.codeIn K cdLen "_law_entry" = true)
    (kLen:PySem.W.keepIn K (.ref fLen) = true)
    (aFol:PySem.W.nsIn K mainGlobals "_law_folder" = some (some (.ref fFol)))
    (lFol:K.lookup fFol = some ⟨ocFol,odFol,.func (PySem.W.fnOf "_law_folder" "_law_folder" (defArgs sFol) (defBody sFol) (defScope sFol) .none kVFol dcFol pmFol anFol cdFol ctFol),slFol⟩)
    (cFol:PySem.W.codeIn K cdFol "_law_folder" = true)
    (kFol:PySem.W.keepIn K (.ref fFol) = true)
    (aLaw:PySem.W.nsIn K mainGlobals "law" = some (some (.ref fLaw)))
    (lLaw:K.lookup fLaw = some ⟨ocLaw,odLaw,.func (PySem.W.fnOf "law" "law" (defArgs sLaw) (defBody sLaw) (defScope sLaw) .none kVLaw dcLaw pmLaw anLaw cdLaw ctLaw),slLaw⟩)
    (cLaw:PySem.W.codeIn K cdLaw "law" = true)
    (kLaw:PySem.W.keepIn K (.ref fLaw) = true)
    (aK0:PySem.W.nsIn K mainGlobals "Knot" = some (some (.ref K0)))
    (pgK0:PySem.W.plainGet K K0 Str.empty = true)
    (hdK0:PySem.W.hasDictIn K K0 = true)
    (poK0:PySem.W.plainOver K K0 = true)
    (saK0:PySem.W.findIn K (.ref K0) "__setattr__" = some (some (.builtin "object.__setattr__")))
    (kK0:PySem.W.keepIn K (.ref K0) = true)
    (mkK0:PySem.W.makesIn K K0 = true)
    (iiK0:PySem.W.findIn K (.ref K0) "__init__" = some (some (.ref fKIn)))
    (ifK0:PySem.W.isFn K (.ref fKIn) = true)
    (lKIn:K.lookup fKIn = some ⟨ocKIn,odKIn,.func (PySem.W.fnOf "__init__" "Knot.__init__" (defArgs sKIn) (defBody sKIn) (defScope sKIn) .none kVKIn dcKIn pmKIn anKIn cdKIn ctKIn),slKIn⟩)
    (cKIn:PySem.W.codeIn K cdKIn "Knot.__init__" = true)
    (kKIn:PySem.W.keepIn K (.ref fKIn) = true)
    (aKC:PySem.W.nsIn K mainGlobals "CellsKnot" = some (some (.ref KC)))
    (pgKC:PySem.W.plainGet K KC Str.empty = true)
    (hdKC:PySem.W.hasDictIn K KC = true)
    (poKC:PySem.W.plainOver K KC = true)
    (saKC:PySem.W.findIn K (.ref KC) "__setattr__" = some (some (.builtin "object.__setattr__")))
    (kKC:PySem.W.keepIn K (.ref KC) = true)
    (naKC_0:PySem.W.findIn K (.ref KC) "born" = some none)
    (naKC_1:PySem.W.findIn K (.ref KC) "cells" = some none)
    (mkKC:PySem.W.makesIn K KC = true)
    (iiKC:PySem.W.findIn K (.ref KC) "__init__" = some (some (.ref fCIn)))
    (ifKC:PySem.W.isFn K (.ref fCIn) = true)
    (lCIn:K.lookup fCIn = some ⟨ocCIn,odCIn,.func (PySem.W.fnOf "__init__" "CellsKnot.__init__" (defArgs sCIn) (defBody sCIn) (defScope sCIn) .none kVCIn dcCIn pmCIn anCIn cdCIn ctCIn),slCIn⟩)
    (cCIn:PySem.W.codeIn K cdCIn "CellsKnot.__init__" = true)
    (kCIn:PySem.W.keepIn K (.ref fCIn) = true)
    (amCKd:PySem.W.findIn K (.ref KC) "kind" = some (some (.ref fCKd)))
    (fmCKd:PySem.W.isFn K (.ref fCKd) = true)
    (lCKd:K.lookup fCKd = some ⟨ocCKd,odCKd,.func (PySem.W.fnOf "kind" "CellsKnot.kind" (defArgs sCKd) (defBody sCKd) (defScope sCKd) .none kVCKd dcCKd pmCKd anCKd cdCKd ctCKd),slCKd⟩)
    (cCKd:PySem.W.codeIn K cdCKd "CellsKnot.kind" = true)
    (kCKd:PySem.W.keepIn K (.ref fCKd) = true)
    (amCSt:PySem.W.findIn K (.ref KC) "stuff" = some (some (.ref fCSt)))
    (fmCSt:PySem.W.isFn K (.ref fCSt) = true)
    (lCSt:K.lookup fCSt = some ⟨ocCSt,odCSt,.func (PySem.W.fnOf "stuff" "CellsKnot.stuff" (defArgs sCSt) (defBody sCSt) (defScope sCSt) .none kVCSt dcCSt pmCSt anCSt cdCSt ctCSt),slCSt⟩)
    (cCSt:PySem.W.codeIn K cdCSt "CellsKnot.stuff" = true)
    (kCSt:PySem.W.keepIn K (.ref fCSt) = true)
    (amCPt:PySem.W.findIn K (.ref KC) "points" = some (some (.ref fCPt)))
    (fmCPt:PySem.W.isFn K (.ref fCPt) = true)
    (lCPt:K.lookup fCPt = some ⟨ocCPt,odCPt,.func (PySem.W.fnOf "points" "CellsKnot.points" (defArgs sCPt) (defBody sCPt) (defScope sCPt) .none kVCPt dcCPt pmCPt anCPt cdCPt ctCPt),slCPt⟩)
    (cCPt:PySem.W.codeIn K cdCPt "CellsKnot.points" = true)
    (kCPt:PySem.W.keepIn K (.ref fCPt) = true)
    (amCMv:PySem.W.findIn K (.ref KC) "moved" = some (some (.ref fCMv)))
    (fmCMv:PySem.W.isFn K (.ref fCMv) = true)
    (lCMv:K.lookup fCMv = some ⟨ocCMv,odCMv,.func (PySem.W.fnOf "moved" "CellsKnot.moved" (defArgs sCMv) (defBody sCMv) (defScope sCMv) .none kVCMv dcCMv pmCMv anCMv cdCMv ctCMv),slCMv⟩)
    (cCMv:PySem.W.codeIn K cdCMv "CellsKnot.moved" = true)
    (kCMv:PySem.W.keepIn K (.ref fCMv) = true)
    (aKF:PySem.W.nsIn K mainGlobals "FileKnot" = some (some (.ref KF)))
    (pgKF:PySem.W.plainGet K KF Str.empty = true)
    (hdKF:PySem.W.hasDictIn K KF = true)
    (poKF:PySem.W.plainOver K KF = true)
    (saKF:PySem.W.findIn K (.ref KF) "__setattr__" = some (some (.builtin "object.__setattr__")))
    (kKF:PySem.W.keepIn K (.ref KF) = true)
    (naKF_0:PySem.W.findIn K (.ref KF) "born" = some none)
    (naKF_1:PySem.W.findIn K (.ref KF) "size" = some none)
    (naKF_2:PySem.W.findIn K (.ref KF) "row" = some none)
    (mkKF:PySem.W.makesIn K KF = true)
    (iiKF:PySem.W.findIn K (.ref KF) "__init__" = some (some (.ref fFIn)))
    (ifKF:PySem.W.isFn K (.ref fFIn) = true)
    (lFIn:K.lookup fFIn = some ⟨ocFIn,odFIn,.func (PySem.W.fnOf "__init__" "FileKnot.__init__" (defArgs sFIn) (defBody sFIn) (defScope sFIn) .none kVFIn dcFIn pmFIn anFIn cdFIn ctFIn),slFIn⟩)
    (cFIn:PySem.W.codeIn K cdFIn "FileKnot.__init__" = true)
    (kFIn:PySem.W.keepIn K (.ref fFIn) = true)
    (amFKd:PySem.W.findIn K (.ref KF) "kind" = some (some (.ref fFKd)))
    (fmFKd:PySem.W.isFn K (.ref fFKd) = true)
    (lFKd:K.lookup fFKd = some ⟨ocFKd,odFKd,.func (PySem.W.fnOf "kind" "FileKnot.kind" (defArgs sFKd) (defBody sFKd) (defScope sFKd) .none kVFKd dcFKd pmFKd anFKd cdFKd ctFKd),slFKd⟩)
    (cFKd:PySem.W.codeIn K cdFKd "FileKnot.kind" = true)
    (kFKd:PySem.W.keepIn K (.ref fFKd) = true)
    (amFSt:PySem.W.findIn K (.ref KF) "stuff" = some (some (.ref fFSt)))
    (fmFSt:PySem.W.isFn K (.ref fFSt) = true)
    (lFSt:K.lookup fFSt = some ⟨ocFSt,odFSt,.func (PySem.W.fnOf "stuff" "FileKnot.stuff" (defArgs sFSt) (defBody sFSt) (defScope sFSt) .none kVFSt dcFSt pmFSt anFSt cdFSt ctFSt),slFSt⟩)
    (cFSt:PySem.W.codeIn K cdFSt "FileKnot.stuff" = true)
    (kFSt:PySem.W.keepIn K (.ref fFSt) = true)
    (amFPt:PySem.W.findIn K (.ref KF) "points" = some (some (.ref fFPt)))
    (fmFPt:PySem.W.isFn K (.ref fFPt) = true)
    (lFPt:K.lookup fFPt = some ⟨ocFPt,odFPt,.func (PySem.W.fnOf "points" "FileKnot.points" (defArgs sFPt) (defBody sFPt) (defScope sFPt) .none kVFPt dcFPt pmFPt anFPt cdFPt ctFPt),slFPt⟩)
    (cFPt:PySem.W.codeIn K cdFPt "FileKnot.points" = true)
    (kFPt:PySem.W.keepIn K (.ref fFPt) = true)
    (amFMv:PySem.W.findIn K (.ref KF) "moved" = some (some (.ref fFMv)))
    (fmFMv:PySem.W.isFn K (.ref fFMv) = true)
    (lFMv:K.lookup fFMv = some ⟨ocFMv,odFMv,.func (PySem.W.fnOf "moved" "FileKnot.moved" (defArgs sFMv) (defBody sFMv) (defScope sFMv) .none kVFMv dcFMv pmFMv anFMv cdFMv ctFMv),slFMv⟩)
    (cFMv:PySem.W.codeIn K cdFMv "FileKnot.moved" = true)
    (kFMv:PySem.W.keepIn K (.ref fFMv) = true)
    (aKD:PySem.W.nsIn K mainGlobals "FolderKnot" = some (some (.ref KD)))
    (pgKD:PySem.W.plainGet K KD Str.empty = true)
    (hdKD:PySem.W.hasDictIn K KD = true)
    (poKD:PySem.W.plainOver K KD = true)
    (saKD:PySem.W.findIn K (.ref KD) "__setattr__" = some (some (.builtin "object.__setattr__")))
    (kKD:PySem.W.keepIn K (.ref KD) = true)
    (naKD_0:PySem.W.findIn K (.ref KD) "born" = some none)
    (naKD_1:PySem.W.findIn K (.ref KD) "limit" = some none)
    (naKD_2:PySem.W.findIn K (.ref KD) "entries" = some none)
    (mkKD:PySem.W.makesIn K KD = true)
    (iiKD:PySem.W.findIn K (.ref KD) "__init__" = some (some (.ref fDIn)))
    (ifKD:PySem.W.isFn K (.ref fDIn) = true)
    (lDIn:K.lookup fDIn = some ⟨ocDIn,odDIn,.func (PySem.W.fnOf "__init__" "FolderKnot.__init__" (defArgs sDIn) (defBody sDIn) (defScope sDIn) .none kVDIn dcDIn pmDIn anDIn cdDIn ctDIn),slDIn⟩)
    (cDIn:PySem.W.codeIn K cdDIn "FolderKnot.__init__" = true)
    (kDIn:PySem.W.keepIn K (.ref fDIn) = true)
    (amDKd:PySem.W.findIn K (.ref KD) "kind" = some (some (.ref fDKd)))
    (fmDKd:PySem.W.isFn K (.ref fDKd) = true)
    (lDKd:K.lookup fDKd = some ⟨ocDKd,odDKd,.func (PySem.W.fnOf "kind" "FolderKnot.kind" (defArgs sDKd) (defBody sDKd) (defScope sDKd) .none kVDKd dcDKd pmDKd anDKd cdDKd ctDKd),slDKd⟩)
    (cDKd:PySem.W.codeIn K cdDKd "FolderKnot.kind" = true)
    (kDKd:PySem.W.keepIn K (.ref fDKd) = true)
    (amDSt:PySem.W.findIn K (.ref KD) "stuff" = some (some (.ref fDSt)))
    (fmDSt:PySem.W.isFn K (.ref fDSt) = true)
    (lDSt:K.lookup fDSt = some ⟨ocDSt,odDSt,.func (PySem.W.fnOf "stuff" "FolderKnot.stuff" (defArgs sDSt) (defBody sDSt) (defScope sDSt) .none kVDSt dcDSt pmDSt anDSt cdDSt ctDSt),slDSt⟩)
    (cDSt:PySem.W.codeIn K cdDSt "FolderKnot.stuff" = true)
    (kDSt:PySem.W.keepIn K (.ref fDSt) = true)
    (amDPt:PySem.W.findIn K (.ref KD) "points" = some (some (.ref fDPt)))
    (fmDPt:PySem.W.isFn K (.ref fDPt) = true)
    (lDPt:K.lookup fDPt = some ⟨ocDPt,odDPt,.func (PySem.W.fnOf "points" "FolderKnot.points" (defArgs sDPt) (defBody sDPt) (defScope sDPt) .none kVDPt dcDPt pmDPt anDPt cdDPt ctDPt),slDPt⟩)
    (cDPt:PySem.W.codeIn K cdDPt "FolderKnot.points" = true)
    (kDPt:PySem.W.keepIn K (.ref fDPt) = true)
    (amDMv:PySem.W.findIn K (.ref KD) "moved" = some (some (.ref fDMv)))
    (fmDMv:PySem.W.isFn K (.ref fDMv) = true)
    (lDMv:K.lookup fDMv = some ⟨ocDMv,odDMv,.func (PySem.W.fnOf "moved" "FolderKnot.moved" (defArgs sDMv) (defBody sDMv) (defScope sDMv) .none kVDMv dcDMv pmDMv anDMv cdDMv ctDMv),slDMv⟩)
    (cDMv:PySem.W.codeIn K cdDMv "FolderKnot.moved" = true)
    (kDMv:PySem.W.keepIn K (.ref fDMv) = true)
    (amDEn:PySem.W.findIn K (.ref KD) "entry" = some (some (.ref fDEn)))
    (fmDEn:PySem.W.isFn K (.ref fDEn) = true)
    (lDEn:K.lookup fDEn = some ⟨ocDEn,odDEn,.func (PySem.W.fnOf "entry" "FolderKnot.entry" (defArgs sDEn) (defBody sDEn) (defScope sDEn) .none kVDEn dcDEn pmDEn anDEn cdDEn ctDEn),slDEn⟩)
    (cDEn:PySem.W.codeIn K cdDEn "FolderKnot.entry" = true)
    (kDEn:PySem.W.keepIn K (.ref fDEn) = true)
    (amDWe:PySem.W.findIn K (.ref KD) "with_entry" = some (some (.ref fDWe)))
    (fmDWe:PySem.W.isFn K (.ref fDWe) = true)
    (lDWe:K.lookup fDWe = some ⟨ocDWe,odDWe,.func (PySem.W.fnOf "with_entry" "FolderKnot.with_entry" (defArgs sDWe) (defBody sDWe) (defScope sDWe) .none kVDWe dcDWe pmDWe anDWe cdDWe ctDWe),slDWe⟩)
    (cDWe:PySem.W.codeIn K cdDWe "FolderKnot.with_entry" = true)
    (kDWe:PySem.W.keepIn K (.ref fDWe) = true)
    (amDWo:PySem.W.findIn K (.ref KD) "without_entry" = some (some (.ref fDWo)))
    (fmDWo:PySem.W.isFn K (.ref fDWo) = true)
    (lDWo:K.lookup fDWo = some ⟨ocDWo,odDWo,.func (PySem.W.fnOf "without_entry" "FolderKnot.without_entry" (defArgs sDWo) (defBody sDWo) (defScope sDWo) .none kVDWo dcDWo pmDWo anDWo cdDWo ctDWo),slDWo⟩)
    (cDWo:PySem.W.codeIn K cdDWo "FolderKnot.without_entry" = true)
    (kDWo:PySem.W.keepIn K (.ref fDWo) = true)
    (amDWl:PySem.W.findIn K (.ref KD) "with_limit" = some (some (.ref fDWl)))
    (fmDWl:PySem.W.isFn K (.ref fDWl) = true)
    (lDWl:K.lookup fDWl = some ⟨ocDWl,odDWl,.func (PySem.W.fnOf "with_limit" "FolderKnot.with_limit" (defArgs sDWl) (defBody sDWl) (defScope sDWl) .none kVDWl dcDWl pmDWl anDWl cdDWl ctDWl),slDWl⟩)
    (cDWl:PySem.W.codeIn K cdDWl "FolderKnot.with_limit" = true)
    (kDWl:PySem.W.keepIn K (.ref fDWl) = true)
    (amDOt:PySem.W.findIn K (.ref KD) "others" = some (some (.ref fDOt)))
    (fmDOt:PySem.W.isFn K (.ref fDOt) = true)
    (lDOt:K.lookup fDOt = some ⟨ocDOt,odDOt,.func (PySem.W.fnOf "others" "FolderKnot.others" (defArgs sDOt) (defBody sDOt) (defScope sDOt) .none kVDOt dcDOt pmDOt anDOt cdDOt ctDOt),slDOt⟩)
    (cDOt:PySem.W.codeIn K cdDOt "FolderKnot.others" = true)
    (kDOt:PySem.W.keepIn K (.ref fDOt) = true)
    (hnc:PySem.W.specialIn K (.builtin "object.__class__") "__get__" = some (some (.builtin "getset_descriptor.__get__")))
    (tkc:PySem.W.takesIn K (.builtin "object.__class__") = some true)
    (gaK0:PySem.W.specialIn K (.ref K0) "__getattribute__" = some (some (.builtin "type.__getattribute__")))
    (rdK0:PySem.W.readsIn K K0 (.type "type") = true)
    (fcK0:PySem.W.findCls K (.ref K0) (.type "type") "__init__" = some (.val (.ref fKIn)))
    (ndK:([K0,KC,KF,KD]:List Addr).Nodup)
    (ttK0:PySem.W.typeIn K (.ref K0) = some (.type "type"))
    (ttKC:PySem.W.typeIn K (.ref KC) = some (.type "type"))
    (ttKF:PySem.W.typeIn K (.ref KF) = some (.type "type"))
    (ttKD:PySem.W.typeIn K (.ref KD) = some (.type "type"))
    (caKC:PySem.W.findIn K (.ref KC) "__class__" = some (some (.builtin "object.__class__")))
    (moKC:PySem.W.mroIn K KC (.type "object") = some true)
    (mrKCK0:PySem.W.mroIn K KC (.ref K0) = some true)
    (mrKCKC:PySem.W.mroIn K KC (.ref KC) = some true)
    (mrKCKF:PySem.W.mroIn K KC (.ref KF) = some false)
    (mrKCKD:PySem.W.mroIn K KC (.ref KD) = some false)
    (caKF:PySem.W.findIn K (.ref KF) "__class__" = some (some (.builtin "object.__class__")))
    (moKF:PySem.W.mroIn K KF (.type "object") = some true)
    (mrKFK0:PySem.W.mroIn K KF (.ref K0) = some true)
    (mrKFKC:PySem.W.mroIn K KF (.ref KC) = some false)
    (mrKFKF:PySem.W.mroIn K KF (.ref KF) = some true)
    (mrKFKD:PySem.W.mroIn K KF (.ref KD) = some false)
    (caKD:PySem.W.findIn K (.ref KD) "__class__" = some (some (.builtin "object.__class__")))
    (moKD:PySem.W.mroIn K KD (.type "object") = some true)
    (mrKDK0:PySem.W.mroIn K KD (.ref K0) = some true)
    (mrKDKC:PySem.W.mroIn K KD (.ref KC) = some false)
    (mrKDKF:PySem.W.mroIn K KD (.ref KF) = some false)
    (mrKDKD:PySem.W.mroIn K KD (.ref KD) = some true)
    (z0:PySem.W.nsIn K mainGlobals "isinstance" = some none)
    (z1:PySem.W.nsIn K mainGlobals "int" = some none)
    (z2:PySem.W.nsIn K mainGlobals "str" = some none)
    (z3:PySem.W.nsIn K mainGlobals "len" = some none)
    (z4:PySem.W.nsIn K mainGlobals "range" = some none)
    (z5:PySem.W.nsIn K mainGlobals "tuple" = some none)
    (z6:PySem.W.nsIn K mainGlobals "list" = some none)
    (z7:PySem.W.nsIn K mainGlobals "min" = some none)
    (z8:PySem.W.nsIn K mainGlobals "sorted" = some none)
    (z9:PySem.W.nsIn K mainGlobals "set" = some none)
    (z10:PySem.W.nsIn K mainGlobals "enumerate" = some none)
    (z11:PySem.W.nsIn K mainGlobals "dict" = some none)
    (gl0:PySem.W.nsIn K mainGlobals "PLACE" = some (some (.int 2 gt0))) :
    ∃ fd:FuncData,(∀ (s:Shared) (v:Value),BindsTo s fd ⟨[v],[]⟩ [("_law_script",v)])∧∀ base:Heap,K.In base→base.Ns mainGlobals mg→FnOk l.prog w K mg base CX0 6 fa fd ["_law_script"] (spLaw K):=by
  have e:=hfa.symm.trans (PySem.W.mg_of X G aLaw)
  cases e
  have T:Txt mg:=⟨PySem.W.mg_none_of X G z0,PySem.W.mg_none_of X G z1,PySem.W.mg_none_of X G z2,PySem.W.mg_none_of X G z3,PySem.W.mg_none_of X G z4,PySem.W.mg_none_of X G z5,PySem.W.mg_none_of X G z6,PySem.W.mg_none_of X G z7,PySem.W.mg_none_of X G z8,PySem.W.mg_none_of X G z9,PySem.W.mg_none_of X G z10,PySem.W.mg_none_of X G z11,⟨_,PySem.W.mg_of X G gl0⟩⟩
  have FPin:=fun_mk (st:=sPin) lPin cPin kPin
  have hPin:Has K mg "places_in" sPin ["row"] fPin _:=⟨FPin,FPin.binds (ps:=["row"]) fun _ _ _ _ _ _ us hl=>match us,hl with | [_],_=>rfl,PySem.W.mg_of X G aPin⟩
  have FKof:=fun_mk (st:=sKof) lKof cKof kKof
  have hKof:Has K mg "knot_of" sKof ["stuff"] fKof _:=⟨FKof,FKof.binds (ps:=["stuff"]) fun _ _ _ _ _ _ us hl=>match us,hl with | [_],_=>rfl,PySem.W.mg_of X G aKof⟩
  have FCel:=fun_mk (st:=sCel) lCel cCel kCel
  have hCel:Has K mg "_law_cell_at" sCel ["_law_script","_law_k"] fCel _:=⟨FCel,FCel.binds (ps:=["_law_script","_law_k"]) fun _ _ _ _ _ _ us hl=>match us,hl with | [_,_],_=>rfl,PySem.W.mg_of X G aCel⟩
  have FMix:=fun_mk (st:=sMix) lMix cMix kMix
  have hMix:Has K mg "_law_mixed" sMix ["_law_cell","_law_k"] fMix _:=⟨FMix,FMix.binds (ps:=["_law_cell","_law_k"]) fun _ _ _ _ _ _ us hl=>match us,hl with | [_,_],_=>rfl,PySem.W.mg_of X G aMix⟩
  have FNms:=fun_mk (st:=sNms) lNms cNms kNms
  have hNms:Has K mg "_law_names" sNms ["_law_cell","_law_many"] fNms _:=⟨FNms,FNms.binds (ps:=["_law_cell","_law_many"]) fun _ _ _ _ _ _ us hl=>match us,hl with | [_,_],_=>rfl,PySem.W.mg_of X G aNms⟩
  have FCst:=fun_mk (st:=sCst) lCst cCst kCst
  have hCst:Has K mg "_law_cells_stuff" sCst ["_law_script"] fCst _:=⟨FCst,FCst.binds (ps:=["_law_script"]) fun _ _ _ _ _ _ us hl=>match us,hl with | [_],_=>rfl,PySem.W.mg_of X G aCst⟩
  have FFst:=fun_mk (st:=sFst) lFst cFst kFst
  have hFst:Has K mg "_law_file_stuff" sFst ["_law_script"] fFst _:=⟨FFst,FFst.binds (ps:=["_law_script"]) fun _ _ _ _ _ _ us hl=>match us,hl with | [_],_=>rfl,PySem.W.mg_of X G aFst⟩
  have FDst:=fun_mk (st:=sDst) lDst cDst kDst
  have hDst:Has K mg "_law_folder_stuff" sDst ["_law_script","_law_names_here"] fDst _:=⟨FDst,FDst.binds (ps:=["_law_script","_law_names_here"]) fun _ _ _ _ _ _ us hl=>match us,hl with | [_,_],_=>rfl,PySem.W.mg_of X G aDst⟩
  have FLpl:=fun_mk (st:=sLpl) lLpl cLpl kLpl
  have hLpl:Has K mg "_law_places" sLpl ["_law_stuff"] fLpl _:=⟨FLpl,FLpl.binds (ps:=["_law_stuff"]) fun _ _ _ _ _ _ us hl=>match us,hl with | [_],_=>rfl,PySem.W.mg_of X G aLpl⟩
  have FMvs:=fun_mk (st:=sMvs) lMvs cMvs kMvs
  have hMvs:Has K mg "_law_moves" sMvs ["_law_stuff","_law_cell"] fMvs _:=⟨FMvs,FMvs.binds (ps:=["_law_stuff","_law_cell"]) fun _ _ _ _ _ _ us hl=>match us,hl with | [_,_],_=>rfl,PySem.W.mg_of X G aMvs⟩
  have FLmv:=fun_mk (st:=sLmv) lLmv cLmv kLmv
  have hLmv:Has K mg "_law_moved" sLmv ["_law_stuff","_law_moves_here"] fLmv _:=⟨FLmv,FLmv.binds (ps:=["_law_stuff","_law_moves_here"]) fun _ _ _ _ _ _ us hl=>match us,hl with | [_,_],_=>rfl,PySem.W.mg_of X G aLmv⟩
  have FSho:=fun_mk (st:=sSho) lSho cSho kSho
  have hSho:Has K mg "_law_shows" sSho ["_law_knot","_law_stuff"] fSho _:=⟨FSho,FSho.binds (ps:=["_law_knot","_law_stuff"]) fun _ _ _ _ _ _ us hl=>match us,hl with | [_,_],_=>rfl,PySem.W.mg_of X G aSho⟩
  have FOne:=fun_mk (st:=sOne) lOne cOne kOne
  have hOne:Has K mg "_law_one" sOne ["_law_knot","_law_stuff","_law_cell"] fOne _:=⟨FOne,FOne.binds (ps:=["_law_knot","_law_stuff","_law_cell"]) fun _ _ _ _ _ _ us hl=>match us,hl with | [_,_,_],_=>rfl,PySem.W.mg_of X G aOne⟩
  have FLen:=fun_mk (st:=sLen) lLen cLen kLen
  have hLen:Has K mg "_law_entry" sLen ["_law_stuff","_law_name"] fLen _:=⟨FLen,FLen.binds (ps:=["_law_stuff","_law_name"]) fun _ _ _ _ _ _ us hl=>match us,hl with | [_,_],_=>rfl,PySem.W.mg_of X G aLen⟩
  have FFol:=fun_mk (st:=sFol) lFol cFol kFol
  have hFol:Has K mg "_law_folder" sFol ["_law_knot","_law_stuff","_law_names_here","_law_cell"] fFol _:=⟨FFol,FFol.binds (ps:=["_law_knot","_law_stuff","_law_names_here","_law_cell"]) fun _ _ _ _ _ _ us hl=>match us,hl with | [_,_,_,_],_=>rfl,PySem.W.mg_of X G aFol⟩
  have FLaw:=fun_mk (st:=sLaw) lLaw cLaw kLaw
  have clK0:Cls K K0:=⟨pgK0,hdK0,poK0,saK0⟩
  have FKIn:=fun_mk (st:=sKIn) lKIn cKIn kKIn
  have KInbd:=FKIn.binds (ps:=["self","born"]) fun _ _ _ _ _ _ us hl=>match us,hl with | [_,_],_=>rfl
  have KInmk:Mk K K0 fKIn:=⟨mkK0,iiK0,ifK0,kK0⟩
  have KInnm:mg "Knot" = some (.ref K0):=PySem.W.mg_of X G aK0
  have clKC:Cls K KC:=⟨pgKC,hdKC,poKC,saKC⟩
  have FCIn:=fun_mk (st:=sCIn) lCIn cCIn kCIn
  have CInbd:=FCIn.binds (ps:=["self","born","cells"]) fun _ _ _ _ _ _ us hl=>match us,hl with | [_,_,_],_=>rfl
  have CInmk:Mk K KC fCIn:=⟨mkKC,iiKC,ifKC,kKC⟩
  have CInnm:mg "CellsKnot" = some (.ref KC):=PySem.W.mg_of X G aKC
  have FCKd:=fun_mk (st:=sCKd) lCKd cCKd kCKd
  have hCKd:MHas K KC "kind" "CellsKnot.kind" sCKd ["self"] fCKd _:=⟨FCKd,FCKd.binds (ps:=["self"]) fun _ _ _ _ _ _ us hl=>match us,hl with | [_],_=>rfl,⟨amCKd,fmCKd,kCKd⟩⟩
  have FCSt:=fun_mk (st:=sCSt) lCSt cCSt kCSt
  have hCSt:MHas K KC "stuff" "CellsKnot.stuff" sCSt ["self"] fCSt _:=⟨FCSt,FCSt.binds (ps:=["self"]) fun _ _ _ _ _ _ us hl=>match us,hl with | [_],_=>rfl,⟨amCSt,fmCSt,kCSt⟩⟩
  have FCPt:=fun_mk (st:=sCPt) lCPt cCPt kCPt
  have hCPt:MHas K KC "points" "CellsKnot.points" sCPt ["self"] fCPt _:=⟨FCPt,FCPt.binds (ps:=["self"]) fun _ _ _ _ _ _ us hl=>match us,hl with | [_],_=>rfl,⟨amCPt,fmCPt,kCPt⟩⟩
  have FCMv:=fun_mk (st:=sCMv) lCMv cCMv kCMv
  have hCMv:MHas K KC "moved" "CellsKnot.moved" sCMv ["self","places"] fCMv _:=⟨FCMv,FCMv.binds (ps:=["self","places"]) fun _ _ _ _ _ _ us hl=>match us,hl with | [_,_],_=>rfl,⟨amCMv,fmCMv,kCMv⟩⟩
  have clKF:Cls K KF:=⟨pgKF,hdKF,poKF,saKF⟩
  have FFIn:=fun_mk (st:=sFIn) lFIn cFIn kFIn
  have FInbd:=FFIn.binds (ps:=["self","born","size","row"]) fun _ _ _ _ _ _ us hl=>match us,hl with | [_,_,_,_],_=>rfl
  have FInmk:Mk K KF fFIn:=⟨mkKF,iiKF,ifKF,kKF⟩
  have FInnm:mg "FileKnot" = some (.ref KF):=PySem.W.mg_of X G aKF
  have FFKd:=fun_mk (st:=sFKd) lFKd cFKd kFKd
  have hFKd:MHas K KF "kind" "FileKnot.kind" sFKd ["self"] fFKd _:=⟨FFKd,FFKd.binds (ps:=["self"]) fun _ _ _ _ _ _ us hl=>match us,hl with | [_],_=>rfl,⟨amFKd,fmFKd,kFKd⟩⟩
  have FFSt:=fun_mk (st:=sFSt) lFSt cFSt kFSt
  have hFSt:MHas K KF "stuff" "FileKnot.stuff" sFSt ["self"] fFSt _:=⟨FFSt,FFSt.binds (ps:=["self"]) fun _ _ _ _ _ _ us hl=>match us,hl with | [_],_=>rfl,⟨amFSt,fmFSt,kFSt⟩⟩
  have FFPt:=fun_mk (st:=sFPt) lFPt cFPt kFPt
  have hFPt:MHas K KF "points" "FileKnot.points" sFPt ["self"] fFPt _:=⟨FFPt,FFPt.binds (ps:=["self"]) fun _ _ _ _ _ _ us hl=>match us,hl with | [_],_=>rfl,⟨amFPt,fmFPt,kFPt⟩⟩
  have FFMv:=fun_mk (st:=sFMv) lFMv cFMv kFMv
  have hFMv:MHas K KF "moved" "FileKnot.moved" sFMv ["self","places"] fFMv _:=⟨FFMv,FFMv.binds (ps:=["self","places"]) fun _ _ _ _ _ _ us hl=>match us,hl with | [_,_],_=>rfl,⟨amFMv,fmFMv,kFMv⟩⟩
  have clKD:Cls K KD:=⟨pgKD,hdKD,poKD,saKD⟩
  have FDIn:=fun_mk (st:=sDIn) lDIn cDIn kDIn
  have DInbd:=FDIn.binds (ps:=["self","born","limit","entries"]) fun _ _ _ _ _ _ us hl=>match us,hl with | [_,_,_,_],_=>rfl
  have DInmk:Mk K KD fDIn:=⟨mkKD,iiKD,ifKD,kKD⟩
  have DInnm:mg "FolderKnot" = some (.ref KD):=PySem.W.mg_of X G aKD
  have FDKd:=fun_mk (st:=sDKd) lDKd cDKd kDKd
  have hDKd:MHas K KD "kind" "FolderKnot.kind" sDKd ["self"] fDKd _:=⟨FDKd,FDKd.binds (ps:=["self"]) fun _ _ _ _ _ _ us hl=>match us,hl with | [_],_=>rfl,⟨amDKd,fmDKd,kDKd⟩⟩
  have FDSt:=fun_mk (st:=sDSt) lDSt cDSt kDSt
  have hDSt:MHas K KD "stuff" "FolderKnot.stuff" sDSt ["self"] fDSt _:=⟨FDSt,FDSt.binds (ps:=["self"]) fun _ _ _ _ _ _ us hl=>match us,hl with | [_],_=>rfl,⟨amDSt,fmDSt,kDSt⟩⟩
  have FDPt:=fun_mk (st:=sDPt) lDPt cDPt kDPt
  have hDPt:MHas K KD "points" "FolderKnot.points" sDPt ["self"] fDPt _:=⟨FDPt,FDPt.binds (ps:=["self"]) fun _ _ _ _ _ _ us hl=>match us,hl with | [_],_=>rfl,⟨amDPt,fmDPt,kDPt⟩⟩
  have FDMv:=fun_mk (st:=sDMv) lDMv cDMv kDMv
  have hDMv:MHas K KD "moved" "FolderKnot.moved" sDMv ["self","places"] fDMv _:=⟨FDMv,FDMv.binds (ps:=["self","places"]) fun _ _ _ _ _ _ us hl=>match us,hl with | [_,_],_=>rfl,⟨amDMv,fmDMv,kDMv⟩⟩
  have FDEn:=fun_mk (st:=sDEn) lDEn cDEn kDEn
  have hDEn:MHas K KD "entry" "FolderKnot.entry" sDEn ["self","name"] fDEn _:=⟨FDEn,FDEn.binds (ps:=["self","name"]) fun _ _ _ _ _ _ us hl=>match us,hl with | [_,_],_=>rfl,⟨amDEn,fmDEn,kDEn⟩⟩
  have FDWe:=fun_mk (st:=sDWe) lDWe cDWe kDWe
  have hDWe:MHas K KD "with_entry" "FolderKnot.with_entry" sDWe ["self","born","name","kind","place"] fDWe _:=⟨FDWe,FDWe.binds (ps:=["self","born","name","kind","place"]) fun _ _ _ _ _ _ us hl=>match us,hl with | [_,_,_,_,_],_=>rfl,⟨amDWe,fmDWe,kDWe⟩⟩
  have FDWo:=fun_mk (st:=sDWo) lDWo cDWo kDWo
  have hDWo:MHas K KD "without_entry" "FolderKnot.without_entry" sDWo ["self","born","name"] fDWo _:=⟨FDWo,FDWo.binds (ps:=["self","born","name"]) fun _ _ _ _ _ _ us hl=>match us,hl with | [_,_,_],_=>rfl,⟨amDWo,fmDWo,kDWo⟩⟩
  have FDWl:=fun_mk (st:=sDWl) lDWl cDWl kDWl
  have hDWl:MHas K KD "with_limit" "FolderKnot.with_limit" sDWl ["self","born","many"] fDWl _:=⟨FDWl,FDWl.binds (ps:=["self","born","many"]) fun _ _ _ _ _ _ us hl=>match us,hl with | [_,_,_],_=>rfl,⟨amDWl,fmDWl,kDWl⟩⟩
  have FDOt:=fun_mk (st:=sDOt) lDOt cDOt kDOt
  have hDOt:MHas K KD "others" "FolderKnot.others" sDOt ["self","name"] fDOt _:=⟨FDOt,FDOt.binds (ps:=["self","name"]) fun _ _ _ _ _ _ us hl=>match us,hl with | [_,_],_=>rfl,⟨amDOt,fmDOt,kDOt⟩⟩
  refine ⟨PySem.W.fnOf "law" "law" (defArgs sLaw) (defBody sLaw) (defScope sLaw) .none kVLaw dcLaw pmLaw anLaw cdLaw ctLaw,fun s v=>.of_eq rfl,fun base _ _=>?_⟩
  have nKCKF:KC ≠ KF:=fun z=>by rw [z] at ndK; simp at ndK
  have nKCKD:KC ≠ KD:=fun z=>by rw [z] at ndK; simp at ndK
  have nKFKC:KF ≠ KC:=fun z=>by rw [z] at ndK; simp at ndK
  have nKFKD:KF ≠ KD:=fun z=>by rw [z] at ndK; simp at ndK
  have nKDKC:KD ≠ KC:=fun z=>by rw [z] at ndK; simp at ndK
  have nKDKF:KD ≠ KF:=fun z=>by rw [z] at ndK; simp at ndK
  have tKC:∀ {H:Hp} {a dx:Addr} {fs:List (Str×V)},H a = some (.ins KC dx fs)→TyOf K H (.ref a) (.ref KC):=fun e=>.ins e clKC caKC hnc tkc moKC
  have tKF:∀ {H:Hp} {a dx:Addr} {fs:List (Str×V)},H a = some (.ins KF dx fs)→TyOf K H (.ref a) (.ref KF):=fun e=>.ins e clKF caKF hnc tkc moKF
  have tKD:∀ {H:Hp} {a dx:Addr} {fs:List (Str×V)},H a = some (.ins KD dx fs)→TyOf K H (.ref a) (.ref KD):=fun e=>.ins e clKD caKD hnc tkc moKD
  let c:Cl:=⟨K0,KC,KF,KD⟩
  have cf:CF K mg c:=⟨clKC,clKF,clKD,naKC_0,naKC_1,naKF_0,naKF_1,naKF_2,naKD_0,naKD_1,naKD_2,KInnm,CInnm,FInnm,DInnm,tKC,tKF,tKD,kit_own hdK0 ttK0 mrKCK0 (fun z=>rfl),kit_own hdKC ttKC mrKCKC (fun z=>rfl),kit_own hdKF ttKF mrKCKF (fun z=>absurd z nKCKF),kit_own hdKD ttKD mrKCKD (fun z=>absurd z nKCKD),kit_own hdK0 ttK0 mrKFK0 (fun z=>rfl),kit_own hdKC ttKC mrKFKC (fun z=>absurd z nKFKC),kit_own hdKF ttKF mrKFKF (fun z=>rfl),kit_own hdKD ttKD mrKFKD (fun z=>absurd z nKFKD),kit_own hdK0 ttK0 mrKDK0 (fun z=>rfl),kit_own hdKC ttKC mrKDKC (fun z=>absurd z nKDKC),kit_own hdKF ttKF mrKDKF (fun z=>absurd z nKDKF),kit_own hdKD ttKD mrKDKD (fun z=>rfl)⟩
  have KIncm:CMeth K c.K0 "__init__" fKIn:=⟨gaK0,rdK0,fcK0,kKIn⟩
  have GKIn:FnOk l.prog w K mg base CX0 1 fKIn _ ["self","born"] (spKIn K):=ok_KIn FKIn
  have GCIn:FnOk l.prog w K mg base CX0 2 fCIn _ ["self","born","cells"] (spCIn c):=ok_CIn FCIn cf KIncm GKIn KInbd T
  have GFIn:FnOk l.prog w K mg base CX0 2 fFIn _ ["self","born","size","row"] (spFIn c):=ok_FIn FFIn cf KIncm GKIn KInbd T
  have GDIn:FnOk l.prog w K mg base CX0 2 fDIn _ ["self","born","limit","entries"] (spDIn c):=ok_DIn FDIn cf KIncm GKIn KInbd T
  have GCKd:FnOk l.prog w K mg base CX0 1 fCKd _ ["self"] (spKd c isC):=ok_CKd FCKd
  have GFKd:FnOk l.prog w K mg base CX0 1 fFKd _ ["self"] (spKd c isF):=ok_FKd FFKd
  have GDKd:FnOk l.prog w K mg base CX0 1 fDKd _ ["self"] (spKd c isD):=ok_DKd FDKd
  have GCSt:FnOk l.prog w K mg base CX0 1 fCSt _ ["self"] (spSt c isC):=ok_CSt FCSt cf
  have GFSt:FnOk l.prog w K mg base CX0 1 fFSt _ ["self"] (spSt c isF):=ok_FSt FFSt cf
  have GDSt:FnOk l.prog w K mg base CX0 1 fDSt _ ["self"] (spSt c isD):=ok_DSt FDSt cf
  have GPin:FnOk l.prog w K mg base CX0 1 fPin _ ["row"] spPin:=ok_Pin FPin T
  have GCPt:FnOk l.prog w K mg base CX0 2 fCPt _ ["self"] (spPt c isC):=(ok_CPt FCPt).mono (by decide)
  have GFPt:FnOk l.prog w K mg base CX0 2 fFPt _ ["self"] (spPt c isF):=ok_FPt FFPt cf hPin GPin
  have GDPt:FnOk l.prog w K mg base CX0 2 fDPt _ ["self"] (spPt c isD):=(ok_DPt FDPt cf T).mono (by decide)
  have GCMv:FnOk l.prog w K mg base CX0 4 fCMv _ ["self","places"] (spMv c isC):=ok_CMv FCMv cf CInmk CInnm CInbd GCIn
  have GFMv:FnOk l.prog w K mg base CX0 4 fFMv _ ["self","places"] (spMv c isF):=ok_FMv FFMv cf FInmk FInnm FInbd GFIn
  have GDMv:FnOk l.prog w K mg base CX0 4 fDMv _ ["self","places"] (spMv c isD):=ok_DMv FDMv cf DInmk DInnm DInbd GDIn
  have GDEn:FnOk l.prog w K mg base CX0 1 fDEn _ ["self","name"] (spDEn c):=ok_DEn FDEn cf
  have GDOt:FnOk l.prog w K mg base CX0 1 fDOt _ ["self","name"] (spDOt c):=ok_DOt FDOt cf
  have GDWe:FnOk l.prog w K mg base CX0 4 fDWe _ ["self","born","name","kind","place"] (spDWe c):=ok_DWe FDWe cf DInmk DInnm DInbd GDIn hDOt GDOt T
  have GDWo:FnOk l.prog w K mg base CX0 4 fDWo _ ["self","born","name"] (spDWo c):=ok_DWo FDWo cf DInmk DInnm DInbd GDIn hDOt GDOt
  have GDWl:FnOk l.prog w K mg base CX0 4 fDWl _ ["self","born","many"] (spDWl c):=ok_DWl FDWl cf DInmk DInnm DInbd GDIn
  have GKof:FnOk l.prog w K mg base CX0 4 fKof _ ["stuff"] (spKof c):=ok_Kof FKof cf CInmk CInnm CInbd GCIn FInmk FInnm FInbd GFIn DInmk DInnm DInbd GDIn
  have GCel:FnOk l.prog w K mg base CX0 1 fCel _ ["_law_script","_law_k"] (spCel K):=ok_Cel FCel T
  have GMix:FnOk l.prog w K mg base CX0 1 fMix _ ["_law_cell","_law_k"] spMix:=ok_Mix FMix T
  have GNms:FnOk l.prog w K mg base CX0 2 fNms _ ["_law_cell","_law_many"] spNms:=ok_Nms FNms hMix GMix T
  have GCst:FnOk l.prog w K mg base CX0 2 fCst _ ["_law_script"] (spStf K isC):=ok_Cst FCst hCel GCel hMix GMix T
  have GFst:FnOk l.prog w K mg base CX0 2 fFst _ ["_law_script"] (spStf K isF):=ok_Fst FFst hCel GCel hMix GMix T
  have GDst:FnOk l.prog w K mg base CX0 2 fDst _ ["_law_script","_law_names_here"] (spDst K):=ok_Dst FDst hCel GCel hMix GMix T
  have GLpl:FnOk l.prog w K mg base CX0 1 fLpl _ ["_law_stuff"] spLpl:=ok_Lpl FLpl T
  have GMvs:FnOk l.prog w K mg base CX0 2 fMvs _ ["_law_stuff","_law_cell"] spMvs:=ok_Mvs FMvs hLpl GLpl hMix GMix T
  have GLmv:FnOk l.prog w K mg base CX0 1 fLmv _ ["_law_stuff","_law_moves_here"] spLmv:=ok_Lmv FLmv T
  have GLen:FnOk l.prog w K mg base CX0 1 fLen _ ["_law_stuff","_law_name"] spLen:=ok_Len FLen
  have GSho:FnOk l.prog w K mg base CX0 3 fSho _ ["_law_knot","_law_stuff"] (spSho c any):=sho_all (ok_ShoC FSho cf hCKd GCKd hCSt GCSt hCPt GCPt hLpl GLpl T) (ok_ShoF FSho cf hFKd GFKd hFSt GFSt hFPt GFPt hLpl GLpl T) (ok_ShoD FSho cf hDKd GDKd hDSt GDSt hDPt GDPt hLpl GLpl T)
  have GOne:FnOk l.prog w K mg base CX0 5 fOne _ ["_law_knot","_law_stuff","_law_cell"] (spOne c any):=one_all (ok_OneC FOne cf hCPt GCPt hCMv GCMv hMvs GMvs hSho GSho hLmv GLmv hKof GKof T) (ok_OneF FOne cf hFPt GFPt hFMv GFMv hMvs GMvs hSho GSho hLmv GLmv hKof GKof T) (ok_OneD FOne cf hDPt GDPt hDMv GDMv hMvs GMvs hSho GSho hLmv GLmv hKof GKof T)
  have GFol:FnOk l.prog w K mg base CX0 5 fFol _ ["_law_knot","_law_stuff","_law_names_here","_law_cell"] (spFol c):=ok_Fol FFol cf hDEn GDEn hLen GLen hSho GSho hDWo GDWo hDWe GDWe hDWl GDWl T
  exact ok_law FLaw cf hCel GCel hMix GMix hNms GNms hCst GCst hFst GFst hDst GDst CInmk CInnm CInbd GCIn FInmk FInnm FInbd GFIn DInmk DInnm DInbd GDIn hOne GOne hFol GFol T
theorem walk {l:PySem.W.OpenLaw} {q:Program} {loose:List Str} {XP:(Str→Option Value)→Heap→Prop} {YP:World→Heap→Prop} {d:DefRec} {K:Params→PySem.W.Frag} (hn:l.most = some 63) (hdf:d.params.defaults = [])
    (hY:∀ (w:World) (h:Heap),YP w h→(K w.params).In h)
    (F:∀ (w:World) (mg:Str→Option Value) (fa:Addr) (h:Heap),(K w.params).In h→h.Ns mainGlobals mg→mg d.name = some (.ref fa) →
      ∃ fd:FuncData,(∀ (s:Shared) (u:Value),BindsTo s fd ⟨[u],[]⟩ [("_law_script",u)])∧∀ base:Heap,(K w.params).In base→base.Ns mainGlobals mg→FnOk l.prog w (K w.params) mg base CX0 6 fa fd ["_law_script"] (spLaw (K w.params))) :
    PySem.W.WalkO q loose XP YP l.row.toRowW d [] (fun f vs=>PySem.call f vs) :=
  L2.walk_of (n:=63) (k:=6) (x:="_law_script") (CX:=fun _=>CX0) (sp:=fun w=>spLaw (K w.params)) hn (by decide) hdf ⟨fun _=>rfl,by decide,by decide⟩ hY F (fun _ _ a ns hl _ hS=>⟨a,ns,rfl,hS,hl,fun _=>rfl⟩) fun _ _ _ _ _ z=>z
end K21
open PySem PySem.W PyProof.Rows
set_option maxRecDepth 100000
set_option maxHeartbeats 0
open_top K21hd for PySem.Challenge.rw_clonewood_k21_knots_of_three_kinds
theorem PySem.Challenge.cw_clonewood_k21_knots_of_three_kinds_holds : PySem.Challenge.rw_clonewood_k21_knots_of_three_kinds.Holds := by
  refine K21hd ?_
  k_fill
  refine K21.walk (l:=PySem.Challenge.rw_clonewood_k21_knots_of_three_kinds) rfl rfl (fun w h Y=>PySem.W.kIn_of Y) ?F
  case F =>
    intro w mg fa h KX G hmg
    refine' K21.all_mk KX G hmg ?aPin ?lPin ?cPin ?kPin ?aKof ?lKof ?cKof ?kKof ?aCel ?lCel ?cCel ?kCel ?aMix ?lMix ?cMix ?kMix ?aNms ?lNms ?cNms ?kNms ?aCst ?lCst ?cCst ?kCst ?aFst ?lFst ?cFst ?kFst ?aDst ?lDst ?cDst ?kDst ?aLpl ?lLpl ?cLpl ?kLpl ?aMvs ?lMvs ?cMvs ?kMvs ?aLmv ?lLmv ?cLmv ?kLmv ?aSho ?lSho ?cSho ?kSho ?aOne ?lOne ?cOne ?kOne ?aLen ?lLen ?cLen ?kLen ?aFol ?lFol ?cFol ?kFol ?aLaw ?lLaw ?cLaw ?kLaw ?aK0 ?pgK0 ?hdK0 ?poK0 ?saK0 ?kK0 ?mkK0 ?iiK0 ?ifK0 ?lKIn ?cKIn ?kKIn ?aKC ?pgKC ?hdKC ?poKC ?saKC ?kKC ?naKC_0 ?naKC_1 ?mkKC ?iiKC ?ifKC ?lCIn ?cCIn ?kCIn ?amCKd ?fmCKd ?lCKd ?cCKd ?kCKd ?amCSt ?fmCSt ?lCSt ?cCSt ?kCSt ?amCPt ?fmCPt ?lCPt ?cCPt ?kCPt ?amCMv ?fmCMv ?lCMv ?cCMv ?kCMv ?aKF ?pgKF ?hdKF ?poKF ?saKF ?kKF ?naKF_0 ?naKF_1 ?naKF_2 ?mkKF ?iiKF ?ifKF ?lFIn ?cFIn ?kFIn ?amFKd ?fmFKd ?lFKd ?cFKd ?kFKd ?amFSt ?fmFSt ?lFSt ?cFSt ?kFSt ?amFPt ?fmFPt ?lFPt ?cFPt ?kFPt ?amFMv ?fmFMv ?lFMv ?cFMv ?kFMv ?aKD ?pgKD ?hdKD ?poKD ?saKD ?kKD ?naKD_0 ?naKD_1 ?naKD_2 ?mkKD ?iiKD ?ifKD ?lDIn ?cDIn ?kDIn ?amDKd ?fmDKd ?lDKd ?cDKd ?kDKd ?amDSt ?fmDSt ?lDSt ?cDSt ?kDSt ?amDPt ?fmDPt ?lDPt ?cDPt ?kDPt ?amDMv ?fmDMv ?lDMv ?cDMv ?kDMv ?amDEn ?fmDEn ?lDEn ?cDEn ?kDEn ?amDWe ?fmDWe ?lDWe ?cDWe ?kDWe ?amDWo ?fmDWo ?lDWo ?cDWo ?kDWo ?amDWl ?fmDWl ?lDWl ?cDWl ?kDWl ?amDOt ?fmDOt ?lDOt ?cDOt ?kDOt ?hnc ?tkc ?gaK0 ?rdK0 ?fcK0 ?ndK ?ttK0 ?ttKC ?ttKF ?ttKD ?caKC ?moKC ?mrKCK0 ?mrKCKC ?mrKCKF ?mrKCKD ?caKF ?moKF ?mrKFK0 ?mrKFKC ?mrKFKF ?mrKFKD ?caKD ?moKD ?mrKDK0 ?mrKDKC ?mrKDKF ?mrKDKD ?z0 ?z1 ?z2 ?z3 ?z4 ?z5 ?z6 ?z7 ?z8 ?z9 ?z10 ?z11 ?gl0
    (case aPin=>k_is)
    (case lPin=>k_is)
    (case cPin=>k_is)
    (case kPin=>k_is)
    (case aKof=>k_is)
    (case lKof=>k_is)
    (case cKof=>k_is)
    (case kKof=>k_is)
    (case aCel=>k_is)
    (case lCel=>k_is)
    (case cCel=>k_is)
    (case kCel=>k_is)
    (case aMix=>k_is)
    (case lMix=>k_is)
    (case cMix=>k_is)
    (case kMix=>k_is)
    (case aNms=>k_is)
    (case lNms=>k_is)
    (case cNms=>k_is)
    (case kNms=>k_is)
    (case aCst=>k_is)
    (case lCst=>k_is)
    (case cCst=>k_is)
    (case kCst=>k_is)
    (case aFst=>k_is)
    (case lFst=>k_is)
    (case cFst=>k_is)
    (case kFst=>k_is)
    (case aDst=>k_is)
    (case lDst=>k_is)
    (case cDst=>k_is)
    (case kDst=>k_is)
    (case aLpl=>k_is)
    (case lLpl=>k_is)
    (case cLpl=>k_is)
    (case kLpl=>k_is)
    (case aMvs=>k_is)
    (case lMvs=>k_is)
    (case cMvs=>k_is)
    (case kMvs=>k_is)
    (case aLmv=>k_is)
    (case lLmv=>k_is)
    (case cLmv=>k_is)
    (case kLmv=>k_is)
    (case aSho=>k_is)
    (case lSho=>k_is)
    (case cSho=>k_is)
    (case kSho=>k_is)
    (case aOne=>k_is)
    (case lOne=>k_is)
    (case cOne=>k_is)
    (case kOne=>k_is)
    (case aLen=>k_is)
    (case lLen=>k_is)
    (case cLen=>k_is)
    (case kLen=>k_is)
    (case aFol=>k_is)
    (case lFol=>k_is)
    (case cFol=>k_is)
    (case kFol=>k_is)
    (case aLaw=>k_is)
    (case lLaw=>k_is)
    (case cLaw=>k_is)
    (case kLaw=>k_is)
    (case aK0=>k_is)
    (case pgK0=>k_is)
    (case hdK0=>k_is)
    (case poK0=>k_is)
    (case saK0=>k_is)
    (case kK0=>k_is)
    (case mkK0=>k_is)
    (case iiK0=>k_is)
    (case ifK0=>k_is)
    (case lKIn=>k_is)
    (case cKIn=>k_is)
    (case kKIn=>k_is)
    (case aKC=>k_is)
    (case pgKC=>k_is)
    (case hdKC=>k_is)
    (case poKC=>k_is)
    (case saKC=>k_is)
    (case kKC=>k_is)
    (case naKC_0=>k_is)
    (case naKC_1=>k_is)
    (case mkKC=>k_is)
    (case iiKC=>k_is)
    (case ifKC=>k_is)
    (case lCIn=>k_is)
    (case cCIn=>k_is)
    (case kCIn=>k_is)
    (case amCKd=>k_is)
    (case fmCKd=>k_is)
    (case lCKd=>k_is)
    (case cCKd=>k_is)
    (case kCKd=>k_is)
    (case amCSt=>k_is)
    (case fmCSt=>k_is)
    (case lCSt=>k_is)
    (case cCSt=>k_is)
    (case kCSt=>k_is)
    (case amCPt=>k_is)
    (case fmCPt=>k_is)
    (case lCPt=>k_is)
    (case cCPt=>k_is)
    (case kCPt=>k_is)
    (case amCMv=>k_is)
    (case fmCMv=>k_is)
    (case lCMv=>k_is)
    (case cCMv=>k_is)
    (case kCMv=>k_is)
    (case aKF=>k_is)
    (case pgKF=>k_is)
    (case hdKF=>k_is)
    (case poKF=>k_is)
    (case saKF=>k_is)
    (case kKF=>k_is)
    (case naKF_0=>k_is)
    (case naKF_1=>k_is)
    (case naKF_2=>k_is)
    (case mkKF=>k_is)
    (case iiKF=>k_is)
    (case ifKF=>k_is)
    (case lFIn=>k_is)
    (case cFIn=>k_is)
    (case kFIn=>k_is)
    (case amFKd=>k_is)
    (case fmFKd=>k_is)
    (case lFKd=>k_is)
    (case cFKd=>k_is)
    (case kFKd=>k_is)
    (case amFSt=>k_is)
    (case fmFSt=>k_is)
    (case lFSt=>k_is)
    (case cFSt=>k_is)
    (case kFSt=>k_is)
    (case amFPt=>k_is)
    (case fmFPt=>k_is)
    (case lFPt=>k_is)
    (case cFPt=>k_is)
    (case kFPt=>k_is)
    (case amFMv=>k_is)
    (case fmFMv=>k_is)
    (case lFMv=>k_is)
    (case cFMv=>k_is)
    (case kFMv=>k_is)
    (case aKD=>k_is)
    (case pgKD=>k_is)
    (case hdKD=>k_is)
    (case poKD=>k_is)
    (case saKD=>k_is)
    (case kKD=>k_is)
    (case naKD_0=>k_is)
    (case naKD_1=>k_is)
    (case naKD_2=>k_is)
    (case mkKD=>k_is)
    (case iiKD=>k_is)
    (case ifKD=>k_is)
    (case lDIn=>k_is)
    (case cDIn=>k_is)
    (case kDIn=>k_is)
    (case amDKd=>k_is)
    (case fmDKd=>k_is)
    (case lDKd=>k_is)
    (case cDKd=>k_is)
    (case kDKd=>k_is)
    (case amDSt=>k_is)
    (case fmDSt=>k_is)
    (case lDSt=>k_is)
    (case cDSt=>k_is)
    (case kDSt=>k_is)
    (case amDPt=>k_is)
    (case fmDPt=>k_is)
    (case lDPt=>k_is)
    (case cDPt=>k_is)
    (case kDPt=>k_is)
    (case amDMv=>k_is)
    (case fmDMv=>k_is)
    (case lDMv=>k_is)
    (case cDMv=>k_is)
    (case kDMv=>k_is)
    (case amDEn=>k_is)
    (case fmDEn=>k_is)
    (case lDEn=>k_is)
    (case cDEn=>k_is)
    (case kDEn=>k_is)
    (case amDWe=>k_is)
    (case fmDWe=>k_is)
    (case lDWe=>k_is)
    (case cDWe=>k_is)
    (case kDWe=>k_is)
    (case amDWo=>k_is)
    (case fmDWo=>k_is)
    (case lDWo=>k_is)
    (case cDWo=>k_is)
    (case kDWo=>k_is)
    (case amDWl=>k_is)
    (case fmDWl=>k_is)
    (case lDWl=>k_is)
    (case cDWl=>k_is)
    (case kDWl=>k_is)
    (case amDOt=>k_is)
    (case fmDOt=>k_is)
    (case lDOt=>k_is)
    (case cDOt=>k_is)
    (case kDOt=>k_is)
    (case hnc=>k_is)
    (case tkc=>k_is)
    (case gaK0=>k_is)
    (case rdK0=>k_is)
    (case fcK0=>k_is)
    (case ndK=>first | decide | decide +kernel)
    (case ttK0=>k_is)
    (case ttKC=>k_is)
    (case ttKF=>k_is)
    (case ttKD=>k_is)
    (case caKC=>k_is)
    (case moKC=>k_is)
    (case mrKCK0=>k_is)
    (case mrKCKC=>k_is)
    (case mrKCKF=>k_is)
    (case mrKCKD=>k_is)
    (case caKF=>k_is)
    (case moKF=>k_is)
    (case mrKFK0=>k_is)
    (case mrKFKC=>k_is)
    (case mrKFKF=>k_is)
    (case mrKFKD=>k_is)
    (case caKD=>k_is)
    (case moKD=>k_is)
    (case mrKDK0=>k_is)
    (case mrKDKC=>k_is)
    (case mrKDKF=>k_is)
    (case mrKDKD=>k_is)
    (case z0=>k_is)
    (case z1=>k_is)
    (case z2=>k_is)
    (case z3=>k_is)
    (case z4=>k_is)
    (case z5=>k_is)
    (case z6=>k_is)
    (case z7=>k_is)
    (case z8=>k_is)
    (case z9=>k_is)
    (case z10=>k_is)
    (case z11=>k_is)
    (case gl0=>k_is)
#print axioms PySem.Challenge.cw_clonewood_k21_knots_of_three_kinds_holds
