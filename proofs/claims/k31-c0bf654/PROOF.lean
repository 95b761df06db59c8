import PyProof.Rows.All
import Wide.All
import OpenK.AllK
import Wide.FinOn
import Lean
import PyProof.EqAt
import PyProof.EqKinds
import PyProof.NeKinds
import PyProof.TupleCall
import PySem.Challenge.RW_clonewood_k31_counts_of_one_line
import PyProof.SetKind
import PyProof.Rows.SetFrom
import KE.KDictList
import KE.KEqDict
import OpenK.KCls
import PyProof.Rows.SortShell
import PyProof.DictWalks
import KE.KNest
set_option genInjectivity false
set_option genSizeOfSpec false
set_option tactic.hygienic false
set_option bootstrap.genMatcherCode false
set_option Elab.async false
set_option linter.all false
set_option maxRecDepth 100000
namespace L2
open PySem PySem.Spec PyProof.Rows
noncomputable abbrev Key:=Sum Int Str
noncomputable def keyIs:Key→Value→Bool
  | .inl k,v=>Value.isInt k v
  | .inr x,v=>Value.isStrOf x v
noncomputable def keyH (w:World):Key→Int
  | .inl k=>hashInt k
  | .inr x=>hashStr w x
theorem keyIs_shape:∀ {k:Key} {v:Value},keyIs k v = true→(∃ i t,k = Sum.inl i∧v = Value.int i t)∨(∃ x t,k = Sum.inr x∧v = Value.str x t)
  | .inl i,v,h=>by
    obtain ⟨t,e⟩:=Value.isInt_shape (k:=i) (v:=v) h
    exact .inl ⟨i,t,rfl,e⟩
  | .inr x,v,h=>by
    obtain ⟨t,e⟩:=Value.isStrOf_shape (x:=x) (v:=v) h
    exact .inr ⟨x,t,rfl,e⟩
theorem keyIs_int (i:Int) (t:Tok):keyIs (.inl i) (.int i t) = true:=by simp [keyIs,Value.isInt]
theorem keyIs_str (x:Str) (t:Tok):keyIs (.inr x) (.str x t) = true:=by simp [keyIs,Value.isStrOf]
theorem key_ll (a b:Int):decide ((Sum.inl a:Key) = Sum.inl b) = (a == b):=by
  by_cases e:a = b
  · subst e; simp
  · have h:¬ (Sum.inl a:Key) = Sum.inl b:=fun q=>e (Sum.inl.inj q)
    rw [decide_eq_false h]
    exact (beq_eq_false_iff_ne.mpr e).symm
theorem key_rr (a b:Str):decide ((Sum.inr a:Key) = Sum.inr b) = decide (a = b):=by
  by_cases e:a = b
  · subst e; simp
  · have h:¬ (Sum.inr a:Key) = Sum.inr b:=fun q=>e (Sum.inr.inj q)
    rw [decide_eq_false h,decide_eq_false e]
theorem key_lr (a:Int) (b:Str):decide ((Sum.inl a:Key) = Sum.inr b) = false:=decide_eq_false (fun q=>nomatch q)
theorem key_rl (a:Str) (b:Int):decide ((Sum.inr a:Key) = Sum.inl b) = false:=decide_eq_false (fun q=>nomatch q)
noncomputable def mixKind (prog:Program) (w:World):PySem.KeyKind prog w Key where
  is:=keyIs
  hash:=keyH w
  inj:=fun v a b ha hb=>by
    rcases keyIs_shape ha with ⟨i,t,rfl,rfl⟩ | ⟨x,t,rfl,rfl⟩
    · rcases keyIs_shape hb with ⟨j,u,rfl,e⟩ | ⟨y,u,rfl,e⟩
      · injection e with e1 _; rw [e1]
      · exact nomatch e
    · rcases keyIs_shape hb with ⟨j,u,rfl,e⟩ | ⟨y,u,rfl,e⟩
      · exact nomatch e
      · injection e with e1 _; rw [e1]
  byValue:=fun k v h=>by
    rcases keyIs_shape h with ⟨i,t,rfl,rfl⟩ | ⟨x,t,rfl,rfl⟩ <;> rfl
  pyHash:=fun hv h=>by
    rcases keyIs_shape hv with ⟨i,t,rfl,rfl⟩ | ⟨x,t,rfl,rfl⟩
    · exact wpAny_pyHash_int h
    · exact wpAny_pyHash_str h
  eqBool:=fun hu hv h=>by
    rcases keyIs_shape hu with ⟨i,t,rfl,rfl⟩ | ⟨x,t,rfl,rfl⟩
    · rcases keyIs_shape hv with ⟨j,u,rfl,rfl⟩ | ⟨y,u,rfl,rfl⟩
      · rw [key_ll] at h; exact wpAny_eqBool_int h
      · rw [key_lr] at h; exact SeqAt.EqAt.int_str i t y u _ _ _ _ h
    · rcases keyIs_shape hv with ⟨j,u,rfl,rfl⟩ | ⟨y,u,rfl,rfl⟩
      · rw [key_rl] at h; exact SeqAt.EqAt.str_int x t j u _ _ _ _ h
      · rw [key_rr] at h; exact wpAny_eqBool_str h
  «strs»:=fun k x t v h=>by
    rcases keyIs_shape h with ⟨i,u,rfl,e⟩ | ⟨y,u,rfl,e⟩
    · exact nomatch e
    · injection e with e1 _
      subst e1
      cases v <;> rfl
theorem mixKind_int (prog:Program) (w:World) (i:Int) (t:Tok):(mixKind prog w).is (.inl i) (.int i t) = true:=keyIs_int i t
theorem mixKind_str (prog:Program) (w:World) (x:Str) (t:Tok):(mixKind prog w).is (.inr x) (.str x t) = true:=keyIs_str x t
end L2
namespace L2
open PySem PySem.Spec PyProof.Rows
set_option genInjectivity true in
inductive V where
  | non | bl (b:Bool) | int (i:Int) | str (x:Str) | byt (b:Array UInt8) | flt (b:UInt64) | ref (a:Addr) | ty (n:String)
  deriving DecidableEq
noncomputable def RelV:V→Value→Prop
  | .non,u=>u = Value.none
  | .bl b,u=>u = Value.bool b
  | .int i,u=>∃ t,u = Value.int i t
  | .str x,u=>∃ t,u = Value.str x t
  | .byt b,u=>∃ t,u = Value.bytes b t
  | .flt b,u=>∃ t,u = Value.float b t
  | .ref a,u=>u = Value.ref a
  | .ty n,u=>u = Value.type n
noncomputable abbrev Vals:List V→List Value→Prop:=Paired RelV
theorem Vals.length {xs:List V} {us:List Value} (r:Vals xs us):xs.length = us.length:=Paired.length r
theorem Vals.get:∀ {xs:List V} {us:List Value} {i:Nat} {x:V},Vals xs us→xs[i]? = some x→∃ u,us[i]? = some u∧RelV x u
  | _,_,_,_,.nil,e=>by simp at e
  | _,_,0,_,.cons r _,e=>by simp at e; subst e; exact ⟨_,rfl,r⟩
  | _,_,i + 1,x,.cons _ t,e=>by
    obtain ⟨u,h1,h2⟩:=Vals.get (i:=i) (x:=x) t (by simpa using e)
    exact ⟨u,by simpa using h1,h2⟩
theorem Vals.set {x:V} {u:Value} (r:RelV x u):∀ {xs:List V} {us:List Value} (i:Nat),Vals xs us→Vals (xs.set i x) (us.set i u)
  | _,_,_,.nil=>.nil
  | _,_,0,.cons _ t=>.cons r t
  | _,_,i + 1,.cons q t=>.cons q (Vals.set r i t)
theorem Vals.append:∀ {xs ys:List V} {us ws:List Value},Vals xs us→Vals ys ws→Vals (xs ++ ys) (us ++ ws)
  | _,_,_,_,.nil,s=>s
  | _,_,_,_,.cons r t,s=>.cons r (Vals.append t s)
theorem Vals.take:∀ {xs:List V} {us:List Value} (n:Nat),Vals xs us→Vals (xs.take n) (us.take n)
  | _,_,0,_=>.nil
  | _,_,_ + 1,.nil=>.nil
  | _,_,n + 1,.cons r t=>.cons r (Vals.take n t)
theorem Vals.drop:∀ {xs:List V} {us:List Value} (n:Nat),Vals xs us→Vals (xs.drop n) (us.drop n)
  | _,_,0,r=>r
  | _,_,_ + 1,.nil=>.nil
  | _,_,n + 1,.cons _ t=>Vals.drop n t
noncomputable def RelO:Option V→Option Value→Prop
  | some v,some u=>RelV v u
  | none,none=>True
  | _,_=>False
noncomputable def KV {κ:Type}:List (κ×V)→List (κ×Value)→Prop:=Paired fun (p:κ×V) (q:κ×Value)=>p.1 = q.1∧RelV p.2 q.2
noncomputable def kV:Key→V
  | .inl i=>.int i
  | .inr x=>.str x
inductive HO where
  | lst (xs:List V)
  | tup (xs:List V)
  | dK (kvs:List (Key×V)) | dT (kvs:List (List Key×V))
  | set (S:Int→Bool) (n:Nat)
  | ins (C dx:Addr) (fs:List (Str×V))
  | own (x:Addr)
  | xd (fs:List (Str×V))
  | met (f x:Addr)
  | rng (lo hi:Int)
  | frz (o:Obj) (u:HO)
  | tbl (ps:Array Value)
  | ext (φ:Heap→Prop)
noncomputable abbrev Hp:=Addr→Option HO
noncomputable def upd (H:Hp) (a:Addr) (o:HO):Hp:=fun b=>if b = a then some o else H b
theorem upd_same {H:Hp} {a:Addr} {o:HO}:upd H a o a = some o:=by unfold upd; rw [if_pos rfl]
theorem upd_ne {H:Hp} {a b:Addr} {o:HO} (h:b ≠ a):upd H a o b = H b:=by unfold upd; rw [if_neg h]
theorem ne_of {H:Hp} {a b:Addr} {o u:HO} (h:H a = some o) (h':H b = some u) (d:o ≠ u):a ≠ b:=by
  intro e; subst e; rw [h] at h'; exact d (Option.some.inj h')
theorem ne_of_none {H:Hp} {a b:Addr} {o:HO} (h:H a = some o) (h':H b = none):a ≠ b:=by
  intro e; subst e; rw [h] at h'; cases h'
section
variable (P:Program) (w:World)
noncomputable def ObjOk (H:Hp) (h:Heap) (a:Addr):HO→Prop
  | .lst xs=>xs.length ≤ sizeLine∧∃ (its:List Value) (n:Nat),Vals xs its∧h.get? a = some { cls:=.type "list",data:=.seq its.toArray n }
  | .tup xs=>xs.length ≤ sizeLine∧∃ its:List Value,Vals xs its∧IsTup h a its.toArray
  | .dK kvs=>kvs.length ≤ sizeLine∧(a == sysModules) = false∧∃ vs,KV kvs vs∧h.DictOf (mixKind P w) a vs
  | .dT kvs=>kvs.length ≤ sizeLine∧(a == sysModules) = false∧∃ xs:List (List Key×Addr×Value),
      Paired (fun (p:List Key×V) (q:List Key×Addr×Value)=>p.1 = q.1∧H q.2.1 = some (.tup (p.1.map kV))∧RelV p.2 q.2.2) kvs xs ∧
      ∃ o es ep,h.get? a = some o∧o.ExactDict∧o.data = .dict es ep∧es.toList = xs.map (entryOfKey (tupleKind (mixKind P w)))∧(xs.map (·.1)).Nodup
  | .set S n=>h.SetOf (intKind P w) a S n
  | .ins C dx fs=>H dx = some (.own a)∧fs.length ≤ 1000∧dx ≠ a∧h.get? a = some (PySem.W.instObj C dx) ∧
      ∃ mA,h.Ns1 dx mA∧(∀ f,RelO (fs.lookup f) (mA f))∧PySem.Within mA (fs.map (·.1))
  | .own _=>∃ o,h.get? a = some o
  | .xd fs=>∃ mA,h.Ns1 a mA∧∀ f,RelO (fs.lookup f) (mA f)
  | .rng lo hi=>∃ t u v,h.get? a = some { cls:=.type "range",data:=.fields #[.int lo t,.int hi u,.int 1 v] }
  | .frz o u=>h.get? a = some o∧ObjOk H h a u
  | .tbl ps=>h.get? a = some { cls:=.none,data:=.fields ps }
  | .met f x=>h.get? a = some (PySem.W.methodObj (.ref f) (.ref x))
  | .ext φ=>φ h∧(∃ o,h.get? a = some o)∧∀ h1 h2:Heap,φ h1→(∀ o,h1.get? a = some o→h2.get? a = some o)→φ h2
noncomputable def HOk (H:Hp) (h:Heap):Prop:=∀ a o,H a = some o→ObjOk P w H h a o
end
section
variable {P:Program} {w:World} {H H':Hp} {h h':Heap} {a:Addr} {o:HO}
theorem ObjOk.lt (x:ObjOk P w H h a o):a < h.objs.size:=by
  cases o with
  | lst xs=>obtain ⟨_,_,_,_,e⟩:=x; exact Heap.lt_size e
  | tup xs=>obtain ⟨_,_,_,p⟩:=x; exact p.lt
  | dK kvs=>obtain ⟨_,_,_,_,o,_,_,e,_⟩:=x; exact Heap.lt_size e
  | dT kvs=>obtain ⟨_,_,_,_,o,_,_,e,_⟩:=x; exact Heap.lt_size e
  | set S n=>obtain ⟨o,_,_,_,e,_⟩:=x; exact Heap.lt_size e
  | ins C dx fs=>obtain ⟨_,_,_,e,_⟩:=x; exact Heap.lt_size e
  | own y=>obtain ⟨_,e⟩:=x; exact Heap.lt_size e
  | xd fs=>obtain ⟨_,⟨_,_,_,e,_⟩,_⟩:=x; exact Heap.lt_size e
  | rng lo hi=>obtain ⟨_,_,_,e⟩:=x; exact Heap.lt_size e
  | frz ob u=>obtain ⟨e,_⟩:=x; exact Heap.lt_size e
  | tbl ps=>exact Heap.lt_size (show h.get? a = some _ from x)
  | met f y=>exact Heap.lt_size (show h.get? a = some _ from x)
  | ext φ=>obtain ⟨_,⟨_,e⟩,_⟩:=x; exact Heap.lt_size e
theorem Paired.mapP {α β:Type} {F G:α→β→Prop}:∀ {l₁:List α} {l₂:List β},Paired F l₁ l₂→(∀ a b,F a b→G a b)→Paired G l₁ l₂
  | _,_,.nil,_=>.nil
  | _,_,.cons r t,f=>.cons (f _ _ r) (Paired.mapP t f)
theorem ObjOk.stay (x:ObjOk P w H h a o) (k:∀ b u,(b = a∨H b = some (.own a))→h.get? b = some u→h'.get? b = some u)
    (ho:∀ b,H b = some (.own a)→H' b = some (.own a)) (ht:∀ b xs,H b = some (.tup xs)→H' b = some (.tup xs)):ObjOk P w H' h' a o:=by
  induction o with
  | lst xs=>obtain ⟨z,its,n,r,e⟩:=x; exact ⟨z,its,n,r,k _ _ (.inl rfl) e⟩
  | tup xs=>obtain ⟨z,its,r,ob,e,c⟩:=x; exact ⟨z,its,r,ob,k _ _ (.inl rfl) e,c⟩
  | dK kvs=>obtain ⟨z,y,vs,r,ob,es,ep,e,c⟩:=x; exact ⟨z,y,vs,r,ob,es,ep,k _ _ (.inl rfl) e,c⟩
  | dT kvs =>
    obtain ⟨z,y,xs,r,ob,es,ep,e,c⟩:=x
    exact ⟨z,y,xs,Paired.mapP r fun p q z=>⟨z.1,ht _ _ z.2.1,z.2.2⟩,ob,es,ep,k _ _ (.inl rfl) e,c⟩
  | set S n=>obtain ⟨ob,es,ep,t,e,c⟩:=x; exact ⟨ob,es,ep,t,k _ _ (.inl rfl) e,c⟩
  | ins C dx fs =>
    obtain ⟨d,z,ne,e,mA,⟨od,es,ep,e2,c⟩,r⟩:=x
    exact ⟨ho _ d,z,ne,k _ _ (.inl rfl) e,mA,⟨od,es,ep,k _ _ (.inr d) e2,c⟩,r⟩
  | own y=>obtain ⟨ob,e⟩:=x; exact ⟨ob,k _ _ (.inl rfl) e⟩
  | xd fs=>obtain ⟨mA,⟨od,es,ep,e,c⟩,r⟩:=x; exact ⟨mA,⟨od,es,ep,k _ _ (.inl rfl) e,c⟩,r⟩
  | rng lo hi=>obtain ⟨t,u,v,e⟩:=x; exact ⟨t,u,v,k _ _ (.inl rfl) e⟩
  | frz ob u ih=>obtain ⟨e,q⟩:=x; exact ⟨k _ _ (.inl rfl) e,ih q⟩
  | tbl ps =>
    have e:h.get? a = some { cls:=.none,data:=.fields ps }:=x
    show h'.get? a = some { cls:=.none,data:=.fields ps }
    exact k a _ (.inl rfl) e
  | met f y =>
    have e:h.get? a = some (PySem.W.methodObj (.ref f) (.ref y)):=x
    show h'.get? a = some (PySem.W.methodObj (.ref f) (.ref y))
    exact k a _ (.inl rfl) e
  | ext φ=>obtain ⟨p,⟨o,e⟩,st⟩:=x; exact ⟨st _ _ p fun o q=>k _ _ (.inl rfl) q,⟨o,k _ _ (.inl rfl) e⟩,st⟩
theorem HOk.lt (x:HOk P w H h) (e:H a = some o):a < h.objs.size:=(x a o e).lt
theorem HOk.fresh (x:HOk P w H h) (e:h.objs.size ≤ a):H a = none:=by
  cases q:H a with
  | none=>rfl
  | some u=>exact absurd (Nat.lt_of_lt_of_le (x.lt q) e) (Nat.lt_irrefl _)
theorem HOk.kept (x:HOk P w H h) (k:∀ b u,h.get? b = some u→h'.get? b = some u):HOk P w H h':=fun a o e =>
  (x a o e).stay (fun b u _ q=>k b u q) (fun _ q=>q) fun _ _ q=>q
theorem HOk.laid (x:HOk P w H h) (k:∀ b u,h.get? b = some u→h'.get? b = some u) (hp:h.objs.size ≤ a) (new:ObjOk P w (upd H a o) h' a o):HOk P w (upd H a o) h':=fun b u e=>by
  have hn:=x.fresh hp
  by_cases hb:b = a
  · subst hb; rw [upd_same] at e; cases e; exact new
  · rw [upd_ne hb] at e
    exact (x b u e).stay (fun c v _ q=>k c v q) (fun c q=>by rw [upd_ne (ne_of_none q hn)]; exact q) fun c xs q=>by rw [upd_ne (ne_of_none q hn)]; exact q
end
noncomputable def Rd (H:Hp) (a:Addr) (u:HO):Prop:=H a = some u∨∃ o,H a = some (.frz o u)
theorem Rd.ok {P:Program} {w:World} {H:Hp} {h:Heap} {a:Addr} {u:HO} (r:Rd H a u) (x:HOk P w H h):ObjOk P w H h a u:=by
  rcases r with r | ⟨o,r⟩
  · exact x a u r
  · obtain ⟨_,q⟩:=x a _ r
    exact q
noncomputable def Mut:Option HO→Prop
  | some (.lst _)=>True
  | some (.dK _)=>True
  | some (.dT _)=>True
  | some (.set _ _)=>True
  | some (.ins _ _ _)=>True
  | some (.ext _)=>True
  | _=>False
section
variable {P:Program} {w:World} {H:Hp} {h h':Heap} {x e:Addr} {o':HO}
theorem HOk.write (ok:HOk P w H h) (mu:Mut (H x)) (he:e = x∨H e = some (.own x)) (k:∀ b u,b ≠ e→h.get? b = some u→h'.get? b = some u) (heo:∃ u,h'.get? e = some u)
    (new:ObjOk P w (upd H x o') h' x o'):HOk P w (upd H x o') h':=fun b u q=>by
  have nown:∀ c y,H c = some (.own y)→c ≠ x:=fun c y r z=>by subst z; rw [r] at mu; exact mu
  have ntup:∀ c xs,H c = some (.tup xs)→c ≠ x:=fun c xs r z=>by subst z; rw [r] at mu; exact mu
  by_cases hb:b = x
  · subst hb; rw [upd_same] at q; cases q; exact new
  · rw [upd_ne hb] at q
    by_cases hbe:b = e
    · have q':H b = some (.own x):=by
        rcases he with z | z
        · exact absurd (hbe.trans z) hb
        · rw [hbe]; exact z
      rw [q] at q'; cases q'
      obtain ⟨v,hv⟩:=heo
      exact ⟨v,by rw [hbe]; exact hv⟩
    · refine (ok b u q).stay (fun c v hc r=>k c v ?_ r) (fun c r=>by rw [upd_ne (nown c b r)]; exact r) fun c xs r=>by rw [upd_ne (ntup c xs r)]; exact r
      rcases hc with rfl | hc
      · exact hbe
      · rintro rfl
        rcases he with z | z
        · exact nown c b hc z
        · rw [hc] at z; cases z; exact hb rfl
end
structure Un (fs ex:List Addr) (H H':Hp) (h h':Heap):Prop where
  keep:∀ b o,h.get? b = some o→H b = none→b ∉ fs→b ∉ ex→h'.get? b = some o
  slot:∀ b o,h.get? b = some o→H b = none→b ∈ fs→b ∉ ex→∃ sl,h'.get? b = some { o with slots:=sl }
  free:∀ b o,h.get? b = some o→H b = none→b ∉ ex→H' b = none
  there:∀ b o,h.get? b = some o→b ∉ ex→∃ o',h'.get? b = some o'
  tups:∀ b xs,H b = some (.tup xs)→H' b = some (.tup xs)
  frzs:∀ b o u,H b = some (.frz o u)→H' b = some (.frz o u)
  tbls:∀ b ps,H b = some (.tbl ps)→∃ more,H' b = some (.tbl (ps ++ more))
section
variable {fs fs' ex ex':List Addr} {H H1 H2:Hp} {h h1 h2 h':Heap} {a x e:Addr} {o:HO}
theorem Un.any (u:Un fs ex H H1 h h1) {b:Addr} {ob:Obj} (q:h.get? b = some ob) (n:H b = none) (hx:b ∉ ex):∃ sl,h1.get? b = some { ob with slots:=sl }:=by
  by_cases hb:b ∈ fs
  · exact u.slot b ob q n hb hx
  · exact ⟨ob.slots,u.keep b ob q n hb hx⟩
theorem Un.kept (k:∀ b u,h.get? b = some u→h'.get? b = some u):Un fs ex H H h h' :=
  ⟨fun b ob q _ _ _=>k b ob q,fun b ob q _ _ _=>⟨ob.slots,k b ob q⟩,fun _ _ _ n _=>n,fun b ob q _=>⟨ob,k b ob q⟩,fun _ _ q=>q,fun _ _ _ q=>q,fun _ ps q=>⟨#[],by rw [q]; simp⟩⟩
theorem Un.refl:Un fs ex H H h h:=Un.kept fun _ _ q=>q
theorem Un.laid (k:∀ b u,h.get? b = some u→h'.get? b = some u) (hp:h.objs.size ≤ a) (hn:H a = none):Un fs ex H (upd H a o) h h' where
  keep:=fun b u q _ _ _=>k b u q
  slot:=fun b u q _ _ _=>⟨u.slots,k b u q⟩
  free:=fun b u q n _=>by rw [upd_ne (Nat.ne_of_lt (Nat.lt_of_lt_of_le (Heap.lt_size q) hp))]; exact n
  there:=fun b u q _=>⟨u,k b u q⟩
  tups:=fun b xs q=>by rw [upd_ne (ne_of_none q hn)]; exact q
  frzs:=fun b u xs q=>by rw [upd_ne (ne_of_none q hn)]; exact q
  tbls:=fun b ps q=>⟨#[],by rw [upd_ne (ne_of_none q hn),q]; simp⟩
theorem Un.write (mu:Mut (H x)) (he:e = x∨H e = some (.own x)) (k:∀ b u,b ≠ e→h.get? b = some u→h'.get? b = some u) (heo:∃ u,h'.get? e = some u):Un fs ex H (upd H x o) h h':=by
  have hx:∀ b,H b = none→b ≠ x:=fun b n z=>by subst z; rw [n] at mu; exact mu
  have hb:∀ b,H b = none→b ≠ e:=fun b n z=>by
    subst z
    rcases he with r | r
    · exact hx b n r
    · rw [n] at r; cases r
  have hm:∀ b u,H b = some u→¬ Mut (some u)→b ≠ x:=fun b u q nm z=>by subst z; rw [q] at mu; exact nm mu
  refine ⟨fun b u q n _ _=>k b u (hb b n) q,fun b u q n _ _=>⟨u.slots,k b u (hb b n) q⟩,fun b u q n _=>by rw [upd_ne (hx b n)]; exact n,fun b u q _=>?_,
    fun b xs q=>by rw [upd_ne (hm b _ q fun z=>z)]; exact q,fun b u xs q=>by rw [upd_ne (hm b _ q fun z=>z)]; exact q,fun b ps q=>⟨#[],by rw [upd_ne (hm b _ q fun z=>z),q]; simp⟩⟩
  by_cases hbe:b = e
  · subst hbe; exact heo
  · exact ⟨u,k b u hbe q⟩
end
noncomputable def trk (h:Heap) (H:Hp):List Addr:=(List.range h.objs.size).filter fun a=>(H a).isSome
noncomputable def hidT (h:Heap) (H:Hp):Heap:=PySem.W.hideAll h (trk h H)
theorem hidT_size (h:Heap) (H:Hp):(hidT h H).objs.size = h.objs.size:=PySem.W.hideAll_size _ _
theorem hidT_get {h:Heap} {H:Hp} {b:Addr} {o:Obj} (e:h.get? b = some o) (n:H b = none):(hidT h H).get? b = some o :=
  PySem.W.hideAll_get _ e fun hm=>by
    have q:(H b).isSome = true:=(List.mem_filter.mp hm).2
    rw [n] at q; simp at q
theorem of_hidT {h:Heap} {H:Hp} {b:Addr} {o:Obj} (e:(hidT h H).get? b = some o):h.get? b = some o∧H b = none:=by
  have e':h.get? b = some o:=PySem.W.of_hideAll (trk h H) e
  refine ⟨e',?_⟩
  cases q:H b with
  | none=>rfl
  | some x =>
    have hm:b ∈ trk h H:=List.mem_filter.mpr ⟨List.mem_range.mpr (Heap.lt_size e'),by simp [q]⟩
    have z:(hidT h H).get? b = none:=PySem.W.hideAll_none (trk h H) hm
    rw [z] at e; cases e
end L2
namespace L2
open PySem PySem.Spec PyProof.Rows
structure Mod (K:PySem.W.Frag) (mg:Str→Option Value) (base:Heap):Prop where
  kin:K.In base
  glob:base.Ns mainGlobals mg
  blt:∃ mb,base.Ns builtinsNs mb∧∀ x:Str,x ≠ "__name__"→mb x = bootBuiltins x
  nolimit:base.NoLimit
structure Cx where
  prog:Program
  w:World
  K:PySem.W.Frag
  mg:Str→Option Value
  base:Heap
  A:Around
  N:List Str
  s₀:Shared
  H₀:Hp
  env:Env
  outer:List Env
  stack:List Env
  ex:List Addr
  fn:Str→Bool
  calm:Bool
  pn:List (Addr×Obj)
  xe:Value→Shared→Prop
noncomputable def frs (l:List Env):List Addr:=l.filterMap (·.frame)
noncomputable abbrev Cx.fs (X:Cx):List Addr:=frs X.outer
noncomputable def Vis (sc:Scope) (x:Str):Prop:=sc.names.lookup x = some .local∨sc.names.lookup x = some .cell∨sc.names.lookup x = some .free
noncomputable def Loc (sc:Scope) (x:Str):Prop:=sc.names.lookup x = some .local∨sc.names.lookup x = some .cell
noncomputable def Look (env:Env) (h:Heap) (m:Str→Option Value) (x:Str) (u:Value):Prop :=
  (env.kindOf x = some .local∧m x = some u)∨((env.kindOf x = some .cell∨env.kindOf x = some .free)∧∃ c,env.cells.lookup x = some c∧h.IsCell c (some u))
structure Cx.Ok (X:Cx):Prop where
  mod:Mod X.K X.mg X.base
  kind:X.env.scope.kind = .function
  glob:X.env.globals = mainGlobals
  blt:X.env.builtins = builtinsNs
  above:X.s₀.heap.objs.size ≤ X.env.locals
  inj:∀ x y c,X.env.cells.lookup x = some c→X.env.cells.lookup y = some c→x = y
  has:∀ x,(X.env.kindOf x = some .cell∨X.env.kindOf x = some .free)→∃ c,X.env.cells.lookup x = some c
  cab:∀ x c,X.fn x = true→X.env.cells.lookup x = some c→X.s₀.heap.objs.size ≤ c
  hd:X.calm = true→X.A.handled = none
  frames:X.A.frames = some X.stack
  stk:X.stack = X.outer∨(X.stack = X.env :: X.outer∧X.env.frame = some X.env.locals)
  exf:∀ b ∈ X.ex,b ≠ X.env.locals∧∀ x c,X.env.cells.lookup x = some c→c ≠ b
  bs:∀ b o,X.base.get? b = some o→X.s₀.heap.get? b = some o∧X.H₀ b = none
  bsz:X.base.objs.size ≤ X.s₀.heap.objs.size
  noex:∀ b o,X.base.get? b = some o→b ∉ X.ex
  exfs:∀ b ∈ X.ex,b ∉ X.fs
  funs:X.s₀.heap.FunFrames X.base X.outer
  frf:∀ b ∈ X.fs,X.H₀ b = none
structure Inv (X:Cx) (pins:List (Addr×Obj)) (σ:List (Option V)) (H:Hp) (s:Shared):Prop where
  ok:X.Ok
  os:s.os = X.s₀.os
  bare:AllBare s.gens
  base:Un X.fs X.ex X.H₀ H X.s₀.heap s.heap
  loc:∃ m,s.heap.Ns X.env.locals m∧∀ (i:Nat) (x:Str) (v:V),X.N[i]? = some x→σ[i]? = some (some v)→Vis X.env.scope x→∃ u,RelV v u∧Look X.env s.heap m x u
  cell:∀ x c,X.env.cells.lookup x = some c→∃ v,s.heap.IsCell c v
  free:H X.env.locals = none
  freeC:∀ x c,X.env.cells.lookup x = some c→H c = none
  pin:∀ p ∈ X.pn ++ pins,s.heap.get? p.1 = some p.2∧H p.1 = none∧p.1 ≠ X.env.locals∧p.1 ∉ X.fs∧∀ v,p.2.data ≠ .cell v
  hok:HOk X.prog X.w H s.heap
  len:σ.length = X.N.length
section
variable {X:Cx} {pins:List (Addr×Obj)} {σ:List (Option V)} {H H':Hp} {s:Shared} {h':Heap}
theorem Cx.Ok.nofr (ok:X.Ok) {b:Addr} {o:Obj} (e:X.base.get? b = some o):b ∉ X.fs:=fun hb=>by
  have:=(ok.funs.mem hb).1
  rw [e] at this; cases this
theorem Inv.bs (I:Inv X pins σ H s):∀ b o,X.base.get? b = some o→s.heap.get? b = some o∧H b = none:=fun b o e =>
  ⟨I.base.keep b o (I.ok.bs b o e).1 (I.ok.bs b o e).2 (I.ok.nofr e) (I.ok.noex b o e),I.base.free b o (I.ok.bs b o e).1 (I.ok.bs b o e).2 (I.ok.noex b o e)⟩
theorem Inv.bk (I:Inv X pins σ H s):∀ b o,X.base.get? b = some o→s.heap.get? b = some o:=fun b o e=>(I.bs b o e).1
theorem Inv.mod (I:Inv X pins σ H s):Mod X.K X.mg X.base:=I.ok.mod
theorem Inv.kIn (I:Inv X pins σ H s):X.K.In s.heap:=I.ok.mod.kin.keeps I.bk
theorem Inv.nolimit (I:Inv X pins σ H s):s.heap.NoLimit:=I.ok.mod.nolimit.keeps I.bk
theorem Inv.lt (I:Inv X pins σ H s):X.env.locals < s.heap.objs.size:=let ⟨_,hn,_⟩:=I.loc; hn.lt
theorem Inv.sz (I:Inv X pins σ H s):X.s₀.heap.objs.size ≤ s.heap.objs.size:=Nat.le_trans I.ok.above (Nat.le_of_lt I.lt)
theorem Inv.nofs (I:Inv X pins σ H s) {a:Addr} (h:s.heap.objs.size ≤ a):a ∉ X.fs:=fun hb=>by
  obtain ⟨_,o,ho,_⟩:=I.ok.funs.mem hb
  exact absurd (Nat.lt_of_lt_of_le (Heap.lt_size ho) (Nat.le_trans I.sz h)) (Nat.lt_irrefl _)
theorem Inv.cne (I:Inv X pins σ H s):∀ x c,X.env.cells.lookup x = some c→c ≠ X.env.locals:=fun x c e z=>by
  obtain ⟨v,o,ho,hd⟩:=I.cell x c e
  obtain ⟨m,⟨o',es,ep,ho',hd',_⟩,_⟩:=I.loc
  rw [z,ho'] at ho; cases ho; rw [hd'] at hd; cases hd
theorem Inv.funs (I:Inv X pins σ H s):s.heap.FunFrames X.base X.outer:=by
  have all:∀ (l:List Env),(∀ b ∈ frs l,b ∈ X.fs)→X.s₀.heap.FunFrames X.base l→s.heap.FunFrames X.base l:=by
    intro l
    induction l with
    | nil=>intro _ _; trivial
    | cons env r ih =>
      intro hs hl
      obtain ⟨hk,⟨L,o,hf,hn,ho,hd⟩,hr⟩:=hl
      have hL:L ∈ X.fs:=hs L (by unfold frs; rw [List.filterMap_cons,hf]; exact List.mem_cons_self)
      obtain ⟨sl,e⟩:=I.base.slot L o ho (I.ok.frf L hL) hL fun z=>I.ok.exfs L z hL
      exact ⟨hk,⟨L,_,hf,hn,e,hd⟩,ih (fun b hb=>hs b (by unfold frs; rw [List.filterMap_cons,hf]; exact List.mem_cons_of_mem _ hb)) hr⟩
  exact all X.outer (fun _ hb=>hb) I.ok.funs
theorem Inv.stack (I:Inv X pins σ H s):s.heap.FunFrames X.base X.stack:=by
  rcases I.ok.stk with e | ⟨e,hf⟩
  · rw [e]; exact I.funs
  · rw [e]
    obtain ⟨m,hn,_⟩:=I.loc
    refine .cons (by rw [I.ok.kind]; decide) hf hn ?_ I.funs
    exact Heap.get?_none_of_le (Nat.le_trans I.ok.bsz I.ok.above)
theorem Inv.stkSub (I:Inv X pins σ H s):∀ b ∈ frs X.stack,b ∈ X.env.locals :: X.fs:=fun b hb=>by
  rcases I.ok.stk with e | ⟨e,hf⟩
  · rw [e] at hb; exact List.mem_cons_of_mem _ hb
  · rw [e] at hb
    unfold frs at hb
    rw [List.filterMap_cons,hf] at hb
    exact hb
theorem Inv.stkFree (I:Inv X pins σ H s):∀ b ∈ frs X.stack,H b = none:=fun b hb=>by
  rcases List.mem_cons.mp (I.stkSub b hb) with e | hb
  · rw [e]; exact I.free
  · obtain ⟨_,o,ho,_⟩:=I.ok.funs.mem hb
    exact I.base.free b o ho (I.ok.frf b hb) fun z=>I.ok.exfs b z hb
theorem Inv.step {g':Array GenState} {t':Nat} {d':Drawn} {ch:List Addr} (I:Inv X pins σ H s)
    (hch:∀ b ∈ ch,(b ∈ X.ex∨X.s₀.heap.objs.size ≤ b)∧b ≠ X.env.locals∧(∀ x c,X.env.cells.lookup x = some c→c ≠ b)∧∀ p ∈ X.pn ++ pins,p.1 ≠ b)
    (keep:∀ b o,b ≠ X.env.locals→b ∉ X.fs→b ∉ ch→s.heap.get? b = some o→H b = none→h'.get? b = some o)
    (slot:∀ b o,b ≠ X.env.locals→b ∈ X.fs→b ∉ ch→s.heap.get? b = some o→H b = none→∃ sl,h'.get? b = some { o with slots:=sl }) (free:∀ b o,b ∉ ch→s.heap.get? b = some o→H b = none→H' b = none)
    (there:∀ b o,b ∉ ch→s.heap.get? b = some o→∃ o',h'.get? b = some o')
    (tups:∀ b xs,H b = some (.tup xs)→H' b = some (.tup xs)) (frzs:∀ b o u,H b = some (.frz o u)→H' b = some (.frz o u)) (tbls:∀ b ps,H b = some (.tbl ps)→∃ more,H' b = some (.tbl (ps ++ more)))
    (ns:∀ m,s.heap.Ns X.env.locals m→h'.Ns X.env.locals m) (hok:HOk X.prog X.w H' h') (hg:AllBare g') :
    Inv X pins σ H' { s with heap:=h',gens:=g',drawn:=d',toks:=t' }:=by
  have neL:∀ b o,X.s₀.heap.get? b = some o→b ≠ X.env.locals:=fun b o e=>Nat.ne_of_lt (Nat.lt_of_lt_of_le (Heap.lt_size e) I.ok.above)
  have neC:∀ b o,X.s₀.heap.get? b = some o→b ∉ X.ex→b ∉ ch:=fun b o e hx hb=>by
    rcases (hch b hb).1 with z | z
    · exact hx z
    · exact absurd (Nat.lt_of_lt_of_le (Heap.lt_size e) z) (Nat.lt_irrefl _)
  have cellK:∀ x c,X.env.cells.lookup x = some c→∀ v,s.heap.IsCell c v→h'.IsCell c v:=fun x c e v ⟨o,ho,hd⟩=>by
    have nch:c ∉ ch:=fun z=>(hch c z).2.2.1 x c e rfl
    by_cases hc:c ∈ X.fs
    · obtain ⟨sl,q⟩:=slot c o (I.cne x c e) hc nch ho (I.freeC x c e)
      exact ⟨_,q,hd⟩
    · exact ⟨o,keep c o (I.cne x c e) hc nch ho (I.freeC x c e),hd⟩
  refine ⟨I.ok,I.os,hg,⟨fun b o e n hb hx=>?_,fun b o e n hb hx=>?_,fun b o e n hx=>?_,fun b o e hx=>?_,fun b xs e=>tups b xs (I.base.tups b xs e),fun b o xs e=>frzs b o xs (I.base.frzs b o xs e),fun b ps e=>?_⟩,?_,fun x c e=>?_,?_,fun x c e=>?_,fun p hp=>?_,hok,I.len⟩
  · exact keep b o (neL b o e) hb (neC b o e hx) (I.base.keep b o e n hb hx) (I.base.free b o e n hx)
  · obtain ⟨sl,e1⟩:=I.base.slot b o e n hb hx
    obtain ⟨sl',e2⟩:=slot b _ (neL b o e) hb (neC b o e hx) e1 (I.base.free b o e n hx)
    exact ⟨sl',e2⟩
  · obtain ⟨o',e1⟩:=I.base.there b o e hx
    exact free b o' (neC b o e hx) e1 (I.base.free b o e n hx)
  · obtain ⟨o',e1⟩:=I.base.there b o e hx
    exact there b o' (neC b o e hx) e1
  · obtain ⟨m1,e1⟩:=I.base.tbls b ps e
    obtain ⟨m2,e2⟩:=tbls b _ e1
    exact ⟨m1 ++ m2,by rw [e2,Array.append_assoc]⟩
  · obtain ⟨m,hn,hl⟩:=I.loc
    refine ⟨m,ns m hn,fun i x v e1 e2 e3=>?_⟩
    obtain ⟨u,r,l⟩:=hl i x v e1 e2 e3
    refine ⟨u,r,?_⟩
    rcases l with l | ⟨k,c,e,z⟩
    · exact .inl l
    · exact .inr ⟨k,c,e,cellK x c e _ z⟩
  · obtain ⟨v,z⟩:=I.cell x c e
    exact ⟨v,cellK x c e v z⟩
  · obtain ⟨m,⟨o,_,_,ho,_⟩,_⟩:=I.loc
    exact free _ o (fun z=>(hch _ z).2.1 rfl) ho I.free
  · obtain ⟨v,o,ho,hd⟩:=I.cell x c e
    exact free c o (fun z=>(hch c z).2.2.1 x c e rfl) ho (I.freeC x c e)
  · obtain ⟨e,n,ne,nf,d⟩:=I.pin p hp
    have nch:p.1 ∉ ch:=fun z=>(hch p.1 z).2.2.2 p hp rfl
    exact ⟨keep p.1 p.2 ne nf nch e n,free p.1 p.2 nch e n,ne,nf,d⟩
theorem Inv.un {t':Nat} (I:Inv X pins σ H s) (u:Un X.fs [] H H' s.heap h') (hok:HOk X.prog X.w H' h'):Inv X pins σ H' { s with heap:=h',toks:=t' }:=by
  obtain ⟨m,⟨o,es,ep,ho,r⟩,_⟩:=id I.loc
  obtain ⟨sl,hL⟩:=u.any ho I.free (by simp)
  exact I.step (g':=s.gens) (d':=s.drawn) (ch:=[]) (fun _ z=>nomatch z) (fun b o _ hb _ e n=>u.keep b o e n hb (by simp)) (fun b o _ hb _ e n=>u.slot b o e n hb (by simp)) (fun b o _ e n=>u.free b o e n (by simp)) (fun b o _ e=>u.there b o e (by simp)) u.tups u.frzs u.tbls (fun m' hm=>by
    obtain ⟨o',es',ep',ho',r'⟩:=hm
    rw [ho] at ho'; cases ho'
    exact ⟨_,es',ep',hL,r'⟩) hok I.bare
theorem Inv.call {g':Array GenState} {t':Nat} {d':Drawn} {ch:List Addr} (I:Inv X pins σ H s) (u:Un (frs X.stack) ch H H' s.heap h') (hok:HOk X.prog X.w H' h') (hg:AllBare g')
    (hch:∀ b ∈ ch,(b ∈ X.ex∨X.s₀.heap.objs.size ≤ b)∧b ≠ X.env.locals∧(∀ x c,X.env.cells.lookup x = some c→c ≠ b)∧∀ p ∈ X.pn ++ pins,p.1 ≠ b) :
    Inv X pins σ H' { s with heap:=h',gens:=g',drawn:=d',toks:=t' }:=by
  obtain ⟨m,⟨o,es,ep,ho,r⟩,_⟩:=id I.loc
  obtain ⟨sl,hL⟩:=u.any ho I.free fun z=>(hch _ z).2.1 rfl
  exact I.step (ch:=ch) hch (fun b o hL hb hc e n=>u.keep b o e n (fun z=>(List.mem_cons.mp (I.stkSub b z)).elim hL hb) hc) (fun b o _ _ hc e n=>u.any e n hc) (fun b o hc e n=>u.free b o e n hc) (fun b o hc e=>u.there b o e hc) u.tups u.frzs u.tbls (fun m' hm=>by
    obtain ⟨o',es',ep',ho',r'⟩:=hm
    rw [ho] at ho'; cases ho'
    exact ⟨_,es',ep',hL,r'⟩) hok hg
theorem Inv.turned {t':Nat} {it:Addr} (I:Inv X pins σ H s) (k:∀ b o,b ≠ it→s.heap.get? b = some o→h'.get? b = some o) (hn:H it = none) (hL:it ≠ X.env.locals)
    (h1:it ∈ X.ex∨X.s₀.heap.objs.size ≤ it) (h2:∀ x c,X.env.cells.lookup x = some c→c ≠ it) (h3:∀ p ∈ X.pn ++ pins,p.1 ≠ it):Inv X pins σ H { s with heap:=h',toks:=t' }:=by
  have nit:∀ b u,H b = some u→b ≠ it:=fun b u e z=>by rw [z,hn] at e; cases e
  refine I.step (g':=s.gens) (d':=s.drawn) (ch:=[it]) (fun b hb=>?_) (fun b o _ _ hc e _=>k b o (fun z=>hc (by simp [z])) e) (fun b o _ _ hc e _=>⟨o.slots,k b o (fun z=>hc (by simp [z])) e⟩) (fun _ _ _ _ n=>n)
    (fun b o hc e=>⟨o,k b o (fun z=>hc (by simp [z])) e⟩) (fun _ _ e=>e) (fun _ _ _ e=>e) (fun b ps e=>⟨#[],by rw [e]; simp⟩) (fun m hm=>?_) (fun b u e=>?_) I.bare
  · have e:b = it:=by simpa using hb
    subst e
    exact ⟨h1,hL,h2,h3⟩
  · obtain ⟨o,es,ep,ho,r⟩:=hm
    exact ⟨o,es,ep,k _ o (Ne.symm hL) ho,r⟩
  · refine (I.hok b u e).stay (fun c v hc q=>k c v ?_ q) (fun _ q=>q) fun _ _ q=>q
    rcases hc with z | z
    · rw [z]; exact nit b u e
    · exact nit c _ z
theorem Inv.tok (I:Inv X pins σ H s) (t:Nat):Inv X pins σ H { s with toks:=t }:=I.un (h':=s.heap) (t':=t) Un.refl I.hok
theorem Inv.kept {t':Nat} (I:Inv X pins σ H s) (k:∀ b u,s.heap.get? b = some u→h'.get? b = some u):Inv X pins σ H { s with heap:=h',toks:=t' }:=I.un (Un.kept k) (I.hok.kept k)
theorem Inv.laid {a:Addr} {o:HO} {t':Nat} (I:Inv X pins σ H s) (k:∀ b u,s.heap.get? b = some u→h'.get? b = some u) (hp:s.heap.objs.size ≤ a) (new:ObjOk X.prog X.w (upd H a o) h' a o) :
    Inv X pins σ (upd H a o) { s with heap:=h',toks:=t' }:=I.un (Un.laid k hp (I.hok.fresh hp)) (I.hok.laid k hp new)
theorem Inv.write {x e:Addr} {o:HO} {t':Nat} (I:Inv X pins σ H s) (mu:Mut (H x)) (he:e = x∨H e = some (.own x)) (k:∀ b u,b ≠ e→s.heap.get? b = some u→h'.get? b = some u) (heo:∃ u,h'.get? e = some u)
    (new:ObjOk X.prog X.w (upd H x o) h' x o):Inv X pins σ (upd H x o) { s with heap:=h',toks:=t' }:=I.un (Un.write mu he k heo) (I.hok.write mu he k heo new)
theorem Inv.pins_of {pins':List (Addr×Obj)} (I:Inv X pins σ H s) (h:∀ p ∈ pins',s.heap.get? p.1 = some p.2∧H p.1 = none∧p.1 ≠ X.env.locals∧p.1 ∉ X.fs∧∀ v,p.2.data ≠ .cell v):Inv X pins' σ H s :=
  ⟨I.ok,I.os,I.bare,I.base,I.loc,I.cell,I.free,I.freeC,fun p hp=>(List.mem_append.mp hp).elim (fun z=>I.pin p (List.mem_append_left _ z)) (h p),I.hok,I.len⟩
theorem nodup_ix {N:List Str} (hN:N.Nodup) {i j:Nat} {x:Str} (a:N[i]? = some x) (b:N[j]? = some x):i = j:=by
  obtain ⟨h1,e1⟩:=List.getElem?_eq_some_iff.mp a
  obtain ⟨h2,e2⟩:=List.getElem?_eq_some_iff.mp b
  exact (List.getElem_inj hN).mp (e1.trans e2.symm)
theorem store_ok2 {M:Model} {A:Around} {E:Value→Shared→Prop} {i:Nat} {x:Str} {v:V} {u:Value} {Q:Unit→Shared→Prop} (I:Inv X pins σ H s) (hN:X.N.Nodup) (hi:X.N[i]? = some x) (hx:Loc X.env.scope x) (r:RelV v u)
    (h:∀ s',Inv X pins (σ.set i (some v)) H s'→(∃ a,Heap.SameBut a s.heap s'.heap∧(a = X.env.locals∨X.env.cells.lookup x = some a))→Q () s') (hf:X.fn x = true∨X.env.scope.names.lookup x = some .local:=by first | exact .inl rfl | exact .inr rfl | assumption):wpAny M A (storeName X.env x u) Q E s:=by
  obtain ⟨m,hn,hl⟩:=id I.loc
  have hcls:(X.env.scope.kind == .class || (X.env.scope.kind == .module && X.env.locals != X.env.globals)) = false:=by rw [I.ok.kind]; rfl
  have hiσ:i < σ.length:=by rw [I.len]; exact (List.getElem?_eq_some_iff.mp hi).1
  have cne:=I.cne
  have tracked:∀ {a:Addr} {h':Heap},(∃ o,s.heap.get? a = some o∧H a = none)→Heap.SameBut a s.heap h'→HOk X.prog X.w H h':=fun {a h'} ha hs b ob e=>by
    obtain ⟨_,_,hfree⟩:=ha
    refine (I.hok b ob e).stay (fun c w' hc q=>(hs.2 c ?_).trans q) (fun _ q=>q) fun _ _ q=>q
    rintro rfl
    rcases hc with rfl | hc
    · rw [hfree] at e; cases e
    · rw [hfree] at hc; cases hc
  rcases hx with hk | hk
  · refine wpAny_storeName_local hk hn (fun h' hn' hs=>?_) hcls
    obtain ⟨oL,_,_,hoL,_⟩:=id hn
    refine h _ ⟨I.ok,I.os,I.bare,⟨fun b o e n hb hx=>?_,fun b o e n hb hx=>?_,I.base.free,fun b o e hx=>?_,I.base.tups,I.base.frzs,I.base.tbls⟩,⟨_,hn',fun j y v' e1 e2 e3=>?_⟩,fun y c e=>?_,I.free,I.freeC,fun p hp=>?_,tracked ⟨oL,hoL,I.free⟩ hs,by simpa using I.len⟩ ⟨_,hs,.inl rfl⟩
    · exact (hs.2 b (Nat.ne_of_lt (Nat.lt_of_lt_of_le (Heap.lt_size e) I.ok.above))).trans (I.base.keep b o e n hb hx)
    · obtain ⟨sl,e1⟩:=I.base.slot b o e n hb hx
      exact ⟨sl,(hs.2 b (Nat.ne_of_lt (Nat.lt_of_lt_of_le (Heap.lt_size e) I.ok.above))).trans e1⟩
    · obtain ⟨o',e1⟩:=I.base.there b o e hx
      exact ⟨o',(hs.2 b (Nat.ne_of_lt (Nat.lt_of_lt_of_le (Heap.lt_size e) I.ok.above))).trans e1⟩
    · by_cases hj:j = i
      · subst hj
        rw [hi] at e1; cases e1
        rw [List.getElem?_set_self hiσ] at e2
        cases e2
        exact ⟨u,r,.inl ⟨hk,by simp⟩⟩
      · rw [List.getElem?_set_ne (Ne.symm hj)] at e2
        obtain ⟨u',r',q⟩:=hl j y v' e1 e2 e3
        refine ⟨u',r',?_⟩
        rcases q with ⟨k,e⟩ | ⟨k,c,e,z⟩
        · refine .inl ⟨k,?_⟩
          have:y ≠ x:=fun e=>hj (nodup_ix hN e1 (e ▸ hi))
          simp [this,e]
        · exact .inr ⟨k,c,e,z.sameBut hs (cne y c e)⟩
    · obtain ⟨w',z⟩:=I.cell y c e
      exact ⟨w',z.sameBut hs (cne y c e)⟩
    · obtain ⟨e,n,ne,nf,d⟩:=I.pin p hp
      exact ⟨(hs.2 p.1 ne).trans e,n,ne,nf,d⟩
  · have hfn:X.fn x = true:=by
      rcases hf with z | z
      · exact z
      · rw [z] at hk; cases hk
    obtain ⟨c,hc⟩:=I.ok.has x (.inl hk)
    obtain ⟨w',z⟩:=I.cell x c hc
    refine wpAny_storeName_cell I.ok.kind hk hc z (fun h' hc' hs=>?_)
    obtain ⟨oc,hoc,hocd⟩:=id z
    refine h { s with heap:=h' } ⟨I.ok,I.os,I.bare,⟨fun b o e n hb hx=>?_,fun b o e n hb hx=>?_,I.base.free,fun b o e hx=>?_,I.base.tups,I.base.frzs,I.base.tbls⟩,⟨m,hn.sameBut hs (Ne.symm (cne x c hc)),fun j y v' e1 e2 e3=>?_⟩,fun y c' e=>?_,I.free,I.freeC,fun p hp=>?_,tracked ⟨oc,hoc,I.freeC x c hc⟩ hs,by simpa using I.len⟩ ⟨c,hs,.inr hc⟩
    · exact (hs.2 b (Nat.ne_of_lt (Nat.lt_of_lt_of_le (Heap.lt_size e) (I.ok.cab x c hfn hc)))).trans (I.base.keep b o e n hb hx)
    · obtain ⟨sl,e1⟩:=I.base.slot b o e n hb hx
      exact ⟨sl,(hs.2 b (Nat.ne_of_lt (Nat.lt_of_lt_of_le (Heap.lt_size e) (I.ok.cab x c hfn hc)))).trans e1⟩
    · obtain ⟨o',e1⟩:=I.base.there b o e hx
      exact ⟨o',(hs.2 b (Nat.ne_of_lt (Nat.lt_of_lt_of_le (Heap.lt_size e) (I.ok.cab x c hfn hc)))).trans e1⟩
    · by_cases hj:j = i
      · subst hj
        rw [hi] at e1; cases e1
        rw [List.getElem?_set_self hiσ] at e2
        cases e2
        exact ⟨u,r,.inr ⟨.inl hk,c,hc,hc'⟩⟩
      · rw [List.getElem?_set_ne (Ne.symm hj)] at e2
        obtain ⟨u',r',q⟩:=hl j y v' e1 e2 e3
        refine ⟨u',r',?_⟩
        rcases q with q | ⟨k,c',e,z'⟩
        · exact .inl q
        · refine .inr ⟨k,c',e,z'.sameBut hs ?_⟩
          rintro rfl
          exact hj (nodup_ix hN e1 (I.ok.inj _ _ _ e hc ▸ hi))
    · by_cases hcc:c' = c
      · subst hcc; exact ⟨_,hc'⟩
      · obtain ⟨w2,z2⟩:=I.cell y c' e
        exact ⟨w2,z2.sameBut hs hcc⟩
    · obtain ⟨e,n,ne,nf,d⟩:=I.pin p hp
      refine ⟨(hs.2 p.1 ?_).trans e,n,ne,nf,d⟩
      intro q
      rw [q,hoc] at e
      have q':oc = p.2:=Option.some.inj e
      exact d w' (by rw [← q']; exact hocd)
theorem store_ok {M:Model} {A:Around} {E:Value→Shared→Prop} {i:Nat} {x:Str} {v:V} {u:Value} {Q:Unit→Shared→Prop} (I:Inv X pins σ H s) (hN:X.N.Nodup) (hi:X.N[i]? = some x) (hx:Loc X.env.scope x) (r:RelV v u)
    (h:∀ s',Inv X pins (σ.set i (some v)) H s'→Q () s') (hf:X.fn x = true∨X.env.scope.names.lookup x = some .local:=by first | exact .inl rfl | exact .inr rfl | assumption):wpAny M A (storeName X.env x u) Q E s :=
  store_ok2 I hN hi hx r (fun s' I' _=>h s' I') hf
end
noncomputable abbrev XK:=Value→Option Addr→Hp→Prop
noncomputable abbrev St:=List (Option V)
noncomputable abbrev VK:=V→Hp→Prop
noncomputable abbrev TE:=St→Hp→VK→Prop
noncomputable abbrev TT:=St→Hp→(Bool→Hp→Prop)→Prop
noncomputable abbrev TA:=St→Hp→(List V→Hp→Prop)→Prop
structure Ends where
  nx:St→Hp→Prop
  rt:VK
  bk:St→Hp→Prop:=fun _ _=>False
  ct:St→Hp→Prop:=fun _ _=>False
noncomputable abbrev TS:=Ends→St→Hp→Prop
noncomputable def EP (X:Cx) (pins:List (Addr×Obj)) (σ:St) (Q:VK) (u:Value) (s':Shared):Prop:=∃ v H',Inv X pins σ H' s'∧RelV v u∧Q v H'
noncomputable def TP (X:Cx) (pins:List (Addr×Obj)) (σ:St) (Q:Bool→Hp→Prop) (b:Bool) (s':Shared):Prop:=∃ H',Inv X pins σ H' s'∧Q b H'
noncomputable def AP (X:Cx) (pins:List (Addr×Obj)) (σ:St) (Q:List V→Hp→Prop) (us:List Value) (s':Shared):Prop:=∃ vs H',Inv X pins σ H' s'∧Vals vs us∧Q vs H'
noncomputable def SP (X:Cx) (pins:List (Addr×Obj)) (D:Ends) (f:Flow) (s':Shared):Prop :=
  match f with
  | .next=>∃ σ' H',Inv X pins σ' H' s'∧D.nx σ' H'
  | .brk=>∃ σ' H',Inv X pins σ' H' s'∧D.bk σ' H'
  | .cont=>∃ σ' H',Inv X pins σ' H' s'∧D.ct σ' H'
  | .ret u=>∃ v σ' H',Inv X pins σ' H' s'∧RelV v u∧D.rt v H'
noncomputable def PE (X:Cx) (e:Expr) (t:TE):Prop :=
  ∀ (pins:List (Addr×Obj)) (s:Shared) (σ:St) (H:Hp) (Q:VK),Inv X pins σ H s→t σ H Q→wpAny (model X.prog X.w) X.A (eval e X.env) (EP X pins σ Q) X.xe s
noncomputable def PT (X:Cx) (e:Expr) (t:TT):Prop :=
  ∀ (pins:List (Addr×Obj)) (s:Shared) (σ:St) (H:Hp) (Q:Bool→Hp→Prop),Inv X pins σ H s→t σ H Q→wpAny (model X.prog X.w) X.A (isTrue e X.env (eval e X.env)) (TP X pins σ Q) X.xe s
noncomputable def PW (X:Cx) (e:Expr) (t:TT):Prop :=
  ∀ (whole:Sem Value) (pins:List (Addr×Obj)) (s:Shared) (σ:St) (H:Hp) (Q:Bool→Hp→Prop),Inv X pins σ H s→t σ H Q→wpAny (model X.prog X.w) X.A (isTrue e X.env whole) (TP X pins σ Q) X.xe s
theorem PW.pt {X:Cx} {e:Expr} {t:TT} (h:PW X e t):PT X e t:=h _
noncomputable def PA (X:Cx) (es:List Expr) (t:TA):Prop :=
  ∀ (pos:Pos) (pins:List (Addr×Obj)) (s:Shared) (σ:St) (H:Hp) (Q:List V→Hp→Prop),Inv X pins σ H s→t σ H Q→wpAny (model X.prog X.w) X.A (spliced (backTo pos (starEach es X.env))) (AP X pins σ Q) X.xe s
noncomputable def PS (X:Cx) (st:Stmt) (t:TS):Prop :=
  ∀ (pins:List (Addr×Obj)) (s:Shared) (σ:St) (H:Hp) (D:Ends),Inv X pins σ H s→t D σ H→wpAny (model X.prog X.w) X.A (exec st X.env) (SP X pins D) X.xe s
noncomputable def PSs (X:Cx) (st:List Stmt) (t:TS):Prop :=
  ∀ (pins:List (Addr×Obj)) (s:Shared) (σ:St) (H:Hp) (D:Ends),Inv X pins σ H s→t D σ H→wpAny (model X.prog X.w) X.A (execs st X.env) (SP X pins D) X.xe s
theorem thn {α:Type} {t:Sem α} {Q Q':α→Shared→Prop} {M:Model} {A:Around} {E:Value→Shared→Prop} {s:Shared} (h:wpAny M A t Q E s) (hQ:∀ a s,Q a s→Q' a s):wpAny M A t Q' E s:=wpAny_mono h hQ fun _ _ x=>x
end L2
namespace L2
open PySem PySem.Spec PyProof.Rows
section
variable {X:Cx}
theorem bin {a b:Expr} {ta tb:TE} (ha:PE X a ta) (hb:PE X b tb) {pins:List (Addr×Obj)} {s:Shared} {σ:St} {H:Hp} {R:V→V→Hp→Prop} (I:Inv X pins σ H s) (h:ta σ H fun x H1=>tb σ H1 fun y H2=>R x y H2)
    {α:Type} {Q:α→Shared→Prop} {f:Value→Value→Sem α}
    (hf:∀ v u s2 x y H2,Inv X pins σ H2 s2→RelV x v→RelV y u→R x y H2→wpAny (model X.prog X.w) X.A (f v u) Q X.xe s2) :
    wpAny (model X.prog X.w) X.A (eval a X.env) (fun v s₁=>wpAny (model X.prog X.w) X.A (eval b X.env) (fun u s₂=>wpAny (model X.prog X.w) X.A (f v u) Q X.xe s₂) X.xe s₁) X.xe s:=by
  refine thn (ha pins s σ H _ I h) fun v s1 ⟨x,H1,I1,r1,q1⟩=>?_
  refine thn (hb pins s1 σ H1 _ I1 q1) fun u s2 ⟨y,H2,I2,r2,q2⟩=>?_
  exact hf v u s2 x y H2 I2 r1 r2 q2
noncomputable def tVar (i:Nat):TE:=fun σ H Q=>∃ v,σ[i]? = some (some v)∧Q v H
noncomputable def tC (v:V):TE:=fun _ H Q=>Q v H
theorem pe_var {i:Nat} {x:Str} {pos:Pos} (hN:X.N[i]? = some x) (hv:Vis X.env.scope x) (hd:(x == ("__debug__":Str)) = false:=by decide) (hcd:(x == ("__classdict__":Str)) = false:=by decide):PE X (.Name x pos) (tVar i):=by
  intro pins s σ H Q I h
  obtain ⟨v,e,h⟩:=h
  obtain ⟨m,hn,hl⟩:=I.loc
  obtain ⟨u,r,l⟩:=hl i x v hN e hv
  have fin:EP X pins σ Q u s:=⟨v,H,I,r,h⟩
  rcases l with ⟨hk,hm⟩ | ⟨hk,c,hc,hcell⟩
  · exact wpAny_Name (wpAny_loadName_local I.ok.kind hk hn hm fin) hd
  · rcases hk with hk | hk
    · exact wpAny_Name (wpAny_loadName_cell I.ok.kind hk hc hcell fin) hd
    · exact wpAny_Name (wpAny_loadName_free I.ok.kind hk hc hcell fin hcd) hd
theorem pe_int {i j pos}:PE X (.Constant (.int i) j pos) (tC (.int i)):=fun _ _ _ H _ I h=>wpAny_Constant_int ⟨.int i,H,I.tok _,⟨_,rfl⟩,h⟩
theorem pe_bl {b j pos}:PE X (.Constant (.bool b) j pos) (tC (.bl b)):=fun _ _ _ H _ I h=>Constant_bool ⟨.bl b,H,I,rfl,h⟩
theorem pe_non {j pos}:PE X (.Constant .none j pos) (tC .non):=fun _ _ _ H _ I h=>Constant_none ⟨.non,H,I,rfl,h⟩
theorem pe_str {x j pos}:PE X (.Constant (.str x) j pos) (tC (.str x)):=fun _ _ _ H _ I h=>Calls.Constant_str ⟨.str x,H,I.tok _,⟨_,rfl⟩,h⟩
noncomputable def Gl (X:Cx) (x:Str):Prop:=X.env.kindOf x = some .globalImplicit
theorem ld_glob {E:Value→Shared→Prop} {pins:List (Addr×Obj)} {s:Shared} {σ:St} {H:Hp} {x:Str} {u:Value} {pos:Pos} {Q:Value→Shared→Prop} (I:Inv X pins σ H s) (hg:Gl X x) (hm:X.mg x = some u) (h:Q u s)
    (hd:(x == ("__debug__":Str)) = false:=by decide):wpAny (model X.prog X.w) X.A (eval (.Name x pos) X.env) Q E s :=
  Calls.Name_function_global I.ok.kind hg (Calls.loadGlobal_global (by rw [I.ok.glob]; exact I.mod.glob.keeps I.bk) hm h) hd
theorem ld_blt {E:Value→Shared→Prop} {pins:List (Addr×Obj)} {s:Shared} {σ:St} {H:Hp} {x:Str} {u:Value} {pos:Pos} {Q:Value→Shared→Prop} (I:Inv X pins σ H s) (hg:Gl X x) (hm:X.mg x = none) (hv:bootBuiltins x = some u) (h:Q u s)
    (hn:x ≠ "__name__":=by decide) (hd:(x == ("__debug__":Str)) = false:=by decide):wpAny (model X.prog X.w) X.A (eval (.Name x pos) X.env) Q E s:=by
  obtain ⟨mb,h1,h2⟩:=I.mod.blt
  exact Calls.Name_function_global I.ok.kind hg (Calls.loadGlobal_builtin (by rw [I.ok.glob]; exact I.mod.glob.keeps I.bk) hm (by rw [I.ok.blt]; exact h1.keeps I.bk) ((h2 x hn).trans hv) h) hd
theorem pe_bltn {x:Str} {v:V} {u:Value} {pos:Pos} (hg:Gl X x) (hm:X.mg x = none) (hv:bootBuiltins x = some u) (r:RelV v u) (hn:x ≠ "__name__":=by decide) (hd:(x == ("__debug__":Str)) = false:=by decide):PE X (.Name x pos) (tC v) :=
  fun _ _ _ H _ I h=>ld_blt I hg hm hv ⟨v,H,I,r,h⟩ hn hd
variable {a b:Expr} {ta tb:TE} {pos:Pos}
noncomputable def PC (X:Cx) (op:CmpOp) (a b:Expr) (t:TE):Prop :=
  ∀ (pins:List (Addr×Obj)) (s:Shared) (σ:St) (H:Hp) (Q:VK),Inv X pins σ H s→t σ H Q →
    wpAny (model X.prog X.w) X.A (eval a X.env) (fun v s₁=>wpAny (model X.prog X.w) X.A (eval b X.env) (fun u s₂=>wpAny (model X.prog X.w) X.A (compareOp op v u) (EP X pins σ Q) X.xe s₂) X.xe s₁) X.xe s
noncomputable def tB (t:TE):TT:=fun σ H Q=>t σ H fun x H1=>∃ c,x = .bl c∧Q c H1
theorem pe_cmp {op:CmpOp} {t:TE} (h:PC X op a b t) (h1:behindInMarks op b = false:=by first | exact nobehind _ (by decide) (by decide) | rfl):PE X (.Compare a [op] [b] pos) t:=fun pins s σ H Q I hw=>wpAny_Compare1 (h pins s σ H Q I hw) h1
theorem pt_cmp {op:CmpOp} {t:TE} (h:PC X op a b t) (h1:behindInMarks op b = false:=by first | exact nobehind _ (by decide) (by decide) | rfl):PT X (.Compare a [op] [b] pos) (tB t):=by
  intro pins s σ H Q I hw
  refine wpAny_isTrue_Compare1 (thn (h pins s σ H _ I hw) fun v s1 h1=>thn h1 fun u s2 h2=>thn h2 fun c s3 ⟨x,H1,I1,r1,q1⟩=>?_) h1
  obtain ⟨d,rfl,q⟩:=q1
  cases r1
  exact wpAny_truthy_bool ⟨H1,I1,q⟩
theorem pt_val {e:Expr} {t:TE} (h:PE X e t) (he:∀ whole,isTrue e X.env whole = (do let v ← whole; standAt e.pos; holding [v] (truthy v)):=by intro _; rfl):PT X e (tB t):=by
  intro pins s σ H Q I hw
  refine isTrue_plain (thn (h pins s σ H _ I hw) fun v s1 ⟨x,H1,I1,r1,q1⟩=>?_) (he _)
  obtain ⟨d,rfl,q⟩:=q1
  cases r1
  exact wpAny_truthy_bool ⟨H1,I1,q⟩
variable {tA tB':TT} {rest:List Expr}
noncomputable def tAnd (t u:TT):TT:=fun σ H Q=>t σ H fun c H1=>if c = true then u σ H1 Q else Q false H1
noncomputable def tOr (t u:TT):TT:=fun σ H Q=>t σ H fun c H1=>if c = true then Q true H1 else u σ H1 Q
noncomputable def tNot (t:TT):TT:=fun σ H Q=>t σ H fun c H1=>Q (!c) H1
theorem pw_and1 (ha:PT X a tA):PW X (.BoolOp .And [a] pos) tA:=by
  intro wh pins s σ H Q I h
  refine isTrue_and (thn (ha pins s σ H Q I h) fun c s1 e=>?_)
  cases c with
  | true=>exact isTrue_and_nil e
  | false=>exact e
theorem pw_or1 (ha:PT X a tA):PW X (.BoolOp .Or [a] pos) tA:=by
  intro wh pins s σ H Q I h
  refine isTrue_or (thn (ha pins s σ H Q I h) fun c s1 e=>?_)
  cases c with
  | false=>exact isTrue_or_nil e
  | true=>exact e
theorem pw_and (ha:PT X a tA) (hb:PW X (.BoolOp .And (b :: rest) pos) tB'):PW X (.BoolOp .And (a :: b :: rest) pos) (tAnd tA tB'):=by
  intro wh pins s σ H Q I h
  refine isTrue_and (thn (ha pins s σ H _ I h) fun c s1 ⟨H1,I1,q1⟩=>?_)
  cases c with
  | true=>exact hb wh pins s1 σ H1 Q I1 q1
  | false=>exact ⟨H1,I1,q1⟩
theorem pw_or (ha:PT X a tA) (hb:PW X (.BoolOp .Or (b :: rest) pos) tB'):PW X (.BoolOp .Or (a :: b :: rest) pos) (tOr tA tB'):=by
  intro wh pins s σ H Q I h
  refine isTrue_or (thn (ha pins s σ H _ I h) fun c s1 ⟨H1,I1,q1⟩=>?_)
  cases c with
  | true=>exact ⟨H1,I1,q1⟩
  | false=>exact hb wh pins s1 σ H1 Q I1 q1
theorem pt_not (ha:PT X a tA):PT X (.UnaryOp .Not a pos) (tNot tA):=by
  intro pins s σ H Q I h
  exact isTrue_not (ha pins s σ H (fun c H1=>Q (!c) H1) I h)
noncomputable def tAndV (ta tb:TE):TE:=fun σ H Q=>ta σ H fun x H1=>∃ c,x = .bl c∧if c = true then tb σ H1 Q else Q (.bl false) H1
theorem pe_one {op} {t:TE} (h:PE X a t):PE X (.BoolOp op [a] pos) t:=fun pins s σ H Q I hw=>BoolOp_one (h pins s σ H Q I hw)
theorem pe_and (ha:PE X a ta) (hb:PE X (.BoolOp .And (b :: rest) pos) tb):PE X (.BoolOp .And (a :: b :: rest) pos) (tAndV ta tb):=by
  intro pins s σ H Q I h
  refine BoolOp_and (thn (ha pins s σ H _ I h) fun v s1 ⟨x,H1,I1,r1,q1⟩=>?_)
  obtain ⟨c,rfl,q1⟩:=q1
  cases r1
  refine wpAny_truthy_bool ?_
  cases c with
  | true=>exact hb pins s1 σ H1 Q I1 q1
  | false=>exact ⟨.bl false,H1,I1,rfl,q1⟩
end
end L2
namespace L2
open PySem PySem.Spec PyProof.Rows
noncomputable def SqL (K:PySem.W.Frag) (H:Hp) (a:Addr) (xs:List V):Prop :=
  Rd H a (.lst xs) ∨
    ∃ (o:Obj) (its:Array Value) (n:Nat),K.lookup a = some o∧o.cls = .type "list"∧o.dict = none∧o.data = .seq its n∧its.size ≤ sizeLine∧Vals xs its.toList
noncomputable def SqT (K:PySem.W.Frag) (H:Hp) (a:Addr) (xs:List V):Prop :=
  Rd H a (.tup xs) ∨
    ∃ (o:Obj) (its:Array Value) (n:Nat),K.lookup a = some o∧o.cls = .type "tuple"∧o.data = .seq its n∧its.size ≤ sizeLine∧Vals xs its.toList
noncomputable def absV:Value→Option V
  | .none=>some .non
  | .bool b=>some (.bl b)
  | .int i _=>some (.int i)
  | .str x _=>some (.str x)
  | .bytes b _=>some (.byt b)
  | .float b _=>some (.flt b)
  | .ref a=>some (.ref a)
  | .type n=>some (.ty n)
  | _=>none
theorem RelV.abs {x:V} {u:Value} (r:RelV x u):absV u = some x:=by
  cases x with
  | non=>cases r; rfl
  | bl _=>cases r; rfl
  | int _=>obtain ⟨t,rfl⟩:=r; rfl
  | str _=>obtain ⟨t,rfl⟩:=r; rfl
  | byt _=>obtain ⟨t,rfl⟩:=r; rfl
  | flt _=>obtain ⟨t,rfl⟩:=r; rfl
  | ref _=>cases r; rfl
  | ty _=>cases r; rfl
theorem RelV.inj {x y:V} {u:Value} (r:RelV x u) (q:RelV y u):x = y:=Option.some.inj (r.abs.symm.trans q.abs)
theorem Vals.inj:∀ {xs ys:List V} {us:List Value},Vals xs us→Vals ys us→xs = ys
  | _,_,_,.nil,.nil=>rfl
  | _,_,_,.cons r t,.cons r' t'=>by rw [r.inj r',Vals.inj t t']
section
variable {X:Cx} {pins:List (Addr×Obj)} {σ:St} {H:Hp} {s:Shared} {a:Addr} {xs ys:List V}
theorem SqL.of {K:PySem.W.Frag} (h:H a = some (.lst xs)):SqL K H a xs:=.inl (.inl h)
theorem SqT.of {K:PySem.W.Frag} (h:H a = some (.tup xs)):SqT K H a xs:=.inl (.inl h)
theorem Inv.list (I:Inv X pins σ H s) (h:SqL X.K H a xs):∃ its:List Value,Vals xs its∧PlainL s.heap a its.toArray∧xs.length ≤ sizeLine:=by
  rcases h with h | ⟨o,its,n,hk,hc,hd,hs,hz,r⟩
  · obtain ⟨z,its,n,r,e⟩:=h.ok I.hok
    exact ⟨its,r,⟨_,n,e,rfl,rfl,rfl⟩,z⟩
  · refine ⟨its.toList,r,⟨o,n,I.kIn a o hk,hc,hd,by simpa using hs⟩,?_⟩
    have e:=r.length
    simp only [Array.length_toList] at e
    lia
theorem Inv.tuple (I:Inv X pins σ H s) (h:SqT X.K H a xs):∃ its:List Value,Vals xs its∧IsTup s.heap a its.toArray∧xs.length ≤ sizeLine:=by
  rcases h with h | ⟨o,its,n,hk,hc,hs,hz,r⟩
  · obtain ⟨z,its,r,p⟩:=h.ok I.hok
    exact ⟨its,r,p,z⟩
  · refine ⟨its.toList,r,⟨o,I.kIn a o hk,hc,n,by simpa using hs⟩,?_⟩
    have e:=r.length
    simp only [Array.length_toList] at e
    lia
theorem Inv.list_inj (I:Inv X pins σ H s) (h:SqL X.K H a xs) (h':SqL X.K H a ys):xs = ys:=by
  obtain ⟨its,r,⟨o,n,e,_,_,d⟩,_⟩:=I.list h
  obtain ⟨its',r',⟨o',n',e',_,_,d'⟩,_⟩:=I.list h'
  rw [e] at e'; cases e'
  rw [d] at d'
  injection d' with d1 _
  have:its = its':=by simpa using congrArg Array.toList d1
  subst this
  exact r.inj r'
theorem Inv.tuple_inj (I:Inv X pins σ H s) (h:SqT X.K H a xs) (h':SqT X.K H a ys):xs = ys:=by
  obtain ⟨its,r,⟨o,e,_,n,d⟩,_⟩:=I.tuple h
  obtain ⟨its',r',⟨o',e',_,n',d'⟩,_⟩:=I.tuple h'
  rw [e] at e'; cases e'
  rw [d] at d'
  injection d' with d1 _
  have:its = its':=by simpa using congrArg Array.toList d1
  subst this
  exact r.inj r'
end
noncomputable abbrev Cx.wish (X:Cx) (E:Value→Shared→Prop):Cx:={ X with xe:=E }
noncomputable abbrev Cx.nox (X:Cx):Cx:=X.wish fun _ _=>False
theorem Cx.Ok.wish {X:Cx} (ok:X.Ok) (E:Value→Shared→Prop):(X.wish E).Ok :=
  ⟨ok.mod,ok.kind,ok.glob,ok.blt,ok.above,ok.inj,ok.has,ok.cab,ok.hd,ok.frames,ok.stk,ok.exf,ok.bs,ok.bsz,ok.noex,ok.exfs,ok.funs,ok.frf⟩
theorem Cx.Ok.unwish {X:Cx} {E:Value→Shared→Prop} (ok:(X.wish E).Ok):X.Ok :=
  ⟨ok.mod,ok.kind,ok.glob,ok.blt,ok.above,ok.inj,ok.has,ok.cab,ok.hd,ok.frames,ok.stk,ok.exf,ok.bs,ok.bsz,ok.noex,ok.exfs,ok.funs,ok.frf⟩
section
variable {X:Cx} {pins:List (Addr×Obj)} {σ:St} {H:Hp} {s:Shared} {E:Value→Shared→Prop}
theorem Inv.wish (I:Inv X pins σ H s) (E:Value→Shared→Prop):Inv (X.wish E) pins σ H s:=⟨I.ok.wish E,I.os,I.bare,I.base,I.loc,I.cell,I.free,I.freeC,I.pin,I.hok,I.len⟩
theorem Inv.unwish (I:Inv (X.wish E) pins σ H s):Inv X pins σ H s:=⟨I.ok.unwish,I.os,I.bare,I.base,I.loc,I.cell,I.free,I.freeC,I.pin,I.hok,I.len⟩
theorem SP.unwish {D:Ends} {f:Flow} {s':Shared} (h:SP (X.wish E) pins D f s'):SP X pins D f s':=by
  cases f with
  | next=>obtain ⟨σ',H',I,q⟩:=h; exact ⟨σ',H',I.unwish,q⟩
  | brk=>obtain ⟨σ',H',I,q⟩:=h; exact ⟨σ',H',I.unwish,q⟩
  | cont=>obtain ⟨σ',H',I,q⟩:=h; exact ⟨σ',H',I.unwish,q⟩
  | ret u=>obtain ⟨v,σ',H',I,r,q⟩:=h; exact ⟨v,σ',H',I.unwish,r,q⟩
theorem PSs.nox {st:List Stmt} {t:TS} (h:PSs X.nox st t):PSs X st t:=fun pins s σ H D I hw =>
  wpAny_mono (h pins s σ H D (I.wish _) hw) (fun _ _ q=>q.unwish) fun _ _ z=>False.elim z
end
section
variable {X:Cx} {st:Stmt} {rest:List Stmt} {t u:TS} {e:Expr} {te:TE} {pos:Pos}
noncomputable def tNext:TS:=fun D σ H=>D.nx σ H
noncomputable def tSeq (t u:TS):TS:=fun D σ H=>t { D with nx:=u D } σ H
theorem pss_nil:PSs X [] tNext:=fun _ _ σ H _ I h=>wpAny_execs_nil ⟨σ,H,I,h⟩
theorem pss_cons (h1:PS X st t) (h2:PSs X rest u):PSs X (st :: rest) (tSeq t u):=by
  intro pins s σ H D I h
  refine wpAny_execs_cons (thn (h1 pins s σ H { D with nx:=u D } I h) fun f s1 q=>?_)
  cases f with
  | next =>
    obtain ⟨σ',H',I',q⟩:=q
    exact h2 pins s1 σ' H' D I' q
  | ret v=>exact q
  | brk=>exact q
  | cont=>exact q
theorem pss_one (h1:PS X st t):PSs X [st] t:=by
  intro pins s σ H D I h
  refine wpAny_execs_cons (thn (h1 pins s σ H D I h) fun f s1 q=>?_)
  cases f with
  | next=>exact wpAny_execs_nil q
  | ret v=>exact q
  | brk=>exact q
  | cont=>exact q
theorem Inv.quiet {pins:List (Addr×Obj)} {σ:St} {H:Hp} {s:Shared} (I:Inv X pins σ H s):interactive X.env = false:=by simp [interactive,I.ok.kind]
noncomputable def tDrop (te:TE):TS:=fun D σ H=>te σ H fun _ H1=>D.nx σ H1
theorem ps_expr (he:PE X e te) (hs:swapsWith e none pos.line X.env = pure false:=by rfl):PS X (.Expr e pos) (tDrop te):=by
  intro pins s σ H D I h
  exact wpAny_Expr_any (thn (he pins s σ H _ I h) fun v s1 ⟨x,H1,I1,r1,q1⟩=>⟨σ,H1,I1,q1⟩) I.quiet hs
noncomputable def tRet (te:TE):TS:=fun D σ H=>te σ H D.rt
theorem ps_ret (he:PE X e te):PS X (.Return (some e) pos) (tRet te):=by
  intro pins s σ H D I h
  exact wpAny_Return_some (thn (he pins s σ H _ I h) fun v s1 ⟨x,H1,I1,r1,q1⟩=>⟨x,σ,H1,I1,r1,q1⟩)
noncomputable def tIfS (c:TT) (t u:TS):TS:=fun D σ H=>c σ H fun b H1=>if b = true then t D σ H1 else u D σ H1
theorem ps_if {c:Expr} {a b:List Stmt} {tc:TT} (hc:PT X c tc) (ha:PSs X a t) (hb:PSs X b u):PS X (.If c a b pos) (tIfS tc t u):=by
  intro pins s σ H D I h
  refine wpAny_If (thn (hc pins s σ H _ I h) fun d s1 ⟨H1,I1,q1⟩=>?_)
  cases d with
  | true=>exact ha pins s1 σ H1 D I1 q1
  | false=>exact hb pins s1 σ H1 D I1 q1
end
noncomputable abbrev TG:=V→St→Hp→(St→Hp→Prop)→Prop
noncomputable abbrev TGs:=List V→St→Hp→(St→Hp→Prop)→Prop
noncomputable def PG (X:Cx) (target:Expr) (t:TG):Prop :=
  ∀ (pins:List (Addr×Obj)) (s:Shared) (σ:St) (H:Hp) (v:V) (u:Value) (Q:St→Hp→Prop),Inv X pins σ H s→RelV v u→t v σ H Q →
    wpAny (model X.prog X.w) X.A (assign target X.env u) (fun _ s'=>∃ σ' H',Inv X pins σ' H' s'∧Q σ' H') X.xe s
noncomputable def PGs (X:Cx) (ts:List Expr) (t:TGs):Prop :=
  ∀ (pins:List (Addr×Obj)) (s:Shared) (σ:St) (H:Hp) (vs:List V) (us:List Value) (Q:St→Hp→Prop),Inv X pins σ H s→Vals vs us→t vs σ H Q →
    wpAny (model X.prog X.w) X.A (assignInOrder ((assignEach ts X.env).map (·.2)) us) (fun _ s'=>∃ σ' H',Inv X pins σ' H' s'∧Q σ' H') X.xe s
section
variable {X:Cx} {pos:Pos}
noncomputable def gName (i:Nat):TG:=fun v σ H Q=>Q (σ.set i (some v)) H
theorem pg_name {i:Nat} {x:Str} (hN:X.N.Nodup) (hi:X.N[i]? = some x) (hx:Loc X.env.scope x) (hf:X.fn x = true∨X.env.scope.names.lookup x = some .local:=by first | exact .inl rfl | exact .inr rfl | assumption):PG X (.Name x pos) (gName i):=by
  intro pins s σ H v u Q I r h
  exact wpAny_assign_Name (store_ok I hN hi hx r (fun s' I'=>⟨_,H,I',h⟩) hf)
noncomputable def gNil:TGs:=fun vs σ H Q=>vs = []∧Q σ H
noncomputable def gCons (t:TG) (u:TGs):TGs:=fun vs σ H Q=>∃ v r,vs = v :: r∧t v σ H fun σ' H'=>u r σ' H' Q
theorem pgs_nil:PGs X [] gNil:=by
  intro pins s σ H vs us Q I r h
  obtain ⟨e,h⟩:=h
  subst e
  cases r
  exact assignInOrder_nil ⟨σ,H,I,h⟩
theorem pgs_cons {e:Expr} {es:List Expr} {t:TG} {u:TGs} (h1:PG X e t) (h2:PGs X es u)
    (hs:(assignEach (e :: es) X.env).map (·.2) = assign e X.env :: (assignEach es X.env).map (·.2):=by rfl):PGs X (e :: es) (gCons t u):=by
  intro pins s σ H vs us Q I r h
  obtain ⟨v,vr,e1,h⟩:=h
  subst e1
  cases r with
  | cons r rr =>
    rw [hs]
    refine assignInOrder_cons (thn (h1 pins s σ H _ _ _ I r h) fun _ s1 ⟨σ1,H1,I1,q1⟩=>?_)
    exact h2 pins s1 σ1 H1 _ _ Q I1 rr q1
noncomputable def gTup (K:PySem.W.Frag) (n:Nat) (t:TGs):TG:=fun v σ H Q=>∃ a xs,v = .ref a∧SqT K H a xs∧xs.length = n∧t xs σ H Q
theorem pg_tup {es:List Expr} {k:Nat} {t:TGs} {n:Nat} (hc:X.calm = true) (h:PGs X es t)
    (hn:(assignEach es X.env).length = n:=by rfl) (hst:(assignEach es X.env).findIdx? (·.1) = none:=by rfl):PG X (.Tuple es k pos) (gTup X.K n t):=by
  intro pins s σ H v u Q I r hw
  obtain ⟨a,xs,e1,hq,hl,hw⟩:=hw
  subst e1
  cases r
  obtain ⟨its,rv,ht,hz⟩:=I.tuple hq
  refine assign_Tuple_tuple (I.ok.hd hc) ht (by simp [hn,← hl,rv.length]) hst fun h' hx=>?_
  have I1:Inv X pins σ H { s with heap:=h' }:=I.kept (t':=s.toks) fun b o e=>hx b o (Nat.ne_of_lt (Heap.lt_size e)) e
  exact h pins _ σ H xs _ Q I1 (by simpa using rv) hw
noncomputable def tAsg (te:TE) (g:TG):TS:=fun D σ H=>te σ H fun x H1=>g x σ H1 D.nx
theorem ps_asg {tg e:Expr} {te:TE} {g:TG} (he:PE X e te) (hg:PG X tg g) (hs:swapsWithSole [tg] e pos.line X.env = pure false:=by rfl) (hw:swappedStores [tg] e X.env = pure none:=by rfl)
    (h1:(assignEach [tg] X.env).map (·.2) = [assign tg X.env]:=by rfl):PS X (.Assign [tg] e pos) (tAsg te g):=by
  intro pins s σ H D I h
  refine wpAny_Assign_stores (thn (he pins s σ H _ I h) fun v s1 ⟨x,H1,I1,r1,q1⟩=>?_) hs hw
  rw [h1]
  exact thn (hg pins s1 σ H1 x v _ I1 r1 q1) fun _ s2 q=>q
theorem ps_set {i:Nat} {x:Str} {e:Expr} {te:TE} {pos':Pos} (hN:X.N.Nodup) (hi:X.N[i]? = some x) (hx:Loc X.env.scope x) (he:PE X e te) (hs:swapsWith e (some (.Name x pos')) pos.line X.env = pure false:=by rfl) (hf:X.fn x = true∨X.env.scope.names.lookup x = some .local:=by first | exact .inl rfl | exact .inr rfl | assumption) :
    PS X (.Assign [.Name x pos'] e pos) (tAsg te (gName i)):=by
  intro pins s σ H D I h
  refine wpAny_Assign_Name (thn (he pins s σ H _ I h) fun v s1 ⟨y,H1,I1,r1,q1⟩=>?_) hs
  exact store_ok I1 hN hi hx r1 (fun s2 I2=>⟨_,H1,I2,q1⟩) hf
end
section
variable {X:Cx} {pos:Pos}
noncomputable def tWhile (c:TT) (tb:TS):TS:=fun D σ H=>∃ W:Nat→St→Hp→Prop,(∃ m,W m σ H)∧∀ m σ H,W m σ H →
  c σ H fun b H1=>if b = true then ∃ N:St→Hp→Prop,(∀ σ' H',N σ' H'→∃ m',m' < m∧W m' σ' H')∧tb { D with nx:=N,ct:=N,bk:=D.nx } σ H1 else D.nx σ H1
theorem ps_while {c:Expr} {body:List Stmt} {tc:TT} {tb:TS} (hp:PassesOwn (model X.prog X.w) X.A X.env X.xe) (hc:PT X c tc) (hb:PSs X body tb):PS X (.While c body [] pos) (tWhile tc tb):=by
  intro pins s σ H D I h
  obtain ⟨W,⟨m0,w0⟩,turn⟩:=h
  refine wpAny_While (codeAny_whileLoop (fun n s'=>∃ σ' H',Inv X pins σ' H' s'∧W n σ' H') ?_ m0 ⟨σ,H,I,w0⟩)
  rintro n s1 ⟨σ1,H1,I1,w1⟩
  refine wpAny_passesOwn hp (thn (hc pins s1 σ1 H1 _ I1 (turn n σ1 H1 w1)) fun b s2 ⟨H2,I2,q2⟩=>?_)
  cases b with
  | true =>
    obtain ⟨N,hN,q2⟩:=q2
    rw [if_pos rfl]
    refine wpAny_passesOwn hp (thn (hb pins s2 σ1 H2 _ I2 q2) fun f s3 q3=>?_)
    cases f with
    | next =>
      obtain ⟨σ3,H3,I3,n3⟩:=q3
      obtain ⟨m',hm,w3⟩:=hN σ3 H3 n3
      exact ⟨m',hm,σ3,H3,I3,w3⟩
    | cont =>
      obtain ⟨σ3,H3,I3,n3⟩:=q3
      obtain ⟨m',hm,w3⟩:=hN σ3 H3 n3
      exact ⟨m',hm,σ3,H3,I3,w3⟩
    | brk=>exact q3
    | ret v=>exact q3
  | false =>
    rw [if_neg Bool.false_ne_true]
    exact wpAny_execs_nil ⟨σ1,H2,I2,q2⟩
end
structure It where
  go:Nat→Hp→Prop
  yld:Nat→Hp→V→Hp→Prop
  stop:Nat→Hp→Prop
noncomputable def FpOk (X:Cx) (pins:List (Addr×Obj)) (H:Hp) (b:Addr):Prop :=
  H b = none∧b ≠ X.env.locals∧b ∉ X.fs∧(b ∈ X.ex∨X.s₀.heap.objs.size ≤ b)∧(∀ x c,X.env.cells.lookup x = some c→c ≠ b)∧∀ p ∈ X.pn ++ pins,p.1 ≠ b
theorem Inv.fpOk {X:Cx} {pins:List (Addr×Obj)} {σ:St} {H H':Hp} {s:Shared} {b:Addr} (I:Inv X pins σ H s) (hb:s.heap.objs.size ≤ b) (hn:H' b = none):FpOk X pins H' b:=by
  refine ⟨hn,Nat.ne_of_gt (Nat.lt_of_lt_of_le I.lt hb),I.nofs hb,.inr (Nat.le_trans I.sz hb),fun x c e z=>?_,fun p hp z=>?_⟩
  · obtain ⟨v,q⟩:=I.cell x c e
    exact absurd (Nat.lt_of_lt_of_le q.lt (by rw [z]; exact hb)) (Nat.lt_irrefl _)
  · exact absurd (Nat.lt_of_lt_of_le (Heap.lt_size (I.pin p hp).1) (by rw [z]; exact hb)) (Nat.lt_irrefl _)
noncomputable def HandQ (X:Cx) (s:Shared):Prop:=∃ (ea:Addr) (o:Obj) (vs:Array Value),X.A.handled = some (.ref ea)∧s.heap.get? ea = some o∧o.data = .fields vs∧vs[2]? = some .none
noncomputable def EndQ (hb:Bool) (X:Cx) (s:Shared):Prop:=X.A.handled = none∨(hb = true∧HandQ X s)
theorem EndQ.none {X:Cx} {s:Shared} (h:EndQ false X s):X.A.handled = Option.none:=by
  rcases h with h | ⟨z,_⟩
  · exact h
  · cases z
structure Turn (P:Program) (w:World) (K:PySem.W.Frag) (tg:Expr) (J:It) (fp:List Addr) (it:Addr) (tn:Nat→Heap→Prop) (hb:Bool:=false):Prop where
  mem:it ∈ fp
  obj:∀ i h,tn i h→∀ b ∈ fp,∃ o,h.get? b = some o∧∀ v,o.data ≠ .cell v
  keep:∀ i h h',tn i h→(∀ b ∈ fp,∀ o,h.get? b = some o→h'.get? b = some o)→tn i h'
  item:∀ (X:Cx),X.prog = P→X.w = w→X.K = K→∀ (s:Shared),EndQ hb X s→∀ (i:Nat) (pins:List (Addr×Obj)) (σ:St) (H:Hp) (E:Value→Shared→Prop),Inv X pins σ H s→(∀ b ∈ fp,FpOk X pins H b)→tn i s.heap→J.go i H →
    wpAny (model P w) X.A (pyNext (.ref it)) (fun r s1=>∃ u,r = some u ∧
      wpAny (model P w) X.A (letOwnedTupleGo tg (.ref it) u) (fun _ s2=>∃ x H',Inv X pins σ H' s2∧RelV x u∧J.yld i H x H'∧tn (i + 1) s2.heap∧∀ b ∈ fp,H' b = none) E s1) E s
  done:∀ (X:Cx),X.prog = P→X.w = w→X.K = K→∀ (s:Shared),EndQ hb X s→∀ (i:Nat) (pins:List (Addr×Obj)) (σ:St) (H:Hp) (E:Value→Shared→Prop),Inv X pins σ H s→(∀ b ∈ fp,FpOk X pins H b)→tn i s.heap→J.stop i H →
    wpAny (model P w) X.A (pyNext (.ref it)) (fun r s1=>r = none∧Inv X pins σ H s1) E s
  self:∀ (A:Around) (i:Nat) (s:Shared) (Q:Value→Shared→Prop) (E:Value→Shared→Prop),tn i s.heap→Q (.ref it) s→wpAny (model P w) A (pyIter (.ref it)) Q E s
noncomputable abbrev TI:=St→Hp→(It→Hp→Prop)→Prop
noncomputable def PIE (X:Cx) (pins:List (Addr×Obj)) (σ:St) (tg:Expr) (R:It→Hp→Prop) (hb:Bool) (itv:Value) (s2:Shared):Prop :=
  ∃ (it:Addr) (fp:List Addr) (tn:Nat→Heap→Prop) (J:It) (H':Hp),itv = .ref it∧Inv X pins σ H' s2∧Turn X.prog X.w X.K tg J fp it tn hb∧tn 0 s2.heap∧(∀ b ∈ fp,FpOk X pins H' b)∧R J H'
noncomputable def PI (X:Cx) (tg iter:Expr) (wi:TI) (hb:Bool:=false):Prop :=
  ∀ (pins:List (Addr×Obj)) (s:Shared) (σ:St) (H:Hp) (R:It→Hp→Prop),Inv X pins σ H s→wi σ H R →
    wpAny (model X.prog X.w) X.A (eval iter X.env) (fun v s1=>wpAny (model X.prog X.w) X.A (pyIter v) (PIE X pins σ tg R hb) X.xe s1) X.xe s
theorem go_of {M:Model} {A:Around} {E:Value→Shared→Prop} {s:Shared} {tg:Expr} {it:Addr} {u:Value} {o:Obj} {n:String} {vs:Array Value} {Q:Unit→Shared→Prop} (ho:s.heap.get? it = some o) (hc:o.cls = .type n) (hd:o.data = .fields vs)
    (hn:["enumerate","zip","dict_itemiterator","dict_reverseitemiterator","odict_iterator","itertools.zip_longest","itertools.pairwise"].contains n = false) (hQ:Q () s):wpAny M A (letOwnedTupleGo tg (.ref it) u) Q E s:=by
  unfold letOwnedTupleGo
  cases tg <;> first
    | exact wpAny_pure hQ
    | (cases u <;> first
        | exact wpAny_pure hQ
        | (refine wpAny_bind (wpAny_load ho ?_)
           rw [hc,hd]
           show wpAny M A (if (["enumerate","zip","dict_itemiterator","dict_reverseitemiterator","odict_iterator","itertools.zip_longest","itertools.pairwise"].contains n && vs[0]? == some (rawInt _)) = true then _ else _) Q E s
           rw [if_neg (by intro h; rw [hn,Bool.false_and] at h; cases h)]
           exact wpAny_pure hQ))
noncomputable def Itl (K:PySem.W.Frag) (a:Addr):It :=
  ⟨fun i H=>∃ xs x,SqL K H a xs∧xs[i]? = some x,fun i H x H'=>H' = H∧∀ xs,SqL K H a xs→xs[i]? = some x,fun i H=>∃ xs,SqL K H a xs∧xs.length ≤ i⟩
noncomputable def Itt (K:PySem.W.Frag) (a:Addr):It :=
  ⟨fun i H=>∃ xs x,SqT K H a xs∧xs[i]? = some x,fun i H x H'=>H' = H∧∀ xs,SqT K H a xs→xs[i]? = some x,fun i H=>∃ xs,SqT K H a xs∧xs.length ≤ i⟩
noncomputable def Itr (lo:Int) (n:Nat):It:=⟨fun i _=>i < n,fun i H x H'=>H' = H∧x = .int (lo + i),fun i _=>n ≤ i⟩
theorem turn_list {P:Program} {w:World} {K:PySem.W.Frag} {tg:Expr} (a it:Addr):Turn P w K tg (Itl K a) [it] it (fun i h=>h.IsListIter it a i) where
  mem:=by simp
  obj:=fun i h st b hb=>by
    have e:b = it:=by simpa using hb
    subst e
    obtain ⟨o,e,c,d⟩:=st
    exact ⟨o,e,fun v z=>by rw [d] at z; cases z⟩
  keep:=fun i h h' st k=>st.at fun o e=>k it (by simp) o e
  item:=by
    intro X hP hw hK s hc i pins σ H E I hf st hg
    subst hP hw hK
    obtain ⟨xs,x,hq,hx⟩:=hg
    obtain ⟨its,rv,p,hz⟩:=I.list hq
    obtain ⟨u,hu,ru⟩:=rv.get hx
    obtain ⟨f0,f1,f2,f3,f4,f5⟩:=hf it (by simp)
    refine wpAny_pyNext_list_item st p.isList (x:=u) (by simpa using hu) fun h' st' sb=>?_
    have I1:Inv X pins σ H { s with heap:=h' }:=I.turned (t':=s.toks) (fun b o hb e=>(sb.2 b hb).trans e) f0 f1 f3 f4 f5
    obtain ⟨o,e,c,d⟩:=id st'
    exact ⟨u,rfl,go_of (s:={ s with heap:=h' }) e c d (by decide) ⟨x,H,I1,ru,⟨rfl,fun ys hy=>by rw [I.list_inj hy hq]; exact hx⟩,st',fun b hb=>(hf b hb).1⟩⟩
  done:=by
    intro X hP hw hK s hc i pins σ H E I hf st hg
    subst hP hw hK
    obtain ⟨xs,hq,hx⟩:=hg
    obtain ⟨its,rv,p,hz⟩:=I.list hq
    obtain ⟨f0,f1,f2,f3,f4,f5⟩:=hf it (by simp)
    have hl:=rv.length
    exact wpAny_pyNext_list_end hc.none st p.isList (by simp; lia) fun h' eb=>⟨rfl,I.turned (t':=s.toks) (fun b o hb e=>eb b o hb e) f0 f1 f3 f4 f5⟩
  self:=fun _ _ _ _ _ st h=>wpAny_pyIter_listiter st h
theorem turn_tuple {P:Program} {w:World} {K:PySem.W.Frag} {tg:Expr} (a it:Addr):Turn P w K tg (Itt K a) [it] it (fun i h=>h.IsTupleIter it a i) where
  mem:=by simp
  obj:=fun i h st b hb=>by
    have e:b = it:=by simpa using hb
    subst e
    obtain ⟨o,e,c,d⟩:=st
    exact ⟨o,e,fun v z=>by rw [d] at z; cases z⟩
  keep:=fun i h h' st k=>st.at fun o e=>k it (by simp) o e
  item:=by
    intro X hP hw hK s hc i pins σ H E I hf st hg
    subst hP hw hK
    obtain ⟨xs,x,hq,hx⟩:=hg
    obtain ⟨its,rv,p,hz⟩:=I.tuple hq
    obtain ⟨u,hu,ru⟩:=rv.get hx
    obtain ⟨f0,f1,f2,f3,f4,f5⟩:=hf it (by simp)
    refine wpAny_pyNext_tuple_item st (show s.heap.IsTuple a its.toArray from p) (x:=u) (by simpa using hu) fun h' st' sb=>?_
    have I1:Inv X pins σ H { s with heap:=h' }:=I.turned (t':=s.toks) (fun b o hb e=>(sb.2 b hb).trans e) f0 f1 f3 f4 f5
    obtain ⟨o,e,c,d⟩:=id st'
    exact ⟨u,rfl,go_of (s:={ s with heap:=h' }) e c d (by decide) ⟨x,H,I1,ru,⟨rfl,fun ys hy=>by rw [I.tuple_inj hy hq]; exact hx⟩,st',fun b hb=>(hf b hb).1⟩⟩
  done:=by
    intro X hP hw hK s hc i pins σ H E I hf st hg
    subst hP hw hK
    obtain ⟨xs,hq,hx⟩:=hg
    obtain ⟨its,rv,p,hz⟩:=I.tuple hq
    obtain ⟨f0,f1,f2,f3,f4,f5⟩:=hf it (by simp)
    have hl:=rv.length
    exact wpAny_pyNext_tuple_end hc.none st (show s.heap.IsTuple a its.toArray from p) (by simp; lia) fun h' eb=>⟨rfl,I.turned (t':=s.toks) (fun b o hb e=>eb b o hb e) f0 f1 f3 f4 f5⟩
  self:=fun _ _ _ _ _ st h=>wpAny_pyIter_tupleiter st h
section
variable {prog:Program} {w:World} {A:Around} {E:Value→Shared→Prop} {s:Shared} {e ea it:Addr} {o oe:Obj} {us vs:Array Value}
theorem ent_unchain:entryFor table "proto.unchain" = some Builtin.«proto.unchain»:=entryFor_of_tree (by kernel_rfl)
theorem raise_hand {α:Type} {Q:α→Shared→Prop} (hh:A.handled = some (.ref ea)) (hea:s.heap.get? ea = some oe) (hd:oe.data = .fields vs) (h2:vs[2]? = some .none) (he:s.heap.get? e = some o) (hde:o.data = .fields us) (hsz:2 < us.size) (hne:ea ≠ e)
    (hE:E (.ref e) { s with heap:=s.heap.update e (Obj.mapFields (·.setIfInBounds 2 (.ref ea))) }):wpAny (model prog w) A (raiseNew (.ref e):Sem α) Q E s:=by
  have n:(Value.ref ea != Value.ref e) = true:=by simp [hne]
  unfold raiseNew
  refine wpAny_bind (wpAny_handled ?_)
  rw [hh]
  show wpAny _ _ (if (Value.ref ea != Value.ref e) = true then _ else _) _ _ _
  rw [if_pos n]
  refine wpAny_bind (wpAny_holding (wpAny_runValue (codeAny_builtin ent_unchain ?_)))
  show wpAny _ _ (field (.ref ea) 2 >>= _) _ _ _
  refine wpAny_bind (wpAny_field hea hd h2 ?_)
  show wpAny _ _ (if (Value.none == Value.none) = true then _ else _) _ _ _
  rw [if_pos (show (Value.none == Value.none) = true from rfl)]
  refine wpAny_pure ?_
  exact wpAny_bind (wpAny_setField he hde hsz (wpAny_throw hE))
theorem range_end_hand {x left step:Int} {Q:Option Value→Shared→Prop} (hh:A.handled = some (.ref ea)) (hea:s.heap.get? ea = some oe) (hd:oe.data = .fields vs) (h2:vs[2]? = some .none) (hit:IsRangeIter s.heap it x left step) (hleft:left ≤ 0)
    (hQ:∀ h',Heap.ExtBut it s.heap h'→Q none { s with heap:=h' }):wpAny (model prog w) A (pyNext (.ref it)) Q E s:=by
  have hT:s.TypeIs (.ref it) "range_iterator":=⟨_,hit,rfl⟩
  have lt:=Heap.lt_size hea
  unfold pyNext; refine wpAny_bind (wpAny_attempt (wpAny_callSpecial?_slot (name:=Str.ofString "__next__") hT F.slot_range_iterator_next (wpAny_call_entry F.slot_range_iterator_next hT F.entry_range_iterator_next ?_ (F.args_range_iterator_next_1 _))))
  show wpAny _ _ (field (.ref it) 0 >>= _) _ _ s; refine wpAny_bind (wpAny_field hit rfl (x:=rawInt x) rfl ?_); show wpAny _ _ (field (.ref it) 1 >>= _) _ _ s; refine wpAny_bind (wpAny_field hit rfl (x:=rawInt left) rfl ?_)
  show wpAny _ _ (field (.ref it) 2 >>= _) _ _ s; refine wpAny_bind (wpAny_field hit rfl (x:=rawInt step) rfl ?_); show wpAny _ _ (if left ≤ 0 then _ else _) _ _ s; rw [if_pos hleft]
  refine wpAny_bind (wpAny_rule (wpAny_bind ?_)); show wpAny _ _ (newExc (.type "StopIteration") [] >>= _) _ _ _; refine wpAny_bind ?_; simp only [newExc,newTuple]
  refine wpAny_bind (wpAny_newObj_type ?_ (by size_fits)); refine wpAny_bind (m:=firstArgMember _ _) (wpAny_of_eq (a:=Value.none) (by first | rfl | (simp only [firstArgMember]; rfl)) ?_); refine wpAny_newObj_type ?_ (by size_fits)
  refine raise_hand (oe:=oe) (vs:=vs) (by first | exact hh | exact (show A.in1.handled = _ from hh)) (Heap.get?_push_of_some _ (Heap.get?_push_of_some _ hea)) hd h2 (Heap.get?_push_size _ rfl) rfl (by simp; lia) (Nat.ne_of_lt (by rw [Heap.size_push]; exact Nat.lt_succ_of_lt lt)) ?_
  refine wpAny_bind (wpAny_isInstance (T:="StopIteration") (b:=true) ⟨_,Heap.get?_update_self _ (Heap.get?_push_size _ rfl) rfl,rfl⟩ isSubtype_stop ?_)
  refine wpAny_pure (hQ _ fun b ob hb q=>?_)
  rw [Heap.get?_update_other _ _ (Nat.ne_of_gt (by rw [Heap.size_push]; exact Nat.lt_succ_of_lt (Heap.lt_size q)))]
  exact Heap.get?_push_of_some _ (Heap.get?_push_of_some _ q)
end
theorem turn_range {P:Program} {w:World} {K:PySem.W.Frag} {tg:Expr} (it:Addr) (lo:Int) (n:Nat) {hb:Bool}:Turn P w K tg (Itr lo n) [it] it (fun i h=>IsRangeIter h it (lo + (i:Nat) * 1) ((n:Int) - (i:Nat)) 1) hb where
  mem:=by simp
  obj:=fun i h st b hb=>by
    have e:b = it:=by simpa using hb
    subst e
    exact ⟨_,st,fun v z=>by
      have z':Data.fields _ = Data.cell v:=z
      cases z'⟩
  keep:=fun i h h' st k=>k it (by simp) _ st
  item:=by
    intro X hP hw hK s hc i pins σ H E I hf st hg
    subst hP hw hK
    obtain ⟨f0,f1,f2,f3,f4,f5⟩:=hf it (by simp)
    have hi:i < n:=hg
    refine wpAny_pyNext_range_item st (by lia) fun h' st' sb=>?_
    have I1:Inv X pins σ H { s with heap:=h',toks:=s.toks + 1 }:=I.turned (fun b o hb e=>(sb.2 b hb).trans e) f0 f1 f3 f4 f5
    have e1:lo + ((i:Nat):Int) * 1 + 1 = lo + ((i + 1:Nat):Int) * 1:=by lia
    have e2:(n:Int) - ((i:Nat):Int) - 1 = (n:Int) - ((i + 1:Nat):Int):=by lia
    rw [e1,e2] at st'
    refine ⟨_,rfl,go_of (s:={ s with heap:=h',toks:=s.toks + 1 }) (n:="range_iterator") st' rfl rfl (by decide) ⟨.int (lo + i),H,I1,⟨s.toks,?_⟩,⟨rfl,rfl⟩,st',fun b hb=>(hf b hb).1⟩⟩
    rw [Int.mul_one]
  done:=by
    intro X hP hw hK s hc i pins σ H E I hf st hg
    subst hP hw hK
    obtain ⟨f0,f1,f2,f3,f4,f5⟩:=hf it (by simp)
    have hi:(n:Int) - ((i:Nat):Int) ≤ 0:=by have:n ≤ i:=hg; lia
    rcases hc with hc | ⟨_,ea,o,vs,h1,h2,h3,h4⟩
    · exact wpAny_pyNext_range_end hc st hi fun h' eb=>⟨rfl,I.turned (t':=s.toks) (fun b o hb e=>eb b o hb e) f0 f1 f3 f4 f5⟩
    · exact range_end_hand h1 h2 h3 h4 st hi fun h' eb=>⟨rfl,I.turned (t':=s.toks) (fun b o hb e=>eb b o hb e) f0 f1 f3 f4 f5⟩
  self:=fun _ _ _ _ _ st h=>wpAny_pyIter_rangeiter st h
end L2
namespace L2
open PySem PySem.Spec PyProof.Rows
section
variable {X:Cx} {tg:Expr}
noncomputable def iList (K:PySem.W.Frag) (tl:TE):TI:=fun σ H R=>tl σ H fun x H1=>∃ a,x = .ref a∧(∃ xs,SqL K H1 a xs)∧R (Itl K a) H1
theorem pi_list {l:Expr} {tl:TE} (hl:PE X l tl):PI X tg l (iList X.K tl):=by
  intro pins s σ H R I h
  refine thn (hl pins s σ H _ I h) fun v s1 ⟨x,H1,I1,r1,q1⟩=>?_
  obtain ⟨a,e,⟨xs,hq⟩,q⟩:=q1
  subst e
  cases r1
  obtain ⟨its,rv,p,hz⟩:=I1.list hq
  refine wpAny_pyIter_list p.isList ?_
  refine ⟨s1.heap.objs.size,[s1.heap.objs.size],_,_,H1,rfl,I1.kept (t':=s1.toks) fun b o e=>Heap.get?_push_of_some _ e,turn_list a _,⟨_,Heap.get?_push_size _ rfl,rfl,rfl⟩,fun b hb=>?_,q⟩
  have e:b = s1.heap.objs.size:=by simpa using hb
  subst e
  exact I1.fpOk (Nat.le_refl _) (I1.hok.fresh (Nat.le_refl _))
theorem range_it {hb:Bool} {pins:List (Addr×Obj)} {σ:St} {H:Hp} {s:Shared} {R:It→Hp→Prop} {E:Value→Shared→Prop} {lo hi:Int} {t u v:Tok} {tk:Nat} (I:Inv X pins σ H s) (h1:-(2 ^ 62) ≤ lo) (h2:lo < 2 ^ 62) (h3:-(2 ^ 62) ≤ hi) (h4:hi < 2 ^ 62)
    (q:R (Itr lo (hi - lo).toNat) H):wpAny (model X.prog X.w) X.A (pyIter (.ref s.heap.objs.size)) (PIE X pins σ tg R hb) E { s with heap:=s.heap.push { cls:=.type "range",data:=.fields #[.int lo t,.int hi u,.int 1 v] },toks:=tk }:=by
  refine wpAny_pyIter_range (IsRange.new ..) (small_one h1 h2 h3 h4) ?_
  have I1:Inv X pins σ H { s with heap:=s.heap.push { cls:=.type "range",data:=.fields #[.int lo t,.int hi u,.int 1 v] },toks:=tk }:=I.kept fun b o e=>Heap.get?_push_of_some _ e
  refine ⟨(s.heap.push { cls:=.type "range",data:=.fields #[.int lo t,.int hi u,.int 1 v] }).objs.size,[(s.heap.push { cls:=.type "range",data:=.fields #[.int lo t,.int hi u,.int 1 v] }).objs.size],_,_,H,rfl,
    I1.kept (t':=tk) fun b o e=>Heap.get?_push_of_some _ e,turn_range _ lo (hi - lo).toNat,?_,fun b hb=>?_,q⟩
  · have e1:lo + ((0:Nat):Int) * 1 = lo:=by simp
    have e2:(((hi - lo).toNat:Nat):Int) - ((0:Nat):Int) = Builtin.Range.rangeSize lo hi 1:=by rw [rangeSize_one]; split <;> lia
    show IsRangeIter _ _ (lo + ((0:Nat):Int) * 1) ((((hi - lo).toNat:Nat):Int) - ((0:Nat):Int)) 1
    rw [e1,e2]
    exact Heap.get?_push_size _ rfl
  · have e:b = (s.heap.push { cls:=.type "range",data:=.fields #[.int lo t,.int hi u,.int 1 v] }).objs.size:=by simpa using hb
    subst e
    exact I1.fpOk (Nat.le_refl _) (I1.hok.fresh (Nat.le_refl _))
noncomputable def iRng1 (ta:TA):TI:=fun σ H R=>ta σ H fun vs H1=>∃ j:Int,vs = [.int j]∧-(2 ^ 62) ≤ j∧j < 2 ^ 62∧R (Itr 0 j.toNat) H1
noncomputable def iRng2 (ta:TA):TI:=fun σ H R=>ta σ H fun vs H1=>∃ i j:Int,vs = [.int i,.int j]∧(-(2 ^ 62) ≤ i∧i < 2 ^ 62∧-(2 ^ 62) ≤ j∧j < 2 ^ 62)∧R (Itr i (j - i).toNat) H1
theorem pi_range1 {hb:Bool} {a:Expr} {ta:TA} {p pos:Pos} (hg:Gl X "range") (hm:X.mg "range" = none) (ha:PA X [a] ta) (hs:starEach [a] X.env = [(false,eval a X.env)]:=by rfl):PI X tg (.Call (.Name "range" p) [a] [] pos) (iRng1 ta) hb:=by
  intro pins s σ H R I h
  refine Call_ (ld_blt I hg hm boot_range (PyProof.Rows.callWith_type1 (thn (ha pos pins s σ H _ I h) fun us s1 ⟨vs,H1,I1,r1,q1⟩=>?_) hs rfl))
  obtain ⟨j,e,q1,q2,q⟩:=q1
  subst e
  cases r1 with
  | cons r rr =>
    cases rr
    obtain ⟨t,rfl⟩:=r
    exact call_range_1 (range_it I1 (by lia) (by lia) q1 q2 (by simpa using q))
theorem pi_range2 {hb:Bool} {a b:Expr} {ta:TA} {p pos:Pos} (hg:Gl X "range") (hm:X.mg "range" = none) (ha:PA X [a,b] ta) (hs:starEach [a,b] X.env = [(false,eval a X.env),(false,eval b X.env)]:=by rfl) (hs2:starEach [b] X.env = [(false,eval b X.env)]:=by rfl) :
    PI X tg (.Call (.Name "range" p) [a,b] [] pos) (iRng2 ta) hb:=by
  intro pins s σ H R I h
  refine Call_ (ld_blt I hg hm boot_range (PyProof.Rows.callWith_type1 (thn (ha pos pins s σ H _ I h) fun us s1 ⟨vs,H1,I1,r1,q1⟩=>?_) (by rw [hs,hs2]) (by rw [hs2]; rfl)))
  obtain ⟨i,j,e,⟨q1,q2,q3,q4⟩,q⟩:=q1
  subst e
  cases r1 with
  | cons r rr =>
    cases rr with
    | cons r' rr =>
      cases rr
      obtain ⟨t,rfl⟩:=r
      obtain ⟨t',rfl⟩:=r'
      exact call_range_2 (range_it I1 q1 q2 q3 q4 q)
noncomputable def tFor (wi:TI) (g:TG) (tb:TS):TS:=fun D σ H=>wi σ H fun J H1=>∃ W:Nat→Nat→St→Hp→Prop,(∃ m,W 0 m σ H1)∧∀ i m σ H,W i m σ H →
  (J.stop i H∧D.nx σ H)∨(J.go i H∧∃ N:St→Hp→Prop,(∀ σ' H',N σ' H'→∃ m',m' < m∧W (i + 1) m' σ' H')∧∀ x H',J.yld i H x H'→g x σ H' fun σ2 H2=>tb { D with nx:=N,ct:=N,bk:=D.nx } σ2 H2)
noncomputable def pinsAt (fp:List Addr) (h:Heap):List (Addr×Obj):=fp.filterMap fun b=>(h.get? b).map fun o=>(b,o)
theorem mem_pinsAt {fp:List Addr} {h:Heap} {b:Addr} {o:Obj} (hb:b ∈ fp) (e:h.get? b = some o):(b,o) ∈ pinsAt fp h:=List.mem_filterMap.mpr ⟨b,hb,by rw [e]; rfl⟩
theorem of_pinsAt {fp:List Addr} {h:Heap} {p:Addr×Obj} (hp:p ∈ pinsAt fp h):p.1 ∈ fp∧h.get? p.1 = some p.2:=by
  obtain ⟨b,hb,e⟩:=List.mem_filterMap.mp hp
  cases q:h.get? b with
  | none=>rw [q] at e; cases e
  | some o =>
    rw [q] at e
    have e':(b,o) = p:=Option.some.inj e
    subst e'
    exact ⟨hb,q⟩
theorem Inv.pinned {pins:List (Addr×Obj)} {σ:St} {H:Hp} {s:Shared} {fp:List Addr} (I:Inv X pins σ H s) (hf:∀ b ∈ fp,FpOk X pins H b) (ho:∀ b ∈ fp,∃ o,s.heap.get? b = some o∧∀ v,o.data ≠ .cell v):Inv X (pins ++ pinsAt fp s.heap) σ H s :=
  I.pins_of fun p hp=>(List.mem_append.mp hp).elim (fun z=>I.pin p (List.mem_append_right _ z)) fun z=>by
    obtain ⟨hb,e⟩:=of_pinsAt z
    obtain ⟨f0,f1,f2,_⟩:=hf p.1 hb
    obtain ⟨o,e',d⟩:=ho p.1 hb
    rw [e] at e'; cases e'
    exact ⟨e,f0,f1,f2,d⟩
theorem Inv.unpinned {pins pl:List (Addr×Obj)} {σ:St} {H:Hp} {s:Shared} (I:Inv X (pins ++ pl) σ H s):Inv X pins σ H s:=I.pins_of fun p hp=>I.pin p (List.mem_append_right _ (List.mem_append_left _ hp))
theorem ps_for {iter:Expr} {body:List Stmt} {wi:TI} {g:TG} {tb:TS} {pos:Pos} (hp:PassesOwn (model X.prog X.w) X.A X.env X.xe) (hc:X.calm = true) (hi:PI X tg iter wi) (hg:PG X tg g) (hb:PSs X body tb)
    (hs:∀ x,foldedSetIterable iter X.env x = pure x:=by intro _; rfl):PS X (.For tg iter body [] pos) (tFor wi g tb):=by
  intro pins s σ H D I h
  refine wpAny_For (thn (hi pins s σ H _ I h) fun v s1 h1=>thn h1 fun itv s2 h2=>?_) hs
  obtain ⟨it,fp,tn,J,H2,e,I2,T,st2,f2,W,⟨m0,w0⟩,turn⟩:=h2
  subst e
  have stat:∀ {H':Hp},(∀ b ∈ fp,H' b = none)→∀ b ∈ fp,FpOk X pins H' b:=fun hn b hb=>⟨hn b hb,(f2 b hb).2⟩
  refine codeAny_forLoop_any (fun n s'=>∃ i σ' H',Inv X pins σ' H' s'∧tn i s'.heap∧(∀ b ∈ fp,H' b = none)∧W i n σ' H') ?_ m0 ⟨0,σ,H2,I2,st2,fun b hb=>(f2 b hb).1,w0⟩
  rintro n s3 ⟨i,σ3,H3,I3,st3,fr3,w3⟩
  rcases turn i n σ3 H3 w3 with ⟨stop,qn⟩ | ⟨go,N,hN,step⟩
  · refine wpAny_passesOwn hp (thn (T.done X rfl rfl rfl s3 (.inl (I3.ok.hd hc)) i pins σ3 H3 X.xe I3 (stat fr3) st3 stop) fun r s4 ⟨hr,I4⟩=>?_)
    subst hr
    exact wpAny_execs_nil ⟨σ3,H3,I4,qn⟩
  · refine wpAny_passesOwn hp (thn (T.item X rfl rfl rfl s3 (.inl (I3.ok.hd hc)) i pins σ3 H3 X.xe I3 (stat fr3) st3 go) fun r s4 ⟨u,hr,h4⟩=>?_)
    subst hr
    refine wpAny_passesOwn hp (thn h4 fun _ s5 ⟨x,H5,I5,r5,y5,st5,fr5⟩=>?_)
    have I5':=I5.pinned (stat fr5) (T.obj _ _ st5)
    refine wpAny_passesOwn hp (thn (hg _ s5 σ3 H5 x u _ I5' r5 (step x H5 y5)) fun _ s6 ⟨σ6,H6,I6,q6⟩=>?_)
    refine wpAny_passesOwn hp (thn (hb _ s6 σ6 H6 _ I6 q6) fun f s7 q7=>?_)
    have again:∀ {σ7:St} {H7:Hp},Inv X (pins ++ pinsAt fp s5.heap) σ7 H7 s7→N σ7 H7→∃ m,m < n∧∃ i σ' H',Inv X pins σ' H' s7∧tn i s7.heap∧(∀ b ∈ fp,H' b = none)∧W i m σ' H':=fun {σ7 H7} I7 n7=>by
      obtain ⟨m',hm,w7⟩:=hN σ7 H7 n7
      refine ⟨m',hm,i + 1,σ7,H7,I7.unpinned,T.keep _ _ _ st5 fun b hb o e=>(I7.pin (b,o) (List.mem_append_right _ (List.mem_append_right _ (mem_pinsAt hb e)))).1,fun b hb=>?_,w7⟩
      obtain ⟨o,e,d⟩:=T.obj _ _ st5 b hb
      exact (I7.pin (b,o) (List.mem_append_right _ (List.mem_append_right _ (mem_pinsAt hb e)))).2.1
    cases f with
    | next=>obtain ⟨σ7,H7,I7,n7⟩:=q7; exact again I7 n7
    | cont=>obtain ⟨σ7,H7,I7,n7⟩:=q7; exact again I7 n7
    | brk=>obtain ⟨σ7,H7,I7,q7⟩:=q7; exact ⟨σ7,H7,I7.unpinned,q7⟩
    | ret v=>obtain ⟨x7,σ7,H7,I7,r7,q7⟩:=q7; exact ⟨x7,σ7,H7,I7.unpinned,r7,q7⟩
end
theorem for_list {K:PySem.W.Frag} {a:Addr} {xs:List V} {g:TG} {tb:TS} {D:Ends} {σ:St} {H:Hp} (Pv:Nat→St→Hp→Prop) (h0:Pv 0 σ H) (hl:∀ i σ H,i ≤ xs.length→Pv i σ H→SqL K H a xs)
    (hs:∀ i x σ H,xs[i]? = some x→Pv i σ H→g x σ H fun σ2 H2=>tb { D with nx:=Pv (i + 1),ct:=Pv (i + 1),bk:=D.nx } σ2 H2) (hd:∀ σ H,Pv xs.length σ H→D.nx σ H) :
    ∃ W:Nat→Nat→St→Hp→Prop,(∃ m,W 0 m σ H)∧∀ i m σ H,W i m σ H →
      ((Itl K a).stop i H∧D.nx σ H)∨((Itl K a).go i H∧∃ N:St→Hp→Prop,(∀ σ' H',N σ' H'→∃ m',m' < m∧W (i + 1) m' σ' H')∧∀ x H',(Itl K a).yld i H x H'→g x σ H' fun σ2 H2=>tb { D with nx:=N,ct:=N,bk:=D.nx } σ2 H2):=by
  refine ⟨fun i m σ H=>m = xs.length - i∧i ≤ xs.length∧Pv i σ H,⟨xs.length,by simp,Nat.zero_le _,h0⟩,?_⟩
  rintro i m σ H ⟨rfl,hi,p⟩
  have q:=hl i σ H hi p
  by_cases hlt:i < xs.length
  · refine .inr ⟨⟨xs,xs[i],q,by simp [hlt]⟩,Pv (i + 1),fun σ' H' p'=>⟨xs.length - (i + 1),by lia,rfl,hlt,p'⟩,fun x H' y=>?_⟩
    obtain ⟨e,y⟩:=y
    subst e
    exact hs i x σ _ (y xs q) p
  · have e:i = xs.length:=by lia
    subst e
    exact .inl ⟨⟨xs,q,Nat.le_refl _⟩,hd σ H p⟩
theorem for_range {lo:Int} {n:Nat} {g:TG} {tb:TS} {D:Ends} {σ:St} {H:Hp} (Pv:Nat→St→Hp→Prop) (h0:Pv 0 σ H)
    (hs:∀ i σ H,i < n→Pv i σ H→g (.int (lo + i)) σ H fun σ2 H2=>tb { D with nx:=Pv (i + 1),ct:=Pv (i + 1),bk:=D.nx } σ2 H2) (hd:∀ σ H,Pv n σ H→D.nx σ H) :
    ∃ W:Nat→Nat→St→Hp→Prop,(∃ m,W 0 m σ H)∧∀ i m σ H,W i m σ H →
      ((Itr lo n).stop i H∧D.nx σ H)∨((Itr lo n).go i H∧∃ N:St→Hp→Prop,(∀ σ' H',N σ' H'→∃ m',m' < m∧W (i + 1) m' σ' H')∧∀ x H',(Itr lo n).yld i H x H'→g x σ H' fun σ2 H2=>tb { D with nx:=N,ct:=N,bk:=D.nx } σ2 H2):=by
  refine ⟨fun i m σ H=>m = n - i∧i ≤ n∧Pv i σ H,⟨n,by simp,Nat.zero_le _,h0⟩,?_⟩
  rintro i m σ H ⟨rfl,hi,p⟩
  by_cases hlt:i < n
  · refine .inr ⟨hlt,Pv (i + 1),fun σ' H' p'=>⟨n - (i + 1),by lia,rfl,hlt,p'⟩,fun x H' y=>?_⟩
    obtain ⟨e,y⟩:=y
    subst e y
    exact hs i σ _ hlt p
  · have e:i = n:=by lia
    subst e
    exact .inl ⟨Nat.le_refl _,hd σ H p⟩
end L2
namespace L2
open PySem PySem.Spec PyProof.Rows
noncomputable abbrev R2:=V→V→Hp→VK→Prop
noncomputable def OpR (X:Cx) (f:Value→Value→Sem Value) (r:R2):Prop :=
  ∀ (pins:List (Addr×Obj)) (s:Shared) (σ:St) (H:Hp) (x y:V) (v u:Value) (Q:VK),Inv X pins σ H s→RelV x v→RelV y u→r x y H Q →
    wpAny (model X.prog X.w) X.A (f v u) (EP X pins σ Q) X.xe s
noncomputable def UnR (X:Cx) (f:Value→Sem Value) (r:V→Hp→VK→Prop):Prop :=
  ∀ (pins:List (Addr×Obj)) (s:Shared) (σ:St) (H:Hp) (x:V) (v:Value) (Q:VK),Inv X pins σ H s→RelV x v→r x H Q →
    wpAny (model X.prog X.w) X.A (f v) (EP X pins σ Q) X.xe s
noncomputable def CallR (X:Cx) (f:Value) (r:List V→Hp→VK→Prop):Prop :=
  ∀ (pins:List (Addr×Obj)) (s:Shared) (σ:St) (H:Hp) (xs:List V) (us:List Value) (Q:VK),Inv X pins σ H s→Vals xs us→r xs H Q →
    wpAny (model X.prog X.w) X.A (call f us) (EP X pins σ Q) X.xe s
noncomputable def TruR (X:Cx) (r:V→Hp→(Bool→Hp→Prop)→Prop):Prop :=
  ∀ (pins:List (Addr×Obj)) (s:Shared) (σ:St) (H:Hp) (x:V) (v:Value) (Q:Bool→Hp→Prop),Inv X pins σ H s→RelV x v→r x H Q →
    wpAny (model X.prog X.w) X.A (truthy v) (TP X pins σ Q) X.xe s
noncomputable def tOp (r:R2) (ta tb:TE):TE:=fun σ H Q=>ta σ H fun x H1=>tb σ H1 fun y H2=>r x y H2 Q
noncomputable def tUn (r:V→Hp→VK→Prop) (ta:TE):TE:=fun σ H Q=>ta σ H fun x H1=>r x H1 Q
noncomputable def rI (C:Int→Int→Prop) (g:Int→Int→V):R2:=fun x y H Q=>∃ i j,x = .int i∧y = .int j∧C i j∧Q (g i j) H
noncomputable def rI0 (g:Int→Int→V):R2:=fun x y H Q=>∃ i j,x = .int i∧y = .int j∧Q (g i j) H
noncomputable def rU (g:Int→V):V→Hp→VK→Prop:=fun x H Q=>∃ i,x = .int i∧Q (g i) H
section
variable {X:Cx} {a b c:Expr} {ta tb tc:TE} {pos:Pos}
theorem binT (ha:PE X a ta) (hb:PE X b tb) {pins:List (Addr×Obj)} {s:Shared} {σ:St} {H:Hp} {R:V→V→Hp→Prop} (I:Inv X pins σ H s)
    (h:ta σ H fun x H1=>tb σ H1 fun y H2=>R x y H2) {Q:Value→Shared→Prop} {f:Value→Value→Sem Value}
    (hf:∀ v u s2 x y H2,Inv X pins σ H2 s2→RelV x v→RelV y u→R x y H2→wpAny (model X.prog X.w) X.A (f v u) Q X.xe s2) :
    wpAny (model X.prog X.w) X.A (eval a X.env) (fun v s₁=>wpAny (model X.prog X.w) X.A (eval b X.env) (fun u s₂=>wpAny (model X.prog X.w) X.A (f v u) Q X.xe s₂) X.xe s₁) X.xe s:=by
  refine thn (ha pins s σ H _ I h) fun v s1 ⟨x,H1,I1,r1,q1⟩=>?_
  refine thn (hb pins s1 σ H1 _ I1 q1) fun u s2 ⟨y,H2,I2,r2,q2⟩=>?_
  exact hf v u s2 x y H2 I2 r1 r2 q2
theorem pe_op {op:Operator} {r:R2} (ho:OpR X (binaryOp op) r) (ha:PE X a ta) (hb:PE X b tb):PE X (.BinOp a op b pos) (tOp r ta tb):=by
  intro pins s σ H Q I h
  exact wpAny_BinOp (binT ha hb I h fun v u s2 x y H2 I2 rx ry q=>ho pins s2 σ H2 x y v u Q I2 rx ry q)
theorem pe_un {op:UnaryOp} {r:V→Hp→VK→Prop} (ho:UnR X (unaryOp op) r) (ha:PE X a ta):PE X (.UnaryOp op a pos) (tUn r ta):=by
  intro pins s σ H Q I h
  exact UnaryOp_ (thn (ha pins s σ H _ I h) fun v s1 ⟨x,H1,I1,r1,q1⟩=>ho pins s1 σ H1 x v Q I1 r1 q1)
theorem opI {f:Value→Value→Sem Value} {C:Int→Int→Prop} {g:Int→Int→Int}
    (rule:∀ (i j:Int) (t u:Tok) (s:Shared) (Q:Value→Shared→Prop) (E:Value→Shared→Prop),C i j→Q (.int (g i j) s.toks) { s with toks:=s.toks + 1 }→wpAny (model X.prog X.w) X.A (f (.int i t) (.int j u)) Q E s) :
    OpR X f (rI C fun i j=>.int (g i j)):=by
  intro pins s σ H x y v u Q I rx ry h
  obtain ⟨i,j,rfl,rfl,hc,q⟩:=h
  obtain ⟨t,rfl⟩:=rx
  obtain ⟨t',rfl⟩:=ry
  exact rule i j t t' s _ _ hc ⟨.int (g i j),H,I.tok _,⟨_,rfl⟩,q⟩
theorem opI0 {f:Value→Value→Sem Value} {g:Int→Int→Int}
    (rule:∀ (i j:Int) (t u:Tok) (s:Shared) (Q:Value→Shared→Prop) (E:Value→Shared→Prop),Q (.int (g i j) s.toks) { s with toks:=s.toks + 1 }→wpAny (model X.prog X.w) X.A (f (.int i t) (.int j u)) Q E s) :
    OpR X f (rI0 fun i j=>.int (g i j)):=by
  intro pins s σ H x y v u Q I rx ry h
  obtain ⟨i,j,rfl,rfl,q⟩:=h
  obtain ⟨t,rfl⟩:=rx
  obtain ⟨t',rfl⟩:=ry
  exact rule i j t t' s _ _ ⟨.int (g i j),H,I.tok _,⟨_,rfl⟩,q⟩
theorem opB0 {f:Value→Value→Sem Value} {g:Int→Int→Bool}
    (rule:∀ (i j:Int) (t u:Tok) (s:Shared) (Q:Value→Shared→Prop) (E:Value→Shared→Prop),Q (.bool (g i j)) s→wpAny (model X.prog X.w) X.A (f (.int i t) (.int j u)) Q E s) :
    OpR X f (rI0 fun i j=>.bl (g i j)):=by
  intro pins s σ H x y v u Q I rx ry h
  obtain ⟨i,j,rfl,rfl,q⟩:=h
  obtain ⟨t,rfl⟩:=rx
  obtain ⟨t',rfl⟩:=ry
  exact rule i j t t' s _ _ ⟨.bl (g i j),H,I,rfl,q⟩
noncomputable def CDiv (i j:Int):Prop:=0 < j∧j < 1073741824
noncomputable def CMul (i j:Int):Prop:=(-(2 ^ 64) < i∧i < 2 ^ 64)∨(-(2 ^ 64) < j∧j < 2 ^ 64)
theorem CMul.ok {i j:Int} (h:CMul i j):IntMulOk i j:=by
  rcases h with ⟨h1,h2⟩ | ⟨h1,h2⟩
  · exact .of_left (intBits_le_64 h1 h2)
  · exact .of_right (intBits_le_64 h1 h2)
theorem op_add:OpR X (binaryOp .Add) (rI0 fun i j=>.int (i + j)):=opI0 fun _ _ _ _ _ _ _ q=>add_int q
theorem op_sub:OpR X (binaryOp .Sub) (rI0 fun i j=>.int (i - j)):=opI0 fun _ _ _ _ _ _ _ q=>sub_int q
theorem op_mul:OpR X (binaryOp .Mult) (rI CMul fun i j=>.int (i * j)):=opI fun _ _ _ _ _ _ _ hc q=>mul_int q hc.ok
theorem op_fdiv:OpR X (binaryOp .FloorDiv) (rI CDiv fun i j=>.int (i / j)):=opI fun i j _ _ _ _ _ hc q=>by
  have h1:(0:Int) < j:=hc.1
  have h2:j < 1073741824:=hc.2
  exact floordiv_int (by lia) (by rw [Int.fdiv_eq_ediv_of_nonneg i (by lia)]; exact q) (.inl (PyProof.noPylong_small (by lia)))
theorem op_mod:OpR X (binaryOp .Mod) (rI (fun _ j=>0 < j) fun i j=>.int (i % j)):=opI fun i j _ _ _ _ _ hc q=>by
  have h1:(0:Int) < j:=hc
  exact mod_int' (by lia) (by rw [Int.fmod_eq_emod_of_nonneg i (by lia)]; exact q)
theorem unI {f:Value→Sem Value} {g:Int→Int}
    (rule:∀ (i:Int) (t:Tok) (s:Shared) (Q:Value→Shared→Prop) (E:Value→Shared→Prop),Q (.int (g i) s.toks) { s with toks:=s.toks + 1 }→wpAny (model X.prog X.w) X.A (f (.int i t)) Q E s) :
    UnR X f (rU fun i=>.int (g i)):=by
  intro pins s σ H x v Q I rx h
  obtain ⟨i,rfl,q⟩:=h
  obtain ⟨t,rfl⟩:=rx
  exact rule i t s _ _ ⟨.int (g i),H,I.tok _,⟨_,rfl⟩,q⟩
theorem un_neg:UnR X (unaryOp .USub) (rU fun i=>.int (-i)):=unI fun _ _ _ _ _ q=>neg_int q
end
noncomputable def scal:V→V→Bool
  | .non,.non=>true | .non,.int _=>true | .int _,.non=>true | .non,.bl _=>true | .bl _,.non=>true | .non,.str _=>true | .str _,.non=>true
  | .int _,.int _=>true | .bl _,.bl _=>true | .str _,.str _=>true | .byt _,.byt _=>true
  | .int _,.str _=>true | .str _,.int _=>true | .bl _,.str _=>true | .str _,.bl _=>true
  | _,_=>false
noncomputable def rEq:R2:=fun x y H Q=>scal x y = true∧Q (.bl (decide (x = y))) H
noncomputable def rNe:R2:=fun x y H Q=>scal x y = true∧Q (.bl (!decide (x = y))) H
theorem dec_int {i j:Int}:decide (V.int i = V.int j) = (i == j):=by
  rw [Bool.eq_iff_iff]
  simp
theorem dec_bl {i j:Bool}:decide (V.bl i = V.bl j) = (i == j):=by
  rw [Bool.eq_iff_iff]
  simp
theorem dec_str {i j:Str}:decide (V.str i = V.str j) = (i == j):=by
  rw [Bool.eq_iff_iff]
  simp
theorem dec_byt {i j:Array UInt8}:decide (V.byt i = V.byt j) = (i.toList == j.toList):=by
  rw [Bool.eq_iff_iff]
  cases i
  cases j
  simp
section
variable {X:Cx} {a b c:Expr} {ta tb tc:TE} {pos:Pos}
theorem fin_bl {pins:List (Addr×Obj)} {σ:St} {H:Hp} {s:Shared} {Q:VK} {k k':Bool} (I:Inv X pins σ H s) (q:Q (.bl k) H) (e:k = k'):EP X pins σ Q (.bool k') s:=by
  subst e
  exact ⟨.bl k,H,I,rfl,q⟩
theorem op_eq:OpR X (compareOp .Eq) rEq:=by
  intro pins s σ H x y v u Q I rx ry h
  obtain ⟨hs,q⟩:=h
  cases x with
  | non =>
    cases rx
    cases y with
    | non=>cases ry; exact PySem.EqNone.eq_none_none (fin_bl I q (by simp))
    | bl j=>cases ry; exact PySem.EqNone.eq_none_bool (fin_bl I q (by simp))
    | int j=>obtain ⟨t',rfl⟩:=ry; exact PySem.EqNone.eq_none_int (fin_bl I q (by simp))
    | str j=>obtain ⟨t',rfl⟩:=ry; exact PySem.EqNone.eq_none_str (fin_bl I q (by simp))
    | _=>exact absurd (show false = true from hs) Bool.false_ne_true
  | bl i =>
    cases rx
    cases y with
    | non=>cases ry; exact PySem.EqNone.eq_bool_none (fin_bl I q (by simp))
    | bl j=>cases ry; exact eq_bool (fin_bl I q dec_bl)
    | str j=>obtain ⟨t',rfl⟩:=ry; exact PySem.EqMixed.eq_bool_str (fin_bl I q (by simp))
    | _=>exact absurd (show false = true from hs) Bool.false_ne_true
  | int i =>
    obtain ⟨t,rfl⟩:=rx
    cases y with
    | non=>cases ry; exact PySem.EqNone.eq_int_none (fin_bl I q (by simp))
    | int j=>obtain ⟨t',rfl⟩:=ry; exact eq_int (fin_bl I q dec_int)
    | str j=>obtain ⟨t',rfl⟩:=ry; exact PySem.EqMixed.eq_int_str (fin_bl I q (by simp))
    | _=>exact absurd (show false = true from hs) Bool.false_ne_true
  | str i =>
    obtain ⟨t,rfl⟩:=rx
    cases y with
    | non=>cases ry; exact PySem.EqNone.eq_str_none (fin_bl I q (by simp))
    | bl j=>cases ry; exact PySem.EqMixed.eq_str_bool (fin_bl I q (by simp))
    | int j=>obtain ⟨t',rfl⟩:=ry; exact PySem.EqMixed.eq_str_int (fin_bl I q (by simp))
    | str j=>obtain ⟨t',rfl⟩:=ry; exact eq_str (fin_bl I q dec_str)
    | _=>exact absurd (show false = true from hs) Bool.false_ne_true
  | byt i =>
    obtain ⟨t,rfl⟩:=rx
    cases y with
    | byt j=>obtain ⟨t',rfl⟩:=ry; exact PySem.W.eq_bytes (fin_bl I q dec_byt)
    | _=>exact absurd (show false = true from hs) Bool.false_ne_true
  | _=>cases y <;> exact absurd (show false = true from hs) Bool.false_ne_true
theorem op_ne:OpR X (compareOp .NotEq) rNe:=by
  intro pins s σ H x y v u Q I rx ry h
  obtain ⟨hs,q⟩:=h
  cases x with
  | non =>
    cases rx
    cases y with
    | non=>cases ry; exact PySem.EqNone.ne_none_none (fin_bl I q (by simp))
    | bl j=>cases ry; exact PySem.EqNone.ne_none_bool (fin_bl I q (by simp))
    | int j=>obtain ⟨t',rfl⟩:=ry; exact PySem.EqNone.ne_none_int (fin_bl I q (by simp))
    | str j=>obtain ⟨t',rfl⟩:=ry; exact PySem.EqNone.ne_none_str (fin_bl I q (by simp))
    | _=>exact absurd (show false = true from hs) Bool.false_ne_true
  | bl i =>
    cases rx
    cases y with
    | non=>cases ry; exact PySem.EqNone.ne_bool_none (fin_bl I q (by simp))
    | bl j=>cases ry; exact ne_bool (fin_bl I q (congrArg not dec_bl))
    | str j=>obtain ⟨t',rfl⟩:=ry; exact PySem.EqMixed.ne_bool_str (fin_bl I q (by simp))
    | _=>exact absurd (show false = true from hs) Bool.false_ne_true
  | int i =>
    obtain ⟨t,rfl⟩:=rx
    cases y with
    | non=>cases ry; exact PySem.EqNone.ne_int_none (fin_bl I q (by simp))
    | int j=>obtain ⟨t',rfl⟩:=ry; exact ne_int (fin_bl I q (congrArg not dec_int))
    | str j=>obtain ⟨t',rfl⟩:=ry; exact PySem.EqMixed.ne_int_str (fin_bl I q (by simp))
    | _=>exact absurd (show false = true from hs) Bool.false_ne_true
  | str i =>
    obtain ⟨t,rfl⟩:=rx
    cases y with
    | non=>cases ry; exact PySem.EqNone.ne_str_none (fin_bl I q (by simp))
    | bl j=>cases ry; exact PySem.EqMixed.ne_str_bool (fin_bl I q (by simp))
    | int j=>obtain ⟨t',rfl⟩:=ry; exact PySem.EqMixed.ne_str_int (fin_bl I q (by simp))
    | str j=>obtain ⟨t',rfl⟩:=ry; exact ne_str (fin_bl I q (congrArg not dec_str))
    | _=>exact absurd (show false = true from hs) Bool.false_ne_true
  | byt i =>
    obtain ⟨t,rfl⟩:=rx
    cases y with
    | byt j=>obtain ⟨t',rfl⟩:=ry; exact PySem.W.ne_bytes (fin_bl I q (congrArg not dec_byt))
    | _=>exact absurd (show false = true from hs) Bool.false_ne_true
  | _=>cases y <;> exact absurd (show false = true from hs) Bool.false_ne_true
theorem op_lt:OpR X (compareOp .Lt) (rI0 fun i j=>.bl (decide (i < j))):=opB0 fun _ _ _ _ _ _ _ q=>lt_int q
theorem op_le:OpR X (compareOp .LtE) (rI0 fun i j=>.bl (decide (i ≤ j))):=opB0 fun _ _ _ _ _ _ _ q=>le_int q
theorem op_gt:OpR X (compareOp .Gt) (rI0 fun i j=>.bl (decide (j < i))):=opB0 fun _ _ _ _ _ _ _ q=>gt_int q
theorem op_isN:OpR X (compareOp .Is) (fun x y H Q=>y = .non∧Q (.bl (decide (x = .non))) H):=by
  intro pins s σ H x y v u Q I rx ry h
  obtain ⟨rfl,q⟩:=h
  cases ry
  refine is_none_gen (fin_bl I q ?_)
  cases x <;> first
    | (cases rx; rfl)
    | (obtain ⟨t,rfl⟩:=rx; rfl)
theorem op_notN:OpR X (compareOp .IsNot) (fun x y H Q=>y = .non∧Q (.bl (!decide (x = .non))) H):=by
  intro pins s σ H x y v u Q I rx ry h
  obtain ⟨rfl,q⟩:=h
  cases ry
  refine isnot_none_gen (fin_bl I q ?_)
  cases x <;> first
    | (cases rx; rfl)
    | (obtain ⟨t,rfl⟩:=rx; rfl)
theorem nomark (b:Expr) {op:CmpOp} (h:op ≠ .In:=by decide) (h2:op ≠ .NotIn:=by decide):behindInMarks op b = false:=by
  have e1:(op == CmpOp.In) = false:=by cases op <;> first | rfl | exact absurd rfl h
  have e2:(op == CmpOp.NotIn) = false:=by cases op <;> first | rfl | exact absurd rfl h2
  cases b <;> simp [behindInMarks,e1,e2]
theorem pe_cmpR {op:CmpOp} {r:R2} (ho:OpR X (compareOp op) r) (ha:PE X a ta) (hb:PE X b tb) (hm:behindInMarks op b = false):PE X (.Compare a [op] [b] pos) (tOp r ta tb):=by
  intro pins s σ H Q I h
  exact wpAny_Compare1 (binT ha hb I h fun v u s2 x y H2 I2 rx ry q=>ho pins s2 σ H2 x y v u Q I2 rx ry q) hm
noncomputable def tTest (t:TE):TT:=fun σ H Q=>t σ H fun x H'=>∃ k,x = .bl k∧Q k H'
theorem pt_cmpR {op:CmpOp} {r:R2} (ho:OpR X (compareOp op) r) (ha:PE X a ta) (hb:PE X b tb) (hm:behindInMarks op b = false):PT X (.Compare a [op] [b] pos) (tTest (tOp r ta tb)):=by
  intro pins s σ H Q I h
  refine wpAny_isTrue_Compare1 (thn (ha pins s σ H _ I h) fun v s1 ⟨x,H1,I1,r1,q1⟩=>thn (hb pins s1 σ H1 _ I1 q1) fun u s2 ⟨y,H2,I2,r2,q2⟩ =>
    thn (ho pins s2 σ H2 x y v u _ I2 r1 r2 q2) fun c s3 ⟨z,H3,I3,r3,k,e,q3⟩=>?_) hm
  subst e
  cases r3
  exact wpAny_truthy_bool ⟨H3,I3,q3⟩
noncomputable def TruV (K:PySem.W.Frag) (x:V) (H:Hp) (k:Bool):Prop :=
  match x with
  | .non=>k = false
  | .bl b=>k = b
  | .int i=>k = (i != 0)
  | .str y=>y.length ≤ sizeLine∧k = ((y.length:Int) != 0)
  | .byt y=>y.size ≤ sizeLine∧k = ((y.size:Int) != 0)
  | .ref p=>(∃ xs,SqL K H p xs∧k = !xs.isEmpty)∨(∃ xs,SqT K H p xs∧k = !xs.isEmpty)∨∃ kvs,H p = some (.dK kvs)∧k = !kvs.isEmpty
  | _=>False
theorem isEmpty_kv {κ:Type} {kvs:List (κ×V)} {vs:List (κ×Value)} (r:KV kvs vs):(!vs.isEmpty) = !kvs.isEmpty:=by
  cases r <;> rfl
theorem isEmpty_of {xs:List V} {its:List Value} (r:Vals xs its):(!its.toArray.isEmpty) = !xs.isEmpty:=by
  cases r <;> simp
theorem line63:(sizeLine:Nat) < 2 ^ 63:=by rw [sizeLine_eq]; decide
theorem tru_ok:TruR X (fun x H Q=>∃ k,TruV X.K x H k∧Q k H):=by
  intro pins s σ H x v Q I rx h
  obtain ⟨k,e,q⟩:=h
  have hl:=line63
  have hs:sizeLine = 16777216:=sizeLine_eq
  cases x with
  | non =>
    cases rx
    have e':k = false:=e
    subst e'
    exact truthy_none ⟨H,I,q⟩
  | bl b =>
    cases rx
    have e':k = b:=e
    subst e'
    exact wpAny_truthy_bool ⟨H,I,q⟩
  | int i =>
    obtain ⟨t,rfl⟩:=rx
    have e':k = (i != 0):=e
    subst e'
    exact PySem.P.truthy_int ⟨H,I,q⟩
  | str y =>
    obtain ⟨t,rfl⟩:=rx
    obtain ⟨hy,e'⟩:y.length ≤ sizeLine∧k = ((y.length:Int) != 0):=e
    subst e'
    exact PySem.P.truthy_str (by lia) ⟨H,I.tok _,q⟩
  | byt y =>
    obtain ⟨t,rfl⟩:=rx
    obtain ⟨hy,e'⟩:y.size ≤ sizeLine∧k = ((y.size:Int) != 0):=e
    subst e'
    exact PySem.W.truthy_bytes (by lia) ⟨H,I.tok _,q⟩
  | ref p =>
    cases rx
    have e':(∃ xs,SqL X.K H p xs∧k = !xs.isEmpty)∨(∃ xs,SqT X.K H p xs∧k = !xs.isEmpty)∨∃ kvs,H p = some (.dK kvs)∧k = !kvs.isEmpty:=e
    rcases e' with ⟨xs,hx,e'⟩ | ⟨xs,hx,e'⟩ | ⟨kvs,hx,e'⟩
    · subst e'
      obtain ⟨its,r,pl,hz⟩:=I.list hx
      have hlen:=r.length
      exact wpAny_truthy_list pl.isList (by simp only [List.size_toArray]; lia) ⟨H,I.tok _,by rw [isEmpty_of r]; exact q⟩
    · subst e'
      obtain ⟨its,r,pl,hz⟩:=I.tuple hx
      have hlen:=r.length
      exact truthy_tuple pl (by simp only [List.size_toArray]; lia) ⟨H,I.tok _,by rw [isEmpty_of r]; exact q⟩
    · subst e'
      obtain ⟨hz,hS,vs,r,m⟩:kvs.length ≤ sizeLine∧(p == sysModules) = false∧∃ vs,KV kvs vs∧s.heap.DictOf (mixKind X.prog X.w) p vs:=I.hok p _ hx
      have hlen:kvs.length = vs.length:=Paired.length r
      exact wpAny_truthy_dict hS m (by lia) ⟨H,I.tok _,by rw [isEmpty_kv r]; exact q⟩
  | _=>exact (show False from e).elim
theorem pt_truth (ha:PE X a ta) (he:∀ whole,isTrue a X.env whole = (do let v ← whole; standAt a.pos; holding [v] (truthy v))) :
    PT X a (fun σ H Q=>ta σ H fun x H'=>∃ k,TruV X.K x H' k∧Q k H'):=by
  intro pins s σ H Q I h
  exact isTrue_plain (thn (ha pins s σ H _ I h) fun v s1 ⟨x,H1,I1,r1,q1⟩=>tru_ok pins s1 σ H1 x v Q I1 r1 q1) (he _)
theorem vals1 {x:V} {us:List Value} (r:Vals [x] us):∃ u,us = [u]∧RelV x u:=by
  cases r with
  | cons r1 r2=>cases r2; exact ⟨_,rfl,r1⟩
theorem vals2 {x y:V} {us:List Value} (r:Vals [x,y] us):∃ u w',us = [u,w']∧RelV x u∧RelV y w':=by
  cases r with
  | cons r1 r2 =>
    cases r2 with
    | cons r3 r4=>cases r4; exact ⟨_,_,rfl,r1,r3⟩
theorem call_max2 (hc:X.calm = true):CallR X (.builtin "max") (fun xs H Q=>∃ i j,xs = [.int i,.int j]∧Q (.int (if j > i then j else i)) H):=by
  intro pins s σ H xs us Q I r h
  obtain ⟨i,j,rfl,q⟩:=h
  obtain ⟨u,w',rfl,⟨t,rfl⟩,⟨t',rfl⟩⟩:=vals2 r
  refine max_two_ints (I.ok.hd hc) fun h' tk k=>⟨_,H,I.kept k,?_,q⟩
  by_cases hj:j > i
  · rw [if_pos hj,if_pos hj]; exact ⟨_,rfl⟩
  · rw [if_neg hj,if_neg hj]; exact ⟨_,rfl⟩
theorem call_min2 (hc:X.calm = true):CallR X (.builtin "min") (fun xs H Q=>∃ i j,xs = [.int i,.int j]∧Q (.int (if j < i then j else i)) H):=by
  intro pins s σ H xs us Q I r h
  obtain ⟨i,j,rfl,q⟩:=h
  obtain ⟨u,w',rfl,⟨t,rfl⟩,⟨t',rfl⟩⟩:=vals2 r
  refine min_two_ints (I.ok.hd hc) fun h' tk k=>⟨_,H,I.kept k,?_,q⟩
  by_cases hj:j < i
  · rw [if_pos hj,if_pos hj]; exact ⟨_,rfl⟩
  · rw [if_neg hj,if_neg hj]; exact ⟨_,rfl⟩
end
end L2
namespace L2
open PySem PySem.Spec PyProof.Rows
structure ObjM (h:Heap) (x dx C:Addr) (mA:Str→Option Value):Prop where
  obj:h.get? x = some (PySem.W.instObj C dx)
  ns:h.Ns1 dx mA
  ne:dx ≠ x
set_option tactic.hygienic true in
theorem lookIn_ns {h:Heap} {dx:Addr} {mA:Str→Option Value} (n:h.Ns1 dx mA):∃ od,h.get? dx = some od∧∀ name,PySem.W.lookIn name od = some (mA name):=by
  obtain ⟨o,es,ep,ho,hd,hk,_,hm⟩:=n
  refine ⟨o,ho,fun name=>?_⟩
  have e:=hm name
  unfold nsFind findBy at e
  rw [← Array.find?_toList] at e
  unfold PySem.W.lookIn
  rw [hd]
  dsimp only
  split
  · rename_i y q
    rw [q] at e
    exact congrArg some e
  · rename_i q
    rw [q] at e
    have a:es.toList.any (·.refKey) = false:=by
      rw [List.any_eq_false]
      intro y hy
      obtain ⟨z,t,hkey⟩:=hk y (Array.mem_toList_iff.mp hy)
      simp [DictEntry.refKey,hkey]
    have a':¬ es.toList.any (·.refKey) = true:=by rw [a]; exact Bool.false_ne_true
    rw [if_neg a']
    exact congrArg some e
theorem ObjM.look {h:Heap} {x dx C:Addr} {mA:Str→Option Value} (I:ObjM h x dx C mA):∃ od,PySem.W.InstAt h x (PySem.W.instObj C dx) C (some od)∧∀ name,PySem.W.lookIn name od = some (mA name) :=
  let ⟨od,ho,hl⟩:=lookIn_ns I.ns
  ⟨od,⟨I.obj,rfl,rfl,ho⟩,hl⟩
section
variable {prog:Program} {w:World} {A:Around} {E:Value→Shared→Prop} {s:Shared} {K:PySem.W.Frag} {x dx C f:Addr} {mA:Str→Option Value} {name:Str} {v:Value}
theorem get_map {expr:Bool} {Q:Value→Shared→Prop} (X:K.In s.heap) (I:ObjM s.heap x dx C mA) (hg:PySem.W.plainGet K C name = true) (hh:PySem.W.hasDictIn K C = true)
    (ha:PySem.W.findIn K (.ref C) name = some none) (hv:mA name = some v) (hv':PySem.W.handedIn v = true) (h:Q v { s with toks:=s.toks + 1 }) :
    wpAny (model prog w) A (getAttr (.ref x) name expr) Q E s:=by
  obtain ⟨od,J,hl⟩:=I.look
  exact PySem.W.get_value X J (PySem.W.plainGet_of hg).1 (PySem.W.findObj_own hh ha rfl (by rw [hl,hv])) hv' h
theorem get_meth {pl:Sem Bool} {Q:Value×List Value→Shared→Prop} (X:K.In s.heap) (I:ObjM s.heap x dx C mA) (hg:PySem.W.plainGet K C name = true)
    (hf:PySem.W.findIn K (.ref C) name = some (some (.ref f))) (ht:PySem.W.isFn K (.ref f) = true) (hv:mA name = none) (h:Q (.ref f,[.ref x]) s) :
    wpAny (model prog w) A (getMethod (.ref x) name pl) Q E s:=by
  obtain ⟨od,J,hl⟩:=I.look
  exact PySem.W.method_fn X J (PySem.W.plainGet_of hg).1 (PySem.W.plainGet_of hg).2 hf (beq_iff_eq.mp ht) (by show (PySem.W.lookIn name od).map (·.isSome) = some false; rw [hl,hv]; rfl) h
theorem set_map {ns:List Str} {Q:Unit→Shared→Prop} (X:K.In s.heap) (I:ObjM s.heap x dx C mA)
    (hs:PySem.W.findIn K (.ref C) "__setattr__" = some (some (.builtin "object.__setattr__"))) (hp:PySem.W.plainOver K C = true) (ht:PySem.W.takerIn K C name = some none) (hh:PySem.W.hasDictIn K C = true)
    (hw:PySem.Within mA ns) (hsz:ns.length ≤ sizeLine)
    (h:∀ h',ObjM h' x dx C (fun y=>if y = name then some v else mA y)→Heap.SameBut dx s.heap h'→Q () { s with heap:=h',toks:=s.toks + 2 }) :
    wpAny (model prog w) A (setAttr (.ref x) name v) Q E s:=by
  obtain ⟨od,J,hl⟩:=I.look
  refine PySem.W.set_plain X J hs (PySem.W.osa_open (s:={ s with toks:=s.toks + 1 }) (r:=none) X J hp ht fun b=>?_)
  obtain ⟨cd,hc,hd'⟩:=PySem.W.any_some hh
  have hx:s.heap.get? x = some ⟨.ref C,some dx,.plain,#[]⟩:=I.obj
  refine wpAny_bind (wpAny_pure (wpAny_bind (wpAny_bind (wpAny_loadPart hx (wpAny_bind (PySem.W.Looks.here (s:={ s with toks:=s.toks + 1 }) (PySem.W.looks_clsIn X hc) ?_))))))
  rw [hd']
  refine wpAny_pure (a:=some dx) (wpAny_bind (wpAny_pure (wpAny_bind ?_)))
  refine wpAny_nsSet1 (s:={ s with toks:=s.toks + 1 }) I.ns fun h' hn2 hs2=>?_
  obtain ⟨oD,esD,epD,hoD,hdD,hcD⟩:=hn2.count (PySem.Within.cons name v hw)
  refine wpAny_bind (wpAny_lookBehind hoD (by rw [hdD]; exact pastItsLine_dict (Nat.le_trans hcD (by rw [List.length_cons]; lia))) ?_)
  exact wpAny_pure (h _ ⟨(hs2.2 _ (Ne.symm I.ne)).trans I.obj,hn2,I.ne⟩ hs2)
theorem make_map {R:Result→Shared→Prop} {vs:List Value} {kw:List (Str×Value)} (X:K.In s.heap) (hm:PySem.W.makesIn K C = true)
    (hi:PySem.W.findIn K (.ref C) "__init__" = some (some (.ref f))) (hf:PySem.W.typeIn K (.ref f) = some (.type "function"))
    (h:codeAny (model prog w) (A.under (.builtin "type.__call__" ⟨.ref C :: vs,kw⟩)) (.call (.ref f) ⟨.ref (s.heap.objs.size + 1) :: vs,kw⟩) (PySem.W.InitBack (s.heap.objs.size + 1) R)
      { s with heap:=(s.heap.push PySem.W.emptyDict).push (PySem.W.instObj C s.heap.objs.size) }) :
    codeAny (model prog w) A (.call (.ref C) ⟨vs,kw⟩) R s:=by
  obtain ⟨hh,g,d,t,os⟩:=s
  exact PySem.W.make_core (PySem.W.makes_of X hm) (PySem.W.looks_findIn X hi) (fun self=>PySem.W.bind_fn X self hf) (.inl rfl) h
end
noncomputable def putF (f:Str) (v:V):List (Str×V)→List (Str×V)
  | []=>[(f,v)]
  | (g,x) :: r=>if g = f then (g,v) :: r else (g,x) :: putF f v r
theorem lookup_putF (f g:Str) (v:V):∀ fs:List (Str×V),(putF f v fs).lookup g = if g = f then some v else fs.lookup g
  | []=>by
    show List.lookup g [(f,v)] = _
    by_cases h:g = f
    · have hb:(g == f) = true:=beq_iff_eq.mpr h
      simp only [List.lookup,hb,if_pos h]
    · have hb:(g == f) = false:=beq_eq_false_iff_ne.mpr h
      simp only [List.lookup,hb,if_neg h]
  | (k,x) :: r=>by
    have ih:=lookup_putF f g v r
    rw [show putF f v ((k,x) :: r) = (if k = f then (k,v) :: r else (k,x) :: putF f v r) from rfl]
    by_cases hk:k = f
    · rw [if_pos hk]
      by_cases h:g = k
      · have hb:(g == k) = true:=beq_iff_eq.mpr h
        simp only [List.lookup,hb,if_pos (h.trans hk)]
      · have hb:(g == k) = false:=beq_eq_false_iff_ne.mpr h
        simp only [List.lookup,hb,if_neg (fun e:g = f=>h (e.trans hk.symm))]
    · rw [if_neg hk]
      by_cases h:g = k
      · have hb:(g == k) = true:=beq_iff_eq.mpr h
        simp only [List.lookup,hb,if_neg (fun e:g = f=>hk (h.symm.trans e))]
      · have hb:(g == k) = false:=beq_eq_false_iff_ne.mpr h
        simp only [List.lookup,hb]
        exact ih
theorem keys_putF (f:Str) (v:V):∀ fs:List (Str×V),f ∈ (putF f v fs).map (·.1)∧∀ g,g ∈ fs.map (·.1)→g ∈ (putF f v fs).map (·.1)
  | []=>⟨by simp [putF],fun g h=>by simp at h⟩
  | (k,x) :: r=>by
    obtain ⟨i1,i2⟩:=keys_putF f v r
    rw [show putF f v ((k,x) :: r) = (if k = f then (k,v) :: r else (k,x) :: putF f v r) from rfl]
    by_cases hk:k = f
    · rw [if_pos hk]
      subst hk
      exact ⟨by simp,fun g h=>by simpa using h⟩
    · rw [if_neg hk]
      refine ⟨?_,fun g h=>?_⟩
      · rw [List.map_cons]
        exact List.mem_cons_of_mem _ i1
      · rw [List.map_cons] at h ⊢
        rcases List.mem_cons.mp h with e | e
        · exact List.mem_cons.mpr (.inl e)
        · exact List.mem_cons_of_mem _ (i2 g e)
theorem length_putF (f:Str) (v:V):∀ fs:List (Str×V),(putF f v fs).length ≤ fs.length + 1
  | []=>by simp [putF]
  | (k,x) :: r=>by
    have ih:=length_putF f v r
    rw [show putF f v ((k,x) :: r) = (if k = f then (k,v) :: r else (k,x) :: putF f v r) from rfl]
    by_cases hk:k = f
    · rw [if_pos hk,List.length_cons,List.length_cons]; lia
    · rw [if_neg hk,List.length_cons,List.length_cons]; lia
theorem RelO.some_of {v:V} {o:Option Value} (r:RelO (some v) o):∃ u,o = some u∧RelV v u:=by
  cases o with
  | none=>exact (show False from r).elim
  | some u=>exact ⟨u,rfl,r⟩
theorem RelO.none_of {o:Option Value} (r:RelO none o):o = none:=by
  cases o with
  | none=>rfl
  | some u=>exact (show False from r).elim
theorem handed_of {v:V} {u:Value} (r:RelV v u):PySem.W.handedIn u = true:=by
  cases v with
  | non=>cases (show u = Value.none from r); rfl
  | bl b=>cases (show u = Value.bool b from r); rfl
  | int i=>obtain ⟨t,e⟩:=(show ∃ t,u = Value.int i t from r); cases e; rfl
  | str x=>obtain ⟨t,e⟩:=(show ∃ t,u = Value.str x t from r); cases e; rfl
  | byt b=>obtain ⟨t,e⟩:=(show ∃ t,u = Value.bytes b t from r); cases e; rfl
  | flt b=>obtain ⟨t,e⟩:=(show ∃ t,u = Value.float b t from r); cases e; rfl
  | ref a=>cases (show u = Value.ref a from r); rfl
  | ty n=>cases (show u = Value.type n from r); rfl
section
variable {P:Program} {w:World} {H H':Hp} {h h':Heap} {a C dx:Addr} {fs fs':List (Str×V)}
theorem ins_get (hok:HOk P w H h) (e:H a = some (.ins C dx fs)):∃ mA,ObjM h a dx C mA∧(∀ f,RelO (fs.lookup f) (mA f))∧PySem.Within mA (fs.map (·.1))∧fs.length ≤ 1000∧H dx = some (.own a):=by
  obtain ⟨d,z,ne,ob,mA,n,r,q⟩:=(show ObjOk P w H h a (.ins C dx fs) from hok a _ e)
  exact ⟨mA,⟨ob,n,ne⟩,r,q,z,d⟩
end
structure Cls (K:PySem.W.Frag) (C:Addr):Prop where
  pg:PySem.W.plainGet K C Str.empty = true
  hd:PySem.W.hasDictIn K C = true
  po:PySem.W.plainOver K C = true
  sa:PySem.W.findIn K (.ref C) "__setattr__" = some (some (.builtin "object.__setattr__"))
theorem Cls.get {K:PySem.W.Frag} {C:Addr} (c:Cls K C) (f:Str):PySem.W.plainGet K C f = true:=c.pg
noncomputable def NoAttr (K:PySem.W.Frag) (C:Addr) (f:Str):Prop:=PySem.W.findIn K (.ref C) f = some none
theorem NoAttr.taker {K:PySem.W.Frag} {C:Addr} {f:Str} (n:NoAttr K C f):PySem.W.takerIn K C f = some none:=by
  unfold PySem.W.takerIn
  rw [show PySem.W.findIn K (.ref C) f = some none from n]
  rfl
structure Meth (K:PySem.W.Frag) (C:Addr) (m:Str) (f:Addr):Prop where
  at_:PySem.W.findIn K (.ref C) m = some (some (.ref f))
  fn:PySem.W.isFn K (.ref f) = true
  kp:PySem.W.keepIn K (.ref f) = true
section
variable {X:Cx} {pins:List (Addr×Obj)} {σ:St} {H:Hp} {s:Shared} {a C dx:Addr} {fs:List (Str×V)} {f:Str} {v:V} {A:Around} {E:Value→Shared→Prop}
theorem getattr_ok {b:Bool} {Q:Value→Shared→Prop} (I:Inv X pins σ H s) (e:H a = some (.ins C dx fs)) (c:Cls X.K C) (n:NoAttr X.K C f) (l:fs.lookup f = some v)
    (h:∀ u s',Inv X pins σ H s'→RelV v u→Q u s'):wpAny (model X.prog X.w) A (getAttr (.ref a) f b) Q E s:=by
  obtain ⟨mA,O,r,_,_,_⟩:=ins_get I.hok e
  obtain ⟨u,hu,ru⟩:=RelO.some_of (v:=v) (o:=mA f) (by rw [← l]; exact r f)
  exact get_map I.kIn O (c.get f) c.hd n hu (handed_of ru) (h u _ (I.tok _) ru)
theorem getmeth_ok {m:Str} {g:Addr} {pl:Sem Bool} {Q:Value×List Value→Shared→Prop} (I:Inv X pins σ H s) (e:H a = some (.ins C dx fs)) (c:Cls X.K C) (k:Meth X.K C m g) (l:fs.lookup m = none)
    (h:Q (.ref g,[.ref a]) s):wpAny (model X.prog X.w) A (getMethod (.ref a) m pl) Q E s:=by
  obtain ⟨mA,O,r,_,_,_⟩:=ins_get I.hok e
  have hn:mA m = none:=RelO.none_of (by rw [← l]; exact r m)
  exact get_meth I.kIn O (c.get m) k.at_ k.fn hn h
theorem setattr_ok {y:V} {u:Value} {Q:Unit→Shared→Prop} (I:Inv X pins σ H s) (e:H a = some (.ins C dx fs)) (c:Cls X.K C) (n:NoAttr X.K C f) (hl:fs.length < 1000) (ry:RelV y u)
    (h:∀ s',Inv X pins σ (upd H a (.ins C dx (putF f y fs))) s'→Q () s'):wpAny (model X.prog X.w) A (setAttr (.ref a) f u) Q E s:=by
  obtain ⟨mA,O,r,wi,_,ho⟩:=ins_get I.hok e
  have hz:(fs.map (·.1)).length ≤ sizeLine:=by rw [List.length_map,sizeLine_eq]; lia
  refine set_map I.kIn O c.sa c.po n.taker c.hd wi hz fun h' O' sb=>h _ ?_
  have hd:∃ o,h'.get? dx = some o:=let ⟨o,_,_,e',_⟩:=O'.ns; ⟨o,e'⟩
  refine I.write (x:=a) (e:=dx) (by rw [e]; exact True.intro) (.inr ho) (fun b q hb z=>(sb.2 b hb).trans z) hd ?_
  refine ⟨by rw [upd_ne O.ne]; exact ho,?_,O.ne,O'.obj,_,O'.ns,fun g=>?_,fun g hg=>?_⟩
  · have:=length_putF f y fs; lia
  · show RelO ((putF f y fs).lookup g) (if g = f then some u else mA g)
    rw [lookup_putF]
    by_cases q:g = f
    · rw [if_pos q,if_pos q]; exact ry
    · rw [if_neg q,if_neg q]; exact r g
  · by_cases q:g = f
    · rw [q]; exact (keys_putF f y fs).1
    · refine (keys_putF f y fs).2 g (wi g fun z=>hg ?_)
      show (if g = f then some u else mA g) = none
      rw [if_neg q]; exact z
theorem Inv.made (I:Inv X pins σ H s):Inv X pins σ (upd (upd H s.heap.objs.size (.own (s.heap.objs.size + 1))) (s.heap.objs.size + 1) (.ins C s.heap.objs.size []))
    { s with heap:=(s.heap.push PySem.W.emptyDict).push (PySem.W.instObj C s.heap.objs.size) }:=by
  have e1:(s.heap.push PySem.W.emptyDict).get? s.heap.objs.size = some PySem.W.emptyDict:=Heap.get?_push_size s.heap rfl
  have e2:((s.heap.push PySem.W.emptyDict).push (PySem.W.instObj C s.heap.objs.size)).get? (s.heap.objs.size + 1) = some (PySem.W.instObj C s.heap.objs.size):=by
    have:=Heap.get?_push_size (s.heap.push PySem.W.emptyDict) (o:=PySem.W.instObj C s.heap.objs.size) rfl
    rwa [Heap.size_push] at this
  have e3:(s.heap.push PySem.W.emptyDict).Ns s.heap.objs.size (fun _=>none):=⟨PySem.W.emptyDict,#[],_,e1,rfl,(fun e he=>absurd he (by simp)),fun _=>rfl⟩
  have I1:=I.laid (a:=s.heap.objs.size) (o:=.own (s.heap.objs.size + 1)) (h':=s.heap.push PySem.W.emptyDict) (t':=s.toks) (fun b u q=>Heap.get?_push_of_some _ q) (Nat.le_refl _) ⟨_,e1⟩
  refine I1.laid (a:=s.heap.objs.size + 1) (o:=.ins C s.heap.objs.size []) (t':=s.toks) (fun b u q=>Heap.get?_push_of_some _ q) (Nat.le_of_eq (Heap.size_push _ _)) ?_
  have ne:s.heap.objs.size ≠ s.heap.objs.size + 1:=Nat.ne_of_lt (Nat.lt_succ_self _)
  refine ⟨by rw [upd_ne ne,upd_same],Nat.zero_le _,ne,e2,fun _=>none,(Heap.Ns1.of_empty e3).at fun o q=>Heap.get?_push_of_some _ q,fun _=>True.intro,fun y hy=>absurd rfl hy⟩
theorem attr_of {prog:Program} {w:World} {env:Env} {e:Expr} {f:Str} {pos:Pos} {s:Shared} {Q:Value→Shared→Prop} (hb:attributeBase e f env (eval e env) = eval e env)
    (h:wpAny (model prog w) A (eval e env) (fun o s₁=>wpAny (model prog w) A (getAttr o f true) Q E s₁) E s):wpAny (model prog w) A (eval (.Attribute e f pos) env) Q E s :=
  Attribute_any_ h (by rw [arm_eval_Attribute,hb])
end
noncomputable def tFld (K:PySem.W.Frag) (ta:TE) (f:Str):TE:=fun σ H Q=>ta σ H fun x H1=>∃ a C dx fs v,x = .ref a∧H1 a = some (.ins C dx fs)∧Cls K C∧NoAttr K C f∧fs.lookup f = some v∧Q v H1
noncomputable def sFld (K:PySem.W.Frag) (ta tv:TE) (f:Str):TS:=fun D σ H=>tv σ H fun y H1=>ta σ H1 fun x H2=>∃ a C dx fs,x = .ref a∧H2 a = some (.ins C dx fs)∧Cls K C∧NoAttr K C f∧fs.length < 1000 ∧
  D.nx σ (upd H2 a (.ins C dx (putF f y fs)))
section
variable {X:Cx} {o e value:Expr} {f:Str} {pos pos' tpos:Pos} {ta tv:TE}
theorem pe_fld (he:PE X e ta) (hb:attributeBase e f X.env (eval e X.env) = eval e X.env):PE X (.Attribute e f pos) (tFld X.K ta f):=by
  intro pins s σ H Q I h
  refine attr_of hb (thn (he pins s σ H _ I h) fun u s1 ⟨x,H1,I1,rx,a,C,dx,fs,v,ex,ea,c,n,l,q⟩=>?_)
  subst ex
  obtain rfl:u = Value.ref a:=rx
  exact getattr_ok I1 ea c n l fun u' s2 I2 ru=>⟨v,H1,I2,ru,q⟩
theorem ps_fld (ha:PE X o ta) (hv:PE X value tv) (hs:swapsWith value (some (.Attribute o f pos')) pos.line X.env = pure false):PS X (.Assign [.Attribute o f pos'] value pos) (sFld X.K ta tv f):=by
  intro pins s σ H D I h
  refine plainObj_wpAny_Assign_Attribute (thn (hv pins s σ H _ I h) fun u s1 ⟨y,H1,I1,ry,q⟩=>thn (ha pins s1 σ H1 _ I1 q) fun ov s2 ⟨x,H2,I2,rx,a,C,dx,fs,ex,ea,c,n,l,q2⟩=>?_) hs
  subst ex
  obtain rfl:ov = Value.ref a:=rx
  exact setattr_ok I2 ea c n l ry fun s3 I3=>⟨σ,_,I3,q2⟩
theorem methcall_of {pl:Sem Bool} {m:Str} {apos:Pos} {args:List Expr} {pins:List (Addr×Obj)} {s:Shared} {σ:St} {H:Hp} {Q:Value→Shared→Prop} {te:TE} (he:PE X e te) (I:Inv X pins σ H s)
    (h:te σ H fun x H1=>∃ a C dx fs g,x = .ref a∧H1 a = some (.ins C dx fs)∧Cls X.K C∧Meth X.K C m g∧fs.lookup m = none ∧
      ∀ s1,Inv X pins σ H1 s1→wpAny (model X.prog X.w) X.A (callWith pos (.ref g) [.ref a] (backTo pos (starEach args X.env)) (backToKw pos (keywordEach [] X.env))) Q X.xe s1)
    (ht:eval (.Call (.Attribute e m apos) args [] pos) X.env = (do
      let ov ← eval e X.env
      standAt apos.atName
      let (f,first) ← holding [ov] (getMethod ov m pl)
      callWith pos f first (backTo pos (starEach args X.env)) (backToKw pos (keywordEach [] X.env)))) :
    wpAny (model X.prog X.w) X.A (eval (.Call (.Attribute e m apos) args [] pos) X.env) Q X.xe s:=by
  refine PySem.W.methodCall_KW (pl:=pl) (thn (he pins s σ H _ I h) fun u s1 z=>?_) ht
  obtain ⟨x,H1,I1,rx,a,C,dx,fs,g,ex,ea,c,k,l,q⟩:=z
  subst ex
  obtain rfl:u = Value.ref a:=rx
  exact getmeth_ok I1 ea c k l (q s1 I1)
end
section
variable {X:Cx} {pins:List (Addr×Obj)} {σ:St} {H:Hp} {s:Shared} {A:Around} {E:Value→Shared→Prop} {Q:Value→Shared→Prop} {c:Value} {b:Bool}
inductive TyOf (K:PySem.W.Frag) (H:Hp):V→Value→Prop where
  | non:TyOf K H .non (.type "NoneType")
  | bl (x:Bool):TyOf K H (.bl x) (.type "bool")
  | int (i:Int):TyOf K H (.int i) (.type "int")
  | str (x:Str):TyOf K H (.str x) (.type "str")
  | flt (x:UInt64):TyOf K H (.flt x) (.type "float")
  | lst {a:Addr} {xs:List V} (e:H a = some (.lst xs)):TyOf K H (.ref a) (.type "list")
  | frz {a:Addr} {o:Obj} {xs:List V} (e:H a = some (.frz o (.lst xs))):TyOf K H (.ref a) (.type "list")
  | tup {a:Addr} {xs:List V} (e:H a = some (.tup xs)):TyOf K H (.ref a) (.type "tuple")
  | dK {a:Addr} {kvs:List (Key×V)} (e:H a = some (.dK kvs)):TyOf K H (.ref a) (.type "dict")
  | dT {a:Addr} {kvs:List (List Key×V)} (e:H a = some (.dT kvs)):TyOf K H (.ref a) (.type "dict")
  | ins {a C dx:Addr} {fs:List (Str×V)} (e:H a = some (.ins C dx fs)) (cl:Cls K C) (ha:PySem.W.findIn K (.ref C) "__class__" = some (some (.builtin "object.__class__")))
      (hn:PySem.W.specialIn K (.builtin "object.__class__") "__get__" = some (some (.builtin "getset_descriptor.__get__"))) (htk:PySem.W.takesIn K (.builtin "object.__class__") = some true)
      (hm:PySem.W.mroIn K C (.type "object") = some true):TyOf K H (.ref a) (.ref C)
theorem isinst_ok {x:V} {u t:Value} (I:Inv X pins σ H s) (rx:RelV x u) (ty:TyOf X.K H x t) (e:PySem.W.kitOne X.K t c = some b) (h:∀ tk,Q (.bool b) { s with toks:=tk }) :
    wpAny (model X.prog X.w) A (call (.builtin "isinstance") [u,c]) Q E s:=by
  cases ty with
  | non=>cases (show u = Value.none from rx); exact PySem.W.kia_one PySem.W.kitx_none I.kIn True.intro e (fun z=>nomatch z) h
  | bl y=>cases (show u = Value.bool y from rx); exact PySem.W.kia_one PySem.W.kitx_bool I.kIn True.intro e (fun z=>nomatch z) h
  | int i=>obtain ⟨t,q⟩:=(show ∃ t,u = Value.int i t from rx); cases q; exact PySem.W.kia_one PySem.W.kitx_int I.kIn True.intro e (fun z=>nomatch z) h
  | str y=>obtain ⟨t,q⟩:=(show ∃ t,u = Value.str y t from rx); cases q; exact PySem.W.kia_one PySem.W.kitx_str I.kIn True.intro e (fun z=>nomatch z) h
  | flt y=>obtain ⟨t,q⟩:=(show ∃ t,u = Value.float y t from rx); cases q; exact PySem.W.kia_one PySem.W.kitx_float I.kIn True.intro e (fun z=>nomatch z) h
  | @lst a xs ea =>
    cases (show u = Value.ref a from rx)
    obtain ⟨_,_,n,_,h1⟩:=(show ObjOk X.prog X.w H s.heap a (.lst xs) from I.hok a _ ea)
    exact PySem.W.kia_one PySem.W.kitx_list I.kIn ⟨_,h1,rfl⟩ e (fun z=>nomatch z) h
  | @frz a ob xs ea =>
    cases (show u = Value.ref a from rx)
    obtain ⟨_,_,_,n,_,h1⟩:=(show ObjOk X.prog X.w H s.heap a (.frz ob (.lst xs)) from I.hok a _ ea)
    exact PySem.W.kia_one PySem.W.kitx_list I.kIn ⟨_,h1,rfl⟩ e (fun z=>nomatch z) h
  | @tup a xs ea =>
    cases (show u = Value.ref a from rx)
    obtain ⟨_,_,_,p⟩:=(show ObjOk X.prog X.w H s.heap a (.tup xs) from I.hok a _ ea)
    obtain ⟨o,h1,h2,_⟩:=p
    exact PySem.W.kia_one PySem.W.kitx_tuple I.kIn ⟨o,h1,h2⟩ e (fun z=>nomatch z) h
  | @dK a kvs ea =>
    cases (show u = Value.ref a from rx)
    obtain ⟨_,_,vs,_,p⟩:=(show ObjOk X.prog X.w H s.heap a (.dK kvs) from I.hok a _ ea)
    obtain ⟨o,es,ep,h1,h2,_⟩:=p
    exact PySem.W.kia_one PySem.W.kitx_dict I.kIn ⟨o,h1,h2.1⟩ e (fun z=>nomatch z) h
  | @dT a kvs ea =>
    cases (show u = Value.ref a from rx)
    obtain ⟨_,_,xs,_,o,es,ep,h1,h2,_⟩:=(show ObjOk X.prog X.w H s.heap a (.dT kvs) from I.hok a _ ea)
    exact PySem.W.kia_one PySem.W.kitx_dict I.kIn ⟨o,h1,h2.1⟩ e (fun z=>nomatch z) h
  | @ins a C dx fs ea cl ha hn htk hm =>
    cases (show u = Value.ref a from rx)
    obtain ⟨mA,O,_⟩:=ins_get I.hok ea
    obtain ⟨od,J,_⟩:=O.look
    exact PySem.W.kia_one (PySem.W.kitx_own (cl.get _) cl.hd ha hn htk hm) I.kIn J e (fun z=>nomatch z) h
end
end L2
namespace L2
open PySem PySem.Spec PyProof.Rows
structure Room (k:Nat) (A:Around) (c:Bool:=true):Prop where
  hc:c = true→A.handled = none
  dp:A.depth + 3 * k + 5 < recursionLimit
  un:A.units + 16 * k + 200 < cLine
theorem Room.hd {k:Nat} {A:Around} (r:Room k A):A.handled = none:=r.hc rfl
theorem Room.mono {j k:Nat} {A:Around} {c:Bool} (r:Room k A c) (h:j ≤ k):Room j A c:=⟨r.hc,by have:=r.dp; lia,by have:=r.un; lia⟩
theorem Room.deeper {k:Nat} {A:Around} {c:Bool} (r:Room (k + 1) A c) (env:Env):Room k (A.deeper env) c :=
  ⟨r.hc,by have:=r.dp; show A.depth + 1 + 3 * k + 5 < _; lia,by have:=r.un; show A.units + 3 + 16 * k + 200 < _; lia⟩
theorem make_depth {A:Around} {C:Addr} {us:List Value} {kw:List (Str×Value)}:(A.under (.builtin "type.__call__" ⟨.ref C :: us,kw⟩)).depth = A.depth + 1:=by
  first | rfl | simp [Around.under,Code.weight,Code.isCreation,Code.isGuard,Code.isCaller,Code.frames,Code.isFrame,guardIds]
theorem make_units {A:Around} {C:Addr} {us:List Value} {kw:List (Str×Value)}:(A.under (.builtin "type.__call__" ⟨.ref C :: us,kw⟩)).units = A.units + 1:=by
  first | rfl | simp [Around.under,Code.cUnits,Code.frames,Code.isFrame]
theorem Room.make {k:Nat} {A:Around} {c:Bool} (r:Room (k + 1) A c) (C:Addr) (us:List Value) (kw:List (Str×Value)):Room k (A.under (.builtin "type.__call__" ⟨.ref C :: us,kw⟩)) c :=
  ⟨r.hc,by have:=r.dp; rw [make_depth]; lia,by have:=r.un; rw [make_units]; lia⟩
theorem Room.depth {k:Nat} {A:Around} {c:Bool} (r:Room k A c):A.depth < recursionLimit:=by have:=r.dp; lia
theorem Room.units {k:Nat} {A:Around} {c:Bool} (r:Room k A c):A.units + 64 < cLine:=by have:=r.un; lia
noncomputable def tNil:TA:=fun _ H Q=>Q [] H
noncomputable def tCons (ta:TE) (tr:TA):TA:=fun σ H Q=>ta σ H fun x H1=>tr σ H1 fun xs H2=>Q (x :: xs) H2
section
variable {X:Cx} {e:Expr} {es:List Expr} {te:TE} {t:TA} {pos:Pos}
theorem pa_nil:PA X [] tNil:=fun _ _ _ _ H Q I h=>Calls.spliced_nil ⟨[],H,I,.nil,h⟩
theorem pa_cons (ha:PE X e te) (hr:PA X es t) (hs:starEach (e :: es) X.env = (false,eval e X.env) :: starEach es X.env:=by rfl):PA X (e :: es) (tCons te t):=by
  intro pos pins s σ H Q I h
  rw [hs]
  show wpAny _ _ (spliced ((false,eval e X.env) :: backTo pos (starEach es X.env))) _ _ s
  refine Calls.spliced_cons (thn (ha pins s σ H _ I h) fun u s1 ⟨x,H1,I1,r1,q1⟩=>?_)
  exact thn (hr pos pins s1 σ H1 _ I1 q1) fun us s2 ⟨xs,H2,I2,r2,q2⟩=>⟨x :: xs,H2,I2,.cons r1 r2,q2⟩
noncomputable def tTup (t:TA):TE:=fun σ H Q=>t σ H fun xs H1=>xs.length ≤ sizeLine∧∀ p,H1 p = none→Q (.ref p) (upd H1 p (.tup xs))
noncomputable def tLst (t:TA):TE:=fun σ H Q=>t σ H fun xs H1=>xs.length ≤ sizeLine∧∀ p,H1 p = none→Q (.ref p) (upd H1 p (.lst xs))
theorem pe_tup {x1} (h:PA X es t):PE X (.Tuple es x1 pos) (tTup t):=by
  intro pins s σ H Q I hq
  refine wpAny_Tuple_spliced (thn (h pos pins s σ H _ I hq) fun us s1 ⟨xs,H1,I1,r,z,q⟩=>⟨by rw [← r.length]; exact z,?_⟩)
  have hf:H1 s1.heap.objs.size = none:=I1.hok.fresh (Nat.le_refl _)
  refine ⟨.ref s1.heap.objs.size,upd H1 s1.heap.objs.size (.tup xs),I1.laid (t':=s1.toks) (fun b u e=>Heap.get?_push_of_some _ e) (Nat.le_refl _) ?_,rfl,q _ hf⟩
  exact ⟨z,us,r,⟨_,Heap.get?_push_size _ rfl,rfl,_,rfl⟩⟩
theorem pe_lst (h:PA X es t):PE X (.List es pos) (tLst t):=by
  intro pins s σ H Q I hq
  refine wpAny_List_spliced (thn (h pos pins s σ H _ I hq) fun us s1 ⟨xs,H1,I1,r,z,q⟩=>⟨by rw [← r.length]; exact z,?_⟩)
  have hf:H1 s1.heap.objs.size = none:=I1.hok.fresh (Nat.le_refl _)
  refine ⟨.ref s1.heap.objs.size,upd H1 s1.heap.objs.size (.lst xs),I1.laid (t':=s1.toks) (fun b u e=>Heap.get?_push_of_some _ e) (Nat.le_refl _) ?_,rfl,q _ hf⟩
  exact ⟨z,us,0,r,Heap.get?_push_size _ rfl⟩
end
noncomputable abbrev Sp:=List V→Hp→VK→XK→Prop
noncomputable abbrev CXT:=List Env→Hp→Shared→XK→Value→Shared→Prop
structure Env0 (P:Program) (w:World) (K:PySem.W.Frag) (mg:Str→Option Value) (base:Heap) (A:Around) (outer:List Env) (s:Shared) (H:Hp):Prop where
  frames:A.frames = some outer
  mod:Mod K mg base
  bs:∀ b o,base.get? b = some o→s.heap.get? b = some o∧H b = none
  bsz:base.objs.size ≤ s.heap.objs.size
  funs:s.heap.FunFrames base outer
  frf:∀ b ∈ frs outer,H b = none
  hok:HOk P w H s.heap
  bare:AllBare s.gens
noncomputable def CE (outer:List Env) (P:Program) (w:World) (H:Hp) (s:Shared) (Q:VK) (u:Value) (s':Shared):Prop :=
  ∃ v H',s'.os = s.os∧AllBare s'.gens∧Un (frs outer) [] H H' s.heap s'.heap∧HOk P w H' s'.heap∧RelV v u∧Q v H'
noncomputable def CR (CX:CXT) (outer:List Env) (P:Program) (w:World) (H:Hp) (s:Shared) (Q:VK) (E:XK) (r:Result) (s':Shared):Prop :=
  match r with
  | .ok (.ret u)=>CE outer P w H s Q u s'
  | .ok _=>False
  | .error e=>CX outer H s E e s'
structure FnOk (P:Program) (w:World) (K:PySem.W.Frag) (mg:Str→Option Value) (base:Heap) (CX:CXT) (k:Nat) (f:Addr) (fd:FuncData) (ps:List Str) (sp:Sp) (c:Bool:=true):Prop where
  len:∀ vs H Q E,sp vs H Q E→vs.length = ps.length
  run:∀ (A:Around) (outer:List Env) (s:Shared) (H:Hp) (args:Args) (us:List Value) (vs:List V) (Q:VK) (E:XK),Room k A c→Env0 P w K mg base A outer s H→BindsTo s fd args (ps.zip us)→Vals vs us→sp vs H Q E →
    codeAny (model P w) A (.call (.ref f) args) (CR CX outer P w H s Q E) s
theorem Env0.make {P:Program} {w:World} {K:PySem.W.Frag} {mg:Str→Option Value} {base:Heap} {A:Around} {outer:List Env} {s:Shared} {H:Hp} (e:Env0 P w K mg base A outer s H) (C:Addr) (us:List Value) (kw:List (Str×Value)) :
    Env0 P w K mg base (A.under (.builtin "type.__call__" ⟨.ref C :: us,kw⟩)) outer s H:=⟨by first | exact e.frames | (simpa [Around.under,Code.envs,Code.isFrame,pushEnvs] using e.frames),e.mod,e.bs,e.bsz,e.funs,e.frf,e.hok,e.bare⟩
section
variable {X:Cx} {pins:List (Addr×Obj)} {σ:St} {H:Hp} {s s':Shared}
theorem Inv.env0 (I:Inv X pins σ H s):Env0 X.prog X.w X.K X.mg X.base X.A X.stack s H :=
  ⟨I.ok.frames,I.ok.mod,I.bs,Nat.le_trans I.ok.bsz I.sz,I.stack,I.stkFree,I.hok,I.bare⟩
theorem Inv.after {Q:VK} {u:Value} (I:Inv X pins σ H s) (h:CE X.stack X.prog X.w H s Q u s'):EP X pins σ Q u s':=by
  obtain ⟨v,H',os,bare,un,hok,r,q⟩:=h
  obtain ⟨hh,g,d,t,os'⟩:=s'
  obtain rfl:os' = s.os:=os
  exact ⟨v,H',I.call (h':=hh) (g':=g) (d':=d) (t':=t) (ch:=[]) un hok bare (fun b z=>absurd z (by simp)),r,q⟩
end
noncomputable def tCall (sp:Sp) (dvs:List V) (E:XK) (t:TA):TE:=fun σ H Q=>t σ H fun vs H1=>sp (vs ++ dvs) H1 Q E
noncomputable def tMeth (C:Addr) (m:Str) (sp:Sp) (dvs:List V) (E:XK) (ta:TE) (t:TA):TE:=fun σ H Q=>ta σ H fun x H1=>∃ a dx fs,x = .ref a∧H1 a = some (.ins C dx fs)∧fs.lookup m = none ∧
  t σ H1 fun vs H2=>sp (x :: (vs ++ dvs)) H2 Q E
noncomputable def tMake (C:Addr) (sp:Sp) (dvs:List V) (E:XK) (t:TA):TE:=fun σ H Q=>t σ H fun vs H1=>∀ x dx,H1 x = none→H1 dx = none→dx ≠ x →
  sp (.ref x :: (vs ++ dvs)) (upd (upd H1 dx (.own x)) x (.ins C dx [])) (fun v H2=>v = .non∧Q (.ref x) H2) E
noncomputable def Binds (K:PySem.W.Frag) (fd:FuncData) (ps:List Str) (ds:List Value):Prop :=
  ∀ (s:Shared) (us:List Value),K.In s.heap→(us ++ ds).length = ps.length→BindsTo s fd ⟨us,[]⟩ (ps.zip (us ++ ds))
theorem Binds.all {K:PySem.W.Frag} {fd:FuncData} {ps:List Str} (h:∀ us:List Value,us.length = ps.length→bindArgs fd ⟨us,[]⟩ = pure (ps.zip us)):Binds K fd ps []:=fun s us _ hl=>by
  rw [List.append_nil] at hl ⊢
  exact .of_eq (h us hl)
noncomputable def Passes (CX:CXT) (X:Cx) (E:XK):Prop:=∀ (pins:List (Addr×Obj)) (σ:St) (H:Hp) (s:Shared) (e:Value) (s':Shared),Inv X pins σ H s→CX X.stack H s E e s'→X.xe e s'
section
variable {X:Cx} {CX:CXT} {k:Nat} {f C:Addr} {fd:FuncData} {ps:List Str} {sp:Sp} {dvs:List V} {ds:List Value} {E:XK} {x m:Str} {p pos apos:Pos} {e o:Expr} {es:List Expr} {ta:TE} {t:TA}
theorem run_fn {pins:List (Addr×Obj)} {σ:St} {H:Hp} {s:Shared} {Q:VK} {us:List Value} {vs:List V} {cc:Bool} (F:FnOk X.prog X.w X.K X.mg X.base CX k f fd ps sp cc) (hr:Room k X.A cc) (hb:Binds X.K fd ps ds) (hd:Vals dvs ds) (hx:Passes CX X E)
    (I:Inv X pins σ H s) (r:Vals vs us) (h:sp (vs ++ dvs) H Q E):wpAny (model X.prog X.w) X.A (call (.ref f) us) (EP X pins σ Q) X.xe s:=by
  have r2:Vals (vs ++ dvs) (us ++ ds):=r.append hd
  have hl:(us ++ ds).length = ps.length:=by rw [← r2.length]; exact F.len _ _ _ _ h
  refine wpAny_call (codeAny_mono (F.run X.A X.stack s H ⟨us,[]⟩ (us ++ ds) (vs ++ dvs) Q E hr I.env0 (hb s us I.kIn hl) r2 h) fun r s' hq=>?_)
  cases r with
  | error e=>exact hx pins σ H s e s' I hq
  | ok fl =>
    cases fl with
    | ret u=>exact I.after hq
    | next=>exact False.elim hq
    | brk=>exact False.elim hq
    | cont=>exact False.elim hq
theorem pe_call {cc:Bool} (F:FnOk X.prog X.w X.K X.mg X.base CX k f fd ps sp cc) (hr:Room k X.A cc) (hg:Gl X x) (hm:X.mg x = some (.ref f)) (hk:PySem.W.keepIn X.K (.ref f) = true) (hb:Binds X.K fd ps ds) (hd:Vals dvs ds) (hx:Passes CX X E)
    (ha:PA X (e :: es) t) (hdb:(x == ("__debug__":Str)) = false:=by decide) (he:starEach (e :: es) X.env = (false,eval e X.env) :: starEach es X.env:=by rfl) (hpl:(backTo pos (starEach es X.env)).any (·.1) = false:=by rfl) :
    PE X (.Call (.Name x p) (e :: es) [] pos) (tCall sp dvs E t):=by
  intro pins s σ H Q I h
  refine wpAny_Call_Name_kw (ld_glob I hg hm ?_ hdb)
  refine PySem.W.callWith_K (h₀:=X.base) I.ok.mod.kin hk (thn (ha pos pins s σ H _ I h) fun us s1 ⟨vs,H1,I1,r,q⟩=>⟨I1.kIn,?_⟩) he hpl
  exact run_fn F hr hb hd hx I1 r q
theorem pe_meth {pl:Sem Bool} (he:PE X o ta) (c:Cls X.K C) (hm:Meth X.K C m f) {cc:Bool} (F:FnOk X.prog X.w X.K X.mg X.base CX k f fd ps sp cc) (hr:Room k X.A cc) (hb:Binds X.K fd ps ds) (hd:Vals dvs ds) (hx:Passes CX X E) (ha:PA X (e :: es) t)
    (hst:starEach (e :: es) X.env = (false,eval e X.env) :: starEach es X.env:=by rfl) (hpl:(backTo pos (starEach es X.env)).any (·.1) = false:=by rfl)
    (ht:eval (.Call (.Attribute o m apos) (e :: es) [] pos) X.env = (do
      let ov ← eval o X.env
      standAt apos.atName
      let (f,first) ← holding [ov] (getMethod ov m pl)
      callWith pos f first (backTo pos (starEach (e :: es) X.env)) (backToKw pos (keywordEach [] X.env))):=by rfl) :
    PE X (.Call (.Attribute o m apos) (e :: es) [] pos) (tMeth C m sp dvs E ta t):=by
  intro pins s σ H Q I h
  refine PySem.W.methodCall_KW (pl:=pl) (thn (he pins s σ H _ I h) fun u s1 ⟨x,H1,I1,rx,a,dx,fs,ex,ea,l,q⟩=>?_) ht
  subst ex
  obtain rfl:u = Value.ref a:=rx
  refine getmeth_ok I1 ea c hm l ?_
  refine PySem.W.callWith_K (first:=[.ref a]) (h₀:=X.base) I.ok.mod.kin hm.kp (thn (ha pos pins s1 σ H1 _ I1 q) fun us s2 ⟨vs,H2,I2,r,q2⟩=>⟨I2.kIn,?_⟩) hst hpl
  exact run_fn (us:=.ref a :: us) (vs:=.ref a :: vs) F hr hb hd hx I2 (.cons rfl r) q2
theorem pe_meth0 {pl:Sem Bool} (he:PE X o ta) (c:Cls X.K C) (hm:Meth X.K C m f) {cc:Bool} (F:FnOk X.prog X.w X.K X.mg X.base CX k f fd ps sp cc) (hr:Room k X.A cc) (hb:Binds X.K fd ps ds) (hd:Vals dvs ds) (hx:Passes CX X E)
    (ht:eval (.Call (.Attribute o m apos) [] [] pos) X.env = (do
      let ov ← eval o X.env
      standAt apos.atName
      let (f,first) ← holding [ov] (getMethod ov m pl)
      callWith pos f first (backTo pos (starEach [] X.env)) (backToKw pos (keywordEach [] X.env))):=by rfl) :
    PE X (.Call (.Attribute o m apos) [] [] pos) (tMeth C m sp dvs E ta tNil):=by
  intro pins s σ H Q I h
  refine PySem.W.methodCall_KW (pl:=pl) (thn (he pins s σ H _ I h) fun u s1 ⟨x,H1,I1,rx,a,dx,fs,ex,ea,l,q⟩=>?_) ht
  subst ex
  obtain rfl:u = Value.ref a:=rx
  refine getmeth_ok I1 ea c hm l ?_
  exact PySem.W.callWith_K0 (first:=[.ref a]) I1.kIn hm.kp (run_fn (us:=[.ref a]) (vs:=[.ref a]) F hr hb hd hx I1 (.cons rfl .nil) q)
structure Mk (K:PySem.W.Frag) (C f:Addr):Prop where
  makes:PySem.W.makesIn K C = true
  init:PySem.W.findIn K (.ref C) "__init__" = some (some (.ref f))
  fn:PySem.W.isFn K (.ref f) = true
  kp:PySem.W.keepIn K (.ref C) = true
theorem run_make {pins:List (Addr×Obj)} {σ:St} {H:Hp} {s:Shared} {Q:VK} {us:List Value} {vs:List V} (M:Mk X.K C f) {cc:Bool} (F:FnOk X.prog X.w X.K X.mg X.base CX k f fd ps sp cc) (hr:Room (k + 1) X.A cc) (hb:Binds X.K fd ps ds) (hd:Vals dvs ds)
    (hx:Passes CX X E) (I:Inv X pins σ H s) (r:Vals vs us)
    (h:∀ x dx,H x = none→H dx = none→dx ≠ x→sp (.ref x :: (vs ++ dvs)) (upd (upd H dx (.own x)) x (.ins C dx [])) (fun v H2=>v = .non∧Q (.ref x) H2) E) :
    wpAny (model X.prog X.w) X.A (call (.ref C) us) (EP X pins σ Q) X.xe s:=by
  have hq:=h (s.heap.objs.size + 1) s.heap.objs.size (I.hok.fresh (Nat.le_succ _)) (I.hok.fresh (Nat.le_refl _)) (Nat.ne_of_lt (Nat.lt_succ_self _))
  have I2:=Inv.made (C:=C) I
  have r2:Vals (V.ref (s.heap.objs.size + 1) :: (vs ++ dvs)) (Value.ref (s.heap.objs.size + 1) :: (us ++ ds)):=.cons rfl (r.append hd)
  have hl:(Value.ref (s.heap.objs.size + 1) :: us ++ ds).length = ps.length:=by
    have e:=r2.length
    rw [F.len _ _ _ _ hq] at e
    exact e.symm
  refine wpAny_call (make_map (f:=f) I.kIn M.makes M.init (beq_iff_eq.mp M.fn) (codeAny_mono (F.run _ X.stack _ _ ⟨Value.ref (s.heap.objs.size + 1) :: us,[]⟩ (Value.ref (s.heap.objs.size + 1) :: (us ++ ds)) _ _ E (hr.make C us [])
    (I2.env0.make C us []) (hb _ (Value.ref (s.heap.objs.size + 1) :: us) I2.kIn hl) r2 hq) fun r s' hq'=>?_))
  cases r with
  | error e=>exact hx pins σ _ _ e s' I2 hq'
  | ok fl =>
    cases fl with
    | ret u =>
      obtain ⟨v,H',I3,rv,ev,q3⟩:=I2.after hq'
      subst ev
      exact ⟨rv,⟨V.ref (s.heap.objs.size + 1),H',I3,rfl,q3⟩⟩
    | next=>exact False.elim hq'
    | brk=>exact False.elim hq'
    | cont=>exact False.elim hq'
theorem pe_make (M:Mk X.K C f) {cc:Bool} (F:FnOk X.prog X.w X.K X.mg X.base CX k f fd ps sp cc) (hr:Room (k + 1) X.A cc) (hg:Gl X x) (hm:X.mg x = some (.ref C)) (hb:Binds X.K fd ps ds) (hd:Vals dvs ds) (hx:Passes CX X E)
    (ha:PA X (e :: es) t) (hdb:(x == ("__debug__":Str)) = false:=by decide) (he:starEach (e :: es) X.env = (false,eval e X.env) :: starEach es X.env:=by rfl) (hpl:(backTo pos (starEach es X.env)).any (·.1) = false:=by rfl) :
    PE X (.Call (.Name x p) (e :: es) [] pos) (tMake C sp dvs E t):=by
  intro pins s σ H Q I h
  refine wpAny_Call_Name_kw (ld_glob I hg hm ?_ hdb)
  refine PySem.W.callWith_K (h₀:=X.base) I.ok.mod.kin M.kp (thn (ha pos pins s σ H _ I h) fun us s1 ⟨vs,H1,I1,r,q⟩=>⟨I1.kIn,?_⟩) he hpl
  exact run_make M F hr hb hd hx I1 r q
end
section
variable {X:Cx} {CX:CXT} {k:Nat} {f C:Addr} {fd:FuncData} {ps ks:List Str} {sp:Sp} {E:XK} {x m:Str} {p pos apos kpos:Pos} {e o:Expr} {es:List Expr} {kws:List Keyword} {te ta:TE} {t tk:TA} {nm:Option Str}
variable {g:List Value→List Value→List Value} {gV:List V→List V→List V}
end
structure FnScope (N P:List Str) (sc:Scope):Prop where
  kind:sc.kind = .function
  co:sc.isCoroutine = false
  gen:sc.isGenerator = false
  nd:N.Nodup
  pre:N.take P.length = P
  par:∀ x ∈ P,sc.names.lookup x = some .local∨sc.names.lookup x = some .cell
  nofree:∀ y ∈ sc.names,y.2 ≠ .free
theorem bindL_out {kindOf:Str→Option NameKind} {x:Str}:∀ {binds:List (Str×Value)} {m:Str→Option Value},(∀ v,(x,v) ∉ binds)→bindL kindOf binds m x = m x
  | [],_,_=>rfl
  | (n,v) :: r,m,h=>by
    unfold bindL
    rw [bindL_out fun w hw=>h w (List.mem_cons_of_mem _ hw)]
    split
    · have:x ≠ n:=by rintro rfl; exact h v List.mem_cons_self
      simp [this]
    · rfl
theorem bindC_out {kindOf:Str→Option NameKind} {x:Str}:∀ {binds:List (Str×Value)} {m:Str→Option Value},(∀ v,(x,v) ∉ binds)→bindC kindOf binds m x = m x
  | [],_,_=>rfl
  | (n,v) :: r,m,h=>by
    unfold bindC
    rw [bindC_out fun w hw=>h w (List.mem_cons_of_mem _ hw)]
    split
    · rfl
    · have:x ≠ n:=by rintro rfl; exact h v List.mem_cons_self
      simp [this]
theorem bindL_get {kindOf:Str→Option NameKind} {x:Str} {v:Value}:∀ {P:List Str} {vs:List Value} {i:Nat} {m:Str→Option Value},P.Nodup→P[i]? = some x→vs[i]? = some v→kindOf x = some .local →
    bindL kindOf (P.zip vs) m x = some v
  | [],_,_,_,_,h,_,_=>by simp at h
  | _ :: _,[],_,_,_,_,h,_=>by simp at h
  | p :: P,w :: vs,0,m,nd,h1,h2,hk=>by
    simp at h1 h2; subst h1; subst h2
    show bindL kindOf ((p,w) :: P.zip vs) m p = _
    unfold bindL
    rw [bindL_out fun v hv=>(List.nodup_cons.mp nd).1 (List.of_mem_zip hv).1,if_pos hk]
    simp
  | p :: P,w :: vs,i + 1,m,nd,h1,h2,hk=>by
    show bindL kindOf ((p,w) :: P.zip vs) m x = _
    unfold bindL
    exact bindL_get (i:=i) (List.nodup_cons.mp nd).2 (by simpa using h1) (by simpa using h2) hk
theorem bindC_get {kindOf:Str→Option NameKind} {x:Str} {v:Value}:∀ {P:List Str} {vs:List Value} {i:Nat} {m:Str→Option Value},P.Nodup→P[i]? = some x→vs[i]? = some v→kindOf x ≠ some .local →
    bindC kindOf (P.zip vs) m x = some v
  | [],_,_,_,_,h,_,_=>by simp at h
  | _ :: _,[],_,_,_,_,h,_=>by simp at h
  | p :: P,w :: vs,0,m,nd,h1,h2,hk=>by
    simp at h1 h2; subst h1; subst h2
    show bindC kindOf ((p,w) :: P.zip vs) m p = _
    unfold bindC
    rw [bindC_out fun v hv=>(List.nodup_cons.mp nd).1 (List.of_mem_zip hv).1,if_neg hk]
    simp
  | p :: P,w :: vs,i + 1,m,nd,h1,h2,hk=>by
    show bindC kindOf ((p,w) :: P.zip vs) m x = _
    unfold bindC
    exact bindC_get (i:=i) (List.nodup_cons.mp nd).2 (by simpa using h1) (by simpa using h2) hk
noncomputable def start (N:List Str) (vs:List V):St:=vs.map some ++ List.replicate (N.length - vs.length) none
noncomputable def cxOf (CX:CXT) (P:Program) (w:World) (K:PySem.W.Frag) (mg:Str→Option Value) (base:Heap) (N:List Str) (qual:Str) (scope:Scope) (f:Addr) (cd:Value) (A:Around) (outer:List Env) (s:Shared) (H:Hp) (E:XK) (c:Bool:=true):Cx where
  prog:=P
  w:=w
  K:=K
  mg:=mg
  base:=base
  A:=A.deeper (envOfC qual scope s.heap.objs.size f cd)
  N:=N
  s₀:=s
  H₀:=H
  env:=envOfC qual scope s.heap.objs.size f cd
  outer:=outer
  stack:=envOfC qual scope s.heap.objs.size f cd :: outer
  ex:=[]
  calm:=c
  fn:=fun _=>true
  pn:=[]
  xe:=fun e s'=>wpAny (model P w) (A.deeper (envOfC qual scope s.heap.objs.size f cd)) (leaving (envOfC qual scope s.heap.objs.size f cd) e) (fun _ s''=>CX outer H s E e s'') (fun e' s''=>CX outer H s E e' s'') s'
theorem cell_has {sc:Scope} {n:Nat} {x:Str} (h:sc.names.lookup x = some .cell):∃ c,(cellsFrom n sc.names []).lookup x = some c:=by
  have q:=PySem.W.cellsFrom_some sc.names n [] (.inl h)
  exact Option.isSome_iff_exists.mp q
theorem inv_start {CX:CXT} {P:Program} {w:World} {K:PySem.W.Frag} {mg:Str→Option Value} {base:Heap} {N ps:List Str} {qual:Str} {scope:Scope} {f:Addr} {cd:Value} {A:Around} {outer:List Env} {s s1:Shared} {H:Hp} {E:XK} {us:List Value} {vs:List V} {c:Bool}
    (S:FnScope N ps scope) (hd:c = true→A.handled = none) (e0:Env0 P w K mg base A outer s H) (hl:vs.length = ps.length) (r:Vals vs us)
    (x:InCallC s s.heap.objs.size (bindL (envOfC qual scope s.heap.objs.size f cd).kindOf (ps.zip us) fun _=>none) (cellsFrom (s.heap.objs.size + 1) scope.names []) (bindC (envOfC qual scope s.heap.objs.size f cd).kindOf (ps.zip us) fun _=>none) s1) :
    Inv (cxOf CX P w K mg base N qual scope f cd A outer s H E c) [] (start N vs) H s1:=by
  have hpl:ps.length ≤ N.length:=by have:=congrArg List.length S.pre; rw [List.length_take] at this; lia
  obtain ⟨h1,tk,rfl,hk⟩:=x.done
  have noA:∀ b:Addr,b ∉ (cxOf CX P w K mg base N qual scope f cd A outer s H E c).ex:=fun b z=>absurd (show b ∈ ([]:List Addr) from z) (by simp)
  refine ⟨⟨e0.mod,S.kind,rfl,rfl,Nat.le_refl _,fun y z c' h1 h2=>?_,fun y hy=>?_,fun y c _ h=>?_,hd,Around.frames_deeper e0.frames,.inr ⟨rfl,rfl⟩,fun b z=>absurd z (noA b),e0.bs,e0.bsz,fun b _ _=>noA b,fun b z=>absurd z (noA b),e0.funs,e0.frf⟩,
    rfl,e0.bare,Un.kept hk,⟨_,x.toInCall.ns,fun i y v h1 h2 h3=>?_⟩,fun y c h=>⟨_,x.cell y c h⟩,e0.hok.fresh (Nat.le_refl _),fun y c h=>?_,fun p hp=>absurd (show p ∈ ([]:List (Addr×Obj)) from hp) (by simp),e0.hok.kept hk,?_⟩
  · exact name_of_addr x.apart (PySem.mem_of_lookup h1) (PySem.mem_of_lookup h2)
  · have hy:scope.names.lookup y = some .cell∨scope.names.lookup y = some .free:=hy
    rcases hy with hy | hy
    · exact cell_has hy
    · exact absurd rfl (S.nofree _ (PySem.mem_of_lookup hy))
  · exact Nat.le_of_lt (x.above y c (PySem.mem_of_lookup h))
  · have hi:i < vs.length:=by
      unfold start at h2
      by_cases hi:i < vs.length
      · exact hi
      · rw [List.getElem?_append_right (by simpa using hi)] at h2
        rw [List.getElem?_replicate] at h2
        split at h2 <;> cases h2
    have ha:vs[i]? = some v:=by
      unfold start at h2
      rw [List.getElem?_append_left (by simpa using hi),List.getElem?_map] at h2
      cases e:vs[i]? with
      | none=>rw [e] at h2; cases h2
      | some a=>rw [e] at h2; cases h2; rfl
    obtain ⟨u,hu,rv⟩:=r.get ha
    have hp:ps[i]? = some y:=by
      rw [← S.pre,List.getElem?_take_of_lt (by lia)]; exact h1
    have ndP:ps.Nodup:=by rw [← S.pre]; exact S.nd.sublist (List.take_sublist _ _)
    refine ⟨u,rv,?_⟩
    rcases S.par y (List.mem_of_getElem? hp) with k | k
    · exact .inl ⟨k,bindL_get ndP hp hu k⟩
    · obtain ⟨c,e⟩:=cell_has (n:=s.heap.objs.size + 1) k
      refine .inr ⟨.inl k,c,e,?_⟩
      have q:=x.cell y c e
      rw [bindC_get ndP hp hu (by show scope.names.lookup y ≠ _; rw [k]; decide)] at q
      exact q
  · exact e0.hok.fresh (Nat.le_of_lt (x.above y c (PySem.mem_of_lookup h)))
  · unfold start
    show _ = N.length
    rw [List.length_append,List.length_map,List.length_replicate]
    lia
theorem fn_of {CX:CXT} {P:Program} {w:World} {K:PySem.W.Frag} {mg:Str→Option Value} {base:Heap} {k:Nat} {f:Addr} {name qual:Str} {params:Arguments} {body:List Stmt} {scope:Scope} {dV kV doc pm cdv ct oc:Value} {an od:Option Addr}
    {osl:Array (Option Value)} {N ps:List Str} {sp:Sp} {c:Bool} (lk:K.lookup f = some ⟨oc,od,.func (PySem.W.fnOf name qual params body scope dV kV doc pm an cdv ct),osl⟩) (hcd:PySem.W.codeIn K cdv qual = true) (S:FnScope N ps scope)
    (len:∀ vs H Q E,sp vs H Q E→vs.length = ps.length)
    (hbody:∀ (A:Around) (outer:List Env) (s:Shared) (H:Hp) (vs:List V) (Q:VK) (E:XK),Room k (A.deeper (envOfC qual scope s.heap.objs.size f cdv)) c→sp vs H Q E →
      ∃ t,PSs (cxOf CX P w K mg base N qual scope f cdv A outer s H E c) body t∧t { nx:=fun _ H'=>Q .non H',rt:=Q } (start N vs) H) :
    FnOk P w K mg base CX (k + 1) f (PySem.W.fnOf name qual params body scope dV kV doc pm an cdv ct) ps sp c:=by
  refine ⟨len,fun A outer s H args us vs Q E hr e0 hb r hsp=>?_⟩
  have hl:=len _ _ _ _ hsp
  have KX:K.In s.heap:=e0.mod.kin.keeps fun b o e=>(e0.bs b o e).1
  have lim:s.heap.NoLimit:=e0.mod.nolimit.keeps fun b o e=>(e0.bs b o e).1
  have hkind:∀ y ∈ ps.zip us,scope.names.lookup y.1 = some .local∨(scope.names.lookup y.1 = some .cell∧((cellsFrom (s.heap.objs.size + 1) scope.names []).lookup y.1).isSome = true):=fun ⟨n,v⟩ hy=>by
    rcases S.par n (List.of_mem_zip hy).1 with q | q
    · exact .inl q
    · exact .inr ⟨q,PySem.W.cellsFrom_some _ _ _ (.inl q)⟩
  refine codeAny_call_function hr.depth (KX _ _ lk) rfl S.co S.gen rfl (PySem.W.codeRec_of KX hcd) (hb _ _ _ _ ?_)
  refine wpAny_newFunctionEnv_cells S.kind hkind fun env he s1 x=>?_
  subst he
  refine ⟨lim.keeps x.toInCall.keep,codeAny_func ?_⟩
  obtain ⟨t,ht,hq⟩:=hbody A outer s H vs Q E (hr.deeper _) hsp
  have I:Inv (cxOf CX P w K mg base N qual scope f cdv A outer s H E c) [] (start N vs) H s1:=inv_start S hr.hc e0 hl r x
  refine wpAny_mono (ht [] s1 (start N vs) H _ I hq) (fun fl s' hs=>?_) fun e s' hs=>hs
  have fin:∀ {σ':St} {H':Hp} {v:V} {u:Value},Inv (cxOf CX P w K mg base N qual scope f cdv A outer s H E c) [] σ' H' s'→RelV v u→Q v H'→CE outer P w H s Q u s' :=
    fun {σ' H' v u} J rv q=>⟨v,H',J.os,J.bare,J.base,J.hok,rv,q⟩
  cases fl with
  | ret u =>
    obtain ⟨v,σ',H',J,rv,q⟩:=hs
    exact fin J rv q
  | next =>
    obtain ⟨σ',H',J,q⟩:=hs
    exact fin (v:=V.non) (u:=Value.none) J rfl q
  | brk =>
    obtain ⟨_,_,_,q⟩:=hs
    exact False.elim q
  | cont =>
    obtain ⟨_,_,_,q⟩:=hs
    exact False.elim q
end L2
namespace L2
open PySem PySem.Spec PyProof.Rows
section
variable {X:Cx} {x:Str} {p pos:Pos} {e:Expr} {es:List Expr} {t:TA} {id T:String} {r:List V→Hp→VK→Prop}
noncomputable def tCB (r:List V→Hp→VK→Prop) (t:TA):TE:=fun σ H Q=>t σ H fun vs H1=>r vs H1 Q
theorem pe_callB (hc:CallR X (.builtin id) r) (hg:Gl X x) (hm:X.mg x = none) (hv:bootBuiltins x = some (.builtin id)) (ha:PA X (e :: es) t) (hn:x ≠ "__name__":=by decide) (hdb:(x == ("__debug__":Str)) = false:=by decide)
    (he:starEach (e :: es) X.env = (false,eval e X.env) :: starEach es X.env:=by rfl) (hpl:(backTo pos (starEach es X.env)).any (·.1) = false:=by rfl):PE X (.Call (.Name x p) (e :: es) [] pos) (tCB r t):=by
  intro pins s σ H Q I h
  refine wpAny_Call_Name_kw (ld_blt I hg hm hv ?_ hn hdb)
  exact PyProof.Rows.callWith_builtin1 (thn (ha pos pins s σ H _ I h) fun us s1 ⟨vs,H1,I1,r1,q1⟩=>hc pins s1 σ H1 vs us Q I1 r1 q1) he hpl
theorem pe_callTy (hc:CallR X (.type T) r) (hg:Gl X x) (hm:X.mg x = none) (hv:bootBuiltins x = some (.type T)) (ha:PA X (e :: es) t) (hn:x ≠ "__name__":=by decide) (hdb:(x == ("__debug__":Str)) = false:=by decide)
    (he:starEach (e :: es) X.env = (false,eval e X.env) :: starEach es X.env:=by rfl) (hpl:(backTo pos (starEach es X.env)).any (·.1) = false:=by rfl):PE X (.Call (.Name x p) (e :: es) [] pos) (tCB r t):=by
  intro pins s σ H Q I h
  refine wpAny_Call_Name_kw (ld_blt I hg hm hv ?_ hn hdb)
  exact PyProof.Rows.callWith_type1 (thn (ha pos pins s σ H _ I h) fun us s1 ⟨vs,H1,I1,r1,q1⟩=>hc pins s1 σ H1 vs us Q I1 r1 q1) he hpl
end
end L2
namespace HT
open PySem PyProof.Rows
section
open PySem.SeqAt
open PySem.AutoSeq1 (wpAny_loadPart')
open PySem.MeetsSeq PySem.MeetsSeq2 PySem.MeetsSeq3
end
section
variable {prog:Program} {w:World} {A:Around} {E:Value→Shared→Prop} {s:Shared}
noncomputable def sIx (n d:Nat):Option Int→Nat
  | none=>d
  | some v=>if v < 0 then (v + (n:Int)).toNat else min v.toNat n
theorem sIx_nat (n d k:Nat):sIx n d (some (k:Int)) = min k n:=by
  show (if (k:Int) < 0 then ((k:Int) + (n:Int)).toNat else min (k:Int).toNat n) = min k n
  rw [if_neg (by lia),Int.toNat_natCast]
end
end HT
namespace L2
open PySem PySem.Spec PyProof.Rows
noncomputable abbrev TO:=St→Hp→(Option Int→Hp→Prop)→Prop
noncomputable def PO (X:Cx) (e:Option Expr) (t:TO):Prop :=
  ∀ (pins:List (Addr×Obj)) (s:Shared) (σ:St) (H:Hp) (Q:Option Int→Hp→Prop),Inv X pins σ H s→t σ H Q →
    wpAny (model X.prog X.w) X.A (evalPart e X.env) (fun u s'=>∃ o H',Inv X pins σ H' s'∧IsPart u o∧Q o H') X.xe s
noncomputable def tPart (t:TE):TO:=fun σ H Q=>t σ H fun x H1=>∃ i,x = .int i∧Q (some i) H1
section
variable {X:Cx} {e:Expr} {te:TE} {lo hi:Option Expr} {tl th:TO} {pos p2:Pos}
theorem po_some (h:PE X e te):PO X (some e) (tPart te):=by
  intro pins s σ H Q I hw
  rw [evalPart_some]
  refine thn (h pins s σ H _ I hw) fun u s1 ⟨x,H1,I1,r1,q1⟩=>?_
  obtain ⟨i,rfl,q⟩:=q1
  obtain ⟨t,rfl⟩:=r1
  exact ⟨some i,H1,I1,.int i t,q⟩
noncomputable def SlR (X:Cx) (r:V→Option Int→Option Int→Hp→VK→Prop):Prop :=
  ∀ (pins:List (Addr×Obj)) (s:Shared) (σ:St) (H:Hp) (x:V) (v vl vu:Value) (lo hi:Option Int) (sl:Addr) (Q:VK),Inv X pins σ H s→RelV x v→s.heap.IsSliceOf sl vl vu .none→IsPart vl lo→IsPart vu hi→r x lo hi H Q →
    ∃ T id,typeLookup (.type T) "__getitem__" = pure (some (.builtin id))∧s.TypeIs v T∧wpAny (model X.prog X.w) X.A (getItem v (.ref sl)) (EP X pins σ Q) X.xe s
noncomputable def tSl (r:V→Option Int→Option Int→Hp→VK→Prop) (te:TE) (tl th:TO):TE:=fun σ H Q=>te σ H fun x H1=>tl σ H1 fun l H2=>th σ H2 fun u H3=>r x l u H3 Q
theorem pe_slice {r:V→Option Int→Option Int→Hp→VK→Prop} (hr:SlR X r) (he:PE X e te) (hl:PO X lo tl) (hu:PO X hi th):PE X (.Subscript e (.Slice lo hi none p2) pos) (tSl r te tl th):=by
  intro pins s σ H Q I h
  refine Subscript_ (thn (he pins s σ H _ I h) fun v s1 ⟨x,H1,I1,r1,q1⟩=>?_)
  refine wpAny_Slice (thn (hl pins s1 σ H1 _ I1 q1) fun vl s2 ⟨l,H2,I2,pl,q2⟩=>thn (hu pins s2 σ H2 _ I2 q2) fun vu s3 ⟨u,H3,I3,pu,q3⟩=>?_)
  rw [evalPart_none]
  refine wpAny_pure ?_
  have I4:Inv X pins σ H3 { s3 with heap:=s3.heap.push { cls:=.type "slice",data:=.fields #[vl,vu,.none] } }:=I3.kept (t':=s3.toks) fun b ob q=>Heap.get?_push_of_some _ q
  obtain ⟨T,id,hT,ht,hg⟩:=hr pins { s3 with heap:=s3.heap.push { cls:=.type "slice",data:=.fields #[vl,vu,.none] } } σ H3 x v vl vu l u s3.heap.objs.size Q I4 r1 (Heap.IsSliceOf.new ..) pl pu q3
  show wpAny (model X.prog X.w) X.A (subscriptTail e (.Slice lo hi none p2) v (.ref s3.heap.objs.size)) (EP X pins σ Q) X.xe { s3 with heap:=s3.heap.push { cls:=.type "slice",data:=.fields #[vl,vu,.none] } }
  exact tail_any (ops:=[.ref s3.heap.objs.size,v]) ht hT hg (by with_unfolding_all rfl)
noncomputable def cutV (xs:List V) (lo hi:Option Int):List V:=(xs.drop (HT.sIx xs.length 0 lo)).take (HT.sIx xs.length xs.length hi - HT.sIx xs.length 0 lo)
theorem cutV_length (xs:List V) (lo hi:Option Int):(cutV xs lo hi).length ≤ xs.length:=by
  unfold cutV
  rw [List.length_take,List.length_drop]
  lia
end
end L2
namespace L2
open PySem PySem.Spec PyProof.Rows
noncomputable def ixN (n:Nat) (i:Int):Option Nat:=if 0 ≤ i then (if i < n then some i.toNat else none) else if -(n:Int) ≤ i then some (i + n).toNat else none
noncomputable def atI {α:Type} (xs:List α) (i:Int):Option α:=(ixN xs.length i).bind fun j=>xs[j]?
theorem ixN_seq {n:Nat} {i:Int} {j:Nat} (h:ixN n i = some j):seqIndex? i n = some j∧j < n∧-(n:Int) ≤ i∧i < n:=by
  unfold ixN at h
  by_cases h0:0 ≤ i
  · rw [if_pos h0] at h
    by_cases h1:i < n
    · rw [if_pos h1] at h
      have e:i.toNat = j:=Option.some.inj h
      exact ⟨by rw [seqIndex_of h0 h1,e],by lia,by lia,h1⟩
    · rw [if_neg h1] at h; cases h
  · rw [if_neg h0] at h
    by_cases h1:-(n:Int) ≤ i
    · rw [if_pos h1] at h
      have e:(i + n).toNat = j:=Option.some.inj h
      exact ⟨by rw [seqIndex_neg (by lia) h1,e],by lia,h1,by lia⟩
    · rw [if_neg h1] at h; cases h
theorem atI_get {α:Type} {xs:List α} {i:Int} {v:α} (h:atI xs i = some v):∃ j,seqIndex? i xs.length = some j∧xs[j]? = some v∧j < xs.length∧-(xs.length:Int) ≤ i∧i < xs.length:=by
  unfold atI at h
  cases e:ixN xs.length i with
  | none=>rw [e] at h; cases h
  | some j =>
    rw [e] at h
    obtain ⟨h1,h2,h3,h4⟩:=ixN_seq e
    exact ⟨j,h1,h,h2,h3,h4⟩
theorem atI_nat {α:Type} {xs:List α} {j:Nat} {v:α} (h:xs[j]? = some v):atI xs (j:Int) = some v:=by
  have hj:j < xs.length:=(List.getElem?_eq_some_iff.mp h).1
  have e:ixN xs.length (j:Int) = some j:=by
    unfold ixN
    rw [if_pos (by lia),if_pos (by lia)]; simp
  unfold atI; rw [e]; exact h
theorem atI_last {α:Type} (xs:List α) (v:α):atI (xs ++ [v]) (-1) = some v:=by
  have hl:(xs ++ [v]).length = xs.length + 1:=by simp
  have e:ixN (xs ++ [v]).length (-1) = some xs.length:=by
    unfold ixN
    rw [hl,if_neg (by decide),if_pos (by lia)]
    congr 1
    lia
  unfold atI
  rw [e]
  show (xs ++ [v])[xs.length]? = some v
  simp
noncomputable def PlainIx (b:Expr):Prop:=∀ o i,subscripted b false o i = operate [o,i] (getItem o i)
noncomputable def IxR (X:Cx) (r:R2):Prop :=
  ∀ (value slice:Expr) (pins:List (Addr×Obj)) (s:Shared) (σ:St) (H:Hp) (x y:V) (v u:Value) (Q:VK),Inv X pins σ H s→RelV x v→RelV y u→r x y H Q →
    subscripted slice false v u = operate [v,u] (getItem v u)→wpAny (model X.prog X.w) X.A (subscriptTail value slice v u) (EP X pins σ Q) X.xe s
noncomputable def MtR (X:Cx) (id:String) (r:V→List V→Hp→VK→Prop):Prop :=
  ∀ (pins:List (Addr×Obj)) (s:Shared) (σ:St) (H:Hp) (x:V) (xs:List V) (v:Value) (us:List Value) (Q:VK),Inv X pins σ H s→RelV x v→Vals xs us→r x xs H Q →
    wpAny (model X.prog X.w) X.A (call (.builtin id) (v :: us)) (EP X pins σ Q) X.xe s
section
variable {X:Cx} {a b:Expr} {ta tb:TE} {pos:Pos}
theorem pe_ix {r:R2} (hr:IxR X r) (ha:PE X a ta) (hb:PE X b tb) (hs:PlainIx b):PE X (.Subscript a b pos) (tOp r ta tb):=by
  intro pins s σ H Q I h
  exact Subscript_ (binT ha hb I h fun v u s2 x y H2 I2 rx ry q=>hr a b pins s2 σ H2 x y v u Q I2 rx ry q (hs _ _))
noncomputable def rIxL (K:PySem.W.Frag):R2:=fun x y H Q=>∃ p xs i v,x = .ref p∧y = .int i∧SqL K H p xs∧atI xs i = some v∧Q v H
noncomputable def rIxT (K:PySem.W.Frag):R2:=fun x y H Q=>∃ p xs i v,x = .ref p∧y = .int i∧SqT K H p xs∧atI xs i = some v∧Q v H
theorem ix_list:IxR X (rIxL X.K):=by
  intro value slice pins s σ H x y v u Q I rx ry h hs
  obtain ⟨p,xs,i,z,rfl,rfl,hq,he,q⟩:=h
  cases rx
  obtain ⟨t,rfl⟩:=ry
  obtain ⟨its,r,pl,hz⟩:=I.list hq
  obtain ⟨j,h1,h2,h3,h4,h5⟩:=atI_get he
  obtain ⟨w,ew,rw'⟩:=r.get h2
  have hl:=r.length
  have hn:=line63
  have fin:EP X pins σ Q w s:=⟨z,H,I,rw',q⟩
  by_cases h0:0 ≤ i
  · have hj:i.toNat = j:=by
      rw [seqIndex_of h0 h5] at h1
      exact Option.some.inj h1
    exact item_listR pl.isList h0 (by lia) (by rw [hj]; simpa using ew) fin hs
  · have hj:(i + (its.toArray.size:Int)).toNat = j:=by
      rw [seqIndex_neg (by lia) h4] at h1
      rw [List.size_toArray,← hl]
      exact Option.some.inj h1
    exact subscriptTail_builtinR (x:=w) pl.isList.typeIs slot_list_getitem.lookup
      (wpAny_getItem_list_neg (Q:=fun r s'=>r = w∧EP X pins σ Q r s') pl.isList (by lia) (by rw [List.size_toArray] <;> lia) (by lia) (by rw [hj]; simpa using ew) ⟨rfl,fin⟩) hs
theorem ix_tup:IxR X (rIxT X.K):=by
  intro value slice pins s σ H x y v u Q I rx ry h hs
  obtain ⟨p,xs,i,z,rfl,rfl,hq,he,q⟩:=h
  cases rx
  obtain ⟨t,rfl⟩:=ry
  obtain ⟨its,r,pl,hz⟩:=I.tuple hq
  obtain ⟨j,h1,h2,h3,h4,h5⟩:=atI_get he
  obtain ⟨w,ew,rw'⟩:=r.get h2
  have hl:=r.length
  have hn:=line63
  have fin:EP X pins σ Q w s:=⟨z,H,I,rw',q⟩
  exact subscriptTail_builtinR (x:=w) pl.typeIs slot_tuple_getitem.lookup
    (getItem_tuple (j:=j) (Q:=fun r s'=>r = w∧EP X pins σ Q r s') pl (by lia) (by lia) (by rw [List.size_toArray,← hl]; exact h1) (by simpa using ew) ⟨rfl,fin⟩) hs
theorem slice_bounds (lo hi:Option Int) (n:Nat):(sliceBounds lo hi none n).1 = ((HT.sIx n 0 lo:Nat):Int)∧(sliceBounds lo hi none n).2.1 = ((HT.sIx n n hi:Nat):Int)∧(sliceBounds lo hi none n).2.2 = 1:=by
  refine ⟨?_,?_,rfl⟩
  · cases lo with
    | none=>simp [sliceBounds,HT.sIx]
    | some i =>
      simp only [sliceBounds,HT.sIx,Option.getD_none,show (1:Int) > 0 by decide,if_true]
      by_cases h:i < 0
      · simp only [h,if_true] <;> lia
      · simp only [h,if_false] <;> lia
  · cases hi with
    | none=>simp [sliceBounds,HT.sIx]
    | some i =>
      simp only [sliceBounds,HT.sIx,Option.getD_none,show (1:Int) > 0 by decide,if_true]
      by_cases h:i < 0
      · simp only [h,if_true] <;> lia
      · simp only [h,if_false] <;> lia
theorem slicePick_cut (its:List Value) (lo hi:Option Int):slicePick its.toArray lo hi none = ((its.drop (HT.sIx its.length 0 lo)).take (HT.sIx its.length its.length hi - HT.sIx its.length 0 lo)).toArray:=by
  obtain ⟨h1,h2,h3⟩:=slice_bounds lo hi its.toArray.size
  unfold slicePick
  rw [h1,h2,h3]
  simp only [sliceRange_one,pick_run,List.size_toArray] <;> rfl
noncomputable def rSlL (K:PySem.W.Frag):V→Option Int→Option Int→Hp→VK→Prop:=fun x lo hi H Q=>∃ a xs,x = .ref a∧SqL K H a xs∧∀ p,H p = none→Q (.ref p) (upd H p (.lst (cutV xs lo hi)))
theorem sl_list:SlR X (rSlL X.K):=by
  intro pins s σ H x v vl vu lo hi sl Q I rx hs pl pu h
  obtain ⟨a,xs,rfl,hx,q⟩:=h
  cases rx
  obtain ⟨its,r,ht,hz⟩:=I.list hx
  have hlen:=r.length
  refine ⟨"list",_,slot_list_getitem.lookup,ht.isList.typeIs,?_⟩
  refine wpAny_getItem_list_slice ht.isList hs pl pu .none (by simp) ?_ (by rw [List.size_toArray] <;> lia)
  rw [slicePick_cut,← hlen]
  refine ⟨.ref s.heap.objs.size,_,I.laid (t':=s.toks) (o:=.lst (cutV xs lo hi)) (fun b ob q=>Heap.get?_push_of_some _ q) (Nat.le_refl _) ?_,rfl,q _ (I.hok.fresh (Nat.le_refl _))⟩
  exact ⟨Nat.le_trans (cutV_length xs lo hi) hz,_,0,(r.drop (HT.sIx xs.length 0 lo)).take (HT.sIx xs.length xs.length hi - HT.sIx xs.length 0 lo),Heap.get?_push_size _ rfl⟩
noncomputable def flatV:V→Bool
  | .non=>true
  | .bl _=>true
  | .int _=>true
  | .str _=>true
  | _=>false
noncomputable def eqV:V→V→Bool
  | .non,.non=>true
  | .bl a,.bl b=>a == b
  | .bl a,.int b=>(if a then 1 else 0) == b
  | .int a,.bl b=>a == (if b then 1 else 0)
  | .int a,.int b=>a == b
  | .str a,.str b=>a == b
  | _,_=>false
theorem eqAt_V {A:Around} {s:Shared} {y x:V} {u v:Value} (ry:RelV y u) (rx:RelV x v) (fy:flatV y = true) (fx:flatV x = true):SeqAt.EqAt A s u v (eqV y x):=by
  cases y with
  | non =>
    cases ry
    cases x with
    | non=>cases rx; exact SeqAt.EqAt.same _
    | bl b=>cases rx; exact SeqAt.EqAt.none_bool b
    | int b=>obtain ⟨t,rfl⟩:=rx; exact SeqAt.EqAt.none_int b t
    | str b=>obtain ⟨t,rfl⟩:=rx; exact SeqAt.EqAt.none_str b t
    | _=>exact absurd (show false = true from fx) Bool.false_ne_true
  | bl a =>
    cases ry
    cases x with
    | non=>cases rx; exact SeqAt.EqAt.bool_none a
    | bl b=>cases rx; exact SeqAt.EqAt.bool_bool a b
    | int b=>obtain ⟨t,rfl⟩:=rx; exact SeqAt.EqAt.bool_int a b t
    | str b=>obtain ⟨t,rfl⟩:=rx; exact SeqAt.EqAt.bool_str a b t
    | _=>exact absurd (show false = true from fx) Bool.false_ne_true
  | int a =>
    obtain ⟨t',rfl⟩:=ry
    cases x with
    | non=>cases rx; exact SeqAt.EqAt.int_none a t'
    | bl b=>cases rx; exact SeqAt.EqAt.int_bool a t' b
    | int b=>obtain ⟨t,rfl⟩:=rx; exact SeqAt.EqAt.int_int a t' b t
    | str b=>obtain ⟨t,rfl⟩:=rx; exact SeqAt.EqAt.int_str a t' b t
    | _=>exact absurd (show false = true from fx) Bool.false_ne_true
  | str a =>
    obtain ⟨t',rfl⟩:=ry
    cases x with
    | non=>cases rx; exact SeqAt.EqAt.str_none a t'
    | bl b=>cases rx; exact SeqAt.EqAt.str_bool a t' b
    | int b=>obtain ⟨t,rfl⟩:=rx; exact SeqAt.EqAt.str_int a t' b t
    | str b=>obtain ⟨t,rfl⟩:=rx; exact SeqAt.EqAt.str_str a t' b t
    | _=>exact absurd (show false = true from fx) Bool.false_ne_true
  | _=>exact absurd (show false = true from fy) Bool.false_ne_true
noncomputable def eqU (x:V) (u:Value):Bool:=match u with
  | .none=>eqV .non x
  | .bool b=>eqV (.bl b) x
  | .int i _=>eqV (.int i) x
  | .str z _=>eqV (.str z) x
  | _=>false
theorem eqU_of {x y:V} {u:Value} (r:RelV y u) (f:flatV y = true):eqU x u = eqV y x:=by
  cases y with
  | non=>cases r; rfl
  | bl b=>cases r; rfl
  | int i=>obtain ⟨t,rfl⟩:=r; rfl
  | str z=>obtain ⟨t,rfl⟩:=r; rfl
  | _=>exact absurd (show false = true from f) Bool.false_ne_true
theorem any_eqU {x:V}:∀ {xs:List V} {us:List Value},Vals xs us→xs.all flatV = true→us.any (eqU x) = xs.any fun y=>eqV y x
  | _,_,.nil,_=>rfl
  | y :: xs,u :: us,.cons r t,f=>by
    rw [List.all_cons,Bool.and_eq_true] at f
    rw [List.any_cons,List.any_cons,eqU_of r f.1,any_eqU t f.2]
theorem mem_eqAt {A:Around} {s:Shared} {x:V} {v:Value} (rx:RelV x v) (fx:flatV x = true):∀ {xs:List V} {us:List Value},Vals xs us→xs.all flatV = true→∀ u ∈ us,SeqAt.EqAt A s u v (eqU x u)
  | _,_,.nil,_=>fun u hu=>by cases hu
  | y :: xs,u :: us,.cons r t,f=>fun u' hu=>by
    rw [List.all_cons,Bool.and_eq_true] at f
    rcases List.mem_cons.mp hu with rfl | hu
    · rw [eqU_of r f.1]; exact eqAt_V r rx f.1 fx
    · exact mem_eqAt rx fx t f.2 u' hu
noncomputable def inV (x:V) (xs:List V):Bool:=xs.any fun y=>eqV y x
noncomputable def rIn (K:PySem.W.Frag) (neg:Bool):R2:=fun x y H Q=>∃ p xs,y = .ref p∧(SqL K H p xs∨SqT K H p xs)∧flatV x = true∧xs.all flatV = true∧Q (.bl (if neg then !inV x xs else inV x xs)) H
theorem op_in_seq:OpR X (compareOp .In) (rIn X.K false):=by
  intro pins s σ H x y v u Q I rx ry h
  obtain ⟨p,xs,rfl,hq,fx,fs,q⟩:=h
  cases ry
  rcases hq with hq | hq
  · obtain ⟨its,r,pl,hz⟩:=I.list hq
    refine SeqAt.in_listAt (eqU x) pl.isList (fun w hw=>mem_eqAt rx fx r fs w (by simpa using hw)) ⟨.bl _,H,I,rfl,?_⟩
    rw [show its.toArray.any (eqU x) = its.any (eqU x) by simp,any_eqU r fs]
    exact q
  · obtain ⟨its,r,pl,hz⟩:=I.tuple hq
    refine SeqAt.in_tupleAt (eqU x) pl (fun w hw=>mem_eqAt rx fx r fs w (by simpa using hw)) ⟨.bl _,H,I,rfl,?_⟩
    rw [show its.toArray.any (eqU x) = its.any (eqU x) by simp,any_eqU r fs]
    exact q
theorem call_len_seq:CallR X (.builtin "len") (fun xs H Q=>∃ p ys,xs = [.ref p]∧(SqL X.K H p ys∨SqT X.K H p ys)∧Q (.int ys.length) H):=by
  intro pins s σ H xs us Q I r h
  obtain ⟨p,ys,rfl,hq,q⟩:=h
  obtain ⟨u,rfl,rx⟩:=vals1 r
  cases rx
  have hn:=line63
  rcases hq with hq | hq
  · obtain ⟨its,r',pl,hz⟩:=I.list hq
    have hlen:=r'.length
    exact Calls.call_len_list pl.isList (by simp only [List.size_toArray] <;> lia) ⟨.int ys.length,H,I.tok _,⟨s.toks + 1,by rw [List.size_toArray,hlen]⟩,q⟩
  · obtain ⟨its,r',pl,hz⟩:=I.tuple hq
    have hlen:=r'.length
    exact len_tuple pl (by simp only [List.size_toArray] <;> lia) ⟨.int ys.length,H,I.tok _,⟨s.toks + 1,by rw [List.size_toArray,hlen]⟩,q⟩
theorem call_list_of:CallR X (.type "list") (fun xs H Q=>∃ p ys,xs = [.ref p]∧(SqL X.K H p ys∨SqT X.K H p ys)∧∀ l,H l = none→Q (.ref l) (upd H l (.lst ys))):=by
  intro pins s σ H xs us Q I r h
  obtain ⟨p,ys,rfl,hq,q⟩:=h
  obtain ⟨u,rfl,rx⟩:=vals1 r
  cases rx
  have fin:∀ (its:List Value),Vals ys its→ys.length ≤ sizeLine→∀ (h':Heap) (c':Nat),(∀ b o',s.heap.get? b = some o'→h'.get? b = some o') →
      h'.get? s.heap.objs.size = some { cls:=.type "list",dict:=none,data:=.seq its.toArray c',slots:=#[] }→EP X pins σ Q (.ref s.heap.objs.size) { s with heap:=h' }:=fun its r' hz h' c' kp e =>
    ⟨.ref s.heap.objs.size,_,I.laid (t':=s.toks) kp (Nat.le_refl _) (show ObjOk X.prog X.w _ h' _ (.lst ys) from ⟨hz,its,c',r',e⟩),rfl,q _ (I.hok.fresh (Nat.le_refl _))⟩
  rcases hq with hq | hq
  · obtain ⟨its,r',pl,hz⟩:=I.list hq
    have hlen:=r'.length
    obtain ⟨o,ho,hc,n,hd⟩:=pl.isList
    exact call_list_seq p (.inl rfl) ho hc hd (fun h' c' kp e=>fin its r' hz h' c' kp e) (by simp only [List.size_toArray] <;> lia)
  · obtain ⟨its,r',pl,hz⟩:=I.tuple hq
    have hlen:=r'.length
    obtain ⟨o,ho,hc,n,hd⟩:=pl
    exact call_list_seq p (.inr rfl) ho hc hd (fun h' c' kp e=>fin its r' hz h' c' kp e) (by simp only [List.size_toArray] <;> lia)
noncomputable def tyV (K:PySem.W.Frag) (T:String) (x:V) (H:Hp):Prop:=match x with
  | .str _=>T = "str"
  | .int _=>T = "int"
  | .ref p=>(T = "list"∧∃ xs,SqL K H p xs)∨(T = "tuple"∧∃ o,K.lookup p = some o∧o.cls = .type "tuple"∧o.dict = none) ∨
      (T = "dict"∧((∃ kvs,H p = some (.dK kvs))∨∃ kvs,H p = some (.dT kvs)))∨(T = "set"∧∃ S n,H p = some (.set S n))
  | _=>False
theorem tyV_is {pins:List (Addr×Obj)} {σ:St} {H:Hp} {s:Shared} {T:String} {x:V} {v:Value} (I:Inv X pins σ H s) (r:RelV x v) (ty:tyV X.K T x H) :
    s.TypeIs v T∧∀ a,v = .ref a→∃ ob,s.heap.get? a = some ob∧ob.dict = none:=by
  cases x with
  | str z =>
    obtain ⟨t,rfl⟩:=r
    cases (show T = "str" from ty)
    exact ⟨typeIs_str s z t,fun _ e=>nomatch e⟩
  | int i =>
    obtain ⟨t,rfl⟩:=r
    cases (show T = "int" from ty)
    exact ⟨typeIs_int s i t,fun _ e=>nomatch e⟩
  | ref p =>
    cases r
    rcases ty with ⟨rfl,xs,hq⟩ | ⟨rfl,o,hk,hc,hd⟩ | ⟨rfl,hk⟩ | ⟨rfl,S,n,hk⟩
    · obtain ⟨its,_,pl,_⟩:=I.list hq
      refine ⟨pl.isList.typeIs,fun a e=>?_⟩
      cases e
      obtain ⟨o,n,e,c,hd,_⟩:=pl
      exact ⟨o,e,hd⟩
    · refine ⟨⟨o,I.kIn p o hk,hc⟩,fun a e=>?_⟩
      cases e
      exact ⟨o,I.kIn _ o hk,hd⟩
    · have z:∃ o,s.heap.get? p = some o∧o.ExactDict:=by
        rcases hk with ⟨kvs,hk⟩ | ⟨kvs,hk⟩
        · obtain ⟨_,_,_,_,o,_,_,e,ex,_⟩:=I.hok p _ hk
          exact ⟨o,e,ex⟩
        · obtain ⟨_,_,_,_,o,_,_,e,ex,_⟩:=I.hok p _ hk
          exact ⟨o,e,ex⟩
      obtain ⟨o,e,ex⟩:=z
      refine ⟨⟨o,e,ex.1⟩,fun a e2=>?_⟩
      cases e2
      exact ⟨o,e,ex.2.1⟩
    · obtain ⟨o,_,_,_,e,ex,_⟩:=I.hok p _ hk
      refine ⟨⟨o,e,ex.1⟩,fun a e2=>?_⟩
      cases e2
      exact ⟨o,e,ex.2.1⟩
  | _=>exact False.elim ty
noncomputable def tBM0 (K:PySem.W.Frag) (T:String) (r:V→List V→Hp→VK→Prop) (to:TE):TE:=fun σ H Q=>to σ H fun x H1=>tyV K T x H1∧r x [] H1 Q
noncomputable def tBM (K:PySem.W.Frag) (T:String) (r:V→List V→Hp→VK→Prop) (to:TE) (t:TA):TE:=fun σ H Q=>to σ H fun x H1=>tyV K T x H1∧t σ H1 fun xs H2=>r x xs H2 Q
variable {o e:Expr} {es:List Expr} {to:TE} {t:TA} {name:Str} {apos cpos:Pos} {T id:String} {r:V→List V→Hp→VK→Prop}
theorem pe_bm0 (pa:PlainAttrs T) (slot:Slot T name id) (hty:typeOf (.builtin id) = pure (.type "method_descriptor")) (hm:MtR X id r) (ho:PE X o to)
    (hbase:attributeBase o name X.env (eval o X.env) = eval o X.env:=by rfl) (hline:(apos.endLine == cpos.line) = true:=by rfl):PE X (.Call (.Attribute o name apos) [] [] cpos) (tBM0 X.K T r to):=by
  intro pins s σ H Q I h
  refine wpAny_Call_method0_late hbase hline (thn (ho pins s σ H _ I h) fun v s1 ⟨x,H1,I1,r1,ty,q1⟩=>?_)
  obtain ⟨h1,h2⟩:=tyV_is I1 r1 ty
  exact ⟨T,id,pa,slot,hty,h1,h2,Calls.callWith_builtin rfl (PySem.evalArgs_none (hm pins s1 σ H1 x [] v [] Q I1 r1 .nil q1))⟩
theorem pe_bm (pa:PlainAttrs T) (slot:Slot T name id) (hty:typeOf (.builtin id) = pure (.type "method_descriptor")) (hm:MtR X id r) (ho:PE X o to) (ha:PA X (e :: es) t)
    (hbase:attributeBase o name X.env (eval o X.env) = eval o X.env:=by rfl)
    (hfew:((backTo cpos (starEach (e :: es) X.env)).all (fun x=>!x.1) && (backToKw cpos (keywordEach [] X.env)).all (fun x=>x.1.isSome)
      && decide ((e :: es).length + ([]:List Keyword).length + (if ([]:List Keyword).isEmpty then 0 else 1) < 30)) = true:=by rfl)
    (hline:(apos.endLine == cpos.line) = true:=by rfl) (hs:starEach (e :: es) X.env = (false,eval e X.env) :: starEach es X.env:=by rfl) (hplain:(backTo cpos (starEach es X.env)).any (·.1) = false:=by rfl) :
    PE X (.Call (.Attribute o name apos) (e :: es) [] cpos) (tBM X.K T r to t):=by
  intro pins s σ H Q I h
  refine wpAny_Call_method_late hbase hfew hline rfl (thn (ho pins s σ H _ I h) fun v s1 ⟨x,H1,I1,r1,ty,q1⟩=>?_)
  obtain ⟨h1,h2⟩:=tyV_is I1 r1 ty
  refine ⟨T,id,pa,slot,hty,h1,h2,?_⟩
  have hA:=ha cpos pins s1 σ H1 _ I1 q1
  rw [hs] at hA ⊢
  refine Calls.callWith_builtin (by show (false || (backTo cpos (starEach es X.env)).any (·.1)) = false; rw [hplain] <;> rfl) (Calls.evalArgs_plain ?_)
  exact thn hA fun us s2 ⟨vs,H2,I2,r2,q2⟩=>hm pins s2 σ H2 x vs v us Q I2 r1 r2 q2
end
end L2
namespace L2
open PySem PySem.Spec PyProof.Rows
noncomputable def MtM (X:Cx) (id:String) (r:V→List V→Hp→VK→Prop):Prop :=
  ∀ (pins:List (Addr×Obj)) (s:Shared) (σ:St) (H:Hp) (x:V) (xs:List V) (v:Value) (us:List Value) (Q:VK),Inv X pins σ H s→RelV x v→Vals xs us→r x xs H Q →
    wpAny (model X.prog X.w) X.A (call (.builtin id) (v :: us)) (EP X pins σ Q) X.xe s
theorem Vals.one:∀ {x:V} {us:List Value},Vals [x] us→∃ u,us = [u]∧RelV x u
  | _,_,.cons r .nil=>⟨_,rfl,r⟩
theorem Vals.two {x y:V} {us:List Value} (h:Vals [x,y] us):∃ u v,us = [u,v]∧RelV x u∧RelV y v:=by
  cases h with
  | cons r h =>
    cases h with
    | cons q h =>
      cases h
      exact ⟨_,_,rfl,r,q⟩
theorem Vals.zero:∀ {us:List Value},Vals [] us→us = []
  | _,.nil=>rfl
theorem Vals.dropLast {xs:List V} {us:List Value} (h:Vals xs us):Vals xs.dropLast us.dropLast:=by
  induction h with
  | nil=>exact .nil
  | cons r t ih =>
    cases t with
    | nil=>exact .nil
    | cons q t'=>exact .cons r ih
theorem Vals.eraseIdx:∀ {xs:List V} {us:List Value} (i:Nat),Vals xs us→Vals (xs.eraseIdx i) (us.eraseIdx i)
  | _,_,_,.nil=>.nil
  | _,_,0,.cons _ t=>t
  | _,_,i + 1,.cons r t=>.cons r (Vals.eraseIdx i t)
theorem erase_last {α:Type} (l:List α):l.eraseIdx (l.length - 1) = l.dropLast:=by
  induction l with
  | nil=>rfl
  | cons a r ih =>
    cases r with
    | nil=>rfl
    | cons b r =>
      have e:(a :: b :: r).length - 1 = ((b :: r).length - 1) + 1:=by
        have h1:(a :: b :: r).length = r.length + 2:=rfl
        have h2:(b :: r).length = r.length + 1:=rfl
        lia
      rw [e,List.eraseIdx_cons_succ,ih]
      all_goals rfl
theorem len_erase {α:Type}:∀ (l:List α) (i:Nat),(l.eraseIdx i).length ≤ l.length
  | [],_=>Nat.le_refl _
  | _ :: _,0=>Nat.le_succ _
  | _ :: r,i + 1=>Nat.succ_le_succ (len_erase r i)
section
variable {X:Cx} {pins:List (Addr×Obj)} {σ:St} {H:Hp} {s:Shared} {l b:Addr} {xs ys zs:List V}
theorem Inv.lset {its its':List Value} {n:Nat} {f:Array Value→Array Value} {t':Nat} (I:Inv X pins σ H s) (hH:H l = some (.lst xs))
    (e:s.heap.get? l = some { cls:=.type "list",data:=.seq its.toArray n }) (hf:f its.toArray = its'.toArray) (hv:Vals ys its') (hz:ys.length ≤ sizeLine) :
    Inv X pins σ (upd H l (.lst ys)) { s with heap:=s.heap.update l (Obj.mapSeq f),toks:=t' }:=by
  have q:=PySem.IsL.update e f
  rw [hf] at q
  refine I.write (x:=l) (e:=l) (by rw [hH]; exact trivial) (.inl rfl) (fun b' u hb hu=>(Heap.get?_update_other s.heap (Obj.mapSeq f) (Ne.symm hb)).trans hu) ⟨_,q⟩ ?_
  exact ⟨hz,its',_,hv,q⟩
theorem Inv.lnew {its:List Value} {t':Nat} (I:Inv X pins σ H s) (hv:Vals ys its) (hz:ys.length ≤ sizeLine) :
    Inv X pins σ (upd H s.heap.objs.size (.lst ys)) { s with heap:=s.heap.push { cls:=.type "list",data:=.seq its.toArray },toks:=t' } :=
  I.laid (fun _ _ q=>Heap.get?_push_of_some _ q) (Nat.le_refl _) ⟨hz,its,0,hv,Heap.get?_push_size _ rfl⟩
theorem Inv.fresh (I:Inv X pins σ H s):H s.heap.objs.size = none:=I.hok.fresh (Nat.le_refl _)
theorem Inv.lstM (I:Inv X pins σ H s) (hH:H l = some (.lst xs)):xs.length ≤ sizeLine∧∃ (its:List Value) (n:Nat),Vals xs its∧xs.length = its.length∧s.heap.get? l = some { cls:=.type "list",data:=.seq its.toArray n }:=by
  obtain ⟨z,its,n,r,e⟩:=I.hok l _ hH
  exact ⟨z,its,n,r,r.length,e⟩
theorem notLongL {n:Nat} (h:n ≤ sizeLine):Builtin.List.listTooLong n = false:=by
  unfold Builtin.List.listTooLong
  exact decide_eq_false (by lia)
end
section
variable {X:Cx}
noncomputable def rAppend:V→List V→Hp→VK→Prop:=fun x vs H Q=>∃ l xs y,x = .ref l∧vs = [y]∧H l = some (.lst xs)∧xs.length < sizeLine∧Q .non (upd H l (.lst (xs ++ [y])))
theorem mt_append:MtM X "list.append" rAppend:=by
  intro pins s σ H x vs v us Q I rx rv h
  obtain ⟨l,xs,y,rfl,rfl,hH,hz,q⟩:=h
  cases rx
  obtain ⟨u,rfl,ru⟩:=rv.one
  obtain ⟨z,its,n,r,hl,e⟩:=I.lstM hH
  refine call_meets F.slot_list_append ⟨_,e,rfl⟩ F.entry_list_append (F.args_list_append_2 _ _) (PySem.list_append l its.toArray n u (by rw [List.size_toArray]; lia)) ⟨e,?_⟩
  refine ⟨.non,_,I.lset (its':=its ++ [u]) hH e (by simp) (r.append (.cons ru .nil)) ?_,rfl,q⟩
  rw [List.length_append,List.length_singleton]
  lia
noncomputable def rExtend:V→List V→Hp→VK→Prop:=fun x vs H Q=>∃ l b xs zs,x = .ref l∧vs = [.ref b]∧H l = some (.lst xs)∧H b = some (.lst zs)∧xs.length + zs.length ≤ sizeLine∧Q .non (upd H l (.lst (xs ++ zs)))
theorem mt_extend:MtM X "list.extend" rExtend:=by
  intro pins s σ H x vs v us Q I rx rv h
  obtain ⟨l,b,xs,zs,rfl,rfl,hH,hB,hz,q⟩:=h
  cases rx
  obtain ⟨u,rfl,ru⟩:=rv.one
  cases ru
  obtain ⟨z,its,n,r,hl,e⟩:=I.lstM hH
  obtain ⟨z2,its2,n2,r2,hl2,e2⟩:=I.lstM hB
  have hsz:its.toArray.size + its2.toArray.size ≤ sizeLine:=by rw [List.size_toArray,List.size_toArray]; lia
  have hlong:¬ (!its.toArray.isEmpty && Builtin.List.listTooLong (its.toArray.size + its2.toArray.size)) = true:=by
    rw [notLongL hsz,Bool.and_false]
    exact Bool.false_ne_true
  refine call_meets F.slot_list_extend ⟨_,e,rfl⟩ F.entry_list_extend (F.args_list_extend_2 _ _)
    (AutoSeq1.list_extend_list_list_0 l its.toArray n b its2.toArray n2 hlong (by rw [List.size_toArray]; lia) (by lia)) ⟨e,e2,?_⟩
  refine ⟨.non,_,I.lset (its':=its ++ its2) hH e (by simp) (r.append r2) ?_,rfl,q⟩
  rw [List.length_append]
  lia
noncomputable def rPop:V→List V→Hp→VK→Prop:=fun x vs H Q=>∃ l xs y,x = .ref l∧vs = []∧H l = some (.lst xs)∧xs[xs.length - 1]? = some y∧Q y (upd H l (.lst xs.dropLast))
theorem mt_pop:MtM X "list.pop" rPop:=by
  intro pins s σ H x vs v us Q I rx rv h
  obtain ⟨l,xs,y,rfl,rfl,hH,hy,q⟩:=h
  cases rx
  have hus:=rv.zero
  subst hus
  obtain ⟨z,its,n,r,hl,e⟩:=I.lstM hH
  obtain ⟨u,hu,ru⟩:=r.get hy
  have hy':its.toArray[its.toArray.size - 1]? = some u:=by
    show its.toArray[its.length - 1]? = some u
    rw [← Array.getElem?_toList,← hl]
    exact hu
  refine call_meets F.slot_list_pop ⟨_,e,rfl⟩ F.entry_list_pop (F.args_list_pop_1 _) (MeetsSeq.list_pop_last l its.toArray n u hy' (by rw [List.size_toArray]; lia)) ⟨e,?_⟩
  refine ⟨y,_,I.lset (its':=its.dropLast) hH e ?_ r.dropLast ?_,ru,q⟩
  · show its.toArray.eraseIdxIfInBounds (its.toArray.size - 1) = its.dropLast.toArray
    rw [List.size_toArray,List.eraseIdxIfInBounds_toArray,erase_last]
  · rw [List.length_dropLast]
    lia
noncomputable def rPopAt:V→List V→Hp→VK→Prop:=fun x vs H Q=>∃ l xs i k y,x = .ref l∧vs = [.int i]∧H l = some (.lst xs)∧-(2 ^ 63) ≤ i∧i < 2 ^ 63∧seqIndex? i xs.length = some k∧xs[k]? = some y∧Q y (upd H l (.lst (xs.eraseIdx k)))
theorem mt_popAt:MtM X "list.pop" rPopAt:=by
  intro pins s σ H x vs v us Q I rx rv h
  obtain ⟨l,xs,i,k,y,rfl,rfl,hH,h1,h2,hk,hy,q⟩:=h
  cases rx
  obtain ⟨u,rfl,ru⟩:=rv.one
  obtain ⟨t,rfl⟩:=ru
  obtain ⟨z,its,n,r,hl,e⟩:=I.lstM hH
  obtain ⟨w,hw,rw'⟩:=r.get hy
  refine call_meets F.slot_list_pop ⟨_,e,rfl⟩ F.entry_list_pop (F.args_list_pop_2 _ _)
    (MeetsSeq.list_pop_at l its.toArray n i t k w (fitsIndex_both h1 h2) (by rw [List.size_toArray,← hl]; exact hk) (by rw [← Array.getElem?_toList]; exact hw) (by rw [List.size_toArray]; lia)) ⟨e,?_⟩
  refine ⟨y,_,I.lset (its':=its.eraseIdx k) hH e ?_ (r.eraseIdx k) ?_,rw',q⟩
  · show its.toArray.eraseIdxIfInBounds k = (its.eraseIdx k).toArray
    rw [List.eraseIdxIfInBounds_toArray]
  · have:=len_erase xs k
    lia
noncomputable def rCat:R2:=fun x y H Q=>∃ l b xs zs,x = .ref l∧y = .ref b∧H l = some (.lst xs)∧H b = some (.lst zs)∧xs.length + zs.length ≤ sizeLine∧∀ p,H p = none→Q (.ref p) (upd H p (.lst (xs ++ zs)))
theorem op_cat:OpR X (binaryOp .Add) rCat:=by
  intro pins s σ H x y v u Q I rx ry h
  obtain ⟨l,b,xs,zs,rfl,rfl,hH,hB,hz,q⟩:=h
  cases rx
  cases ry
  obtain ⟨z,its,n,r,hl,e⟩:=I.lstM hH
  obtain ⟨z2,its2,n2,r2,hl2,e2⟩:=I.lstM hB
  refine PySem.P.add_list e e2 ?_ (by rw [List.size_toArray,List.size_toArray]; lia)
  have ea:its.toArray ++ its2.toArray = (its ++ its2).toArray:=by simp
  rw [ea]
  exact ⟨.ref _,_,I.lnew (t':=s.toks) (r.append r2) (by rw [List.length_append]; lia),rfl,q _ I.fresh⟩
end
section
variable {prog:Program} {w:World} {A:Around} {E:Value→Shared→Prop} {s:Shared}
end
section
variable {X:Cx}
end
end L2
namespace Att
open PySem PySem.W PySem.Calls PyProof.Rows
theorem ints_of_wellAll {P:Params} {h:Heap}:∀ (ns:List Int) (vs:List Value),WellAll P h vs (ns.map WData.int)→IntsAre vs ns:=by
  intro ns
  induction ns with
  | nil =>
    intro vs w
    rw [List.map_nil] at w
    cases w
    exact .nil
  | cons n ns ih =>
    intro vs w
    rw [List.map_cons] at w
    cases w with
    | cons a b =>
      cases a
      exact .cons _ _ (ih _ b)
theorem script_of {l:OpenLaw} {n:Nat} (hn:l.most = some n) {P:Params} {h:Heap} {args:List WData} {vals:List Value}
    (hpre:l.row.toRowW.claim.pre args = true) (hwl:WellAll P h vals args) :
    ∃ a vs ns,vals = [Value.ref a]∧args = [WData.list (ns.map WData.int)]∧h.get? a = some { cls:=.type "list",data:=.seq vs.toArray }∧IntsAre vs ns∧ns.length ≤ n:=by
  have hsh:WShape.hasAll [] args [.list .int] = true:=(pre_splitW hpre).1
  have hc:l.pre.holds [] { args:=args } = true:=(pre_splitW hpre).2
  obtain ⟨d,r,rfl,h1,h2⟩:=hasAllW_cons hsh
  obtain rfl:=hasAllW_nil h2
  obtain ⟨xs,rfl,h3⟩:=hasW_list h1
  obtain ⟨ns,rfl⟩:=items_int h3
  have hlen:ns.length ≤ n:=by
    unfold OpenLaw.pre at hc
    have h4:(WTm.not (.lt (.lit (.int (n:Int))) (.len (.arg 0)))).holds [] { args:=[.list (ns.map .int)] } = true:=by
      have h4:=(holds_andW hc).1
      rw [hn] at h4
      exact h4
    have h5:=condW_of h4 (w_not (w_lt w_lit (w_len_list (w_arg rfl))))
    rw [List.length_map] at h5
    refine Nat.le_of_not_lt fun q=>?_
    have q':(n:Int) < ((ns.length:Nat):Int):=by lia
    first
      | (rw [decide_eq_true q'] at h5; exact absurd h5 (by decide))
      | (simp at h5; lia)
  cases hwl with
  | cons w1 w2 =>
    cases w2
    cases w1 with
    | list ho hall=>exact ⟨_,_,ns,rfl,rfl,ho,ints_of_wellAll ns _ hall,hlen⟩
theorem post_true (l:OpenLaw) (args:List WData):l.row.toRowW.claim.post args (.bool true) args = true :=
  postW_of (r:=l.row.toRowW) (X:=(true == true))
    (show WShape.has [] (.bool true) .bool = true by first | rfl | decide | simp [WShape.has,WShape.arms,WShape.armsAll])
    (show (WTm.eq .res (.lit (.bool true))).value [] { args:=args,res:=some (.bool true),after:=args } = some (.bool (true == true)) from w_eq_bool (w_res rfl) w_lit) rfl
theorem attach_call {l:OpenLaw} {n:Nat} {q:Program} {loose:List Str} {XP:(Str→Option Value)→Heap→Prop} {YP:World→Heap→Prop} {d:DefRec}
    (hn:l.most = some n) (hdf:d.params.defaults = [])
    (call:∀ (w:World) (s₀ s₁:Shared) (mg mb:Str→Option Value) (fa:Addr) (o:Obj) (pm cd doc:Value) (a:Addr) (vs:List Value) (ns:List Int),
      Ground q loose [] XP w s₀ mg mb s₁.heap→YP w s₁.heap →
      s₁.heap.get? fa = some o→o.data = .func (docDef d.name d.params d.body d.scope pm cd doc)→s₁.heap.CodeRec cd d.name→mg d.name = some (.ref fa) →
      s₁.heap.get? a = some { cls:=.type "list",data:=.seq vs.toArray }→IntsAre vs ns→ns.length ≤ n→s₁.gens = #[] →
      codeAny (model l.prog w) callerA (.call (.ref fa) ⟨[.ref a],[]⟩) (fun r s'=>r = .ok (.ret (.bool true))∧OldK s₁.heap s'.heap∧s'.os = s₁.os∧AllBare s'.gens) s₁) :
    WalkO q loose XP YP l.row.toRowW d [] (fun f vs=>PySem.call f vs):=by
  intro w s₀ s₁ mg mb G Y fa o pm cd doc dV kV ho hd hcd hD hmg hg args vals as hpre hlay hrd hwl hlo
  obtain rfl:dV = .none:=Dflts.none hD hdf
  obtain rfl:kV = .none:=Dflts.noKw hD
  obtain ⟨a,vs,ns,rfl,rfl,hobj,hints,hlen⟩:=script_of hn hpre hwl
  refine enter_call (codeAny_mono (call w s₀ s₁ mg mb fa o pm cd doc a vs ns G Y ho (fd_plain hd) hcd hmg hobj hints hlen hg) fun r s' hq=>?_)
  obtain ⟨rfl,h2,h3,h4⟩:=hq
  exact ⟨.inl ⟨.bool true,.bool true,[],rfl,fun _=>rfl,.bool true,post_true l _,fun _=>⟨List.Pairwise.nil,fun _ hm=>(nomatch hm)⟩⟩,h2,h3,h4⟩
section
variable {prog:Program} {w:World} {A:Around} {E:Value→Shared→Prop} {s:Shared} {K:Frag}
end
end Att
namespace L2
open PySem PySem.Spec PyProof.Rows
theorem vals_ints:∀ {vs:List Value} {ns:List Int},IntsAre vs ns→Vals (ns.map V.int) vs
  | _,_,.nil=>.nil
  | _,_,.cons n t h=>.cons ⟨t,rfl⟩ (vals_ints h)
end L2
namespace L2
open PySem PySem.Spec PyProof.Rows
end L2
namespace L2
open PySem PySem.Spec PyProof.Rows
noncomputable def inClass (s:Stmt) (j:Nat):Stmt:=match s with
  | .ClassDef _ _ _ body _ _ _ _ _ _ _=>body.getD j (.Pass ⟨0,0,0,0⟩)
  | _=>.Pass ⟨0,0,0,0⟩
noncomputable def defArgs (s:Stmt):Arguments:=match s with
  | .FunctionDef _ a _ _ _ _ _ _ _ _=>a
  | _=>{ posonlyargs:=[],args:=[],vararg:=none,kwonlyargs:=[],kw_defaults:=[],kwarg:=none,defaults:=[] }
noncomputable def defBody (s:Stmt):List Stmt:=match s with
  | .FunctionDef _ _ b _ _ _ _ _ _ _=>b
  | _=>[]
noncomputable def defScope (s:Stmt):Scope:=match s with
  | .FunctionDef _ _ _ _ _ _ sc _ _ _=>sc
  | _=>{ kind:=.function,names:=[],isGenerator:=false,isCoroutine:=false }
noncomputable abbrev CX0:CXT:=fun _ _ _ _ _ _=>False
noncomputable abbrev E0:XK:=fun _ _ _=>False
theorem pass0 {X:Cx}:Passes CX0 X E0:=fun _ _ _ _ _ _ _ h=>h.elim
structure Fun (K:PySem.W.Frag) (x qual:Str) (st:Stmt) (f:Addr) (fd:FuncData):Prop where
  ex:∃ (oc:Value) (od:Option Addr) (kV doc pm:Value) (an:Option Addr) (cdv ct:Value) (osl:Array (Option Value)),
    fd = PySem.W.fnOf x qual (defArgs st) (defBody st) (defScope st) .none kV doc pm an cdv ct∧K.lookup f = some ⟨oc,od,.func fd,osl⟩∧PySem.W.codeIn K cdv qual = true
  kp:PySem.W.keepIn K (.ref f) = true
section
variable {P:Program} {w:World} {K:PySem.W.Frag} {mg:Str→Option Value} {base:Heap}
theorem Fun.ok {x qual:Str} {st:Stmt} {f:Addr} {fd:FuncData} {N ps:List Str} {k:Nat} {sp:Sp} {c:Bool} (F:Fun K x qual st f fd) (S:FnScope N ps (defScope st)) (len:∀ vs H Q E,sp vs H Q E→vs.length = ps.length)
    (hbody:∀ (cdv:Value) (A:Around) (outer:List Env) (s:Shared) (H:Hp) (vs:List V) (Q:VK) (E:XK),Room k (A.deeper (envOfC qual (defScope st) s.heap.objs.size f cdv)) c→sp vs H Q E →
      ∃ t,PSs (cxOf CX0 P w K mg base N qual (defScope st) f cdv A outer s H E c).nox (defBody st) t∧t { nx:=fun _ H'=>Q .non H',rt:=Q } (start N vs) H):FnOk P w K mg base CX0 (k + 1) f fd ps sp c:=by
  obtain ⟨oc,od,kV,doc,pm,an,cdv,ct,osl,rfl,lk,hcd⟩:=F.ex
  refine fn_of lk hcd S len fun A outer s H vs Q E hr hsp=>?_
  obtain ⟨t,h,q⟩:=hbody cdv A outer s H vs Q E hr hsp
  exact ⟨t,h.nox,q⟩
theorem Fun.binds {x qual:Str} {st:Stmt} {f:Addr} {fd:FuncData} {ps:List Str} (F:Fun K x qual st f fd)
    (h:∀ (kV doc pm:Value) (an:Option Addr) (cdv ct:Value) (us:List Value),us.length = ps.length→bindArgs (PySem.W.fnOf x qual (defArgs st) (defBody st) (defScope st) .none kV doc pm an cdv ct) ⟨us,[]⟩ = pure (ps.zip us)):Binds K fd ps []:=by
  obtain ⟨oc,od,kV,doc,pm,an,cdv,ct,osl,rfl,lk,hcd⟩:=F.ex
  exact .all (h kV doc pm an cdv ct)
theorem fun_mk {x qual:Str} {st:Stmt} {f:Addr} {oc:Value} {od an:Option Addr} {osl:Array (Option Value)} {kV doc pm cdv ct:Value} (l:K.lookup f = some ⟨oc,od,.func (PySem.W.fnOf x qual (defArgs st) (defBody st) (defScope st) .none kV doc pm an cdv ct),osl⟩)
    (c:PySem.W.codeIn K cdv qual = true) (k:PySem.W.keepIn K (.ref f) = true):Fun K x qual st f (PySem.W.fnOf x qual (defArgs st) (defBody st) (defScope st) .none kV doc pm an cdv ct):=⟨⟨oc,od,kV,doc,pm,an,cdv,ct,osl,rfl,l,c⟩,k⟩
end
theorem hu_of {A:Around} {k:Nat} {c:Bool} (hr:Room k A c):A.units + 1 < cLine:=Nat.lt_of_le_of_lt (Nat.add_le_add_left (by decide:1 ≤ 64) _) hr.units
section
variable {X:Cx}
theorem pv (i:Nat) {x:Str} {pos:Pos} (hN:X.N[i]? = some x:=by rfl) (hv:Vis X.env.scope x:=by first | exact Or.inl rfl | exact Or.inr (Or.inl rfl) | exact Or.inr (Or.inr rfl)) (hd:(x == ("__debug__":Str)) = false:=by decide)
    (hcd:(x == ("__classdict__":Str)) = false:=by decide):PE X (.Name x pos) (tVar i):=pe_var hN hv hd hcd
end
theorem iteF {A B:Prop} (h:B):if false = true then A else B:=by
  rw [if_neg Bool.false_ne_true]
  exact h
theorem iteT {A B:Prop} (h:A):if true = true then A else B:=by
  rw [if_pos rfl]
  exact h
theorem ite2 {c A B:Prop} [Decidable c] (h1:c→A) (h2:¬ c→B):if c then A else B:=by
  by_cases h:c
  · rw [if_pos h]
    exact h1 h
  · rw [if_neg h]
    exact h2 h
noncomputable def Same (H H':Hp):Prop:=∀ b o,H b = some o→H' b = some o
theorem Same.refl (H:Hp):Same H H:=fun _ _ h=>h
theorem Same.trans {H H1 H2:Hp} (a:Same H H1) (b:Same H1 H2):Same H H2:=fun c o h=>b c o (a c o h)
theorem Same.free {H H':Hp} (e:Same H H') {l:Addr} (h:H' l = Option.none):H l = Option.none:=by
  cases q:H l with
  | none=>rfl
  | some o =>
    rw [e l o q] at h
    cases h
theorem Same.seq {K:PySem.W.Frag} {H H':Hp} {a:Addr} {xs:List V} (e:Same H H') (h:SqL K H a xs):SqL K H' a xs:=by
  rcases h with (h | ⟨o,h⟩) | h
  · exact .inl (.inl (e _ _ h))
  · exact .inl (.inr ⟨o,e _ _ h⟩)
  · exact .inr h
end L2
namespace L2
open PySem PySem.Spec PyProof.Rows
noncomputable abbrev NoX:Value→Shared→Prop:=fun _ _=>False
theorem noX {α:Type} {M:Model} {A:Around} {t:Sem α} {Q:α→Shared→Prop} {E:Value→Shared→Prop} {s:Shared} (h:wpAny M A t Q NoX s):wpAny M A t Q E s:=wpAny_mono h (fun _ _ q=>q) fun _ _ z=>z.elim
noncomputable abbrev tstSem (ifs:List Expr) (env:Env):Sem Bool:=forIn ifs true fun c r=>if r = true then do let ok ← isTrue c env (eval c env); pure (ForInStep.yield ok) else pure (ForInStep.yield r)
section
variable {prog:Program} {w:World} {A:Around} {R:Result→Shared→Prop} {s:Shared}
theorem comp_loop {elt tg iter:Expr} {ifs:List Expr} {sc:Scope} {pos:Pos} {it acc:Value} {env:Env} (I:Nat→Shared→Prop)
    (turn:∀ n s,I n s→wpAny (model prog w) A (pyNext it) (fun r s1=>match r with
      | none=>R (.ok .next) s1
      | some v=>wpAny (model prog w) A (letOwnedTupleGo tg it v) (fun _ s2=>wpAny (model prog w) A (assign tg env v) (fun _ s3=>wpAny (model prog w) A (tstSem ifs env) (fun ok s4 =>
          if ok = true then wpAny (model prog w) A (eval elt env) (fun x s5=>wpAny (model prog w) A (call (.builtin "list.append") [acc,x]) (fun _ s6=>∃ m,m < n∧I m s6) NoX s5) NoX s4
          else ∃ m,m < n∧I m s4) NoX s3) NoX s2) NoX s1) NoX s)
    (n:Nat) (h:I n s):codeAny (model prog w) A (.compLoop (.ListComp elt [⟨tg,iter,ifs,0⟩] sc pos) 0 it acc env) R s:=by
  refine codeAny_loop rfl I (fun n s hI=>?_) n h
  show wpAny _ A ((compTurn (.ListComp elt [⟨tg,iter,ifs,0⟩] sc pos) 0 it acc env).onRaise (fun x=>do noteFrame x env; theTreesLotGoes x)) _ _ s
  refine wpAny_noted ?_
  rw [compTurn_list]
  refine wpAny_bind (wpAny_standAt (wpAny_bind (noX (thn (turn n s hI) fun r s1 h1=>?_))))
  cases r with
  | none=>exact wpAny_pure h1
  | some v =>
    refine wpAny_bind (noX (thn h1 fun _ s2 h2=>wpAny_bind (noX (thn h2 fun _ s3 h3=>wpAny_bind (noX (thn h3 fun ok s4 h4=>?_))))))
    cases ok with
    | false=>exact wpAny_pure ⟨rfl,h4⟩
    | true=>exact wpAny_bind (wpAny_bind (noX (thn h4 fun x s5 h5=>wpAny_bind (noX (thn h5 fun _ s6 h6=>wpAny_pure (wpAny_pure ⟨rfl,h6⟩))))))
end
theorem closure_go {env:Env}:∀ (l:List (Str×NameKind)) (acc:List (Str×Addr)),(∀ y ∈ l,y.2 = .free→∃ c,env.cells.lookup y.1 = some c)→(∀ y c,acc.lookup y = some c→env.cells.lookup y = some c) →
    ∃ cl,(forIn l acc fun x r=>if (x.2 == NameKind.free) = true then (do let c ← cellOf env x.1; pure (ForInStep.yield ((x.1,c) :: r))) else pure (ForInStep.yield r)) = (pure cl:Sem (List (Str×Addr))) ∧
      (∀ y c,cl.lookup y = some c→env.cells.lookup y = some c)∧(∀ y ∈ l,y.2 = .free→∃ c,cl.lookup y.1 = some c)∧(∀ y c,acc.lookup y = some c→∃ c',cl.lookup y = some c')
  | [],acc,_,h2=>⟨acc,rfl,h2,(fun _ z=>nomatch z),(fun _ c e=>⟨c,e⟩)⟩
  | (n,k) :: r,acc,h1,h2=>by
    rw [List.forIn_cons]
    by_cases hk:k = .free
    · subst hk
      obtain ⟨c,hc⟩:=h1 (n,.free) List.mem_cons_self rfl
      have e:cellOf env n = pure c:=by
        have hc':env.cells.lookup n = some c:=hc
        unfold cellOf
        rw [hc']
      obtain ⟨cl,q1,q2,q3,q4⟩:=closure_go r ((n,c) :: acc) (fun y hy=>h1 y (List.mem_cons_of_mem _ hy)) (fun y c' e'=>by
        rw [List.lookup_cons] at e'
        by_cases hy:(y == n) = true
        · rw [hy] at e'
          have hn:y = n:=eq_of_beq hy
          subst hn
          cases e'
          exact hc
        · rw [Bool.not_eq_true] at hy
          rw [hy] at e'
          exact h2 y c' e')
      refine ⟨cl,?_,q2,fun y hy hf=>?_,fun y c' e'=>?_⟩
      · simp only [beq_self_eq_true,if_true,e,pure_bind]
        exact q1
      · rcases List.mem_cons.mp hy with rfl | hy
        · exact q4 n c (by simp)
        · exact q3 y hy hf
      · by_cases hy:(y == n) = true
        · have hn:y = n:=eq_of_beq hy
          subst hn
          exact q4 y c (by simp)
        · rw [Bool.not_eq_true] at hy
          exact q4 y c' (by rw [List.lookup_cons,hy]; exact e')
    · have hb:(k == NameKind.free) = false:=by simpa using hk
      obtain ⟨cl,q1,q2,q3,q4⟩:=closure_go r acc (fun y hy=>h1 y (List.mem_cons_of_mem _ hy)) h2
      refine ⟨cl,?_,q2,fun y hy hf=>?_,q4⟩
      · simp only [hb,Bool.false_eq_true,if_false,pure_bind]
        exact q1
      · rcases List.mem_cons.mp hy with rfl | hy
        · exact absurd hf hk
        · exact q3 y hy hf
theorem closure_ok {env:Env} {sc:Scope} (h:∀ y ∈ sc.names,y.2 = .free→∃ c,env.cells.lookup y.1 = some c) :
    ∃ cl,closureFor sc env = pure cl∧(∀ y c,cl.lookup y = some c→env.cells.lookup y = some c)∧∀ y ∈ sc.names,y.2 = .free→∃ c,cl.lookup y.1 = some c:=by
  obtain ⟨cl,q1,q2,q3,_⟩:=closure_go sc.names [] h (fun _ _ z=>nomatch z)
  refine ⟨cl,?_,q2,q3⟩
  unfold closureFor
  rw [bind_pure]
  exact q1
theorem relabel_look {env:Env} {y:Str} {k:NameKind} {sc:Scope} (h:(relabel sc env).names.lookup y = some k):∃ k0,sc.names.lookup y = some k0∧(k = k0∨(k0 = .free∧k = .cell)):=by
  have go:∀ l:List (Str×NameKind),(l.map fun (n,k)=>if (k == .free && env.scope.kind == .function && env.kindOf n == some .cell) then (n,NameKind.cell) else (n,k)).lookup y = some k→∃ k0,l.lookup y = some k0∧(k = k0∨(k0 = .free∧k = .cell)):=by
    intro l
    induction l with
    | nil=>intro z; cases z
    | cons a r ih =>
      obtain ⟨n,k1⟩:=a
      intro z
      rw [List.map_cons] at z
      by_cases hc:(k1 == NameKind.free && env.scope.kind == .function && env.kindOf n == some .cell) = true
      · have hf:k1 = .free:=by
          rw [Bool.and_eq_true,Bool.and_eq_true] at hc
          simpa using hc.1.1
        simp only [hc,if_true] at z
        rw [List.lookup_cons] at z ⊢
        by_cases hy:(y == n) = true
        · rw [hy] at z ⊢
          cases z
          exact ⟨k1,rfl,.inr ⟨hf,rfl⟩⟩
        · rw [Bool.not_eq_true] at hy
          rw [hy] at z ⊢
          exact ih z
      · simp only [hc,Bool.false_eq_true,if_false] at z
        rw [List.lookup_cons] at z ⊢
        by_cases hy:(y == n) = true
        · rw [hy] at z ⊢
          cases z
          exact ⟨_,rfl,.inl rfl⟩
        · rw [Bool.not_eq_true] at hy
          rw [hy] at z ⊢
          exact ih z
  exact go sc.names h
theorem relabel_free {env:Env} {y:Str} {sc:Scope} (h:sc.names.lookup y = some .free):(relabel sc env).names.lookup y = some .cell∨(relabel sc env).names.lookup y = some .free:=by
  have go:∀ l:List (Str×NameKind),l.lookup y = some .free→(l.map fun (n,k)=>if (k == .free && env.scope.kind == .function && env.kindOf n == some .cell) then (n,NameKind.cell) else (n,k)).lookup y = some .cell ∨
      (l.map fun (n,k)=>if (k == .free && env.scope.kind == .function && env.kindOf n == some .cell) then (n,NameKind.cell) else (n,k)).lookup y = some .free:=by
    intro l
    induction l with
    | nil=>intro z; cases z
    | cons a r ih =>
      obtain ⟨n,k1⟩:=a
      intro z
      rw [List.lookup_cons] at z
      rw [List.map_cons]
      by_cases hy:(y == n) = true
      · rw [hy] at z
        cases z
        by_cases hc:(NameKind.free == NameKind.free && env.scope.kind == .function && env.kindOf n == some .cell) = true
        · simp only [hc,if_true]
          exact .inl (by rw [List.lookup_cons,hy])
        · simp only [hc,Bool.false_eq_true,if_false]
          exact .inr (by rw [List.lookup_cons,hy])
      · rw [Bool.not_eq_true] at hy
        rw [hy] at z
        by_cases hc:(k1 == NameKind.free && env.scope.kind == .function && env.kindOf n == some .cell) = true
        · simp only [hc,if_true]
          rw [List.lookup_cons,hy]
          exact ih z
        · simp only [hc,Bool.false_eq_true,if_false]
          rw [List.lookup_cons,hy]
          exact ih z
  exact go sc.names h
noncomputable abbrev cxComp (X:Cx) (N:List Str) (sc:Scope) (cl:List (Str×Addr)) (C:Addr) (s:Shared) (H:Hp) (ex:List Addr) (pn:List (Addr×Obj)):Cx :=
  { prog:=X.prog,w:=X.w,K:=X.K,mg:=X.mg,base:=X.base,A:=X.A,N:=N,s₀:=s,H₀:=H,env:=compEnvC sc cl C X.env,outer:=X.stack,stack:=X.stack,ex:=ex,fn:=fun _=>false,calm:=X.calm,pn:=pn,xe:=fun _ _=>False }
noncomputable def PTs (X:Cx) (ifs:List Expr) (t:TT):Prop :=
  ∀ (pins:List (Addr×Obj)) (s:Shared) (σ:St) (H:Hp) (Q:Bool→Hp→Prop),Inv X pins σ H s→t σ H Q→wpAny (model X.prog X.w) X.A (tstSem ifs X.env) (TP X pins σ Q) X.xe s
noncomputable def tTrue:TT:=fun _ H Q=>Q true H
theorem ttT {σ:St} {H:Hp} {A B:Hp→Prop} (h:A H):tTrue σ H (fun b H4=>if b = true then A H4 else B H4):=by
  show if true = true then A H else B H
  rw [if_pos rfl]
  exact h
theorem pts_nil {X:Cx}:PTs X [] tTrue:=fun _ _ _ H _ I h=>wpAny_tests_nil ⟨H,I,h⟩
theorem pts_one {X:Cx} {c:Expr} {t:TT} (hc:PT X c t):PTs X [c] t:=fun pins s σ H Q I h=>wpAny_tests_one (hc pins s σ H Q I h)
noncomputable def capV (σ:St) (caps:List Nat):St:=caps.map fun i=>(σ[i]?).getD none
noncomputable def CompW (J:It) (p:Addr) (tt:TT) (te:TE) (cs:St) (Q:VK) (H1:Hp):Prop:=∃ W:Nat→Nat→List V→Hp→Prop,(∃ m,W 0 m [] (upd H1 p (.lst [])))∧∀ i m ys H2,W i m ys H2 →
  (J.stop i H2∧Q (.ref p) H2)∨(J.go i H2∧∃ N:List V→Hp→Prop,(∀ ys' H',N ys' H'→∃ m',m' < m∧W (i + 1) m' ys' H') ∧
    ∀ v H3,J.yld i H2 v H3→tt (some v :: cs) H3 fun b H4=>if b = true then te (some v :: cs) H4 fun y H5=>H5 p = some (.lst ys)∧ys.length < sizeLine∧N (ys ++ [y]) (upd H5 p (.lst (ys ++ [y]))) else N ys H4)
noncomputable def tCompC (CW:It→Addr→St→VK→Hp→Prop) (wi:TI) (caps:List Nat):TE:=fun σ H Q=>wi σ H fun J H1=>∀ p,H1 p = none→CW J p (capV σ caps) Q H1
noncomputable def tComp (wi:TI) (tt:TT) (te:TE) (caps:List Nat):TE:=fun σ H Q=>wi σ H fun J H1=>∀ p,H1 p = none→CompW J p tt te (capV σ caps) Q H1
theorem comp_by {J:It} {p:Addr} {tt:TT} {te:TE} {cs:St} {Q:VK} {H1:Hp} (n:Nat) (Pv:Nat→List V→Hp→Prop) (h0:Pv 0 [] (upd H1 p (.lst [])))
    (hs:∀ i ys H,i < n→Pv i ys H→J.go i H∧∀ v H3,J.yld i H v H3→tt (some v :: cs) H3 fun b H4=>if b = true then te (some v :: cs) H4 fun y H5=>H5 p = some (.lst ys)∧ys.length < sizeLine∧Pv (i + 1) (ys ++ [y]) (upd H5 p (.lst (ys ++ [y]))) else Pv (i + 1) ys H4)
    (hd:∀ ys H,Pv n ys H→J.stop n H∧Q (.ref p) H):CompW J p tt te cs Q H1:=by
  refine ⟨fun i m ys H=>m = n - i∧i ≤ n∧Pv i ys H,⟨n,by simp,Nat.zero_le _,h0⟩,?_⟩
  rintro i m ys H ⟨rfl,hi,pv⟩
  by_cases hlt:i < n
  · obtain ⟨g,st⟩:=hs i ys H hlt pv
    exact .inr ⟨g,Pv (i + 1),fun ys' H' p'=>⟨n - (i + 1),by lia,rfl,hlt,p'⟩,st⟩
  · have e:i = n:=by lia
    subst e
    exact .inl (hd ys H pv)
section
variable {X:Cx}
theorem call_isinst:CallR X (.builtin "isinstance") (fun vs H Q=>∃ x T t b,vs = [x,.ty T]∧TyOf X.K H x t∧PySem.W.kitOne X.K t (.type T) = some b∧Q (.bl b) H):=by
  intro pins s σ H xs us Q I r h
  obtain ⟨x,T,t,b,rfl,ty,e,q⟩:=h
  obtain ⟨u,v,rfl,rx,rv⟩:=r.two
  cases (show v = Value.type T from rv)
  exact isinst_ok I rx ty e fun tk=>⟨.bl b,H,I.tok tk,rfl,q⟩
noncomputable def eqVs:List V→List V→Bool
  | [],[]=>true
  | x :: xs,y :: ys=>eqV x y && eqVs xs ys
  | _,_=>false
theorem eqVs_len:∀ {xs ys:List V},xs.length ≠ ys.length→eqVs xs ys = false
  | [],[],h=>absurd rfl h
  | [],_ :: _,_=>rfl
  | _ :: _,[],_=>rfl
  | x :: xs,y :: ys,h=>by
    have h':xs.length ≠ ys.length:=fun e=>h (by rw [List.length_cons,List.length_cons,e])
    show (eqV x y && eqVs xs ys) = false
    rw [eqVs_len h',Bool.and_false]
noncomputable def eqAtN (xs ys:List V) (j:Nat):Bool:=match xs[j]?,ys[j]? with
  | some a,some b=>eqV a b
  | _,_=>false
theorem all_eqAtN:∀ {xs ys:List V},xs.length = ys.length→(List.range xs.length).all (eqAtN xs ys) = eqVs xs ys
  | [],[],_=>rfl
  | [],_ :: _,h=>by simp at h
  | _ :: _,[],h=>by simp at h
  | x :: xs,y :: ys,h=>by
    have h':xs.length = ys.length:=by simpa using h
    rw [List.length_cons,List.range_succ_eq_map,List.all_cons,List.all_map]
    have e:((eqAtN (x :: xs) (y :: ys)) ∘ Nat.succ) = eqAtN xs ys:=by
      funext j
      simp [eqAtN]
    rw [e,all_eqAtN h']
    rfl
theorem items_eqAt {A:Around} {s:Shared} {xs ys:List V} {us vs:List Value} (r:Vals xs us) (q:Vals ys vs) (fx:xs.all flatV = true) (fy:ys.all flatV = true) (j:Nat) (h1:j < us.toArray.size) (h2:j < vs.toArray.size) :
    SeqAt.EqAt A s us.toArray[j] vs.toArray[j] (eqAtN xs ys j):=by
  have l1:=r.length
  have l2:=q.length
  have h1':j < xs.length:=by rw [l1]; simpa using h1
  have h2':j < ys.length:=by rw [l2]; simpa using h2
  obtain ⟨u,eu,ru⟩:=r.get (i:=j) (x:=xs[j]) (by simp [h1'])
  obtain ⟨v,ev,rv⟩:=q.get (i:=j) (x:=ys[j]) (by simp [h2'])
  have e1:us.toArray[j] = u:=by
    obtain ⟨_,e⟩:=List.getElem?_eq_some_iff.mp eu
    simpa using e
  have e2:vs.toArray[j] = v:=by
    obtain ⟨_,e⟩:=List.getElem?_eq_some_iff.mp ev
    simpa using e
  have e3:eqAtN xs ys j = eqV xs[j] ys[j]:=by simp [eqAtN,h1',h2']
  rw [e1,e2,e3]
  exact eqAt_V ru rv (List.all_eq_true.mp fx _ (List.getElem_mem h1')) (List.all_eq_true.mp fy _ (List.getElem_mem h2'))
noncomputable def rEqL (K:PySem.W.Frag) (neg:Bool):R2:=fun x y H Q=>∃ a b xs ys,x = .ref a∧y = .ref b∧SqL K H a xs∧SqL K H b ys∧xs.all flatV = true∧ys.all flatV = true∧Q (.bl (if neg then !eqVs xs ys else eqVs xs ys)) H
theorem op_eqL (hu:X.A.units < cLine):OpR X (compareOp .Eq) (rEqL X.K false):=by
  intro pins s σ H x y v u Q I rx ry h
  obtain ⟨a,b,xs,ys,rfl,rfl,ha,hb,fx,fy,q⟩:=h
  cases rx
  cases ry
  obtain ⟨its,r1,p1,_⟩:=I.list ha
  obtain ⟨its2,r2,p2,_⟩:=I.list hb
  have l1:=r1.length
  have l2:=r2.length
  by_cases hl:xs.length = ys.length
  · refine SeqAt.eq_listAt (e:=eqAtN xs ys) p1.isList p2.isList (by simp; lia) hu (fun j h1 h2=>items_eqAt r1 r2 fx fy j h1 h2) ⟨.bl _,H,I,rfl,?_⟩
    rw [List.size_toArray,← l1,all_eqAtN hl]
    exact q
  · refine SeqAt.eq_list_lengthsAt p1.isList p2.isList (by simp; lia) hu ⟨.bl false,H,I,rfl,?_⟩
    have e:=eqVs_len hl
    simp only [e] at q
    exact q
theorem op_neL (hu:X.A.units < cLine):OpR X (compareOp .NotEq) (rEqL X.K true):=by
  intro pins s σ H x y v u Q I rx ry h
  obtain ⟨a,b,xs,ys,rfl,rfl,ha,hb,fx,fy,q⟩:=h
  cases rx
  cases ry
  obtain ⟨its,r1,p1,_⟩:=I.list ha
  obtain ⟨its2,r2,p2,_⟩:=I.list hb
  have l1:=r1.length
  have l2:=r2.length
  by_cases hl:xs.length = ys.length
  · refine SeqAt.RcNeAt.lists (e:=eqAtN xs ys) p1.isList p2.isList (by simp; lia) hu (fun j h1 h2=>items_eqAt r1 r2 fx fy j h1 h2) _ _ _ _ ⟨.bl _,H,I,rfl,?_⟩
    rw [List.size_toArray,← l1,all_eqAtN hl]
    exact q
  · refine SeqAt.RcNeAt.lists_lengths p1.isList p2.isList (by simp; lia) hu _ _ _ _ ⟨.bl true,H,I,rfl,?_⟩
    have e:=eqVs_len hl
    simp only [e] at q
    exact q
theorem op_fdivB:OpR X (binaryOp .FloorDiv) (rI (fun _ j=>0 < j∧j.natAbs.log2 < 9000) fun i j=>.int (i / j)):=opI fun i j _ _ _ _ _ hc q=>by
  have h1:(0:Int) < j:=hc.1
  exact floordiv_int (by lia) (by rw [Int.fdiv_eq_ediv_of_nonneg i (by lia)]; exact q) (.inl (PyProof.noPylong_of_log2 hc.2))
end
end L2
namespace L2
open PySem PySem.Spec PyProof.Rows
section
variable {M:Model} {A:Around} {E:Value→Shared→Prop} {s:Shared}
end
end L2
namespace L2
open PySem PySem.Spec PyProof.Rows PySem.W PySem.Builtin PySem.Builtin.ObjectAttr
section
variable {prog:Program} {w:World} {A:Around} {E:Value→Shared→Prop} {s:Shared} {K:Frag} {x C:Addr} {ox:Obj} {od:Option Obj} {R:Result→Shared→Prop}
end
end L2
namespace L2
open PySem PySem.Spec PyProof.Rows PySem.W
section
variable {prog:Program} {w:World} {A:Around} {E:Value→Shared→Prop} {h:Heap} {g:Array GenState} {d:Drawn} {t:Nat} {os:OsState} {nm q:Str} {C N fI:Addr} {bs bm bmB rest:List Value} {hdct:Bool} {sn:List Str} {sub:List Value}
  {ab:Bool} {col:Option Bool} {dd:Option Addr} {k0 k1 k2 k3 k5:Option Value} {B newId initId:String}
end
end L2
namespace L2
open PySem PySem.Spec PyProof.Rows PySem.W
section
variable {M:Model} {A:Around} {E:Value→Shared→Prop} {h:Heap} {g:Array GenState} {d:Drawn} {t:Nat} {os:OsState} {nm q:Str} {C N:Addr} {bs bm:List Value} {hdct:Bool} {sn:List Str} {sub:List Value}
  {ab:Bool} {col:Option Bool} {dd:Option Addr} {k0 k1 k2 k3 k5:Option Value} {newId:String} {env:Env}
variable {nm2 q2:Str} {D N2:Addr} {bs2 bm2:List Value} {hdct2:Bool} {sn2:List Str} {sub2:List Value} {ab2:Bool} {col2:Option Bool} {dd2:Option Addr} {j0 j1 j2 j3 j5:Option Value} {newId2:String}
end
end L2
namespace L2
open PySem PySem.Spec PyProof.Rows PySem.W
section
variable {P:Program} {w:World} {H:Hp} {h:Heap} {e C dx:Addr} {dd:Option Addr} {tb:Value} {fs:List (Str×V)}
end
section
variable {X:Cx} {pins:List (Addr×Obj)} {σ:St} {H:Hp} {s:Shared} {h':Heap} {ea C T:Addr} {dd:Option Addr} {tb:Value}
end
section
variable {X:Cx} {pins:List (Addr×Obj)} {σ:St} {H:Hp} {s s':Shared} {E:XK} {e:Value}
end
end L2
namespace L2
open PySem PySem.Spec PyProof.Rows PySem.W
section
variable {X:Cx} {CX:CXT} {k:Nat} {f C:Addr} {bm:List Value} {fd:FuncData} {ps:List Str} {sp:Sp} {dvs:List V} {ds:List Value} {E:XK} {x m:Str} {p pos apos:Pos} {e o:Expr} {es:List Expr} {ta:TE} {t:TA}
end
section
variable {X:Cx} {pins:List (Addr×Obj)} {σ:St} {H:Hp} {s:Shared} {a C dx:Addr} {fs:List (Str×V)} {f:Str} {A:Around} {E:Value→Shared→Prop}
end
section
variable {X:Cx} {o e value:Expr} {f:Str} {pos pos' tpos:Pos} {ta tv:TE}
end
section
variable {X:Cx} {C:Addr} {bm:List Value} {x:Str} {p pos:Pos}
end
end L2
namespace L2
open PySem PySem.Spec PyProof.Rows PySem.W
section
variable {X:Cx} {k:Nat} {f C:Addr} {fd:FuncData} {ps:List Str} {sp:Sp} {dvs:List V} {ds:List Value} {E:XK} {x m:Str} {p pos apos:Pos} {e o:Expr} {es:List Expr} {ta:TE} {t:TA}
end
section
variable {X:Cx} {pins:List (Addr×Obj)} {σ:St} {H:Hp} {s:Shared} {ea:Addr}
end
section
variable {X:Cx} {body suite:List Stmt} {b₀:Stmt} {tb:TB} {ts:Addr→TS} {wn n:Str} {D:Addr} {bmD:List Value} {i:Nat} {np hpos pos:Pos}
end
end L2
namespace L2
open PySem PySem.Spec PyProof.Rows PySem.W
section
variable {X:Cx} {rest:List ExceptHandler} {suite:List Stmt} {b₀:Stmt} {ts:Addr→TS} {tr:THs} {wn n:Str} {D:Addr} {bmD:List Value} {i:Nat} {np hpos pos:Pos}
end
end L2
namespace L2
open PySem PySem.Spec PyProof.Rows PySem.W
section
variable {X:Cx} {E:XK}
end
section
variable {X:Cx} {k:Nat} {f C:Addr} {fd:FuncData} {ps:List Str} {sp:Sp} {dvs:List V} {ds:List Value} {x m:Str} {p pos apos:Pos} {e o:Expr} {es:List Expr} {ta:TE} {t:TA}
end
end L2
namespace L2
open PySem PySem.Spec PyProof.Rows
section
variable {X:Cx}
end
end L2
namespace L2
open PySem PySem.Spec PyProof.Rows
section
variable {P:Program} {w:World} {K:PySem.W.Frag} {mg:Str→Option Value} {base:Heap}
theorem same_new {H:Hp} {p:Addr} (h:H p = none) (o:HO):Same H (upd H p o):=fun b u q=>by rw [upd_ne (ne_of_none q h)]; exact q
theorem same_over {H H':Hp} {p:Addr} (s:Same H H') (h:H p = none) (o:HO):Same H (upd H' p o):=fun b u q=>by rw [upd_ne (ne_of_none q h)]; exact s b u q
theorem small {n:Nat} (h:n ≤ 100000):n < sizeLine:=Nat.lt_of_le_of_lt h (by decide)
theorem comp_list {a p:Addr} {xs:List V} {tt:TT} {te:TE} {cs:St} {Q:VK} {H1:Hp} (Pv:Nat→List V→Hp→Prop) (h0:Pv 0 [] (upd H1 p (.lst []))) (hl:∀ i ys H,i ≤ xs.length→Pv i ys H→SqL K H a xs)
    (hs:∀ i x ys H,xs[i]? = some x→Pv i ys H→tt (some x :: cs) H fun b H4=>if b = true then te (some x :: cs) H4 fun y H5=>H5 p = some (.lst ys)∧ys.length < sizeLine∧Pv (i + 1) (ys ++ [y]) (upd H5 p (.lst (ys ++ [y]))) else Pv (i + 1) ys H4)
    (hd:∀ ys H,Pv xs.length ys H→Q (.ref p) H):CompW (Itl K a) p tt te cs Q H1 :=
  comp_by xs.length Pv h0 (fun i ys H hi pv=>⟨⟨xs,xs[i],hl i ys H (Nat.le_of_lt hi) pv,by simp [hi]⟩,fun v H3 ⟨e,y⟩=>by
    subst e
    exact hs i v ys _ (y xs (hl i ys _ (Nat.le_of_lt hi) pv)) pv⟩) fun ys H pv=>⟨⟨xs,hl _ ys H (Nat.le_refl _) pv,Nat.le_refl _⟩,hd ys H pv⟩
structure Has (K:PySem.W.Frag) (mg:Str→Option Value) (x:Str) (st:Stmt) (ps:List Str) (f:Addr) (fd:FuncData):Prop where
  fn:Fun K x x st f fd
  bd:Binds K fd ps []
  nm:mg x = some (.ref f)
end
end L2
namespace L2
open PySem PyProof.Rows
theorem if_rest {c:TT} {t:TS} {rt:VK} {bk ct:St→Hp→Prop} {σ:St} {H:Hp} {U:St→Hp→Prop} (R:St→Hp→Prop) (h1:∀ σ' H',R σ' H'→U σ' H') (h2:(∀ σ' H',R σ' H'→U σ' H')→tIfS c t tNext { nx:=U,rt:=rt,bk:=bk,ct:=ct } σ H) :
    tIfS c t tNext { nx:=U,rt:=rt,bk:=bk,ct:=ct } σ H:=h2 h1
theorem seq_in {t u:TS} {D:Ends} {σ:St} {H:Hp} (h:t { nx:=u D,rt:=D.rt,bk:=D.bk,ct:=D.ct } σ H):tSeq t u D σ H:=h
theorem cut_mem {ns:List Int} {lo hi:Option Int} {i:Nat} {x:V} (h:(cutV (ns.map V.int) lo hi)[i]? = some x):∃ c,x = .int c:=by
  have m:=List.mem_of_getElem? h
  unfold cutV at m
  obtain ⟨c,_,e⟩:=List.mem_map.mp (List.mem_of_mem_drop (List.mem_of_mem_take m))
  exact ⟨c,e.symm⟩
end L2
namespace L2
open PySem PySem.Spec PyProof.Rows
section
variable {κ:Type} [DecidableEq κ]
noncomputable def valV (kvs:List (κ×V)) (k:κ):Option V:=(kvs.find? fun kv=>decide (kv.1 = k)).map (·.2)
noncomputable def putK (kvs:List (κ×V)) (k:κ) (v:V):List (κ×V) :=
  if (kvs.any fun kv=>decide (kv.1 = k)) = true then kvs.map (fun kv=>if kv.1 = k then (kv.1,v) else kv) else kvs ++ [(k,v)]
noncomputable def dropK (kvs:List (κ×V)) (k:κ):List (κ×V):=kvs.filter fun kv=>decide (kv.1 ≠ k)
theorem valV_pos {p:κ×V} {r:List (κ×V)} {k:κ} (e:p.1 = k):valV (p :: r) k = some p.2:=by simp [valV,List.find?_cons,e]
theorem valV_neg {p:κ×V} {r:List (κ×V)} {k:κ} (e:¬ p.1 = k):valV (p :: r) k = valV r k:=by simp [valV,List.find?_cons,e]
theorem valV_any (k:κ):∀ kvs:List (κ×V),(kvs.any fun kv=>decide (kv.1 = k)) = (valV kvs k).isSome
  | []=>rfl
  | p :: r=>by
    rw [List.any_cons]
    by_cases e:p.1 = k
    · simp only [valV_pos e,decide_eq_true e,Bool.true_or,Option.isSome_some]
    · rw [valV_neg e,decide_eq_false e,Bool.false_or]; exact valV_any k r
theorem valV_map (k j:κ) (y:V):∀ kvs:List (κ×V),valV (kvs.map fun kv=>if kv.1 = k then (kv.1,y) else kv) j = (valV kvs j).map fun x=>if j = k then y else x
  | []=>rfl
  | p :: r=>by
    have ih:=valV_map k j y r
    rw [List.map_cons]
    by_cases h:p.1 = k
    · rw [if_pos h]
      by_cases e:p.1 = j
      · rw [valV_pos (p:=(p.1,y)) e,valV_pos e,Option.map_some,if_pos (e.symm.trans h)]
      · rw [valV_neg (p:=(p.1,y)) e,valV_neg e,ih]
    · rw [if_neg h]
      by_cases e:p.1 = j
      · rw [valV_pos (p:=p) e,valV_pos e,Option.map_some,if_neg (fun z=>h (e.trans z))]
      · rw [valV_neg (p:=p) e,valV_neg e,ih]
theorem valV_snoc (k j:κ) (y:V):∀ kvs:List (κ×V),valV kvs k = none→valV (kvs ++ [(k,y)]) j = if j = k then some y else valV kvs j
  | [],_=>by
    by_cases e:k = j
    · rw [if_pos e.symm]; exact valV_pos (p:=(k,y)) e
    · rw [if_neg (fun z=>e z.symm)]; exact valV_neg (p:=(k,y)) e
  | p :: r,hn=>by
    rw [List.cons_append]
    have hk:¬ p.1 = k:=fun z=>by rw [valV_pos z] at hn; cases hn
    rw [valV_neg hk] at hn
    have ih:=valV_snoc k j y r hn
    by_cases e:p.1 = j
    · rw [valV_pos e,valV_pos e,if_neg (fun z=>hk (e.trans z))]
    · rw [valV_neg e,valV_neg e,ih]
theorem valV_put (kvs:List (κ×V)) (k j:κ) (y:V):valV (putK kvs k y) j = if j = k then some y else valV kvs j:=by
  unfold putK
  by_cases a:(kvs.any fun kv=>decide (kv.1 = k)) = true
  · rw [if_pos a,valV_map]
    rw [valV_any] at a
    by_cases e:j = k
    · obtain ⟨x,hx⟩:=Option.isSome_iff_exists.mp a
      rw [if_pos e,e,hx,Option.map_some,if_pos rfl]
    · rw [if_neg e]
      cases valV kvs j with
      | none=>rfl
      | some x=>rw [Option.map_some,if_neg e]
  · rw [if_neg a]
    refine valV_snoc k j y kvs ?_
    rw [valV_any] at a
    cases q:valV kvs k with
    | none=>rfl
    | some x=>rw [q] at a; exact (a rfl).elim
theorem length_putK (kvs:List (κ×V)) (k:κ) (v:V):(putK kvs k v).length ≤ kvs.length + 1:=by
  unfold putK
  split
  · rw [List.length_map]; lia
  · rw [List.length_append,List.length_cons,List.length_nil]; lia
theorem putK_new {kvs:List (κ×V)} {k:κ} (v:V) (h:valV kvs k = none):putK kvs k v = kvs ++ [(k,v)]:=by
  unfold putK
  rw [valV_any,h]
  exact if_neg (by decide)
theorem RelO.isSome_eq {o:Option V} {u:Option Value} (r:RelO o u):o.isSome = u.isSome:=by
  cases o with
  | none=>cases u with
    | none=>rfl
    | some _=>exact (show False from r).elim
  | some _=>cases u with
    | none=>exact (show False from r).elim
    | some _=>rfl
theorem RelO.getD {o:Option V} {u:Option Value} {d:V} {d':Value} (r:RelO o u) (rd:RelV d d'):RelV (o.getD d) (u.getD d'):=by
  cases o with
  | none=>cases u with
    | none=>exact rd
    | some _=>exact (show False from r).elim
  | some _=>cases u with
    | none=>exact (show False from r).elim
    | some _=>exact r
theorem KV.val {kvs:List (κ×V)} {vs:List (κ×Value)} (r:KV kvs vs) (k:κ):RelO (valV kvs k) (valueAt vs k):=by
  unfold KV at r
  induction r with
  | nil=>exact True.intro
  | @cons p q ps qs h t ih =>
    obtain ⟨h1,h2⟩:=h
    by_cases e:p.1 = k
    · have e':q.1 = k:=h1.symm.trans e
      have b:valueAt (q :: qs) k = some q.2:=by simp [valueAt,List.find?_cons,e']
      rw [valV_pos e,b]; exact h2
    · have e':¬ q.1 = k:=fun z=>e (h1.trans z)
      have b:valueAt (q :: qs) k = valueAt qs k:=by simp [valueAt,List.find?_cons,e']
      rw [valV_neg e,b]; exact ih
theorem KV.any {kvs:List (κ×V)} {vs:List (κ×Value)} (r:KV kvs vs) (k:κ):(kvs.any fun kv=>decide (kv.1 = k)) = vs.any fun kv=>decide (kv.1 = k):=by
  unfold KV at r
  induction r with
  | nil=>rfl
  | cons h t ih=>rw [List.any_cons,List.any_cons,ih,h.1]
theorem KV.repl {kvs:List (κ×V)} {vs:List (κ×Value)} (r:KV kvs vs) (k:κ) {y:V} {u:Value} (ry:RelV y u) :
    KV (kvs.map fun kv=>if kv.1 = k then (kv.1,y) else kv) (vs.map fun kv=>if kv.1 = k then (kv.1,u) else kv):=by
  unfold KV at r ⊢
  induction r with
  | nil=>exact .nil
  | @cons p q ps qs h t ih =>
    rw [List.map_cons,List.map_cons]
    refine .cons ?_ ih
    obtain ⟨h1,h2⟩:=h
    by_cases e:p.1 = k
    · rw [if_pos e,if_pos (h1.symm.trans e)]; exact ⟨h1,ry⟩
    · rw [if_neg e,if_neg (fun z=>e (h1.trans z))]; exact ⟨h1,h2⟩
theorem KV.put {kvs:List (κ×V)} {vs:List (κ×Value)} (r:KV kvs vs) (k:κ) {y:V} {u:Value} (ry:RelV y u):KV (putK kvs k y) (stored vs k u):=by
  unfold putK stored
  rw [r.any k]
  by_cases e:(vs.any fun kv=>decide (kv.1 = k)) = true
  · rw [if_pos e,if_pos e]; exact r.repl k ry
  · rw [if_neg e,if_neg e]; exact Paired.snoc r ⟨rfl,ry⟩
theorem KV.drop {kvs:List (κ×V)} {vs:List (κ×Value)} (r:KV kvs vs) (k:κ):KV (dropK kvs k) (without vs k):=by
  unfold KV at r ⊢
  unfold dropK without
  induction r with
  | nil=>exact .nil
  | @cons p q ps qs h t ih =>
    obtain ⟨h1,h2⟩:=h
    rw [List.filter_cons,List.filter_cons]
    by_cases e:p.1 = k
    · have a:¬ decide (p.1 ≠ k) = true:=by simp [e]
      have b:¬ decide (q.1 ≠ k) = true:=by simp [h1.symm.trans e]
      rw [if_neg a,if_neg b]; exact ih
    · have e':¬ q.1 = k:=fun z=>e (h1.trans z)
      have a:decide (p.1 ≠ k) = true:=by simp [e]
      have b:decide (q.1 ≠ k) = true:=by simp [e']
      rw [if_pos a,if_pos b]; exact .cons ⟨h1,h2⟩ ih
theorem KV.keys {kvs:List (κ×V)} {vs:List (κ×Value)} (r:KV kvs vs):kvs.map (·.1) = vs.map (·.1):=by
  unfold KV at r
  induction r with
  | nil=>rfl
  | cons h t ih=>rw [List.map_cons,List.map_cons,ih,h.1]
theorem KV.length {kvs:List (κ×V)} {vs:List (κ×Value)} (r:KV kvs vs):kvs.length = vs.length:=Paired.length r
theorem dropK_le (kvs:List (κ×V)) (k:κ):(dropK kvs k).length ≤ kvs.length:=List.length_filter_le _ _
end
theorem kV_is {P:Program} {w:World} {k:Key} {u:Value} (r:RelV (kV k) u):(mixKind P w).is k u = true:=by
  cases k with
  | inl i=>obtain ⟨t,e⟩:=(show ∃ t,u = Value.int i t from r); subst e; exact mixKind_int P w i t
  | inr x=>obtain ⟨t,e⟩:=(show ∃ t,u = Value.str x t from r); subst e; exact mixKind_str P w x t
theorem items_are {P:Program} {w:World}:∀ {ks:List Key} {us:List Value},Vals (ks.map kV) us→ItemsAre (mixKind P w) ks us
  | [],_,r=>by rw [List.map_nil] at r; cases r; exact .nil
  | k :: ks,_,r=>by
    rw [List.map_cons] at r
    cases r with
    | cons h t=>exact .cons (kV_is h) (items_are t)
noncomputable abbrev KT (H:Hp):List (List Key×V)→List (List Key×Addr×Value)→Prop:=Paired fun p q=>p.1 = q.1∧H q.2.1 = some (.tup (p.1.map kV))∧RelV p.2 q.2.2
theorem KT.val {H:Hp} {kvs:List (List Key×V)} {xs:List (List Key×Addr×Value)} (r:KT H kvs xs) (k:List Key):RelO (valV kvs k) ((atKey xs k).map (·.2)):=by
  induction r with
  | nil=>exact True.intro
  | @cons p q ps qs h t ih =>
    obtain ⟨h1,_,h2⟩:=h
    by_cases e:p.1 = k
    · have e':q.1 = k:=h1.symm.trans e
      have b:atKey (q :: qs) k = some q.2:=by simp [atKey,List.find?_cons,e']
      rw [valV_pos e,b]; exact h2
    · have e':¬ q.1 = k:=fun z=>e (h1.trans z)
      have b:atKey (q :: qs) k = atKey qs k:=by simp [atKey,List.find?_cons,e']
      rw [valV_neg e,b]; exact ih
theorem KT.repl {H:Hp} {kvs:List (List Key×V)} {xs:List (List Key×Addr×Value)} (r:KT H kvs xs) (k:List Key) {y:V} {u:Value} (ry:RelV y u) :
    KT H (kvs.map fun kv=>if kv.1 = k then (kv.1,y) else kv) (xs.map (putAt k u)):=by
  induction r with
  | nil=>exact .nil
  | @cons p q ps qs h t ih =>
    rw [List.map_cons,List.map_cons]
    refine .cons ?_ ih
    obtain ⟨h1,h2,h3⟩:=h
    unfold putAt
    by_cases e:p.1 = k
    · rw [if_pos e,if_pos (h1.symm.trans e)]; exact ⟨h1,h2,ry⟩
    · rw [if_neg e,if_neg (fun z=>e (h1.trans z))]; exact ⟨h1,h2,h3⟩
theorem KT.put {H:Hp} {kvs:List (List Key×V)} {xs:List (List Key×Addr×Value)} (r:KT H kvs xs) (k:List Key) {b:Addr} {y:V} {u:Value} (hb:H b = some (.tup (k.map kV))) (ry:RelV y u) :
    KT H (putK kvs k y) (storedH xs k b u):=by
  have e:(kvs.any fun kv=>decide (kv.1 = k)) = (atKey xs k).isSome:=by
    rw [valV_any,(r.val k).isSome_eq,Option.isSome_map]
  unfold putK storedH
  rw [e]
  by_cases q:(atKey xs k).isSome = true
  · rw [if_pos q,if_pos q]; exact r.repl k ry
  · rw [if_neg q,if_neg q]; exact Paired.snoc r ⟨rfl,hb,ry⟩
theorem KT.keeps {H H':Hp} {kvs:List (List Key×V)} {xs:List (List Key×Addr×Value)} (r:KT H kvs xs) (ht:∀ b ys,H b = some (.tup ys)→H' b = some (.tup ys)):KT H' kvs xs :=
  Paired.mapP r fun _ _ z=>⟨z.1,ht _ _ z.2.1,z.2.2⟩
section
variable {P:Program} {w:World} {H:Hp} {h:Heap} {a:Addr}
theorem rd_of {u:HO} (ok:HOk P w H h) (e:Rd H a u):ObjOk P w H h a u:=e.ok ok
theorem dk_rd {kvs:List (Key×V)} (ok:HOk P w H h) (e:Rd H a (.dK kvs)):kvs.length ≤ sizeLine∧(a == sysModules) = false∧∃ vs,KV kvs vs∧h.DictOf (mixKind P w) a vs :=
  show ObjOk P w H h a (.dK kvs) from rd_of ok e
theorem dk_of {kvs:List (Key×V)} (ok:HOk P w H h) (e:H a = some (.dK kvs)):kvs.length ≤ sizeLine∧(a == sysModules) = false∧∃ vs,KV kvs vs∧h.DictOf (mixKind P w) a vs:=dk_rd ok (.inl e)
theorem key_of {ks:List Key} (ok:HOk P w H h) (e:H a = some (.tup (ks.map kV))):(tupleKind (mixKind P w)).is h ks a:=by
  obtain ⟨_,its,r,o,h1,h2,n,h3⟩:=(show ObjOk P w H h a (.tup (ks.map kV)) from ok a _ e)
  exact ⟨o,its.toArray,n,h1,h2,h3,by simpa using items_are r⟩
theorem dt_rd {kvs:List (List Key×V)} (ok:HOk P w H h) (e:Rd H a (.dT kvs)):kvs.length ≤ sizeLine∧(a == sysModules) = false ∧
    ∃ xs,KT H kvs xs∧h.DictOfH (tupleKind (mixKind P w)) a xs:=by
  obtain ⟨z,y,xs,r,o,es,ep,h1,h2,h3,h4,h5⟩:=(show ObjOk P w H h a (.dT kvs) from rd_of ok e)
  refine ⟨z,y,xs,r,o,es,ep,h1,h2,h3,h4,fun x hx=>?_,h5⟩
  have all:∀ {l:List (List Key×V)} {m:List (List Key×Addr×Value)},KT H l m→∀ x ∈ m,(tupleKind (mixKind P w)).is h x.1 x.2.1:=by
    intro l m q
    induction q with
    | nil=>intro x hx; exact nomatch hx
    | @cons p q ps qs hq t ih =>
      intro x hx
      rcases List.mem_cons.mp hx with e | hx
      · subst e
        exact key_of ok (by rw [← hq.1]; exact hq.2.1)
      · exact ih x hx
  exact all r x hx
theorem dt_of {kvs:List (List Key×V)} (ok:HOk P w H h) (e:H a = some (.dT kvs)):kvs.length ≤ sizeLine∧(a == sysModules) = false ∧
    ∃ xs,KT H kvs xs∧h.DictOfH (tupleKind (mixKind P w)) a xs:=dt_rd ok (.inl e)
end
noncomputable def DGet (H:Hp) (a:Addr) (y:V) (r:Option V):Prop :=
  (∃ kvs k,Rd H a (.dK kvs)∧y = kV k∧r = valV kvs k)∨∃ kvs k b,Rd H a (.dT kvs)∧y = .ref b∧H b = some (.tup (k.map kV))∧r = valV kvs k
noncomputable def DPut (H:Hp) (a:Addr) (y v:V) (H':Hp):Prop :=
  (∃ kvs k,H a = some (.dK kvs)∧y = kV k∧kvs.length < sizeLine∧H' = upd H a (.dK (putK kvs k v))) ∨
  ∃ kvs k b,H a = some (.dT kvs)∧y = .ref b∧H b = some (.tup (k.map kV))∧kvs.length < sizeLine∧H' = upd H a (.dT (putK kvs k v))
theorem DGet.k {H:Hp} {a:Addr} {kvs:List (Key×V)} {k:Key} (e:H a = some (.dK kvs)):DGet H a (kV k) (valV kvs k):=.inl ⟨kvs,k,.inl e,rfl,rfl⟩
theorem DPut.k {H:Hp} {a:Addr} {kvs:List (Key×V)} {k:Key} {v:V} (e:H a = some (.dK kvs)) (hl:kvs.length < sizeLine):DPut H a (kV k) v (upd H a (.dK (putK kvs k v))):=.inl ⟨kvs,k,e,rfl,hl,rfl⟩
section
variable {X:Cx} {pins:List (Addr×Obj)} {σ:St} {H:Hp} {s:Shared} {a:Addr} {y v:V} {u r:Value} {o:Option V} {A:Around} {E:Value→Shared→Prop}
theorem Inv.big (I:Inv X pins σ H s):sysModules < s.heap.objs.size:=by
  have h:mainGlobals < s.heap.objs.size:=(I.mod.glob.keeps I.bk).lt
  exact Nat.lt_trans (by decide) h
theorem d_getItem {Q:Value→Shared→Prop} (hu:A.units + 1 < cLine) (I:Inv X pins σ H s) (g:DGet H a y (some v)) (ry:RelV y u) (h:∀ w' s',Inv X pins σ H s'→RelV v w'→Q w' s') :
    wpAny (model X.prog X.w) A (getItem (.ref a) u) Q E s:=by
  rcases g with ⟨kvs,k,e,ey,l⟩ | ⟨kvs,k,b,e,ey,eb,l⟩
  · subst ey
    obtain ⟨z,hd,vs,rel,dd⟩:=dk_rd I.hok e
    obtain ⟨w',hw,rw'⟩:=RelO.some_of (v:=v) (o:=valueAt vs k) (by rw [l]; exact rel.val k)
    exact wpAny_getItem_of (kV_is ry) dd.mapOf hw (h w' _ (I.tok _) rw')
  · subst ey
    cases (show u = Value.ref b from ry)
    obtain ⟨z,hd,xs,rel,dd⟩:=dt_rd I.hok e
    obtain ⟨w',hw,rw'⟩:=RelO.some_of (v:=v) (o:=(atKey xs k).map (·.2)) (by rw [l]; exact rel.val k)
    obtain ⟨p,hp,hp2⟩:=Option.map_eq_some_iff.mp hw
    refine wpAny_getItem_heap (tupleKind_room_in1 hu) (key_of I.hok eb) dd hp ?_
    rw [hp2]
    exact h w' _ (I.tok _) rw'
theorem d_in {Q:Value→Shared→Prop} (hu:A.units + 1 < cLine) (I:Inv X pins σ H s) (g:DGet H a y o) (ry:RelV y u) (h:∀ s',Inv X pins σ H s'→Q (.bool o.isSome) s') :
    wpAny (model X.prog X.w) A (compareOp .In u (.ref a)) Q E s:=by
  rcases g with ⟨kvs,k,e,ey,l⟩ | ⟨kvs,k,b,e,ey,eb,l⟩
  · subst ey
    obtain ⟨z,hd,vs,rel,dd⟩:=dk_rd I.hok e
    refine wpAny_in_of (kV_is ry) hd dd.mapOf ?_
    rw [← (rel.val k).isSome_eq,← l]
    exact h _ (I.tok _)
  · subst ey
    cases (show u = Value.ref b from ry)
    obtain ⟨z,hd,xs,rel,dd⟩:=dt_rd I.hok e
    refine wpAny_in_heap (tupleKind_room_in1 hu) (key_of I.hok eb) hd dd ?_
    have q:=(rel.val k).isSome_eq
    rw [Option.isSome_map] at q
    rw [← q,← l]
    exact h _ (I.tok _)
theorem d_notIn {Q:Value→Shared→Prop} (hu:A.units + 1 < cLine) (I:Inv X pins σ H s) (g:DGet H a y o) (ry:RelV y u) (h:∀ s',Inv X pins σ H s'→Q (.bool (!o.isSome)) s') :
    wpAny (model X.prog X.w) A (compareOp .NotIn u (.ref a)) Q E s:=by
  rcases g with ⟨kvs,k,e,ey,l⟩ | ⟨kvs,k,b,e,ey,eb,l⟩
  · subst ey
    obtain ⟨z,hd,vs,rel,dd⟩:=dk_rd I.hok e
    refine wpAny_notIn_of (kV_is ry) hd dd.mapOf ?_
    rw [← (rel.val k).isSome_eq,← l]
    exact h _ (I.tok _)
  · subst ey
    cases (show u = Value.ref b from ry)
    obtain ⟨z,hd,xs,rel,dd⟩:=dt_rd I.hok e
    refine wpAny_notIn_heap (tupleKind_room_in1 hu) (key_of I.hok eb) hd dd ?_
    have q:=(rel.val k).isSome_eq
    rw [Option.isSome_map] at q
    rw [← q,← l]
    exact h _ (I.tok _)
theorem d_write {h':Heap} {t':Nat} {ob:HO} (I:Inv X pins σ H s) (mu:Mut (H a)) (hs:Heap.SameBut a s.heap h') (he:∃ q,h'.get? a = some q) (new:ObjOk X.prog X.w (upd H a ob) h' a ob) :
    Inv X pins σ (upd H a ob) { s with heap:=h',toks:=t' } :=
  I.write (x:=a) (e:=a) mu (.inl rfl) (fun b q hb z=>(hs.2 b hb).trans z) he new
theorem dk_new {P:Program} {w:World} {H':Hp} {h':Heap} {kvs:List (Key×V)} {vs:List (Key×Value)} (z:kvs.length ≤ sizeLine) (hd:(a == sysModules) = false) (rel:KV kvs vs) (dd:h'.DictOf (mixKind P w) a vs) :
    ObjOk P w H' h' a (.dK kvs):=⟨z,hd,vs,rel,dd⟩
theorem d_setItem {H':Hp} {Q:Unit→Shared→Prop} (hu:A.units + 1 < cLine) (I:Inv X pins σ H s) (g:DPut H a y v H') (ry:RelV y u) (rv:RelV v r) (h:∀ s',Inv X pins σ H' s'→Q () s') :
    wpAny (model X.prog X.w) A (setItem (.ref a) u r) Q E s:=by
  rcases g with ⟨kvs,k,e,ey,l,eH⟩ | ⟨kvs,k,b,e,ey,eb,l,eH⟩
  · subst ey eH
    obtain ⟨z,hd,vs,rel,dd⟩:=dk_of I.hok e
    have hz:vs.length ≤ sizeLine:=by rw [← rel.length]; exact z
    have hl:(putK kvs k v).length ≤ sizeLine:=by have:=length_putK kvs k v; lia
    refine wpAny_setItem_pairs (hsz:=hz) (kV_is ry) dd fun h' dd' hs=>h _ ?_
    have he:∃ q,h'.get? a = some q:=let ⟨q,_,_,hq,_⟩:=dd'; ⟨q,hq⟩
    exact d_write I (by rw [e]; exact True.intro) hs he (dk_new hl hd (rel.put k rv) dd')
  · subst ey eH
    cases (show u = Value.ref b from ry)
    obtain ⟨z,hd,xs,rel,dd⟩:=dt_of I.hok e
    have hz:xs.length ≤ sizeLine:=by rw [← Paired.length rel]; exact z
    have hl:(putK kvs k v).length ≤ sizeLine:=by have:=length_putK kvs k v; lia
    refine wpAny_setItem_heap (hsz:=hz) (tupleKind_room_in1 hu) (key_of I.hok eb) dd fun h' dd' hs=>h _ ?_
    obtain ⟨q,es,ep,hq,h2,h3,h4,_,h5⟩:=dd'
    refine d_write I (by rw [e]; exact True.intro) hs ⟨q,hq⟩ ⟨hl,hd,_,(rel.put k eb rv).keeps fun c ys ec=>?_,q,es,ep,hq,h2,h3,h4,h5⟩
    rw [upd_ne (ne_of ec e (fun z=>nomatch z))]
    exact ec
end
section
variable {X:Cx} {pins:List (Addr×Obj)} {σ:St} {H:Hp} {s:Shared} {a:Addr} {kvs:List (Key×V)} {k:Key} {u:Value} {A:Around} {E:Value→Shared→Prop}
theorem d_delItem {Q:Unit→Shared→Prop} (I:Inv X pins σ H s) (e:H a = some (.dK kvs)) (ry:RelV (kV k) u) (l:(valV kvs k).isSome = true) (h:∀ s',Inv X pins σ (upd H a (.dK (dropK kvs k))) s'→Q () s') :
    wpAny (model X.prog X.w) A (delItem (.ref a) u) Q E s:=by
  obtain ⟨z,hd,vs,rel,dd⟩:=dk_of I.hok e
  refine wpAny_delItem_slot dd.typeIs (by decide) PySem.F.slot_dict_delitem
    (call_meetsIn PySem.F.slot_dict_delitem dd.typeIs PySem.F.entry_dict_delitem (PySem.F.args_dict_delitem_2 _ _) (meets_dict_delitem_pairs (mixKind X.prog X.w) a (kV_is ry)) ⟨vs,dd,by rw [← rel.length]; exact z,by rw [← (rel.val k).isSome_eq]; exact l,fun h' dd' hs=>h _ ?_⟩)
  have he:∃ q,h'.get? a = some q:=let ⟨q,_,_,hq,_⟩:=dd'; ⟨q,hq⟩
  exact d_write I (by rw [e]; exact True.intro) hs he (dk_new (Nat.le_trans (dropK_le kvs k) z) hd (rel.drop k) dd')
theorem d_pop {v:V} {more:List Value} {Q:Value→Shared→Prop} (I:Inv X pins σ H s) (e:H a = some (.dK kvs)) (ry:RelV (kV k) u) (l:valV kvs k = some v) (hm:more = []∨∃ x,more = [x])
    (h:∀ w' s',Inv X pins σ (upd H a (.dK (dropK kvs k))) s'→RelV v w'→Q w' s'):wpAny (model X.prog X.w) A (call (.builtin "dict.pop") (.ref a :: u :: more)) Q E s:=by
  obtain ⟨z,hd,vs,rel,dd⟩:=dk_of I.hok e
  obtain ⟨w',hw,rw'⟩:=RelO.some_of (v:=v) (o:=valueAt vs k) (by rw [← l]; exact rel.val k)
  have hp:(keyPart u).isSome = true:=by
    cases k with
    | inl i=>obtain ⟨t,q⟩:=(show ∃ t,u = Value.int i t from ry); subst q; rfl
    | inr x=>obtain ⟨t,q⟩:=(show ∃ t,u = Value.str x t from ry); subst q; rfl
  have ha:argsOk "dict.pop" ⟨.ref a :: u :: more,[]⟩:=by
    rcases hm with q | ⟨x,q⟩
    · subst q; exact PySem.F.args_dict_pop_2 _ _
    · subst q; exact PySem.F.args_dict_pop_3 _ _ _
  refine call_meetsIn PySem.F.slot_dict_pop dd.typeIs PySem.F.entry_dict_pop ha (meets_dict_pop_there (mixKind X.prog X.w) a (kV_is ry) more hm hp)
    ⟨vs,w',dd,by rw [← rel.length]; exact z,hw,fun h' dd' hs=>h w' _ ?_ rw'⟩
  have he:∃ q,h'.get? a = some q:=let ⟨q,_,_,hq,_⟩:=dd'; ⟨q,hq⟩
  exact d_write I (by rw [e]; exact True.intro) hs he (dk_new (Nat.le_trans (dropK_le kvs k) z) hd (rel.drop k) dd')
end
noncomputable def NoSl (i:Expr):Prop:=∀ ov iv,subscripted i false ov iv = operate [ov,iv] (getItem ov iv)
theorem subD_of {prog:Program} {w:World} {A:Around} {E:Value→Shared→Prop} {s:Shared} {env:Env} {value slice:Expr} {pos:Pos} {T id:String} {Q:Value→Shared→Prop}
    (hl:typeLookup (.type T) "__getitem__" = pure (some (.builtin id))) (hs:NoSl slice)
    (h:wpAny (model prog w) A (eval value env) (fun o s₁=>wpAny (model prog w) A (eval slice env) (fun i s₂=>s₂.TypeIs o T∧wpAny (model prog w) A (getItem o i) Q E s₂) E s₁) E s) :
    wpAny (model prog w) A (eval (.Subscript value slice pos) env) Q E s:=by
  refine Subscript_ (wpAny_mono h (fun o s₁ h₁=>wpAny_mono h₁ (fun i s₂ h₂=>?_) fun _ _ x=>x) fun _ _ x=>x)
  obtain ⟨hT,h₂⟩:=h₂
  unfold subscriptTail
  refine wpAny_bind ?_
  rw [getitemInPython_of_ne hT.not_modules]
  refine wpAny_bind (wpAny_specialOf hT hl ?_)
  have fin:wpAny (model prog w) A (subscripted slice false o i) (fun r s₃=>wpAny (model prog w) A (letTemporaryGo value o r >>= fun _=>pure r) Q E s₃) E s₂:=by
    rw [hs o i]
    exact wpAny_operating (wpAny_mono h₂ (fun r s₃ h₃=>wpAny_bind (wpAny_letTemporaryGo (wpAny_pure h₃))) fun _ _ x=>x)
  first
    | exact wpAny_pure (wpAny_bind fin)
    | exact wpAny_bind (wpAny_pure (wpAny_bind fin))
    | exact wpAny_bind fin
theorem dict_typeIs {X:Cx} {pins:List (Addr×Obj)} {σ:St} {H:Hp} {s:Shared} {a:Addr} {y:V} {o:Option V} (I:Inv X pins σ H s) (g:DGet H a y o):s.TypeIs (.ref a) "dict":=by
  rcases g with ⟨kvs,k,e,_,_⟩ | ⟨kvs,k,b,e,_,_,_⟩
  · obtain ⟨_,_,vs,_,dd⟩:=dk_rd I.hok e
    exact dd.typeIs
  · obtain ⟨_,_,xs,_,dd⟩:=dt_rd I.hok e
    exact dd.typeIs
noncomputable def tDGet (td ty:TE):TE:=fun σ H Q=>td σ H fun x H1=>ty σ H1 fun y H2=>∃ a v,x = .ref a∧DGet H2 a y (some v)∧Q v H2
noncomputable def tDIn (ty td:TE):TE:=fun σ H Q=>ty σ H fun y H1=>td σ H1 fun x H2=>∃ a o,x = .ref a∧DGet H2 a y o∧Q (.bl o.isSome) H2
noncomputable def tDNotIn (ty td:TE):TE:=fun σ H Q=>ty σ H fun y H1=>td σ H1 fun x H2=>∃ a o,x = .ref a∧DGet H2 a y o∧Q (.bl (!o.isSome)) H2
noncomputable def sDPut (td ty tv:TE):TS:=fun D σ H=>tv σ H fun v H1=>td σ H1 fun x H2=>ty σ H2 fun y H3=>∃ a H4,x = .ref a∧DPut H3 a y v H4∧D.nx σ H4
section
variable {X:Cx} {o i e value:Expr} {pos pos' tpos:Pos} {td ty tv:TE}
theorem pe_dget (hu:X.A.units + 1 < cLine) (ho:PE X o td) (hi:PE X i ty) (hs:NoSl i):PE X (.Subscript o i pos) (tDGet td ty):=by
  intro pins s σ H Q I h
  refine subD_of PySem.F.slot_dict_getitem.lookup hs (thn (ho pins s σ H _ I h) fun u s1 ⟨x,H1,I1,rx,q1⟩=>thn (hi pins s1 σ H1 _ I1 q1) fun iv s2 ⟨y,H2,I2,ry,a,v,ex,g,q2⟩=>?_)
  subst ex
  obtain rfl:u = Value.ref a:=rx
  exact ⟨dict_typeIs I2 g,d_getItem hu I2 g ry fun w' s3 I3 rw'=>⟨v,H2,I3,rw',q2⟩⟩
theorem pc_din (hu:X.A.units + 1 < cLine) (hi:PE X i ty) (ho:PE X o td):PC X .In i o (tDIn ty td):=by
  intro pins s σ H Q I h
  refine thn (hi pins s σ H _ I h) fun iv s1 ⟨y,H1,I1,ry,q1⟩=>thn (ho pins s1 σ H1 _ I1 q1) fun u s2 ⟨x,H2,I2,rx,a,ov,ex,g,q2⟩=>?_
  subst ex
  obtain rfl:u = Value.ref a:=rx
  exact d_in hu I2 g ry fun s3 I3=>⟨.bl ov.isSome,H2,I3,rfl,q2⟩
theorem pc_dnotin (hu:X.A.units + 1 < cLine) (hi:PE X i ty) (ho:PE X o td):PC X .NotIn i o (tDNotIn ty td):=by
  intro pins s σ H Q I h
  refine thn (hi pins s σ H _ I h) fun iv s1 ⟨y,H1,I1,ry,q1⟩=>thn (ho pins s1 σ H1 _ I1 q1) fun u s2 ⟨x,H2,I2,rx,a,ov,ex,g,q2⟩=>?_
  subst ex
  obtain rfl:u = Value.ref a:=rx
  exact d_notIn hu I2 g ry fun s3 I3=>⟨.bl (!ov.isSome),H2,I3,rfl,q2⟩
theorem ps_dput (hu:X.A.units + 1 < cLine) (ho:PE X o td) (hi:PE X i ty) (hv:PE X value tv) (hs:swapsWith value (some (.Subscript o i pos')) pos.line X.env = pure false) :
    PS X (.Assign [.Subscript o i pos'] value pos) (sDPut td ty tv):=by
  intro pins s σ H D I h
  refine wpAny_Assign_Subscript (thn (hv pins s σ H _ I h) fun r s1 ⟨v,H1,I1,rv,q1⟩=>thn (ho pins s1 σ H1 _ I1 q1) fun u s2 ⟨x,H2,I2,rx,q2⟩=>thn (hi pins s2 σ H2 _ I2 q2) fun iv s3 ⟨y,H3,I3,ry,a,H4,ex,g,q3⟩=>?_) hs
  subst ex
  obtain rfl:u = Value.ref a:=rx
  exact d_setItem hu I3 g ry rv fun s4 I4=>⟨σ,H4,I4,q3⟩
end
theorem dk_empty {P:Program} {w:World} {H:Hp} (h:Heap) (hb:sysModules < h.objs.size):ObjOk P w H (h.push { cls:=.type "dict",data:=.dict #[] }) h.objs.size (.dK []) :=
  ⟨Nat.zero_le _,beq_eq_false_iff_ne.mpr (Ne.symm (Nat.ne_of_lt hb)),[],.nil,Heap.DictOf.new h⟩
noncomputable def tDNewK:TE:=fun _ H Q=>∀ p,H p = none→Q (.ref p) (upd H p (.dK []))
section
variable {X:Cx} {pos:Pos}
theorem pe_dnewK:PE X (.Dict [] [] pos) tDNewK:=fun pins s σ H Q I h =>
  wpAny_Dict_empty ⟨.ref s.heap.objs.size,_,I.laid (a:=s.heap.objs.size) (o:=.dK []) (t':=s.toks) (fun _ _ q=>Heap.get?_push_of_some _ q) (Nat.le_refl _) (dk_empty s.heap I.big),rfl,h _ (I.hok.fresh (Nat.le_refl _))⟩
end
noncomputable def tPairs:List (TE×TE)→St→Hp→(List (V×V)→Hp→Prop)→Prop
  | [],_,H,Q=>Q [] H
  | (tk,tv) :: r,σ,H,Q=>tk σ H fun x H1=>tv σ H1 fun y H2=>tPairs r σ H2 fun ps H3=>Q ((x,y) :: ps) H3
noncomputable abbrev VV:List (V×V)→List (Value×Value)→Prop:=Paired fun p q=>RelV p.1 q.1∧RelV p.2 q.2
noncomputable def PPs (X:Cx) (pos:Pos) (keys:List (Option Expr)) (values:List Expr) (trs:List (TE×TE)):Prop :=
  ∀ (pins:List (Addr×Obj)) (s:Shared) (σ:St) (H:Hp) (Q:List (V×V)→Hp→Prop),Inv X pins σ H s→tPairs trs σ H Q →
    wpAny (model X.prog X.w) X.A (evalPairs (pairTrees keys values X.env pos)) (fun vs s'=>∃ ps H',Inv X pins σ H' s'∧VV ps vs∧Q ps H') X.xe s
theorem pps_nil {X:Cx} {pos:Pos}:PPs X pos [] [] []:=fun pins s σ H Q I h=>pairTrees_nil_walk ⟨[],H,I,.nil,h⟩
theorem pps_cons {X:Cx} {pos:Pos} {k v:Expr} {ks:List (Option Expr)} {vs:List Expr} {tk tv:TE} {trs:List (TE×TE)} (hk:PE X k tk) (hv:PE X v tv) (hr:PPs X pos ks vs trs) :
    PPs X pos (some k :: ks) (v :: vs) ((tk,tv) :: trs):=fun pins s σ H Q I h =>
  pairTrees_cons_walk (thn (hk pins s σ H _ I h) fun u s1 ⟨x,H1,I1,rx,q1⟩=>thn (hv pins s1 σ H1 _ I1 q1) fun w2 s2 ⟨y,H2,I2,ry,q2⟩ =>
    thn (hr pins s2 σ H2 _ I2 q2) fun ws s3 ⟨ps,H3,I3,rel,q3⟩=>⟨(x,y) :: ps,H3,I3,.cons ⟨rx,ry⟩ rel,q3⟩)
noncomputable def mergeK (kvs more:List (Key×V)):List (Key×V):=more.foldl (fun acc kv=>putK acc kv.1 kv.2) kvs
theorem KV.merge:∀ {more:List (Key×V)} {rs:List (Key×Value)} {kvs:List (Key×V)} {vs:List (Key×Value)},KV more rs→KV kvs vs→KV (mergeK kvs more) (merged vs rs):=by
  intro more rs kvs vs r
  unfold KV at r
  induction r generalizing kvs vs with
  | nil=>intro q; exact q
  | @cons p q ps qs h t ih =>
    intro r0
    have e:KV (putK kvs p.1 p.2) (stored vs q.1 q.2):=by
      have:=r0.put p.1 h.2
      rw [← h.1]; exact this
    exact ih e
theorem length_mergeK:∀ (more kvs:List (Key×V)),(mergeK kvs more).length ≤ kvs.length + more.length
  | [],kvs=>by show kvs.length ≤ kvs.length + 0; lia
  | p :: r,kvs=>by
    have h1:=length_mergeK r (putK kvs p.1 p.2)
    have h2:=length_putK kvs p.1 p.2
    show (mergeK (putK kvs p.1 p.2) r).length ≤ _
    rw [List.length_cons]; lia
theorem carries_of {P:Program} {w:World}:∀ {kvs:List (Key×V)} {ws:List (Value×Value)},VV (kvs.map fun kv=>(kV kv.1,kv.2)) ws→∃ rs,Carries (mixKind P w) ws rs∧KV kvs rs
  | [],_,r=>by rw [List.map_nil] at r; cases r; exact ⟨[],True.intro,.nil⟩
  | p :: kvs,_,r=>by
    rw [List.map_cons] at r
    cases r with
    | @cons a b as bs h t =>
      obtain ⟨rs,c,q⟩:=carries_of (P:=P) (w:=w) t
      obtain ⟨b1,b2⟩:=b
      exact ⟨(p.1,b2) :: rs,⟨kV_is h.1,rfl,c⟩,.cons ⟨rfl,h.2⟩ q⟩
noncomputable def tDisp (trs:List (TE×TE)):TE:=fun σ H Q=>∀ p,H p = none→tPairs trs σ (upd H p (.dK [])) fun ps H2=>H2 p = some (.dK [])∧∃ kvs:List (Key×V),ps = kvs.map (fun kv=>(kV kv.1,kv.2))∧kvs.length ≤ 15∧Q (.ref p) (upd H2 p (.dK (mergeK [] kvs)))
theorem pe_disp {X:Cx} {pos:Pos} {keys:List (Option Expr)} {values:List Expr} {trs:List (TE×TE)} (h:PPs X pos keys values trs) (hall:keys.all (·.isSome) = true) (hl:keys.length = values.length) (h0:keys ≠ [])
    (h15:keys.length ≤ 15):PE X (.Dict keys values pos) (tDisp trs):=by
  intro pins s σ H Q I q
  have hn:=I.hok.fresh (Nat.le_refl s.heap.objs.size)
  have I1:=I.laid (a:=s.heap.objs.size) (o:=.dK []) (h':=s.heap.push { cls:=.type "dict",data:=.dict #[] }) (t':=s.toks) (fun _ _ q=>Heap.get?_push_of_some _ q) (Nat.le_refl _) (dk_empty s.heap I.big)
  refine wpAny_Dict_walk (knd:=mixKind X.prog X.w) hall hl h0 h15 (thn (h pins _ σ _ _ I1 (q _ hn)) fun ws s2 ⟨ps,H2,I2,rel,e,kvs,ep,lk,q2⟩=>?_)
  subst ep
  obtain ⟨rs,c,rk⟩:=carries_of (P:=X.prog) (w:=X.w) rel
  obtain ⟨z,hd,vs0,r0,dd⟩:=dk_of I2.hok e
  cases r0
  refine ⟨rs,c,dd,fun h' dd' hs=>⟨.ref s.heap.objs.size,_,?_,rfl,q2⟩⟩
  have hz:(mergeK [] kvs).length ≤ sizeLine:=by
    have h1:=length_mergeK kvs []
    rw [List.length_nil] at h1
    rw [sizeLine_eq]; lia
  have he:∃ q,h'.get? s.heap.objs.size = some q:=let ⟨q,_,_,hq,_⟩:=dd'; ⟨q,hq⟩
  exact d_write I2 (by rw [e]; exact True.intro) hs he (dk_new hz hd (rk.merge .nil) dd')
structure M1 (X:Cx) (o:Expr) (m:Str) (apos:Pos) (e:Expr) (cpos:Pos):Prop where
  base:attributeBase o m X.env (eval o X.env) = eval o X.env
  few:((backTo cpos (starEach [e] X.env)).all (fun x=>!x.1) && (backToKw cpos (keywordEach [] X.env)).all (fun x=>x.1.isSome)
    && decide (([e]:List Expr).length + ([]:List Keyword).length + (if ([]:List Keyword).isEmpty then 0 else 1) < 30)) = true
  line:(apos.endLine == cpos.line) = true
  trees:backTo cpos (starEach [e] X.env) = [(false,eval e X.env)]
structure M2 (X:Cx) (o:Expr) (m:Str) (apos:Pos) (e f:Expr) (cpos:Pos):Prop where
  base:attributeBase o m X.env (eval o X.env) = eval o X.env
  few:((backTo cpos (starEach [e,f] X.env)).all (fun x=>!x.1) && (backToKw cpos (keywordEach [] X.env)).all (fun x=>x.1.isSome)
    && decide (([e,f]:List Expr).length + ([]:List Keyword).length + (if ([]:List Keyword).isEmpty then 0 else 1) < 30)) = true
  line:(apos.endLine == cpos.line) = true
  trees:backTo cpos (starEach [e,f] X.env) = [(false,eval e X.env),(false,eval f X.env)]
noncomputable def IsD (H:Hp) (a:Addr):Prop:=(∃ kvs,Rd H a (.dK kvs))∨∃ kvs,Rd H a (.dT kvs)
theorem isD_at {X:Cx} {pins:List (Addr×Obj)} {σ:St} {H:Hp} {s:Shared} {a:Addr} (I:Inv X pins σ H s) (d:IsD H a) :
    s.TypeIs (.ref a) "dict"∧(∀ b,Value.ref a = .ref b→∃ ob,s.heap.get? b = some ob∧ob.dict = none)∧(a == sysModules) = false:=by
  rcases d with ⟨kvs,e⟩ | ⟨kvs,e⟩
  · obtain ⟨_,hd,vs,_,dd⟩:=dk_rd I.hok e
    refine ⟨dd.typeIs,fun b q=>?_,hd⟩
    cases q
    obtain ⟨ob,_,_,h1,h2,_⟩:=dd
    exact ⟨ob,h1,h2.2.1⟩
  · obtain ⟨_,hd,xs,_,dd⟩:=dt_rd I.hok e
    refine ⟨dd.typeIs,fun b q=>?_,hd⟩
    cases q
    obtain ⟨ob,_,_,h1,h2,_⟩:=dd
    exact ⟨ob,h1,h2.2.1⟩
section
variable {X:Cx} {pins:List (Addr×Obj)} {σ:St} {H:Hp} {s:Shared} {a:Addr} {y d:V} {u r:Value} {o:Option V} {A:Around} {E:Value→Shared→Prop}
theorem d_get2 {Q:Value→Shared→Prop} (hu:A.units + 1 < cLine) (I:Inv X pins σ H s) (g:DGet H a y o) (ry:RelV y u) (rd:RelV d r) (h:∀ w' s',Inv X pins σ H s'→RelV (o.getD d) w'→Q w' s') :
    wpAny (model X.prog X.w) A (call (.builtin "dict.get") [.ref a,u,r]) Q E s:=by
  rcases g with ⟨kvs,k,e,ey,l⟩ | ⟨kvs,k,b,e,ey,eb,l⟩
  · subst ey
    obtain ⟨z,hd,vs,rel,dd⟩:=dk_rd I.hok e
    refine call_meetsIn PySem.F.slot_dict_get dd.typeIs PySem.F.entry_dict_get (PySem.F.args_dict_get_3 _ _ _) (meets_dict_get_default (mixKind X.prog X.w) a (kV_is ry) hd r) ⟨_,dd.mapOf,h _ _ (I.tok _) ?_⟩
    rw [l]
    exact (rel.val k).getD rd
  · subst ey
    cases (show u = Value.ref b from ry)
    obtain ⟨z,hd,xs,rel,dd⟩:=dt_rd I.hok e
    refine call_meetsIn PySem.F.slot_dict_get dd.typeIs PySem.F.entry_dict_get (PySem.F.args_dict_get_3 _ _ _) (meetsH_dict_get_default (tupleKind (mixKind X.prog X.w)) a b hd r) ⟨tupleKind_room_in1 hu,k,xs,key_of I.hok eb,dd,h _ _ (I.tok _) ?_⟩
    rw [l]
    exact (rel.val k).getD rd
end
noncomputable def tDGet2 (td ty tx:TE):TE:=fun σ H Q=>td σ H fun x H1=>∃ a,x = .ref a∧IsD H1 a∧ty σ H1 fun y H2=>tx σ H2 fun z H3=>∃ o,DGet H3 a y o∧Q (o.getD z) H3
noncomputable def tDPop1 (td ty:TE):TE:=fun σ H Q=>td σ H fun x H1=>∃ a,x = .ref a∧IsD H1 a∧ty σ H1 fun y H2=>∃ kvs k v,H2 a = some (.dK kvs)∧y = kV k∧valV kvs k = some v∧Q v (upd H2 a (.dK (dropK kvs k)))
section
variable {X:Cx} {o e f:Expr} {apos cpos:Pos} {td ty tx:TE}
theorem pe_dget2 (hu:X.A.units + 1 < cLine) (ho:PE X o td) (he:PE X e ty) (hf:PE X f tx) (m:M2 X o "get" apos e f cpos):PE X (.Call (.Attribute o "get" apos) [e,f] [] cpos) (tDGet2 td ty tx):=by
  intro pins s σ H Q I h
  refine wpAny_Call_method m.base m.few m.line PySem.F.plainAttrs_dict PySem.F.slot_dict_get PySem.F.type_dict_get (thn (ho pins s σ H _ I h) fun u s1 ⟨x,H1,I1,rx,a,ex,d,q1⟩=>?_)
  subst ex
  obtain rfl:u = Value.ref a:=rx
  obtain ⟨t1,t2,_⟩:=isD_at I1 d
  refine ⟨t1,t2,?_⟩
  rw [m.trees]
  refine Calls.callWith_builtin rfl (Calls.evalArgs_plain (Calls.spliced_cons (thn (he pins s1 σ H1 _ I1 q1) fun iv s2 ⟨y,H2,I2,ry,q2⟩ =>
    Calls.spliced_cons (thn (hf pins s2 σ H2 _ I2 q2) fun fv s3 ⟨z,H3,I3,rz,ov,g,q3⟩=>Calls.spliced_nil ?_))))
  exact d_get2 hu I3 g ry rz fun w' s4 I4 rw'=>⟨_,H3,I4,rw',q3⟩
theorem pe_dpop1 (ho:PE X o td) (he:PE X e ty) (m:M1 X o "pop" apos e cpos):PE X (.Call (.Attribute o "pop" apos) [e] [] cpos) (tDPop1 td ty):=by
  intro pins s σ H Q I h
  refine wpAny_Call_method m.base m.few m.line PySem.F.plainAttrs_dict PySem.F.slot_dict_pop PySem.F.type_dict_pop (thn (ho pins s σ H _ I h) fun u s1 ⟨x,H1,I1,rx,a,ex,d,q1⟩=>?_)
  subst ex
  obtain rfl:u = Value.ref a:=rx
  obtain ⟨t1,t2,_⟩:=isD_at I1 d
  refine ⟨t1,t2,?_⟩
  rw [m.trees]
  refine Calls.callWith_builtin rfl (Calls.evalArgs_plain (Calls.spliced_cons (thn (he pins s1 σ H1 _ I1 q1) fun iv s2 ⟨y,H2,I2,ry,kvs,k,v,ea,ey,l,q2⟩=>Calls.spliced_nil ?_)))
  subst ey
  exact d_pop I2 ea ry l (.inl rfl) fun w' s3 I3 rw'=>⟨v,_,I3,rw',q2⟩
end
section
variable {X:Cx} {pins:List (Addr×Obj)} {σ:St} {H:Hp} {s:Shared} {a:Addr} {kvs:List (Key×V)} {A:Around} {E:Value→Shared→Prop}
end
section
variable {X:Cx} {pins:List (Addr×Obj)} {σ:St} {H:Hp} {s:Shared} {a:Addr} {y:V} {u:Value} {A:Around} {E:Value→Shared→Prop}
end
section
variable {X:Cx}
end
section
variable {κ:Type} [DecidableEq κ]
theorem dropK_pos {p:κ×V} {r:List (κ×V)} {k:κ} (e:p.1 = k):dropK (p :: r) k = dropK r k:=by
  unfold dropK
  rw [List.filter_cons,if_neg (by simp [e])]
theorem dropK_neg {p:κ×V} {r:List (κ×V)} {k:κ} (e:¬ p.1 = k):dropK (p :: r) k = p :: dropK r k:=by
  unfold dropK
  rw [List.filter_cons,if_pos (by simp [e])]
end
end L2
namespace L2
open PySem PySem.Spec PyProof.Rows
section
variable (K:PySem.W.Frag)
end
structure MHas (K:PySem.W.Frag) (C:Addr) (m qual:Str) (st:Stmt) (ps:List Str) (f:Addr) (fd:FuncData):Prop where
  fn:Fun K m qual st f fd
  bd:Binds K fd ps []
  me:Meth K C m f
end L2
namespace FL
open PySem L2 PyProof.Rows
structure FS where
  n:Int
  kp:List (Key×V)
  ks:List (Key×V)
  ws:List V
  d:Bool
  l:V
section
variable {C p pc sp wr:Addr} {H H':Hp} {st st':FS}
end
structure Cl where
  F:Addr
  W:Addr
  PG:Addr
  NF:Addr
  NP:Addr
  NI:Addr
  SO:Addr
end FL
namespace L2
open PySem PySem.Spec PyProof.Rows
section
variable {X:Cx} {pins:List (Addr×Obj)} {σ:St} {H:Hp} {s:Shared}
end
end L2
namespace L2
open PySem PySem.Spec PyProof.Rows
section
variable {X:Cx}
end
theorem valV_drop {κ:Type} [DecidableEq κ] (k j:κ):∀ kvs:List (κ×V),valV (dropK kvs k) j = if j = k then none else valV kvs j
  | []=>by
    show none = _
    split <;> rfl
  | p :: r=>by
    have ih:=valV_drop k j r
    by_cases e:p.1 = k
    · rw [dropK_pos e,ih]
      by_cases h:j = k
      · rw [if_pos h,if_pos h]
      · rw [if_neg h,if_neg h,valV_neg (fun z=>h (z.symm.trans e))]
    · rw [dropK_neg e]
      by_cases h:p.1 = j
      · rw [valV_pos h,valV_pos h,if_neg (fun z=>e (h.trans z))]
      · rw [valV_neg h,valV_neg h,ih]
end L2
namespace FL
open PySem L2 PyProof.Rows
structure LS where
  bn:List (Key×V)
  bd:List (Key×V)
  dn:List V
  lf:Int
  dk:Bool
section
variable {H H':Hp} {q b a d:Addr} {ls:LS}
end
section
variable {H:Hp} {q b a d:Addr} {ls:LS}
end
section
variable {st:FS} {ls:LS} {m:Nat} {i:Int} {v:V}
structure AD where
  p:Addr
  pc:Addr
  sp:Addr
  wr:Addr
  q:Addr
  b:Addr
  a:Addr
  d:Addr
section
variable {R R':FS→LS→Prop} {c:Cl} {H H':Hp} {A B:AD} {n:Int}
end
end
end FL
namespace L2
open PySem PySem.Spec PyProof.Rows
noncomputable def CompWT (Gs:Hp→Prop) (g:TG) (k:Nat) (J:It) (p:Addr) (tt:TT) (te:TE) (cs:St) (Q:VK) (H1:Hp):Prop:=∃ W:Nat→Nat→List V→Hp→Prop,(∃ m,W 0 m [] (upd H1 p (.lst [])))∧∀ i m ys H2,W i m ys H2 →
  (J.stop i H2∧Gs H2∧Q (.ref p) H2)∨(J.go i H2∧Gs H2∧∃ N:List V→Hp→Prop,(∀ ys' H',N ys' H'→∃ m',m' < m∧W (i + 1) m' ys' H') ∧
    ∀ v H3,J.yld i H2 v H3→∀ vs0:St,vs0.length = k→g v (vs0 ++ cs) H3 fun σ' H'=>(∃ vs':St,σ' = vs' ++ cs∧vs'.length = k)∧tt σ' H' fun b H4=>if b = true then te σ' H4 fun y H5=>H5 p = some (.lst ys)∧ys.length < sizeLine∧N (ys ++ [y]) (upd H5 p (.lst (ys ++ [y]))) else N ys H4)
theorem comp_goT {X:Cx} {use:Option (Value→Sem Unit)} {Post:Value→Shared→Prop} {pins:List (Addr×Obj)} {s:Shared} {σ:St} {H:Hp} {Q:VK} {Gs:Hp→Prop} {hb:Bool} {CW:It→Addr→St→VK→Hp→Prop} {elt iter:Expr} {ifs:List Expr} {tg:Expr} {xs:List Str} {g:TG} {pos:Pos} {sc:Scope} {wi:TI} {tt:TT} {te:TE} (caps:List Nat) (capsN:List Str)
    (hi:PI X tg iter wi hb)
    (hg:∀ cl C s H ex pn,PG (cxComp X (xs ++ capsN) sc cl C s H ex pn) tg g)
    (ht:∀ cl C s H ex pn,PTs (cxComp X (xs ++ capsN) sc cl C s H ex pn) ifs tt)
    (he:∀ cl C s H ex pn,PE (cxComp X (xs ++ capsN) sc cl C s H ex pn) elt te)
    (hkind:sc.kind = .function) (hcell:∀ y ∈ sc.names,y.2 ≠ .cell) (hnames:∀ y ∈ sc.names,y.2 = .local→sc.names.lookup y.1 = some .local)
    (hfr:∀ y ∈ sc.names,y.2 = .free→y.1 ∈ capsN)
    (hcap:∀ (j:Nat) (y:Str),capsN[j]? = some y→∃ i:Nat,caps[j]? = some i∧X.N[i]? = some y∧sc.names.lookup y = some .free∧(X.env.kindOf y = some .cell∨X.env.kindOf y = some .free)) (hlen:caps.length = capsN.length)
    (hc:X.calm = true∨(hb = true∧∀ s H,HOk X.prog X.w H s.heap→Gs H→HandQ X s)) (kW:∀ J p cs Q H1,CW J p cs Q H1→CompWT Gs g xs.length J p tt te cs Q H1)
    (hs:∀ x,foldedSetIterable iter X.env x = pure x) (I:Inv X pins σ H s) (h:tCompC CW wi caps σ H Q)
    (fin:∀ (C p:Addr) (H5:Hp) (s5:Shared),(∃ m,s5.heap.Ns C m)→Inv X pins σ H5 s5→FpOk X pins H5 C→Q (.ref p) H5→compPost (model X.prog X.w) X.A X.xe use Post (.ref p) C (.ok .next) s5) :
    wpAny (model X.prog X.w) X.A (comprehension (.ListComp elt [⟨tg,iter,ifs,0⟩] sc pos) sc X.env (firstIterPos [⟨tg,iter,ifs,0⟩] pos) (newList []) (firstAsync [⟨tg,iter,ifs,0⟩]) (firstIter [⟨tg,iter,ifs,0⟩] X.env) use) Post X.xe s:=by
  have hEnd:∀ s H,HOk X.prog X.w H s.heap→Gs H→EndQ hb X s:=by
    rcases hc with hc | ⟨e,k⟩
    · exact fun _ _ _ _=>.inl (I.ok.hd hc)
    · exact fun s H o g=>.inr ⟨e,k s H o g⟩
  obtain ⟨cl,hclos,hq2,hq3⟩:=closure_ok (env:=X.env) (sc:=sc) (fun y hy hf=>by
    obtain ⟨j,hj⟩:=List.mem_iff_getElem?.mp (hfr y hy hf)
    obtain ⟨_,_,_,_,k⟩:=hcap j y.1 hj
    exact I.ok.has y.1 k)
  refine wpAny_comprehension_free (use:=use) rfl hs hclos hkind hnames (thn (hi pins s σ H _ I h) fun v s1 h1=>thn h1 fun itv s2 h2=>?_)
  obtain ⟨it,fp,tn,J,H2,e,I2,T,st2,f2,q⟩:=h2
  subst e
  refine wpAny_newObj_type (wpAny_newFunctionEnv hcell (by intro y hy; simp at hy) (fun h1 hns hsb=>?_) hkind)
  dsimp only at hns hsb ⊢
  obtain ⟨W,⟨m0,w0⟩,turn⟩:=kW _ _ _ _ _ (q s2.heap.objs.size (I2.hok.fresh (Nat.le_refl _)))
  have I3:Inv X pins σ (upd H2 s2.heap.objs.size (.lst [])) { s2 with heap:=s2.heap.push { cls:=.type "list",dict:=none,data:=.seq ([]:List Value).toArray },toks:=s2.toks }:=I2.lnew (its:=[]) (ys:=[]) (t':=s2.toks) .nil (Nat.zero_le _)
  generalize hH3:s2.heap.push { cls:=.type "list",dict:=none,data:=.seq ([]:List Value).toArray } = g3 at hns hsb I3 ⊢
  have hsz3:g3.objs.size = s2.heap.objs.size + 1:=by rw [← hH3,Heap.size_push]
  generalize hHp:upd H2 s2.heap.objs.size (.lst []) = Hp3 at w0 I3
  have hlt:∀ b o,g3.get? b = some o→b ≠ g3.objs.size:=fun b o e=>Nat.ne_of_lt (Heap.lt_size e)
  have old:∀ b o,g3.get? b = some o→h1.get? b = some o:=fun b o e=>hsb.extBut b o (hlt b o e) (Heap.get?_push_of_some _ e)
  have fpo:∀ b ∈ fp,∃ o,g3.get? b = some o:=fun b hb=>by
    obtain ⟨o,e,_⟩:=T.obj 0 s2.heap st2 b hb
    exact ⟨o,by rw [← hH3]; exact Heap.get?_push_of_some _ e⟩
  have fpC:∀ b ∈ fp,b ≠ g3.objs.size:=fun b hb=>by obtain ⟨o,e⟩:=fpo b hb; exact hlt b o e
  have fpH:∀ b ∈ fp,Hp3 b = none:=fun b hb=>by
    obtain ⟨o,e,_⟩:=T.obj 0 s2.heap st2 b hb
    rw [← hHp,upd_ne (Nat.ne_of_lt (Heap.lt_size e))]
    exact (f2 b hb).1
  have fsSub:∀ b,b ≠ X.env.locals→b ∉ X.fs→b ∉ frs X.stack:=fun b h1 h2 z=>by
    rcases List.mem_cons.mp (I2.stkSub b z) with z | z
    · exact h1 z
    · exact h2 z
  have okc:(cxComp X (xs ++ capsN) sc cl g3.objs.size { s2 with heap:=g3,toks:=s2.toks } Hp3 fp (X.pn ++ pins)).Ok:=by
    refine ⟨I3.ok.mod,hkind,I3.ok.glob,I3.ok.blt,Nat.le_refl _,fun y z c e1 e2=>I3.ok.inj y z c (hq2 y c e1) (hq2 z c e2),fun y hy=>?_,fun y c z=>absurd z Bool.false_ne_true,I3.ok.hd,I3.ok.frames,.inl rfl,fun b hb=>⟨fpC b hb,fun y c e=>(f2 b hb).2.2.2.2.1 y c (hq2 y c e)⟩,
      I3.bs,Nat.le_trans I3.ok.bsz I3.sz,fun b o e hb=>?_,fun b hb=>fsSub b (f2 b hb).2.1 (f2 b hb).2.2.1,I3.stack,I3.stkFree⟩
    · have hy':∃ k,(relabel sc X.env).names.lookup y = some k∧(k = .cell∨k = .free):=by
        rcases hy with hy | hy
        · exact ⟨_,hy,.inl rfl⟩
        · exact ⟨_,hy,.inr rfl⟩
      obtain ⟨k,e,hk⟩:=hy'
      obtain ⟨k0,e0,hk0⟩:=relabel_look e
      have em:=PySem.mem_of_lookup e0
      rcases hk0 with rfl | ⟨rfl,_⟩
      · rcases hk with rfl | rfl
        · exact absurd rfl (hcell _ em)
        · exact hq3 _ em rfl
      · exact hq3 _ em rfl
    · rcases (f2 b hb).2.2.2.1 with z | z
      · exact I3.ok.noex b o e z
      · have h1:b < X.base.objs.size:=Heap.lt_size e
        have h2:=I3.ok.bsz
        exact absurd (Nat.lt_of_lt_of_le h1 (Nat.le_trans h2 z)) (Nat.lt_irrefl _)
  have Ic:Inv (cxComp X (xs ++ capsN) sc cl g3.objs.size { s2 with heap:=g3,toks:=s2.toks } Hp3 fp (X.pn ++ pins)) [] (List.replicate xs.length none ++ capV σ caps) Hp3 { s2 with heap:=h1,toks:=s2.toks + ([]:List (Str×Value)).length }:=by
    refine ⟨okc,rfl,I3.bare,Un.kept old,⟨_,hns,fun i y v e1 e2 e3=>?_⟩,fun y c e=>?_,I3.hok.fresh (Nat.le_refl _),fun y c e=>I3.freeC y c (hq2 y c e),fun p hp=>?_,I3.hok.kept old,?_⟩
    · by_cases hlt0:i < xs.length
      · have e2:(List.replicate xs.length (none:Option V) ++ capV σ caps)[i]? = some (some v):=e2
        rw [List.getElem?_append_left (by rw [List.length_replicate]; exact hlt0),List.getElem?_replicate,if_pos hlt0] at e2
        cases e2
      · have e1:(xs ++ capsN)[i]? = some y:=e1
        have e2:(List.replicate xs.length (none:Option V) ++ capV σ caps)[i]? = some (some v):=e2
        rw [List.getElem?_append_right (Nat.le_of_not_lt hlt0)] at e1
        rw [List.getElem?_append_right (by rw [List.length_replicate]; exact Nat.le_of_not_lt hlt0),List.length_replicate] at e2
        generalize i - xs.length = j at e1 e2
        have e1':capsN[j]? = some y:=e1
        obtain ⟨i,c1,c2,c3,c4⟩:=hcap j y e1'
        have e2':(capV σ caps)[j]? = some (some v):=e2
        have hv:σ[i]? = some (some v):=by
          unfold capV at e2'
          rw [List.getElem?_map,c1] at e2'
          have e4:(σ[i]?).getD none = some v:=Option.some.inj e2'
          cases e5:σ[i]? with
          | none=>rw [e5] at e4; cases e4
          | some w=>rw [e5] at e4; exact congrArg some e4
        obtain ⟨m,_,hl⟩:=I3.loc
        have vis:Vis X.env.scope y:=by
          rcases c4 with z | z
          · exact .inr (.inl z)
          · exact .inr (.inr z)
        obtain ⟨u,r,l⟩:=hl i y v c2 hv vis
        refine ⟨u,r,.inr ⟨relabel_free c3,?_⟩⟩
        rcases l with ⟨lk,_⟩ | ⟨_,c,ec,o,ho,hd⟩
        · rcases c4 with z | z <;> (rw [lk] at z; cases z)
        · obtain ⟨c',e'⟩:=hq3 _ (PySem.mem_of_lookup c3) rfl
          have e'':=hq2 _ _ e'
          have e3':(some c':Option Addr) = some c:=e''.symm.trans ec
          cases e3'
          exact ⟨c,e',o,old _ _ ho,hd⟩
    · obtain ⟨v,o,ho,hd⟩:=I3.cell y c (hq2 y c e)
      exact ⟨v,o,old _ _ ho,hd⟩
    · have hp':p ∈ X.pn ++ pins:=by simpa using hp
      obtain ⟨e1,e2,e3,e4,e5⟩:=I3.pin p hp'
      exact ⟨old _ _ e1,e2,hlt _ _ e1,fsSub _ e3 e4,e5⟩
    · show (List.replicate xs.length (none:Option V) ++ capV σ caps).length = (xs ++ capsN).length
      unfold capV
      rw [List.length_append,List.length_append,List.length_replicate,List.length_map,hlen]
  have stat:∀ {H':Hp},(∀ b ∈ fp,H' b = none)→∀ b ∈ fp,FpOk (cxComp X (xs ++ capsN) sc cl g3.objs.size { s2 with heap:=g3,toks:=s2.toks } Hp3 fp (X.pn ++ pins)) [] H' b:=fun hn b hb =>
    ⟨hn b hb,fpC b hb,fsSub b (f2 b hb).2.1 (f2 b hb).2.2.1,.inl hb,fun y c e=>(f2 b hb).2.2.2.2.1 y c (hq2 y c e),fun p hp=>(f2 b hb).2.2.2.2.2 p (by simpa using hp)⟩
  have back:∀ {pins5:List (Addr×Obj)} {σ5:St} {H5:Hp} {s5:Shared} {h':Heap},Inv (cxComp X (xs ++ capsN) sc cl g3.objs.size { s2 with heap:=g3,toks:=s2.toks } Hp3 fp (X.pn ++ pins)) pins5 σ5 H5 s5→Heap.SameBut g3.objs.size s5.heap h'→Inv X pins σ H5 { s5 with heap:=h' }:=by
    intro pins5 σ5 H5 s5 h' I5 sb
    have un:Un (frs X.stack) fp Hp3 H5 g3 s5.heap:=I5.base
    have fr:H5 g3.objs.size = none:=I5.free
    have un':Un (frs X.stack) fp Hp3 H5 g3 h':=⟨fun b o e n hb hx=>(sb.2 b (hlt b o e)).trans (un.keep b o e n hb hx),
      fun b o e n hb hx=>by obtain ⟨sl,z⟩:=un.slot b o e n hb hx; exact ⟨sl,(sb.2 b (hlt b o e)).trans z⟩,un.free,
      fun b o e hx=>by obtain ⟨o',z⟩:=un.there b o e hx; exact ⟨o',(sb.2 b (hlt b o e)).trans z⟩,un.tups,un.frzs,un.tbls⟩
    have hok:HOk X.prog X.w H5 h':=fun b u e=>(I5.hok b u e).stay (fun c v hc' z=>(sb.2 c (by
      rintro rfl
      rcases hc' with hc' | hc'
      · rw [hc',e] at fr; cases fr
      · rw [fr] at hc'; cases hc')).trans z) (fun _ z=>z) (fun _ _ z=>z)
    obtain ⟨hh,g,d,t,os⟩:=s5
    have eo:os = s2.os:=I5.os
    subst eo
    have z:=I3.call (h':=h') (g':=g) (d':=d) (t':=t) (ch:=fp) un' hok I5.bare fun b hb=>⟨(f2 b hb).2.2.2.1,(f2 b hb).2.1,(f2 b hb).2.2.2.2.1,(f2 b hb).2.2.2.2.2⟩
    exact z
  have st4:tn 0 h1:=T.keep 0 s2.heap h1 st2 fun b hb o e=>old b o (by rw [← hH3]; exact Heap.get?_push_of_some _ e)
  have loop:codeAny (model X.prog X.w) X.A (.compLoop (.ListComp elt [⟨tg,iter,ifs,0⟩] sc pos) 0 (.ref it) (.ref s2.heap.objs.size) (compEnvC sc cl g3.objs.size X.env))
      (compPost (model X.prog X.w) X.A X.xe use Post (.ref s2.heap.objs.size) g3.objs.size) { s2 with heap:=h1,toks:=s2.toks + ([]:List (Str×Value)).length }:=by
    refine comp_loop (fun n s'=>∃ i ys v0 H',v0.length = xs.length∧Inv (cxComp X (xs ++ capsN) sc cl g3.objs.size { s2 with heap:=g3,toks:=s2.toks } Hp3 fp (X.pn ++ pins)) [] (v0 ++ capV σ caps) H' s'∧tn i s'.heap∧(∀ b ∈ fp,H' b = none)∧W i n ys H') ?_ m0 ⟨0,[],List.replicate xs.length none,Hp3,List.length_replicate,Ic,st4,fpH,w0⟩
    rintro n s' ⟨i,ys,v0,H',hv0,I',st',fr',w'⟩
    rcases turn i n ys H' w' with ⟨stop,gs,qn⟩ | ⟨go,gs,N,hN,step⟩
    · refine thn (T.done (cxComp X (xs ++ capsN) sc cl g3.objs.size { s2 with heap:=g3,toks:=s2.toks } Hp3 fp (X.pn ++ pins)) rfl rfl rfl s' (hEnd s' H' I'.hok gs) i [] _ H' NoX I' (stat fr') st' stop) fun r s5 ⟨hr,I5⟩=>?_
      subst hr
      obtain ⟨m,hn,_⟩:=id I5.loc
      exact fin g3.objs.size s2.heap.objs.size H' s5 ⟨m,hn⟩ (back (h':=s5.heap) I5 ⟨rfl,fun _ _=>rfl⟩) (I3.fpOk (Nat.le_refl _) I5.free) qn
    · refine thn (T.item (cxComp X (xs ++ capsN) sc cl g3.objs.size { s2 with heap:=g3,toks:=s2.toks } Hp3 fp (X.pn ++ pins)) rfl rfl rfl s' (hEnd s' H' I'.hok gs) i [] _ H' NoX I' (stat fr') st' go) fun r s5 ⟨u,hr,h5⟩=>?_
      subst hr
      refine thn h5 fun _ s6 ⟨v,H6,I6,r6,y6,st6,fr6⟩=>?_
      have I6':=I6.pinned (stat fr6) (T.obj _ _ st6)
      have again:∀ {σ7 v7:St} {H7:Hp} {s7:Shared} {ys':List V},σ7 = v7 ++ capV σ caps→v7.length = xs.length→Inv (cxComp X (xs ++ capsN) sc cl g3.objs.size { s2 with heap:=g3,toks:=s2.toks } Hp3 fp (X.pn ++ pins)) ([] ++ pinsAt fp s6.heap) σ7 H7 s7→N ys' H7 →
          ∃ m,m < n∧∃ i ys v0 H',v0.length = xs.length∧Inv (cxComp X (xs ++ capsN) sc cl g3.objs.size { s2 with heap:=g3,toks:=s2.toks } Hp3 fp (X.pn ++ pins)) [] (v0 ++ capV σ caps) H' s7∧tn i s7.heap∧(∀ b ∈ fp,H' b = none)∧W i m ys H':=by
        intro σ7 v7 H7 s7 ys' eσ hv7 I7 n7
        subst eσ
        obtain ⟨m',hm,w7⟩:=hN ys' H7 n7
        refine ⟨m',hm,i + 1,ys',v7,H7,hv7,I7.unpinned,T.keep _ _ _ st6 fun b hb o e=>(I7.pin (b,o) (List.mem_append_right _ (List.mem_append_right _ (mem_pinsAt hb e)))).1,fun b hb=>?_,w7⟩
        obtain ⟨o,e,d⟩:=T.obj _ _ st6 b hb
        exact (I7.pin (b,o) (List.mem_append_right _ (List.mem_append_right _ (mem_pinsAt hb e)))).2.1
      refine thn (hg _ _ _ _ _ _ _ s6 _ H6 v u _ I6' r6 (step v H6 y6 v0 hv0)) fun _ s7 ⟨σ7,H7,I7,⟨v7,e7,hv7⟩,q7⟩=>?_
      refine thn (ht _ _ _ _ _ _ _ s7 _ H7 _ I7 q7) fun ok s8 ⟨H8,I8,q8⟩=>?_
      cases ok with
      | false=>exact again e7 hv7 I8 q8
      | true =>
        refine thn (he _ _ _ _ _ _ _ s8 _ H8 _ I8 q8) fun y s9 ⟨yv,H9,I9,r9,hp9,hz9,n9⟩=>?_
        refine thn (mt_append (X:=cxComp X (xs ++ capsN) sc cl g3.objs.size { s2 with heap:=g3,toks:=s2.toks } Hp3 fp (X.pn ++ pins)) _ s9 _ H9 (.ref s2.heap.objs.size) [yv] (.ref s2.heap.objs.size) [y] (fun _ H'=>H' = upd H9 s2.heap.objs.size (.lst (ys ++ [yv]))) I9 rfl (.cons r9 .nil)
          ⟨s2.heap.objs.size,ys,yv,rfl,rfl,hp9,hz9,rfl⟩) fun _ s10 ⟨_,H10,I10,_,e10⟩=>?_
        subst e10
        exact again e7 hv7 I10 n9
  exact codeAny_compStart_list loop (T.self X.A 0 _ _ _ st4 loop)
theorem pe_compT {X:Cx} {Gs:Hp→Prop} {hb:Bool} {CW:It→Addr→St→VK→Hp→Prop} {elt iter:Expr} {ifs:List Expr} {tg:Expr} {xs:List Str} {g:TG} {pos:Pos} {sc:Scope} {wi:TI} {tt:TT} {te:TE} (caps:List Nat) (capsN:List Str)
    (hi:PI X tg iter wi hb)
    (hg:∀ cl C s H ex pn,PG (cxComp X (xs ++ capsN) sc cl C s H ex pn) tg g)
    (ht:∀ cl C s H ex pn,PTs (cxComp X (xs ++ capsN) sc cl C s H ex pn) ifs tt)
    (he:∀ cl C s H ex pn,PE (cxComp X (xs ++ capsN) sc cl C s H ex pn) elt te)
    (hkind:sc.kind = .function) (hcell:∀ y ∈ sc.names,y.2 ≠ .cell) (hnames:∀ y ∈ sc.names,y.2 = .local→sc.names.lookup y.1 = some .local)
    (hfr:∀ y ∈ sc.names,y.2 = .free→y.1 ∈ capsN)
    (hcap:∀ (j:Nat) (y:Str),capsN[j]? = some y→∃ i:Nat,caps[j]? = some i∧X.N[i]? = some y∧sc.names.lookup y = some .free∧(X.env.kindOf y = some .cell∨X.env.kindOf y = some .free)) (hlen:caps.length = capsN.length)
    (hc:X.calm = true∨(hb = true∧∀ s H,HOk X.prog X.w H s.heap→Gs H→HandQ X s)) (kW:∀ J p cs Q H1,CW J p cs Q H1→CompWT Gs g xs.length J p tt te cs Q H1)
    (hs:∀ x,foldedSetIterable iter X.env x = pure x:=by intro _; rfl) :
    PE X (.ListComp elt [⟨tg,iter,ifs,0⟩] sc pos) (tCompC CW wi caps):=by
  intro pins s σ H Q I h
  rw [eval_ListComp]
  exact comp_goT (use:=none) caps capsN hi hg ht he hkind hcell hnames hfr hcap hlen hc kW hs I h fun C p H5 s5 ⟨m,hn⟩ I5 f q=>⟨m,hn,fun h' sb=>⟨.ref p,H5,I5.turned (t':=s5.toks) (fun b o hb e=>(sb.2 b hb).trans e) f.1 f.2.1 f.2.2.2.1 f.2.2.2.2.1 f.2.2.2.2.2,rfl,q⟩⟩
end L2
namespace L2
open PySem PySem.Spec PyProof.Rows
theorem ints_of:∀ {ns:List Int} {us:List Value},Vals (ns.map V.int) us→IntsAre us ns
  | [],_,.nil=>.nil
  | _ :: _,_,.cons ⟨t,e⟩ r=>by
    subst e
    exact .cons _ t (ints_of r)
theorem of_ints:∀ {ns:List Int} {us:List Value},IntsAre us ns→Vals (ns.map V.int) us
  | _,_,.nil=>.nil
  | _,_,.cons n t r=>.cons ⟨t,rfl⟩ (of_ints r)
section
variable {X:Cx}
end
end L2
namespace L2
open PySem PySem.Spec PyProof.Rows PySem.W
theorem is_kV {P:Program} {w:World} {k:Key} {u:Value} (h:(mixKind P w).is k u = true):RelV (kV k) u:=by
  rcases keyIs_shape (k:=k) (v:=u) h with ⟨i,t,rfl,rfl⟩ | ⟨x,t,rfl,rfl⟩
  · exact ⟨t,rfl⟩
  · exact ⟨t,rfl⟩
theorem vals_keys {P:Program} {w:World} {kvs:List (Key×V)} {vs:List (Key×Value)} {us:List Value} (rel:KV kvs vs) (hl:us.length = vs.length)
    (h:∀ (j:Nat) (v:Value),us[j]? = some v→∃ k x,vs[j]? = some (k,x)∧(mixKind P w).is k v = true):Vals (kvs.map fun p=>kV p.1) us:=by
  unfold KV at rel
  induction rel generalizing us with
  | nil =>
    cases us with
    | nil=>exact .nil
    | cons a r=>cases hl
  | @cons p q ps qs hr r ih =>
    cases us with
    | nil=>cases hl
    | cons u us =>
      obtain ⟨kk,x,e,hk⟩:=h 0 u rfl
      have e':q = (kk,x):=Option.some.inj e
      refine .cons ?_ (ih (Nat.succ.inj hl) fun j v hj=>h (j + 1) v hj)
      show RelV (kV p.1) u
      rw [hr.1,e']
      exact is_kV hk
section
variable {X:Cx}
theorem call_listK (hc:X.calm = true):CallR X (.type "list") (fun xs H Q=>∃ a kvs,xs = [V.ref a]∧H a = some (.dK kvs)∧∀ l,H l = none→Q (.ref l) (upd H l (.lst (kvs.map fun p=>kV p.1)))):=by
  intro pins s σ H xs us Q I r h
  obtain ⟨a,kvs,rfl,ha,q⟩:=h
  obtain ⟨u,rfl,ru⟩:=vals1 r
  cases ru
  obtain ⟨z,hd,vs,rel,dd⟩:=dk_of I.hok ha
  obtain ⟨ep,da⟩:∃ ep,s.heap.DictAt (mixKind X.prog X.w) a vs ep:=by
    obtain ⟨o,es,ep,h1,h2,h3,h4⟩:=dd
    exact ⟨ep,o,es,h1,h2,h3,h4⟩
  have hz:vs.length ≤ sizeLine:=by rw [← rel.length]; exact z
  refine kdl_call (kdl_dict hd) (I.ok.hd hc) da hz fun h' tk acc c kp hS it=>?_
  have nn:=I.hok.fresh (Nat.le_refl s.heap.objs.size)
  refine ⟨.ref s.heap.objs.size,_,I.laid (a:=s.heap.objs.size) (o:=.lst (kvs.map fun p=>kV p.1)) (t':=tk) kp (Nat.le_refl _) ?_,rfl,q _ nn⟩
  refine ⟨by rw [List.length_map]; exact z,acc.toList,c,vals_keys (P:=X.prog) (w:=X.w) rel (by rw [← it.1]; simp) (fun j v hj=>?_),hS⟩
  exact it.2 j v (by simpa using hj)
theorem coll_src {prog:Program} {w:World} {A:Around} {E:Value→Shared→Prop} {s:Shared} {T:String} {r d:Addr} {n:Nat} {P:Nat→Value→Prop} {OK:Heap→Prop} {Q:List Value→Shared→Prop} (K:KdlSrc prog w T r d n P OK) (hh:A.handled = none) (ok:OK s.heap) (hn:n ≤ sizeLine)
    (h:∀ h' tk acc,(∀ b o,s.heap.get? b = some o→h'.get? b = some o)→s.heap.objs.size < h'.objs.size→ItemsOf P acc n→Q acc.toList { s with heap:=h',toks:=tk }):wpAny (model prog w) A (collect (.ref r)) Q E s:=by
  have lt:=K.there _ ok
  unfold collect
  refine wpAny_bind (wpAny_runValue (codeAny_builtin PySem.F.entry_proto_collect ?_))
  rw [Around.under_plainId PySem.F.plain_proto_collect _]
  have new:(s.heap.push { cls:=.type "list",data:=.seq ([]:List Value).toArray }).get? s.heap.objs.size = some { cls:=.type "list",data:=.seq #[] 0 }:=Heap.get?_push_size _ rfl
  have ok1:=K.keep s.heap (s.heap.push { cls:=.type "list",data:=.seq ([]:List Value).toArray }) ok fun b _ o e=>Heap.get?_push_of_some _ e
  have key:∀ R:Result→Shared→Prop,(∀ h' tk acc c,(∀ b o,b ≠ s.heap.objs.size→(s.heap.push { cls:=.type "list",data:=.seq ([]:List Value).toArray }).get? b = some o→h'.get? b = some o)→h'.get? s.heap.objs.size = some { cls:=.type "list",dict:=none,data:=.seq acc c,slots:=#[] }→ItemsOf P acc n→R (.ok (.ret (.ref s.heap.objs.size))) { s with heap:=h',toks:=tk }) →
      codeAny (model prog w) A (.builtin "list.__iadd__" ⟨[.ref s.heap.objs.size,.ref r],[]⟩) R { s with heap:=s.heap.push { cls:=.type "list",data:=.seq ([]:List Value).toArray } }:=by
    intro R hR
    refine codeAny_builtin PySem.F.entry_list_iadd ?_
    rw [Around.under_plainId PySem.F.plain_list_iadd _]
    exact kdl_extend (s:={ s with heap:=s.heap.push { cls:=.type "list",data:=.seq ([]:List Value).toArray } }) K hh ok1 s.heap.objs.size (Nat.ne_of_gt lt.1) (Nat.ne_of_gt lt.2) (.ref s.heap.objs.size) 0 new (fun h' tk acc c kp hS it=>hR h' tk acc c kp hS it) hn
  show wpAny (model prog w) A.in1 (newList [] >>= fun x=>again (.builtin "list.__iadd__" ⟨[x,.ref r],[]⟩)) _ _ s
  refine wpAny_bind (wpAny_newObj_type (wpAny_pure ⟨plainId_quiet PySem.F.plain_list_iadd _,key _ fun h' tk acc c kp hS it=>?_⟩))
  show wpAny (model prog w) A (load s.heap.objs.size >>= _) Q E { s with heap:=h',toks:=tk }
  refine wpAny_bind (wpAny_load hS (wpAny_pure ?_))
  refine h h' tk acc (fun b o e=>?_) (Heap.lt_size hS) it
  exact kp b o (Nat.ne_of_lt (Heap.lt_size e)) (Heap.get?_push_of_some _ e)
end
end L2
namespace L2
open PySem
end L2
namespace L2
open PySem
end L2
namespace L2
open PySem PyProof.Rows
section
variable {prog:Program} {w:World} {K:Type} [DecidableEq K] (knd:KeyKind prog w K)
variable {knd}
variable {A:Around} {E:Value→Shared→Prop} {s:Shared}
end
end L2
namespace L2
open PySem PyProof.Rows
section
variable {prog:Program} {w:World} {K:Type} [DecidableEq K] {knd:KeyKind prog w K}
variable {A:Around} {E:Value→Shared→Prop}
variable {s:Shared}
end
end L2
namespace L2
open PySem PyProof.Rows
section
variable {prog:Program} {w:World} {A:Around} {E:Value→Shared→Prop} {s:Shared}
end
end L2
namespace L2
open PySem PyProof.Rows
section
variable {prog:Program} {w:World} {A:Around} {E:Value→Shared→Prop} {s:Shared}
end
end L2
namespace L2
open PySem PyProof.Rows
section
variable {prog:Program} {w:World} {A:Around} {E:Value→Shared→Prop} {s:Shared}
end
end L2
namespace L2
open PySem PyProof.Rows
section
variable {prog:Program} {w:World} {A:Around} {E:Value→Shared→Prop} {s:Shared}
variable {K:Type} [DecidableEq K] {knd:KeyKind prog w K}
end
end L2
namespace L2
open PySem PyProof.Rows
section
variable {prog:Program} {w:World} {A:Around} {E:Value→Shared→Prop} {s:Shared} {K:Type} [DecidableEq K] {knd:KeyKind prog w K}
end
end L2
namespace L2
open PySem PyProof.Rows
section
variable {prog:Program} {w:World} {A:Around} {E:Value→Shared→Prop} {s:Shared}
variable {K:Type} [DecidableEq K] {knd:KeyKind prog w K}
end
end L2
namespace L2
open PySem PySem.Spec PyProof.Rows
section
variable {X:Cx} {e:Expr} {te:TE}
end
end L2
namespace L2
open PySem PySem.Spec PyProof.Rows
section
variable {X:Cx} {e:Expr} {te:TE}
end
end L2
namespace L2
open PySem PySem.Spec PyProof.Rows PySem.W
section
variable {prog:Program} {w:World} {A:Around} {E:Value→Shared→Prop} {s:Shared}
end
section
variable {X:Cx}
end
end L2
namespace L2
open PySem PySem.Spec PyProof.Rows
noncomputable def sqO (tu:Bool) (xs:List V):HO:=match tu with
  | false=>.lst xs
  | true=>.tup xs
noncomputable def Sq (K:PySem.W.Frag) (tu:Bool) (H:Hp) (a:Addr) (xs:List V):Prop:=match tu with
  | false=>SqL K H a xs
  | true=>SqT K H a xs
theorem Sq.of {K:PySem.W.Frag} {tu:Bool} {H:Hp} {a:Addr} {xs:List V} (h:H a = some (sqO tu xs)):Sq K tu H a xs:=by
  cases tu with
  | false=>exact SqL.of h
  | true=>exact SqT.of h
noncomputable def ItS (K:PySem.W.Frag) (tu:Bool) (a:Addr):It:=match tu with
  | false=>Itl K a
  | true=>Itt K a
noncomputable def iSeq (K:PySem.W.Frag) (tl:TE):TI:=fun σ H R=>tl σ H fun x H1=>∃ (a:Addr) (tu:Bool),x = .ref a∧(∃ xs,Sq K tu H1 a xs)∧R (ItS K tu a) H1
theorem pi_seq {X:Cx} {tg l:Expr} {tl:TE} (hl:PE X l tl):PI X tg l (iSeq X.K tl):=by
  intro pins s σ H R I h
  refine thn (hl pins s σ H _ I h) fun v s1 ⟨x,H1,I1,r1,q1⟩=>?_
  obtain ⟨a,tu,e,⟨xs,hq⟩,q⟩:=q1
  subst e
  cases r1
  have fr:∀ b ∈ [s1.heap.objs.size],FpOk X pins H1 b:=fun b hb=>by
    obtain rfl:b = s1.heap.objs.size:=by simpa using hb
    exact I1.fpOk (Nat.le_refl _) (I1.hok.fresh (Nat.le_refl _))
  cases tu with
  | false =>
    obtain ⟨its,rv,p,hz⟩:=I1.list hq
    exact wpAny_pyIter_list p.isList ⟨s1.heap.objs.size,[s1.heap.objs.size],_,_,H1,rfl,I1.kept (t':=s1.toks) fun b o e=>Heap.get?_push_of_some _ e,turn_list a _,⟨_,Heap.get?_push_size _ rfl,rfl,rfl⟩,fr,q⟩
  | true =>
    obtain ⟨its,rv,p,hz⟩:=I1.tuple hq
    exact wpAny_pyIter_tuple (show s1.heap.IsTuple a its.toArray from p) ⟨s1.heap.objs.size,[s1.heap.objs.size],_,_,H1,rfl,I1.kept (t':=s1.toks) fun b o e=>Heap.get?_push_of_some _ e,turn_tuple a _,⟨_,Heap.get?_push_size _ rfl,rfl,rfl⟩,fr,q⟩
theorem compT_seq {K:PySem.W.Frag} {tu:Bool} {a p:Addr} {g:TG} {k:Nat} {tt:TT} {te:TE} {cs:St} {Q:VK} {H1:Hp} {xs:List V} (Pv:Nat→List V→Hp→Prop) (h0:Pv 0 [] (upd H1 p (.lst [])))
    (hl:∀ i ys H,i ≤ xs.length→Pv i ys H→Sq K tu H a xs)
    (hs:∀ i x ys H,xs[i]? = some x→Pv i ys H→∀ vs0:St,vs0.length = k→g x (vs0 ++ cs) H fun σ' H'=>(∃ vs':St,σ' = vs' ++ cs∧vs'.length = k)∧tt σ' H' fun b H4=>if b = true then te σ' H4 fun y H5=>H5 p = some (.lst ys)∧ys.length < sizeLine∧Pv (i + 1) (ys ++ [y]) (upd H5 p (.lst (ys ++ [y]))) else Pv (i + 1) ys H4)
    (hd:∀ ys H,Pv xs.length ys H→Q (.ref p) H):CompWT (fun _=>True) g k (ItS K tu a) p tt te cs Q H1:=by
  refine ⟨fun i m ys H=>m = xs.length - i∧i ≤ xs.length∧Pv i ys H,⟨xs.length,by simp,Nat.zero_le _,h0⟩,?_⟩
  rintro i m ys H ⟨rfl,hi,pv⟩
  have q:=hl i ys H hi pv
  by_cases hlt:i < xs.length
  · have st:∀ x,xs[i]? = some x→_:=fun x hx=>hs i x ys H hx pv
    cases tu with
    | false =>
      refine .inr ⟨⟨xs,xs[i],q,by simp [hlt]⟩,trivial,Pv (i + 1),fun ys' H' p'=>⟨xs.length - (i + 1),by lia,rfl,hlt,p'⟩,fun v H3 y=>?_⟩
      obtain ⟨e,y⟩:=y
      subst e
      exact st v (y xs q)
    | true =>
      refine .inr ⟨⟨xs,xs[i],q,by simp [hlt]⟩,trivial,Pv (i + 1),fun ys' H' p'=>⟨xs.length - (i + 1),by lia,rfl,hlt,p'⟩,fun v H3 y=>?_⟩
      obtain ⟨e,y⟩:=y
      subst e
      exact st v (y xs q)
  · have e:i = xs.length:=by lia
    subst e
    cases tu with
    | false=>exact .inl ⟨⟨xs,q,Nat.le_refl _⟩,trivial,hd ys H pv⟩
    | true=>exact .inl ⟨⟨xs,q,Nat.le_refl _⟩,trivial,hd ys H pv⟩
noncomputable def tCompR (g:TG) (k:Nat) (wi:TI) (tt:TT) (te:TE) (caps:List Nat):TE:=fun σ H Q=>wi σ H fun J H1=>∀ p,H1 p = none→CompWT (fun _=>True) g k J p tt te (capV σ caps) Q H1
theorem pe_compR {X:Cx} {elt iter:Expr} {ifs:List Expr} {tg:Expr} {g:TG} {pos:Pos} {sc:Scope} {wi:TI} {tt:TT} {te:TE} (xs:List Str) (caps:List Nat) (capsN:List Str)
    (hi:PI X tg iter wi)
    (hg:∀ cl C s H ex pn,PG (cxComp X (xs ++ capsN) sc cl C s H ex pn) tg g)
    (ht:∀ cl C s H ex pn,PTs (cxComp X (xs ++ capsN) sc cl C s H ex pn) ifs tt)
    (he:∀ cl C s H ex pn,PE (cxComp X (xs ++ capsN) sc cl C s H ex pn) elt te)
    (hkind:sc.kind = .function) (hcell:∀ y ∈ sc.names,y.2 ≠ .cell) (hnames:∀ y ∈ sc.names,y.2 = .local→sc.names.lookup y.1 = some .local)
    (hfr:∀ y ∈ sc.names,y.2 = .free→y.1 ∈ capsN)
    (hcap:∀ (j:Nat) (y:Str),capsN[j]? = some y→∃ i:Nat,caps[j]? = some i∧X.N[i]? = some y∧sc.names.lookup y = some .free∧(X.env.kindOf y = some .cell∨X.env.kindOf y = some .free)) (hlen:caps.length = capsN.length)
    (hc:X.calm = true)
    (hs:∀ x,foldedSetIterable iter X.env x = pure x:=by intro _; rfl) :
    PE X (.ListComp elt [⟨tg,iter,ifs,0⟩] sc pos) (tCompR g xs.length wi tt te caps) :=
  pe_compT (Gs:=fun _=>True) (hb:=false) (CW:=fun J p cs Q H1=>CompWT (fun _=>True) g xs.length J p tt te cs Q H1) caps capsN hi hg ht he hkind hcell hnames hfr hcap hlen (.inl hc) (fun _ _ _ _ _ h=>h) hs
section
variable {X:Cx}
noncomputable def rNeE (K:PySem.W.Frag):R2:=fun x y H Q=>∃ a b xs,x = .ref a∧y = .ref b∧SqL K H a xs∧SqL K H b []∧Q (.bl (decide (xs ≠ []))) H
theorem op_neE (hu:X.A.units < cLine):OpR X (compareOp .NotEq) (rNeE X.K):=by
  intro pins s σ H x y v u Q I rx ry h
  obtain ⟨a,b,xs,rfl,rfl,ha,hb,q⟩:=h
  cases hx:xs with
  | nil =>
    subst hx
    exact op_neL hu pins s σ H _ _ v u Q I rx ry ⟨a,b,_,_,rfl,rfl,ha,hb,rfl,rfl,q⟩
  | cons z zs =>
    cases rx
    cases ry
    obtain ⟨its,r1,p1,_⟩:=I.list ha
    obtain ⟨its2,r2,p2,_⟩:=I.list hb
    have l1:=r1.length
    have l2:=r2.length
    have lx:xs.length = zs.length + 1:=by rw [hx]; rfl
    have l0:([]:List V).length = 0:=rfl
    refine SeqAt.RcNeAt.lists_lengths p1.isList p2.isList (by simp; lia) hu _ _ _ _ ⟨.bl true,H,I,rfl,?_⟩
    have e:decide (xs ≠ []) = true:=decide_eq_true (by rw [hx]; exact List.cons_ne_nil _ _)
    rw [e] at q
    exact q
end
section
variable {X:Cx} {K:PySem.W.Frag}
theorem ix_tupK (h:X.K = K):IxR X (rIxT K):=by
  subst h
  exact ix_tup
end
end L2
namespace L2
open PySem PySem.Spec PyProof.Rows
end L2
namespace L2
open PySem PySem.Spec PyProof.Rows
section
variable {X:Cx} {pins:List (Addr×Obj)} {σ:St} {H:Hp} {s:Shared} {a b:Addr} {A:Around} {E:Value→Shared→Prop}
end
section
variable {X:Cx} {o e:Expr} {apos cpos:Pos} {td ty:TE}
end
end L2
namespace L2
open PySem PySem.Spec PyProof.Rows
section
variable {X:Cx} {pins:List (Addr×Obj)} {σ:St} {H:Hp} {s:Shared} {h':Heap}
end
end L2
namespace L2
open PySem PySem.Spec PyProof.Rows
section
variable {prog:Program} {w:World} {A:Around} {E:Value→Shared→Prop} {s:Shared}
end
end L2
namespace L2
open PySem PySem.Spec PyProof.Rows
section
variable {prog:Program} {w:World} {A:Around} {E:Value→Shared→Prop} {s:Shared}
end
end L2
namespace L2
open PySem PySem.Spec PyProof.Rows
section
variable {X:Cx} {pins:List (Addr×Obj)} {σ:St} {H:Hp} {s:Shared}
end
end L2
namespace L2
open PySem PySem.Spec PyProof.Rows
section
variable (K:PySem.W.Frag)
end
end L2
namespace HT
open PySem PySem.Spec PyProof.Rows
section
variable {prog:Program} {w:World} {A:Around} {E:Value→Shared→Prop} {s:Shared}
end
end HT
namespace L2
open PySem PySem.Spec PyProof.Rows
section
variable {X:Cx}
end
end L2
namespace L2
open PySem PySem.Spec PyProof.Rows
end L2
namespace L2
open PySem PySem.Spec PyProof.Rows
end L2
namespace L2
open PySem PySem.Spec PyProof.Rows
end L2
namespace L2
open PySem PySem.Spec PyProof.Rows
end L2
namespace L2
open PySem PySem.Spec PyProof.Rows
section
variable (K:PySem.W.Frag)
end
end L2
namespace L2
open PySem PySem.Spec PyProof.Rows
section
variable {X:Cx}
end
end L2
namespace L2
open PySem PySem.Spec PyProof.Rows
noncomputable def noStar:Expr→Bool
  | .Starred ..=>false
  | _=>true
theorem star_cons {e:Expr} (h:noStar e = true) (es:List Expr) (env:Env):starEach (e :: es) env = (false,eval e env) :: starEach es env:=by
  cases e with
  | Starred=>cases h
  | _=>rfl
section
variable {X:Cx} {e:Expr} {es:List Expr} {te:TE} {t:TA}
theorem pc (ha:PE X e te) (hr:PA X es t) (hs:noStar e = true:=by rfl):PA X (e :: es) (tCons te t):=pa_cons ha hr (star_cons hs es X.env)
end
end L2
namespace L2
open PySem PySem.Spec PyProof.Rows
noncomputable def g2 (K:PySem.W.Frag):TG:=gTup K 2 (gCons (gName 0) (gCons (gName 1) gNil))
end L2
namespace L2
open PySem PySem.Spec PyProof.Rows
end L2
namespace L2
open PySem PySem.Spec PyProof.Rows
section
variable {X:Cx} {CX:CXT} {k:Nat} {f C:Addr} {fd:FuncData} {ps:List Str} {sp:Sp} {dvs:List V} {ds:List Value} {E:XK} {x m:Str} {p pos apos:Pos} {e o:Expr} {es:List Expr} {ta:TE} {t:TA}
end
section
variable {X:Cx}
end
end L2
namespace L2
open PySem PySem.Spec PyProof.Rows PySem.W
end L2
namespace L2
open PySem PySem.Spec PyProof.Rows PySem.W
section
variable {prog:Program} {w:World} {A:Around} {E:Value→Shared→Prop} {s:Shared}
end
section
variable {X:Cx}
end
end L2
namespace L2
open PySem PySem.Spec PyProof.Rows PySem.W
section
variable {X:Cx}
end
section
variable {X:Cx}
end
end L2
namespace L2
open PySem PySem.Spec PyProof.Rows
end L2
namespace L2
open PySem PySem.Spec PyProof.Rows
theorem CompW.t {J:It} {p:Addr} {tt:TT} {te:TE} {cs:St} {Q:VK} {H1:Hp} (h:CompW J p tt te cs Q H1):CompWT (fun _=>True) (gName 0) 1 J p tt te cs Q H1:=by
  obtain ⟨W,h0,hs⟩:=h
  refine ⟨W,h0,fun i m ys H2 hw=>(hs i m ys H2 hw).imp (fun ⟨a,b⟩=>⟨a,trivial,b⟩) fun ⟨a,N,hN,hv⟩=>⟨a,trivial,N,hN,fun v H3 y vs0 hl=>?_⟩⟩
  match vs0,hl with
  | [w0],_=>exact ⟨⟨[some v],rfl,rfl⟩,hv v H3 y⟩
theorem pe_comp1 {X:Cx} {elt iter:Expr} {ifs:List Expr} {x:Str} {px pos:Pos} {sc:Scope} {wi:TI} {tt:TT} {te:TE} (caps:List Nat) (capsN:List Str)
    (hi:PI X (.Name x px) iter wi)
    (ht:∀ cl C s H ex pn,PTs (cxComp X (x :: capsN) sc cl C s H ex pn) ifs tt)
    (he:∀ cl C s H ex pn,PE (cxComp X (x :: capsN) sc cl C s H ex pn) elt te)
    (hkind:sc.kind = .function) (hcell:∀ y ∈ sc.names,y.2 ≠ .cell) (hnames:∀ y ∈ sc.names,y.2 = .local→sc.names.lookup y.1 = some .local) (hx:sc.names.lookup x = some .local)
    (hfr:∀ y ∈ sc.names,y.2 = .free→y.1 ∈ capsN)
    (hcap:∀ (j:Nat) (y:Str),capsN[j]? = some y→∃ i:Nat,caps[j]? = some i∧X.N[i]? = some y∧sc.names.lookup y = some .free∧(X.env.kindOf y = some .cell∨X.env.kindOf y = some .free)) (hlen:caps.length = capsN.length)
    (hnd:(x :: capsN).Nodup) (hc:X.calm = true)
    (hs:∀ x,foldedSetIterable iter X.env x = pure x:=by intro _; rfl) :
    PE X (.ListComp elt [⟨.Name x px,iter,ifs,0⟩] sc pos) (tComp wi tt te caps) :=
  pe_compT (Gs:=fun _=>True) (hb:=false) (CW:=fun J p cs Q H1=>CompW J p tt te cs Q H1) (xs:=[x]) (g:=gName 0) caps capsN hi (fun _ _ _ _ _ _=>pg_name hnd rfl (.inl (lookup_relabel_local hx)) (.inr (lookup_relabel_local hx))) ht he hkind hcell hnames hfr hcap hlen (.inl hc) (fun _ _ _ _ _ h=>h.t) hs
theorem ps_setC2 {X:Cx} {elt iter:Expr} {ifs:List Expr} {x y:Str} {px pos pos' pos2:Pos} {sc:Scope} {wi:TI} {tt:TT} {te:TE} {i:Nat} (hN:X.N.Nodup) (hiN:X.N[i]? = some y) (hy:X.env.scope.names.lookup y = some .local) (caps:List Nat) (capsN:List Str)
    (hi:PI X (.Name x px) iter wi)
    (ht:∀ cl C s H ex pn,PTs (cxComp X (x :: capsN) sc cl C s H ex pn) ifs tt)
    (he:∀ cl C s H ex pn,PE (cxComp X (x :: capsN) sc cl C s H ex pn) elt te)
    (hkind:sc.kind = .function) (hcell:∀ y ∈ sc.names,y.2 ≠ .cell) (hnames:∀ y ∈ sc.names,y.2 = .local→sc.names.lookup y.1 = some .local) (hx:sc.names.lookup x = some .local)
    (hfr:∀ y ∈ sc.names,y.2 = .free→y.1 ∈ capsN)
    (hcap:∀ (j:Nat) (y:Str),capsN[j]? = some y→∃ i:Nat,caps[j]? = some i∧X.N[i]? = some y∧sc.names.lookup y = some .free∧(X.env.kindOf y = some .cell∨X.env.kindOf y = some .free)) (hlen:caps.length = capsN.length)
    (hnd:(x :: capsN).Nodup) (hc:X.calm = true)
    (hsw:swapsWith (.ListComp elt [⟨.Name x px,iter,ifs,0⟩] sc pos) (some (.Name y pos')) pos2.line X.env = pure true:=by rfl)
    (hs:∀ x,foldedSetIterable iter X.env x = pure x:=by intro _; rfl) :
    PS X (.Assign [.Name y pos'] (.ListComp elt [⟨.Name x px,iter,ifs,0⟩] sc pos) pos2) (tAsg (tComp wi tt te caps) (gName i)):=by
  intro pins s σ H D I h
  rw [exec_Assign_Name_used _ _ _ _ hsw,arm_evalThenUse_ListComp]
  refine wpAny_bind (wpAny_standAt (wpAny_bind (wpAny_bind (comp_goT (Gs:=fun _=>True) (hb:=false) (CW:=fun J p cs Q H1=>CompW J p tt te cs Q H1) (xs:=[x]) (g:=gName 0) (use:=some (assign (.Name y pos') X.env)) caps capsN hi (fun _ _ _ _ _ _=>pg_name hnd rfl (.inl (lookup_relabel_local hx)) (.inr (lookup_relabel_local hx))) ht he hkind hcell hnames hfr hcap hlen (.inl hc) (fun _ _ _ _ _ h=>h.t) hs I h fun C p H5 s5 ⟨m,hn⟩ I5 f q=>?_))))
  refine wpAny_assign_Name (store_ok2 I5 hN hiN (.inl hy) (show RelV (.ref p) (.ref p) from rfl) (fun s6 I6 ⟨a,sb,ha⟩=>?_) (.inr hy))
  have nC:C ≠ a:=by
    rcases ha with ha | ha
    · rw [ha]; exact f.2.1
    · exact fun z=>f.2.2.2.2.1 y a ha z.symm
  obtain ⟨o,es,ep,ho,r⟩:=hn
  refine ⟨m,⟨o,es,ep,(sb.2 C nC).trans ho,r⟩,fun h' sb'=>?_⟩
  have I7:=I6.turned (t':=s6.toks) (h':=h') (fun b o hb e=>(sb'.2 b hb).trans e) f.1 f.2.1 f.2.2.2.1 f.2.2.2.2.1 f.2.2.2.2.2
  exact wpAny_pure (wpAny_pure ⟨_,H5,I7,q⟩)
end L2
set_option maxHeartbeats 1000000
namespace L2
open PySem PySem.Spec PyProof.Rows PySem.W
section
variable {X:Cx}
end
end L2
namespace TS
section
variable {α:Type} {κ:α→Int} {A B O:List α} {ia ib k:Nat}
noncomputable def Srt (κ:α→Int) (l:List α):Prop:=l.Pairwise fun x y=>κ x ≤ κ y
structure Mg (κ:α→Int) (A B O:List α) (ia ib:Nat):Prop where
  la:ia ≤ A.length
  lb:ib ≤ B.length
  so:Srt κ O
  pm:O.Perm (A.take ia ++ B.take ib)
  ra:∀ o ∈ O,∀ x ∈ A.drop ia,κ o ≤ κ x
  rb:∀ o ∈ O,∀ x ∈ B.drop ib,κ o ≤ κ x
theorem Mg.swap (h:Mg κ A B O ia ib):Mg κ B A O ib ia:=⟨h.lb,h.la,h.so,h.pm.trans List.perm_append_comm,h.rb,h.ra⟩
theorem srt_drop (h:Srt κ A) (n:Nat):Srt κ (A.drop n):=h.sublist (List.drop_sublist _ _)
theorem srt_take (h:Srt κ A) (n:Nat):Srt κ (A.take n):=h.sublist (List.take_sublist _ _)
theorem srt_cut (h:Srt κ A) (n:Nat):∀ x ∈ A.take n,∀ y ∈ A.drop n,κ x ≤ κ y:=by
  have e:=List.take_append_drop n A
  rw [← e] at h
  exact (List.pairwise_append.mp h).2.2
theorem Mg.stepA (sA:Srt κ A) (h:Mg κ A B O ia ib) (hk:ia + k ≤ A.length) (hx:∀ x ∈ (A.drop ia).take k,∀ y ∈ B.drop ib,κ x ≤ κ y):Mg κ A B (O ++ (A.drop ia).take k) (ia + k) ib:=by
  have ed:(A.drop ia).drop k = A.drop (ia + k):=List.drop_drop
  have et:A.take (ia + k) = A.take ia ++ (A.drop ia).take k:=List.take_add
  refine ⟨hk,h.lb,?_,?_,?_,?_⟩
  · refine List.pairwise_append.mpr ⟨h.so,srt_take (srt_drop sA ia) k,fun o ho x hx=>h.ra o ho x (List.mem_of_mem_take hx)⟩
  · rw [et]
    refine (h.pm.append_right _).trans ?_
    rw [List.append_assoc,List.append_assoc]
    exact List.Perm.append_left _ List.perm_append_comm
  · intro o ho x hx'
    rcases List.mem_append.mp ho with ho | ho
    · rw [← ed] at hx'
      exact h.ra o ho x (List.mem_of_mem_drop hx')
    · rw [← ed] at hx'
      exact srt_cut (srt_drop sA ia) k o ho x hx'
  · intro o ho x hx'
    rcases List.mem_append.mp ho with ho | ho
    · exact h.rb o ho x hx'
    · exact hx o ho x hx'
theorem Mg.fin (sA:Srt κ A) (sB:Srt κ B) (h:Mg κ A B O ia ib) (hx:∀ x ∈ A.drop ia,∀ y ∈ B.drop ib,κ x ≤ κ y):Srt κ (O ++ A.drop ia ++ B.drop ib)∧(O ++ A.drop ia ++ B.drop ib).Perm (A ++ B):=by
  constructor
  · refine List.pairwise_append.mpr ⟨List.pairwise_append.mpr ⟨h.so,srt_drop sA _,h.ra⟩,srt_drop sB _,fun o ho y hy=>?_⟩
    rcases List.mem_append.mp ho with ho | ho
    · exact h.rb o ho y hy
    · exact hx o ho y hy
  · have e1:=List.take_append_drop ia A
    have e2:=List.take_append_drop ib B
    refine ((h.pm.append_right _).append_right _).trans ?_
    have:(A ++ B) = A.take ia ++ A.drop ia ++ (B.take ib ++ B.drop ib):=by rw [e1,e2]
    rw [this,List.append_assoc,List.append_assoc,List.append_assoc]
    refine List.Perm.append_left _ ?_
    rw [← List.append_assoc,← List.append_assoc]
    exact List.perm_append_comm.append_right _
theorem Mg.finB (sA:Srt κ A) (sB:Srt κ B) (h:Mg κ A B O ia ib) (hx:∀ x ∈ B.drop ib,∀ y ∈ A.drop ia,κ x ≤ κ y):Srt κ (O ++ B.drop ib ++ A.drop ia)∧(O ++ B.drop ib ++ A.drop ia).Perm (A ++ B):=by
  obtain ⟨h1,h2⟩:=h.swap.fin sB sA hx
  exact ⟨h1,h2.trans List.perm_append_comm⟩
theorem Mg.ends (sA:Srt κ A) (sB:Srt κ B) (h:Mg κ A B O ia ib) (e:ia = A.length∨ib = B.length):Srt κ (O ++ A.drop ia ++ B.drop ib)∧(O ++ A.drop ia ++ B.drop ib).Perm (A ++ B):=by
  refine h.fin sA sB fun x hx y hy=>?_
  rcases e with e | e
  · rw [e,List.drop_length] at hx
    cases hx
  · rw [e,List.drop_length] at hy
    cases hy
theorem take1 {l:List α} {i:Nat} {x:α} (h:l[i]? = some x):(l.drop i).take 1 = [x]:=by
  rw [List.getElem?_eq_some_iff] at h
  obtain ⟨hi,e⟩:=h
  rw [List.drop_eq_getElem_cons hi,e]
  rfl
theorem mem_dr {l:List α} {i:Nat} {x:α} (h:x ∈ l.drop i):∃ j,i ≤ j∧l[j]? = some x:=by
  obtain ⟨n,hn⟩:=List.mem_iff_getElem?.mp h
  rw [List.getElem?_drop] at hn
  exact ⟨i + n,by lia,hn⟩
theorem mem_dt {l:List α} {i k:Nat} {x:α} (h:x ∈ (l.drop i).take k):∃ j,j < k∧l[i + j]? = some x:=by
  obtain ⟨n,hn⟩:=List.mem_iff_getElem?.mp h
  rw [List.getElem?_take] at hn
  split at hn
  · rw [List.getElem?_drop] at hn
    exact ⟨n,by assumption,hn⟩
  · cases hn
theorem srt_at {l:List α} (h:Srt κ l) {i j:Nat} {x y:α} (hij:i ≤ j) (hx:l[i]? = some x) (hy:l[j]? = some y):κ x ≤ κ y:=by
  rw [List.getElem?_eq_some_iff] at hx hy
  obtain ⟨hi,rfl⟩:=hx
  obtain ⟨hj,rfl⟩:=hy
  by_cases e:i = j
  · subst e
    exact Int.le_refl _
  · exact List.pairwise_iff_getElem.mp h i j hi hj (by lia)
end
end TS
set_option maxHeartbeats 1000000
namespace TS
open PySem PyProof.Rows
noncomputable def att (p:Array Keyed) (q:Array (Nat×Nat×Nat)) (st:SortSt):SortSt:=SortSt.mk' (kindOf st) (p ++ arrOf st) q (gallopOf st) (failedOf st)
section
variable {p:Array Keyed} {q:Array (Nat×Nat×Nat)} {α β:Type}
noncomputable def Sim (p:Array Keyed) (q:Array (Nat×Nat×Nat)) (m m':StateT SortSt Sem α) (P:α→Prop):Prop :=
  ∀ st,∃ m2:Sem ({a:α // P a}×SortSt),m.run st = (fun r=>(r.1.1,r.2)) <$> m2∧m'.run (att p q st) = (fun r=>(r.1.1,att p q r.2)) <$> m2
theorem sim_pure {a:α} {P:α→Prop} (h:P a):Sim p q (pure a) (pure a) P:=fun st =>
  ⟨pure (⟨a,h⟩,st),by rw [StateT.run_pure,map_pure],by rw [StateT.run_pure,map_pure]⟩
theorem sim_bind {m m':StateT SortSt Sem α} {f f':α→StateT SortSt Sem β} {P:α→Prop} {R:β→Prop} (h1:Sim p q m m' P) (h2:∀ a,P a→Sim p q (f a) (f' a) R):Sim p q (m >>= f) (m' >>= f') R:=fun st=>by
  obtain ⟨m2,e1,e2⟩:=h1 st
  refine ⟨m2 >>= fun r=>Classical.choose (h2 r.1.1 r.1.2 r.2),?_,?_⟩
  · rw [StateT.run_bind,e1,bind_map_left,map_bind]
    congr 1
    funext r
    exact (Classical.choose_spec (h2 r.1.1 r.1.2 r.2)).1
  · rw [StateT.run_bind,e2,bind_map_left,map_bind]
    congr 1
    funext r
    exact (Classical.choose_spec (h2 r.1.1 r.1.2 r.2)).2
theorem sim_lift (m:Sem α):Sim p q (liftM m) (liftM m) fun _=>True:=fun st=>by
  refine ⟨(fun a=>(⟨a,trivial⟩,st)) <$> m,?_,?_⟩
  · show (StateT.lift m:StateT SortSt Sem α).run st = _
    rw [StateT.run_lift,← comp_map,← bind_pure_comp]; rfl
  · show (StateT.lift m:StateT SortSt Sem α).run _ = _
    rw [StateT.run_lift,← comp_map,← bind_pure_comp]; rfl
theorem sim_modify {f f':SortSt→SortSt} (h:∀ st,f' (att p q st) = att p q (f st)):Sim p q (modify f) (modify f') fun _=>True:=fun st=>by
  refine ⟨pure (⟨⟨⟩,trivial⟩,f st),?_,?_⟩
  · rw [StateT.run_modify,map_pure]
  · rw [StateT.run_modify,map_pure,h]
theorem sim_get {f f':SortSt→StateT SortSt Sem β} {R:β→Prop} (h:∀ st,Sim p q (f st) (f' (att p q st)) R):Sim p q (get >>= f) (get >>= f') R:=fun st=>by
  obtain ⟨m2,e1,e2⟩:=h st st
  refine ⟨m2,?_,?_⟩
  · rw [StateT.run_bind,StateT.run_get,pure_bind]; exact e1
  · rw [StateT.run_bind,StateT.run_get,pure_bind]; exact e2
theorem sim_forL {f f':Nat→β→StateT SortSt Sem (ForInStep β)} (I J:β→Prop) (hs:∀ x b,I b→Sim p q (f x b) (f' x b) (fun r=>match r with | .done b'=>J b' | .yield b'=>I b')) (he:∀ b,I b→J b):∀ (l:List Nat) (b:β),I b→Sim p q (forIn l b f) (forIn l b f') J
  | [],b,h=>by rw [List.forIn_nil,List.forIn_nil]; exact sim_pure (he b h)
  | x :: l,b,h=>by
    rw [List.forIn_cons,List.forIn_cons]
    refine sim_bind (hs x b h) fun r hr=>?_
    cases r with
    | done b'=>exact sim_pure hr
    | yield b'=>exact sim_forL I J hs he l b' hr
theorem sim_for {f f':Nat→β→StateT SortSt Sem (ForInStep β)} (I J:β→Prop) {a b:Nat} {c:β} (hs:∀ x b,I b→Sim p q (f x b) (f' x b) (fun r=>match r with | .done b'=>J b' | .yield b'=>I b')) (he:∀ b,I b→J b) (h:I c):Sim p q (forIn [a:b] c f) (forIn [a:b] c f') J:=by
  rw [Std.Legacy.Range.forIn_eq_forIn_range',Std.Legacy.Range.forIn_eq_forIn_range']
  exact sim_forL I J hs he _ c h
theorem Sim.wps {m m':StateT SortSt Sem α} {P:α→Prop} {M:Model} {A:Around} {E:Value→Shared→Prop} {s:Shared} {Q:α→SortSt→Prop} {st:SortSt} (h:Sim p q m m' P) (hw:wpS M A E s m (fun r st2=>Q r (att p q st2)) st):wpS M A E s m' Q (att p q st):=by
  obtain ⟨m2,e1,e2⟩:=h st
  unfold wpS at hw ⊢
  rw [e1] at hw
  rw [e2]
  refine wpAny_map fun Γ x hΓ=>?_
  have:=hw Γ x hΓ
  rw [Sem.wp_map] at this
  exact this
theorem swap_att {xs:Array Keyed} (x y:Nat):(p ++ xs).swapIfInBounds (p.size + x) (p.size + y) = p ++ xs.swapIfInBounds x y:=by
  apply Array.ext_getElem?
  intro k
  by_cases hx:x < xs.size
  · by_cases hy:y < xs.size
    · rw [getElem?_swapIB (by rw [Array.size_append]; lia) (by rw [Array.size_append]; lia)]
      by_cases hk:k < p.size
      · rw [if_neg (by lia),if_neg (by lia),Array.getElem?_append_left hk,Array.getElem?_append_left hk]
      · obtain ⟨j,rfl⟩:∃ j,k = p.size + j:=⟨k - p.size,by lia⟩
        rw [Array.getElem?_append_right (by lia),Array.getElem?_append_right (by lia),Array.getElem?_append_right (by lia),Array.getElem?_append_right (by lia),getElem?_swapIB hx hy]
        simp only [Nat.add_sub_cancel_left,Nat.add_left_cancel_iff]
    · rw [Array.swapIfInBounds_def,Array.swapIfInBounds_def,dif_pos (by rw [Array.size_append]; lia),dif_neg (by rw [Array.size_append]; lia),dif_pos hx,dif_neg hy]
  · rw [Array.swapIfInBounds_def,Array.swapIfInBounds_def,dif_neg (by rw [Array.size_append]; lia),dif_neg hx]
theorem mirror_att {xs:Array Keyed} {i j:Nat}:∀ d,d ≤ j→mirror (p ++ xs) (p.size + i) (p.size + j) d = p ++ mirror xs i j d
  | 0,_=>rfl
  | d + 1,h=>by
    rw [mirror_succ,mirror_succ,mirror_att d (by lia),show p.size + i + d = p.size + (i + d) by lia,show p.size + j - 1 - d = p.size + (j - 1 - d) by lia,swap_att]
theorem bubble_att {xs:Array Keyed} {src:Nat}:∀ d,d ≤ src→bubble (p ++ xs) (p.size + src) d = p ++ bubble xs src d
  | 0,_=>rfl
  | d + 1,h=>by
    rw [bubble_succ,bubble_succ,bubble_att d (by lia),show p.size + src - d = p.size + (src - d) by lia,show p.size + (src - d) - 1 = p.size + (src - d - 1) by lia,swap_att]
theorem sim_rev {i j i' j':Nat} (hi:i' = p.size + i) (hj:j' = p.size + j):Sim p q (reverseSlice' i j) (reverseSlice' i' j') fun _=>True:=by
  subst hi hj
  rw [reverseSlice'_eq,reverseSlice'_eq]
  refine sim_modify fun st=>?_
  show SortSt.mk' _ (mirror (p ++ arrOf st) (p.size + i) (p.size + j) ((p.size + j - (p.size + i)) / 2)) q _ _ = SortSt.mk' _ (p ++ mirror (arrOf st) i j ((j - i) / 2)) q _ _
  rw [show p.size + j - (p.size + i) = j - i by lia,mirror_att _ (by lia)]
  rfl
theorem sim_move {i j i' j':Nat} (hi:i' = p.size + i) (hj:j' = p.size + j):Sim p q (moveDown' i j) (moveDown' i' j') fun _=>True:=by
  subst hi hj
  rw [moveDown'_eq,moveDown'_eq]
  refine sim_modify fun st=>?_
  show SortSt.mk' _ (bubble (p ++ arrOf st) (p.size + i) (p.size + i - (p.size + j))) q _ _ = SortSt.mk' _ (p ++ bubble (arrOf st) i (i - j)) q _ _
  rw [show p.size + i - (p.size + j) = i - j by lia,bubble_att _ (by lia)]
  rfl
theorem sim_elem {xs:Array Keyed} {i i':Nat} (hi:i' = p.size + i):Sim p q (elem' xs i) (elem' (p ++ xs) i') fun _=>True:=by
  subst hi
  rw [elem'_eq,elem'_eq,Array.getElem?_append_right (by lia),Nat.add_sub_cancel_left]
  cases xs[i]? with
  | some x=>exact sim_pure trivial
  | none=>exact sim_lift _
theorem sim_lt (x y:Keyed):Sim p q (lt' x y) (lt' x y) fun _=>True:=by
  rw [lt'_eq]
  refine sim_get fun st=>sim_bind (sim_lift _) fun r _=>?_
  cases r with
  | ok b=>exact sim_pure trivial
  | error e=>exact sim_bind (sim_modify fun st=>rfl) fun _ _=>sim_pure trivial
theorem sim_ltAt {i j i' j':Nat} (hi:i' = p.size + i) (hj:j' = p.size + j):Sim p q (ltAt' i j) (ltAt' i' j') fun _=>True:=by
  rw [ltAt'_eq,ltAt'_eq]
  exact sim_get fun st=>sim_bind (sim_elem hi) fun x _=>sim_bind (sim_elem hj) fun y _=>sim_lt x y
end
end TS
set_option maxHeartbeats 1000000
namespace TS
open PySem PyProof.Rows
section
variable {p:Array Keyed} {q:Array (Nat×Nat×Nat)}
theorem sim_count {lo:Nat} (hp:p.size = lo) (nrem:Nat):Sim p q (countRun' 0 nrem) (countRun' lo nrem) fun _=>True:=by
  subst hp
  rw [countRun'_eq,countRun'_eq]
  refine sim_bind (sim_for (fun c=>1 ≤ c.2) (fun c=>1 ≤ c.2) (fun x c hc=>?_) (fun _ h=>h) (Nat.le_refl 1)) fun c hc=>?_
  · obtain ⟨r,n⟩:=c
    have hc:1 ≤ n:=hc
    refine sim_bind (sim_ltAt (by lia) (by lia)) fun b _=>?_
    match b with
    | none=>exact sim_pure hc
    | some true=>exact sim_pure hc
    | some false=>exact sim_pure (show 1 ≤ n + 1 by lia)
  obtain ⟨r,n⟩:=c
  have hc:1 ≤ n:=hc
  match r with
  | some r=>exact sim_pure trivial
  | none =>
  dsimp only
  split
  · exact sim_pure trivial
  split
  · refine sim_bind (sim_ltAt (by lia) (by lia)) fun b _=>?_
    match b with
    | none=>exact sim_pure trivial
    | some true=>exact sim_pure trivial
    | some false =>
      refine sim_bind (sim_rev (by lia) (by lia)) fun _ _=>?_
      refine sim_bind (sim_lift _) fun _ _=>?_
      refine sim_bind (sim_for (fun c=>c.2.2 + 1 ≤ c.2.1) (fun c=>c.2.2 + 1 ≤ c.2.1) (fun x c hc=>?_) (fun _ h=>h) (show 0 + 1 ≤ n + 1 by lia)) fun c hc=>?_
      · obtain ⟨r,n,e⟩:=c
        have hc:e + 1 ≤ n:=hc
        refine sim_bind (sim_ltAt (by lia) (by lia)) fun b _=>?_
        match b with
        | none=>exact sim_pure hc
        | some true =>
          dsimp only
          simp only [if_true]
          split
          · exact sim_bind (sim_rev (by lia) (by lia)) fun _ _=>sim_pure (show 0 + 1 ≤ n + 1 by lia)
          · exact sim_pure (show 0 + 1 ≤ n + 1 by lia)
        | some false =>
          refine sim_bind (sim_ltAt (by lia) (by lia)) fun b _=>?_
          match b with
          | none=>exact sim_pure hc
          | some true=>exact sim_pure hc
          | some false=>exact sim_pure (show e + 1 + 1 ≤ n + 1 by lia)
      obtain ⟨r,m,e⟩:=c
      have hc:e + 1 ≤ m:=hc
      have hm:1 ≤ m:=by lia
      match r with
      | some r=>exact sim_pure trivial
      | none =>
      dsimp only
      split
      · refine sim_bind (sim_rev (by lia) (by lia)) fun _ _=>?_
        refine sim_bind (sim_rev (by lia) (by lia)) fun _ _=>?_
        refine sim_bind (sim_for (fun c=>1 ≤ c.2) (fun c=>1 ≤ c.2) (fun x c hc=>?_) (fun _ h=>h) hm) fun c hc=>?_
        · obtain ⟨r,n⟩:=c
          have hc:1 ≤ n:=hc
          refine sim_bind (sim_ltAt (by lia) (by lia)) fun b _=>?_
          match b with
          | none=>exact sim_pure hc
          | some true=>exact sim_pure hc
          | some false=>exact sim_pure (show 1 ≤ n + 1 by lia)
        obtain ⟨r,n⟩:=c
        match r with
        | some r=>exact sim_pure trivial
        | none=>exact sim_pure trivial
      · refine sim_bind (sim_rev (by lia) (by lia)) fun _ _=>?_
        refine sim_bind (sim_for (fun c=>1 ≤ c.2) (fun c=>1 ≤ c.2) (fun x c hc=>?_) (fun _ h=>h) hm) fun c hc=>?_
        · obtain ⟨r,n⟩:=c
          have hc:1 ≤ n:=hc
          refine sim_bind (sim_ltAt (by lia) (by lia)) fun b _=>?_
          match b with
          | none=>exact sim_pure hc
          | some true=>exact sim_pure hc
          | some false=>exact sim_pure (show 1 ≤ n + 1 by lia)
        obtain ⟨r,n⟩:=c
        match r with
        | some r=>exact sim_pure trivial
        | none=>exact sim_pure trivial
  · refine sim_bind (sim_lift _) fun _ _=>?_
    refine sim_bind (sim_for (fun c=>c.2.2 + 1 ≤ c.2.1) (fun c=>c.2.2 + 1 ≤ c.2.1) (fun x c hc=>?_) (fun _ h=>h) (show 0 + 1 ≤ n + 1 by lia)) fun c hc=>?_
    · obtain ⟨r,n,e⟩:=c
      have hc:e + 1 ≤ n:=hc
      refine sim_bind (sim_ltAt (by lia) (by lia)) fun b _=>?_
      match b with
      | none=>exact sim_pure hc
      | some true =>
        dsimp only
        simp only [if_true]
        split
        · exact sim_bind (sim_rev (by lia) (by lia)) fun _ _=>sim_pure (show 0 + 1 ≤ n + 1 by lia)
        · exact sim_pure (show 0 + 1 ≤ n + 1 by lia)
      | some false =>
        refine sim_bind (sim_ltAt (by lia) (by lia)) fun b _=>?_
        match b with
        | none=>exact sim_pure hc
        | some true=>exact sim_pure hc
        | some false=>exact sim_pure (show e + 1 + 1 ≤ n + 1 by lia)
    obtain ⟨r,m,e⟩:=c
    have hc:e + 1 ≤ m:=hc
    have hm:1 ≤ m:=by lia
    match r with
    | some r=>exact sim_pure trivial
    | none =>
    dsimp only
    split
    · refine sim_bind (sim_rev (by lia) (by lia)) fun _ _=>?_
      refine sim_bind (sim_rev (by lia) (by lia)) fun _ _=>?_
      refine sim_bind (sim_for (fun c=>1 ≤ c.2) (fun c=>1 ≤ c.2) (fun x c hc=>?_) (fun _ h=>h) hm) fun c hc=>?_
      · obtain ⟨r,n⟩:=c
        have hc:1 ≤ n:=hc
        refine sim_bind (sim_ltAt (by lia) (by lia)) fun b _=>?_
        match b with
        | none=>exact sim_pure hc
        | some true=>exact sim_pure hc
        | some false=>exact sim_pure (show 1 ≤ n + 1 by lia)
      obtain ⟨r,n⟩:=c
      match r with
      | some r=>exact sim_pure trivial
      | none=>exact sim_pure trivial
    · refine sim_bind (sim_rev (by lia) (by lia)) fun _ _=>?_
      refine sim_bind (sim_for (fun c=>1 ≤ c.2) (fun c=>1 ≤ c.2) (fun x c hc=>?_) (fun _ h=>h) hm) fun c hc=>?_
      · obtain ⟨r,n⟩:=c
        have hc:1 ≤ n:=hc
        refine sim_bind (sim_ltAt (by lia) (by lia)) fun b _=>?_
        match b with
        | none=>exact sim_pure hc
        | some true=>exact sim_pure hc
        | some false=>exact sim_pure (show 1 ≤ n + 1 by lia)
      obtain ⟨r,n⟩:=c
      match r with
      | some r=>exact sim_pure trivial
      | none=>exact sim_pure trivial
theorem sim_bin {lo:Nat} (hp:p.size = lo) (n ok:Nat):Sim p q (binarySort' 0 n ok) (binarySort' lo n ok) fun _=>True:=by
  subst hp
  rw [binarySort'_eq,binarySort'_eq]
  refine sim_bind (sim_for (fun _=>True) (fun _=>True) (fun k c hc=>?_) (fun _ h=>h) trivial) fun c hc=>?_
  · refine sim_bind (sim_for (fun _=>True) (fun _=>True) (fun x c hc=>?_) (fun _ h=>h) trivial) fun c hc=>?_
    · dsimp only
      split
      · exact sim_pure trivial
      · refine sim_bind (sim_ltAt (by lia) (by lia)) fun b _=>?_
        match b with
        | none=>exact sim_pure trivial
        | some true=>exact sim_pure trivial
        | some false=>exact sim_pure trivial
    · obtain ⟨r,l,m⟩:=c
      match r with
      | some r=>exact sim_pure trivial
      | none=>exact sim_bind (sim_move (by lia) (by lia)) fun _ _=>sim_pure trivial
  · obtain ⟨r,u⟩:=c
    match r with
    | some r=>exact sim_pure trivial
    | none=>exact sim_pure trivial
noncomputable def low (lo:Nat) (st:SortSt):SortSt:=SortSt.mk' (kindOf st) ((arrOf st).extract lo (arrOf st).size) #[] (gallopOf st) (failedOf st)
end
end TS
set_option maxHeartbeats 1000000
namespace TS
open PySem PyProof.Rows
noncomputable def gallop':Bool→Keyed→Array Keyed→Nat→Nat→Nat→StateT SortSt Sem (Option Nat):=sortPriv% PySem.Builtin.gallop
noncomputable def bey (left:Bool) (key:Keyed) (arr:Array Keyed) (base i:Nat):StateT SortSt Sem (Option Bool):=do
  let z ← elem' arr (base + i)
  if left then lt' z key else return (← lt' key z).map (!·)
theorem gallop'_eq (left:Bool) (key:Keyed) (arr:Array Keyed) (base n hint:Nat):gallop' left key arr base n hint = (do
  let mut u:=0; let mut v:=1; let mut lo:=0; let mut hi:=0
  let some c ← bey left key arr base hint | return none
  if c then
    let top:=n - hint
    for _ in [0:n] do
      if v ≥ top then break
      let some d ← bey left key arr base (hint + v) | return none
      if !d then break
      u:=v; v:=2 * v + 1
    lo:=hint + u + 1; hi:=hint + min v top
  else
    let top:=hint + 1
    for _ in [0:n] do
      if v ≥ top then break
      let some d ← bey left key arr base (hint - v) | return none
      if d then break
      u:=v; v:=2 * v + 1
    lo:=hint + 1 - min v top; hi:=hint - u
  for _ in [0:n] do
    if lo ≥ hi then break
    let m:=lo + (hi - lo) / 2
    let some d ← bey left key arr base m | return none
    if d then lo:=m + 1 else hi:=m
  return some hi):=rfl
noncomputable abbrev ky (x:Keyed):Int:=numOf x.1
noncomputable def gt (left:Bool) (k v:Int):Bool:=if left then decide (v < k) else decide (v ≤ k)
theorem gt_anti {left:Bool} {k v v':Int} (h:v ≤ v') (g:gt left k v' = true):gt left k v = true:=by
  cases left <;> simp [gt] at g ⊢ <;> lia
section
variable {prog:Program} {w:World} {A:Around} {E:Value→Shared→Prop} {s:Shared}
theorem wpS_lt {st:SortSt} {x y:Keyed} {Q:Option Bool→SortSt→Prop} (hk:kindOf st = oneType') (hx:∃ n t,x.1 = .int n t) (hy:∃ n t,y.1 = .int n t) (h:Q (some (decide (ky x < ky y))) st):wpS (model prog w) A E s (lt' x y) Q st:=by
  obtain ⟨a,t,ex⟩:=hx
  obtain ⟨b,u,ey⟩:=hy
  rw [lt'_eq]
  refine wpS_bind (wpS_get ?_)
  rw [hk,keyLt'_oneType,ex,ey]
  refine wpS_bind (wpS_lift (wpAny_attempt (oneLt_int ⟨rfl,?_⟩)))
  refine wpS_pure ?_
  have e1:ky x = a:=by unfold ky; rw [ex]; rfl
  have e2:ky y = b:=by unfold ky; rw [ey]; rfl
  rw [e1,e2] at h
  exact h
theorem wpS_elem {arr:Array Keyed} {i:Nat} {x:Keyed} {st:SortSt} {Q:Keyed→SortSt→Prop} (hi:arr[i]? = some x) (h:Q x st):wpS (model prog w) A E s (elem' arr i) Q st:=by
  rw [elem'_eq,hi]
  exact wpS_pure h
theorem int_at {arr:Array Keyed} (hI:IntKeys arr) {i:Nat} (hi:i < arr.size):∃ x,arr[i]? = some x∧(∃ n t,x.1 = .int n t)∧ky x = K arr i:=by
  refine ⟨arr[i],getElem?_pos _ i hi,hI _ (by simp),?_⟩
  rw [K_eq hi]
theorem wpS_bey {left:Bool} {key:Keyed} {arr:Array Keyed} {base i:Nat} {st:SortSt} {Q:Option Bool→SortSt→Prop} (hk:kindOf st = oneType') (ik:∃ n t,key.1 = .int n t) (hI:IntKeys arr) (hi:base + i < arr.size)
    (h:Q (some (gt left (ky key) (K arr (base + i)))) st):wpS (model prog w) A E s (bey left key arr base i) Q st:=by
  obtain ⟨x,ex,ix,kx⟩:=int_at hI hi
  unfold bey
  refine wpS_bind (wpS_elem ex ?_)
  rw [← kx] at h
  cases left with
  | true =>
    simp only [if_true]
    exact wpS_lt hk ix ik h
  | false =>
    simp only [Bool.false_eq_true,if_false]
    refine wpS_bind (wpS_lt hk ik ix (wpS_pure ?_))
    have e:gt false (ky key) (ky x) = !decide (ky key < ky x):=by
      simp only [gt,Bool.false_eq_true,if_false]
      by_cases c:ky key < ky x
      · rw [decide_eq_true c,decide_eq_false (by lia)]; rfl
      · rw [decide_eq_false c,decide_eq_true (by lia)]; rfl
    rw [e] at h
    exact h
theorem wpS_gallop {left:Bool} {key:Keyed} {arr:Array Keyed} {base n hint:Nat} {st:SortSt} {Q:Option Nat→SortSt→Prop} (hk:kindOf st = oneType') (ik:∃ n t,key.1 = .int n t) (hI:IntKeys arr) (hn:base + n ≤ arr.size) (hh:hint < n)
    (so:∀ i j,i ≤ j→j < n→K arr (base + i) ≤ K arr (base + j))
    (h:∀ k,k ≤ n→(∀ i,i < k→gt left (ky key) (K arr (base + i)) = true)→(∀ i,k ≤ i→i < n→gt left (ky key) (K arr (base + i)) = false)→Q (some k) st):wpS (model prog w) A E s (gallop' left key arr base n hint) Q st:=by
  rw [gallop'_eq]
  generalize hg:(fun i=>gt left (ky key) (K arr (base + i))) = g
  have eg:∀ i,gt left (ky key) (K arr (base + i)) = g i:=fun i=>by rw [← hg]
  have an:∀ i j,i ≤ j→j < n→g j = true→g i = true:=fun i j hij hj gj=>by rw [← eg] at gj ⊢; exact gt_anti (so i j hij hj) gj
  have an':∀ i j,i ≤ j→j < n→g i = false→g j = false:=fun i j hij hj gi=>by
    cases e:g j with
    | false=>rfl
    | true=>rw [an i j hij hj e] at gi; cases gi
  have W:∀ {i:Nat} {Q:Option Bool→SortSt→Prop},i < n→Q (some (g i)) st→wpS (model prog w) A E s (bey left key arr base i) Q st:=fun {i Q} hi hq=>wpS_bey hk ik hI (by lia) (by rw [eg]; exact hq)
  refine wpS_bind (W hh ?_)
  dsimp only
  cases gh:g hint with
  | true =>
    simp only [if_true]
    refine wpS_bind (wpS_mono (wpS_forRange (I:=fun x c st'=>st' = st∧∃ u v,c = (none,u,v)∧u < v∧x + 1 ≤ v∧u < n - hint∧g (hint + u) = true)
      (Q:=fun c st'=>st' = st∧∃ u v,c = (none,u,v)∧u < v∧u < n - hint∧g (hint + u) = true∧(v ≥ n - hint∨g (hint + v) = false)) ?_ ?_ ⟨rfl,0,1,rfl,by lia,by lia,by lia,gh⟩) ?_)
    · rintro x c st' _ hx ⟨rfl,u,v,rfl,h1,h2,h3,h4⟩
      dsimp only
      by_cases hc:v ≥ n - hint
      · rw [if_pos hc]
        exact wpS_pure ⟨rfl,u,v,rfl,h1,h3,h4,.inl hc⟩
      · rw [if_neg hc]
        refine wpS_bind (W (by lia) ?_)
        dsimp only
        cases gm:g (hint + v) with
        | true =>
          simp only [Bool.not_true,Bool.false_eq_true,if_false]
          exact wpS_pure ⟨rfl,_,_,rfl,by lia,by lia,by lia,gm⟩
        | false =>
          simp only [Bool.not_false,if_true]
          exact wpS_pure ⟨rfl,u,v,rfl,h1,h3,h4,.inr gm⟩
    · rintro c st' ⟨rfl,u,v,rfl,h1,h2,h3,h4⟩
      exact ⟨rfl,u,v,rfl,h1,h3,h4,.inl (by lia)⟩
    · rintro c st' ⟨e0,u,v,rfl,h1,h3,h4,h5⟩
      have e0:=e0.symm
      subst e0
      dsimp only
      have k1:hint + u + 1 ≤ hint + min v (n - hint):=by
        lia
      have k2:hint + min v (n - hint) ≤ n:=by
        lia
      have k3:∀ i,i < hint + u + 1→g i = true:=by
        intro i hi
        exact an i _ (by lia) (by lia) h4
      have k4:∀ i,hint + min v (n - hint) ≤ i→i < n→g i = false:=by
        intro i hi hn'
        rcases h5 with h5 | h5
        · lia
        · exact an' _ i (by lia) hn' h5
      generalize hint + u + 1 = lo at k1 k3 ⊢
      generalize hint + min v (n - hint) = hi at k1 k2 k4 ⊢
      clear h1 h3 h4 h5
      refine wpS_bind (wpS_mono (wpS_forRange (I:=fun x c st'=>st' = st∧∃ lo hi,c = (none,lo,hi)∧lo ≤ hi∧hi ≤ n∧hi - lo ≤ n - x∧(∀ i,i < lo→g i = true)∧∀ i,hi ≤ i→i < n→g i = false)
        (Q:=fun c st'=>st' = st∧∃ k,c = (none,k,k)∧k ≤ n∧(∀ i,i < k→g i = true)∧∀ i,k ≤ i→i < n→g i = false) ?_ ?_ ⟨rfl,lo,hi,rfl,k1,k2,by lia,k3,k4⟩) ?_)
      · rintro x c st' _ hx ⟨rfl,lo,hi,rfl,h1,h2,h5,h3,h4⟩
        dsimp only
        by_cases hc:lo ≥ hi
        · rw [if_pos hc]
          have e:lo = hi:=by lia
          subst e
          exact wpS_pure ⟨rfl,lo,rfl,h2,h3,h4⟩
        · rw [if_neg hc]
          refine wpS_bind (W (by lia) ?_)
          dsimp only
          cases gm:g (lo + (hi - lo) / 2) with
          | true =>
            simp only [if_true]
            exact wpS_pure ⟨rfl,_,_,rfl,by lia,h2,by lia,fun i hi'=>an i _ (by lia) (by lia) gm,h4⟩
          | false =>
            simp only [Bool.false_eq_true,if_false]
            exact wpS_pure ⟨rfl,_,_,rfl,by lia,by lia,by lia,h3,fun i hi' hn'=>an' _ i hi' hn' gm⟩
      · rintro c st' ⟨rfl,lo,hi,rfl,h1,h2,h5,h3,h4⟩
        have e:lo = hi:=by lia
        subst e
        exact ⟨rfl,lo,rfl,h2,h3,h4⟩
      · rintro c st' ⟨rfl,k,rfl,h2,h3,h4⟩
        exact wpS_pure (h k h2 (fun i hi=>by rw [eg]; exact h3 i hi) fun i hi hn'=>by rw [eg]; exact h4 i hi hn')
  | false =>
    simp only [Bool.false_eq_true,if_false]
    refine wpS_bind (wpS_mono (wpS_forRange (I:=fun x c st'=>st' = st∧∃ u v,c = (none,u,v)∧u < v∧x + 1 ≤ v∧u < hint + 1∧g (hint - u) = false)
      (Q:=fun c st'=>st' = st∧∃ u v,c = (none,u,v)∧u < v∧u < hint + 1∧g (hint - u) = false∧(v ≥ hint + 1∨g (hint - v) = true)) ?_ ?_ ⟨rfl,0,1,rfl,by lia,by lia,by lia,gh⟩) ?_)
    · rintro x c st' _ hx ⟨rfl,u,v,rfl,h1,h2,h3,h4⟩
      dsimp only
      by_cases hc:v ≥ hint + 1
      · rw [if_pos hc]
        exact wpS_pure ⟨rfl,u,v,rfl,h1,h3,h4,.inl hc⟩
      · rw [if_neg hc]
        refine wpS_bind (W (by lia) ?_)
        dsimp only
        cases gm:g (hint - v) with
        | true =>
          simp only [if_true]
          exact wpS_pure ⟨rfl,u,v,rfl,h1,h3,h4,.inr gm⟩
        | false =>
          simp only [Bool.false_eq_true,if_false]
          exact wpS_pure ⟨rfl,_,_,rfl,by lia,by lia,by lia,gm⟩
    · rintro c st' ⟨rfl,u,v,rfl,h1,h2,h3,h4⟩
      exact ⟨rfl,u,v,rfl,h1,h3,h4,.inl (by lia)⟩
    · rintro c st' ⟨e0,u,v,rfl,h1,h3,h4,h5⟩
      have e0:=e0.symm
      subst e0
      dsimp only
      have k1:hint + 1 - min v (hint + 1) ≤ hint - u:=by
        lia
      have k2:hint - u ≤ n:=by
        lia
      have k3:∀ i,i < hint + 1 - min v (hint + 1)→g i = true:=by
        intro i hi
        rcases h5 with h5 | h5
        · lia
        · exact an i _ (by lia) (by lia) h5
      have k4:∀ i,hint - u ≤ i→i < n→g i = false:=by
        intro i hi hn'
        exact an' _ i (by lia) hn' h4
      generalize hint + 1 - min v (hint + 1) = lo at k1 k3 ⊢
      generalize hint - u = hi at k1 k2 k4 ⊢
      clear h1 h3 h4 h5
      refine wpS_bind (wpS_mono (wpS_forRange (I:=fun x c st'=>st' = st∧∃ lo hi,c = (none,lo,hi)∧lo ≤ hi∧hi ≤ n∧hi - lo ≤ n - x∧(∀ i,i < lo→g i = true)∧∀ i,hi ≤ i→i < n→g i = false)
        (Q:=fun c st'=>st' = st∧∃ k,c = (none,k,k)∧k ≤ n∧(∀ i,i < k→g i = true)∧∀ i,k ≤ i→i < n→g i = false) ?_ ?_ ⟨rfl,lo,hi,rfl,k1,k2,by lia,k3,k4⟩) ?_)
      · rintro x c st' _ hx ⟨rfl,lo,hi,rfl,h1,h2,h5,h3,h4⟩
        dsimp only
        by_cases hc:lo ≥ hi
        · rw [if_pos hc]
          have e:lo = hi:=by lia
          subst e
          exact wpS_pure ⟨rfl,lo,rfl,h2,h3,h4⟩
        · rw [if_neg hc]
          refine wpS_bind (W (by lia) ?_)
          dsimp only
          cases gm:g (lo + (hi - lo) / 2) with
          | true =>
            simp only [if_true]
            exact wpS_pure ⟨rfl,_,_,rfl,by lia,h2,by lia,fun i hi'=>an i _ (by lia) (by lia) gm,h4⟩
          | false =>
            simp only [Bool.false_eq_true,if_false]
            exact wpS_pure ⟨rfl,_,_,rfl,by lia,by lia,by lia,h3,fun i hi' hn'=>an' _ i hi' hn' gm⟩
      · rintro c st' ⟨rfl,lo,hi,rfl,h1,h2,h5,h3,h4⟩
        have e:lo = hi:=by lia
        subst e
        exact ⟨rfl,lo,rfl,h2,h3,h4⟩
      · rintro c st' ⟨rfl,k,rfl,h2,h3,h4⟩
        exact wpS_pure (h k h2 (fun i hi=>by rw [eg]; exact h3 i hi) fun i hi hn'=>by rw [eg]; exact h4 i hi hn')
end
end TS
set_option maxHeartbeats 1000000
namespace TS
open PySem PyProof.Rows
noncomputable def setG':Nat→StateT SortSt Sem Unit:=sortPriv% PySem.Builtin.setMinGallop
noncomputable def mergeLo':Array Keyed→Array Keyed→StateT SortSt Sem (Array Keyed):=sortPriv% PySem.Builtin.mergeLo
noncomputable def mergeHi':Array Keyed→Array Keyed→StateT SortSt Sem (Array Keyed):=sortPriv% PySem.Builtin.mergeHi
noncomputable abbrev dnL (a b out:Array Keyed) (i j:Nat):Array Keyed:=out ++ a.extract i a.size ++ b.extract j b.size
noncomputable abbrev lsL (a b out:Array Keyed) (i j:Nat):Array Keyed:=out ++ b.extract j b.size ++ a.extract i a.size
noncomputable abbrev L1:Type:=Option (Array Keyed)×Array Keyed×Nat×Nat×Nat×Nat
noncomputable abbrev L2:Type:=Option (Array Keyed)×Array Keyed×Nat×Nat×Nat×Nat×Nat
noncomputable abbrev L0:Type:=Option (Array Keyed)×Array Keyed×Nat×Nat×Nat
noncomputable abbrev M':=StateT SortSt Sem
noncomputable def lo1 (a b:Array Keyed) (g:Nat) (o:Array Keyed) (i j m n:Nat):M' (ForInStep L1):=do
  let y ← elem' b j; let x ← elem' a i; let c ← lt' y x
  match c with
  | some c=>(if c = true then (do
      let y ← elem' b j
      if (j + 1 == b.size) = true then pure (.done (some (dnL a b (o.push y) i (j + 1)),o.push y,i,j + 1,0,n + 1)) else if n + 1 ≥ g then pure (.done (none,o.push y,i,j + 1,0,n + 1)) else pure (.yield (none,o.push y,i,j + 1,0,n + 1)))
    else (do
      let x ← elem' a i
      if (i + 1 + 1 == a.size) = true then pure (.done (some (lsL a b (o.push x) (i + 1) j),o.push x,i + 1,j,m + 1,0)) else if m + 1 ≥ g then pure (.done (none,o.push x,i + 1,j,m + 1,0)) else pure (.yield (none,o.push x,i + 1,j,m + 1,0))))
  | _=>pure (.done (some (dnL a b o i j),o,i,j,m,n))
noncomputable def lo2c (a b:Array Keyed) (g m n:Nat) (o:Array Keyed) (i j:Nat):M' (ForInStep L2):=do
  let x ← elem' a i
  if (i + 1 + 1 == a.size) = true then pure (.done (some (lsL a b (o.push x) (i + 1) j),o.push x,i + 1,j,g,m,n)) else if (decide (m < 7) && decide (n < 7)) = true then pure (.done (none,o.push x,i + 1,j,g,m,n)) else pure (.yield (none,o.push x,i + 1,j,g,m,n))
noncomputable def lo2b (a b:Array Keyed) (g m n:Nat) (o:Array Keyed) (i j:Nat):M' (ForInStep L2):=do
  let y ← elem' b j
  if (j + 1 == b.size) = true then pure (.done (some (dnL a b (o.push y) i (j + 1)),o.push y,i,j + 1,g,m,n)) else do
    let x ← elem' a i; let c ← gallop' true x b (j + 1) (b.size - (j + 1)) 0
    match c with
    | some k=>if k > 0 then (if (j + 1 + k == b.size) = true then pure (.done (some (dnL a b (o.push y ++ b.extract (j + 1) (j + 1 + k)) i (j + 1 + k)),o.push y ++ b.extract (j + 1) (j + 1 + k),i,j + 1 + k,g,m,k)) else lo2c a b g m k (o.push y ++ b.extract (j + 1) (j + 1 + k)) i (j + 1 + k)) else lo2c a b g m k (o.push y) i (j + 1)
    | _=>pure (.done (some (dnL a b (o.push y) i (j + 1)),o.push y,i,j + 1,g,m,n))
noncomputable def lo2a (a b:Array Keyed) (g m n:Nat) (o:Array Keyed) (i j:Nat):M' (ForInStep L2):=do
  setG' g
  let y ← elem' b j; let c ← gallop' false y a i (a.size - i) 0
  match c with
  | some k=>if k > 0 then (if (i + k + 1 == a.size) = true then pure (.done (some (lsL a b (o ++ a.extract i (i + k)) (i + k) j),o ++ a.extract i (i + k),i + k,j,g,k,n)) else if (i + k == a.size) = true then pure (.done (some (dnL a b (o ++ a.extract i (i + k)) (i + k) j),o ++ a.extract i (i + k),i + k,j,g,k,n)) else lo2b a b g k n (o ++ a.extract i (i + k)) (i + k) j) else lo2b a b g k n o i j
  | _=>pure (.done (some (dnL a b o i j),o,i,j,g,m,n))
noncomputable def lo0 (a b o:Array Keyed) (i j g:Nat):M' (ForInStep L0):=do
  let c ← forIn [0:a.size + b.size] ((none,o,i,j,0,0):L1) fun _ c=>lo1 a b g c.2.1 c.2.2.1 c.2.2.2.1 c.2.2.2.2.1 c.2.2.2.2.2
  match c.1 with
  | some r=>pure (.done (some r,c.2.1,c.2.2.1,c.2.2.2.1,g))
  | none=>do
    rule "list.sort.gallop"
    let c ← forIn [0:a.size + b.size] ((none,c.2.1,c.2.2.1,c.2.2.2.1,g + 1,c.2.2.2.2.1,c.2.2.2.2.2):L2) fun _ c=>if c.2.2.2.2.1 > 1 then lo2a a b (c.2.2.2.2.1 - 1) c.2.2.2.2.2.1 c.2.2.2.2.2.2 c.2.1 c.2.2.1 c.2.2.2.1 else lo2a a b c.2.2.2.2.1 c.2.2.2.2.2.1 c.2.2.2.2.2.2 c.2.1 c.2.2.1 c.2.2.2.1
    match c.1 with
    | some r=>pure (.done (some r,c.2.1,c.2.2.1,c.2.2.2.1,c.2.2.2.2.1))
    | none=>do
      setG' (c.2.2.2.2.1 + 1)
      pure (.yield (none,c.2.1,c.2.2.1,c.2.2.2.1,c.2.2.2.2.1 + 1))
theorem mergeLo'_eqA (a b:Array Keyed):mergeLo' a b = (do
  rule "list.sort.merge-lo"; let tot:=a.size + b.size
  let mut o:Array Keyed:=#[← elem' b 0]; let mut i:=0; let mut j:=1
  if j == b.size then return dnL a b o i j
  if i + 1 == a.size then return lsL a b o i j
  let mut g:=gallopOf (← get)
  for _ in [0:tot] do
    let mut m:=0; let mut n:=0
    for _ in [0:tot] do
      let some c ← lt' (← elem' b j) (← elem' a i) | return dnL a b o i j
      if c then
        o:=o.push (← elem' b j); j:=j + 1; n:=n + 1; m:=0
        if j == b.size then return dnL a b o i j
        if n ≥ g then break
      else
        o:=o.push (← elem' a i); i:=i + 1; m:=m + 1; n:=0
        if i + 1 == a.size then return lsL a b o i j
        if m ≥ g then break
    rule "list.sort.gallop"; g:=g + 1
    for _ in [0:tot] do
      if g > 1 then g:=g - 1
      setG' g
      let some k ← gallop' false (← elem' b j) a i (a.size - i) 0 | return dnL a b o i j
      m:=k
      if k > 0 then
        o:=o ++ a.extract i (i + k); i:=i + k
        if i + 1 == a.size then return lsL a b o i j
        if i == a.size then return dnL a b o i j
      o:=o.push (← elem' b j); j:=j + 1
      if j == b.size then return dnL a b o i j
      let some k ← gallop' true (← elem' a i) b j (b.size - j) 0 | return dnL a b o i j
      n:=k
      if k > 0 then
        o:=o ++ b.extract j (j + k); j:=j + k
        if j == b.size then return dnL a b o i j
      o:=o.push (← elem' a i); i:=i + 1
      if i + 1 == a.size then return lsL a b o i j
      if m < 7 && n < 7 then break
    g:=g + 1; setG' g
  unsupported "internal:list.sort.merge-bound"):=rfl
theorem mergeLo'_eq (a b:Array Keyed):mergeLo' a b = (do
  rule "list.sort.merge-lo"
  let y ← elem' b 0
  if (1 == b.size) = true then pure (dnL a b #[y] 0 1) else if (0 + 1 == a.size) = true then pure (lsL a b #[y] 0 1) else do
    let g ← get
    let c ← forIn [0:a.size + b.size] ((none,#[y],0,1,gallopOf g):L0) fun _ c=>lo0 a b c.2.1 c.2.2.1 c.2.2.2.1 c.2.2.2.2
    match c.1 with
    | some r=>pure r
    | none=>unsupported "internal:list.sort.merge-bound"):=by
  rw [mergeLo'_eqA]
  refine congrArg (fun f=>_ >>= f) (funext fun _=>?_)
  refine congrArg (fun f=>_ >>= f) (funext fun y=>?_)
  refine ite_congr rfl (fun _=>rfl) fun _=>ite_congr rfl (fun _=>rfl) fun _=>?_
  refine congrArg (fun f=>_ >>= f) (funext fun st=>?_)
  have e:∀ {α β:Type} {m m':M' α} {f f':α→M' β},m = m'→f = f'→m >>= f = m' >>= f':=fun h1 h2=>by rw [h1,h2]
  refine e (congrArg (forIn _ _) (funext fun _=>funext fun c=>?_)) (funext fun c=>?_)
  · obtain ⟨r,o,i,j,g⟩:=c
    unfold lo0
    refine e rfl (funext fun c=>?_)
    obtain ⟨r,o,i,j,m,n⟩:=c
    cases r with
    | some r=>rfl
    | none =>
      refine congrArg (fun f=>_ >>= f) (funext fun _=>?_)
      refine e (congrArg (forIn _ _) (funext fun _=>funext fun c=>?_)) (funext fun c=>?_)
      · obtain ⟨r,o,i,j,g,m,n⟩:=c
        rfl
      · obtain ⟨r,o,i,j,g,m,n⟩:=c
        cases r with
        | some r=>rfl
        | none=>rfl
  · obtain ⟨r,o,i,j,g⟩:=c
    cases r with
    | some r=>rfl
    | none=>rfl
noncomputable abbrev dnH (a b out:Array Keyed) (i j:Nat):Array Keyed:=a.extract 0 i ++ b.extract 0 j ++ out.reverse
noncomputable abbrev fsH (a b out:Array Keyed) (i j:Nat):Array Keyed:=b.extract 0 j ++ a.extract 0 i ++ out.reverse
noncomputable def hi1 (a b:Array Keyed) (g i j:Nat) (o:Array Keyed) (m n:Nat):M' (ForInStep (Option (Array Keyed)×Nat×Nat×Array Keyed×Nat×Nat)):=do
  let y ← elem' b (j - 1); let x ← elem' a (i - 1); let c ← lt' y x
  match c with
  | some c=>(if c = true then (do
      let x ← elem' a (i - 1)
      if (i - 1 == 0) = true then pure (.done (some (dnH a b (o.push x) (i - 1) j),i - 1,j,o.push x,m + 1,0)) else if m + 1 ≥ g then pure (.done (none,i - 1,j,o.push x,m + 1,0)) else pure (.yield (none,i - 1,j,o.push x,m + 1,0)))
    else (do
      let y ← elem' b (j - 1)
      if (j - 1 == 1) = true then pure (.done (some (fsH a b (o.push y) i (j - 1)),i,j - 1,o.push y,0,n + 1)) else if n + 1 ≥ g then pure (.done (none,i,j - 1,o.push y,0,n + 1)) else pure (.yield (none,i,j - 1,o.push y,0,n + 1))))
  | _=>pure (.done (some (dnH a b o i j),i,j,o,m,n))
noncomputable abbrev H2:Type:=Option (Array Keyed)×Nat×Nat×Array Keyed×Nat×Nat×Nat
noncomputable def hi2c (a b:Array Keyed) (g m n i j:Nat) (o:Array Keyed):M' (ForInStep H2):=do
  let x ← elem' a (i - 1)
  if (i - 1 == 0) = true then pure (.done (some (dnH a b (o.push x) (i - 1) j),i - 1,j,o.push x,g,m,n)) else if (decide (m < 7) && decide (n < 7)) = true then pure (.done (none,i - 1,j,o.push x,g,m,n)) else pure (.yield (none,i - 1,j,o.push x,g,m,n))
noncomputable def hi2b (a b:Array Keyed) (g m n i j:Nat) (o:Array Keyed):M' (ForInStep H2):=do
  let y ← elem' b (j - 1)
  if (j - 1 == 1) = true then pure (.done (some (fsH a b (o.push y) i (j - 1)),i,j - 1,o.push y,g,m,n)) else do
    let x ← elem' a (i - 1); let c ← gallop' true x b 0 (j - 1) (j - 1 - 1)
    match c with
    | some t=>if j - 1 - t > 0 then (if (t == 1) = true then pure (.done (some (fsH a b (o.push y ++ (b.extract t (j - 1)).reverse) i t),i,t,o.push y ++ (b.extract t (j - 1)).reverse,g,m,j - 1 - t)) else if (t == 0) = true then pure (.done (some (dnH a b (o.push y ++ (b.extract t (j - 1)).reverse) i t),i,t,o.push y ++ (b.extract t (j - 1)).reverse,g,m,j - 1 - t)) else hi2c a b g m (j - 1 - t) i t (o.push y ++ (b.extract t (j - 1)).reverse)) else hi2c a b g m (j - 1 - t) i (j - 1) (o.push y)
    | _=>pure (.done (some (dnH a b (o.push y) i (j - 1)),i,j - 1,o.push y,g,m,n))
noncomputable def hi2a (a b:Array Keyed) (g m n i j:Nat) (o:Array Keyed):M' (ForInStep H2):=do
  setG' g
  let y ← elem' b (j - 1); let c ← gallop' false y a 0 i (i - 1)
  match c with
  | some t=>if i - t > 0 then (if (t == 0) = true then pure (.done (some (dnH a b (o ++ (a.extract t i).reverse) t j),t,j,o ++ (a.extract t i).reverse,g,i - t,n)) else hi2b a b g (i - t) n t j (o ++ (a.extract t i).reverse)) else hi2b a b g (i - t) n i j o
  | _=>pure (.done (some (dnH a b o i j),i,j,o,g,m,n))
noncomputable def hi0 (a b:Array Keyed) (i j:Nat) (o:Array Keyed) (g:Nat):M' (ForInStep (Option (Array Keyed)×Nat×Nat×Array Keyed×Nat)):=do
  let c ← forIn [0:a.size + b.size] ((none,i,j,o,0,0):Option (Array Keyed)×Nat×Nat×Array Keyed×Nat×Nat) fun _ c=>hi1 a b g c.2.1 c.2.2.1 c.2.2.2.1 c.2.2.2.2.1 c.2.2.2.2.2
  match c.1 with
  | some r=>pure (.done (some r,c.2.1,c.2.2.1,c.2.2.2.1,g))
  | none=>do
    rule "list.sort.gallop"
    let c ← forIn [0:a.size + b.size] ((none,c.2.1,c.2.2.1,c.2.2.2.1,g + 1,c.2.2.2.2.1,c.2.2.2.2.2):H2) fun _ c=>if c.2.2.2.2.1 > 1 then hi2a a b (c.2.2.2.2.1 - 1) c.2.2.2.2.2.1 c.2.2.2.2.2.2 c.2.1 c.2.2.1 c.2.2.2.1 else hi2a a b c.2.2.2.2.1 c.2.2.2.2.2.1 c.2.2.2.2.2.2 c.2.1 c.2.2.1 c.2.2.2.1
    match c.1 with
    | some r=>pure (.done (some r,c.2.1,c.2.2.1,c.2.2.2.1,c.2.2.2.2.1))
    | none=>do
      setG' (c.2.2.2.2.1 + 1)
      pure (.yield (none,c.2.1,c.2.2.1,c.2.2.2.1,c.2.2.2.2.1 + 1))
theorem mergeHi'_eqA (a b:Array Keyed):mergeHi' a b = (do
  rule "list.sort.merge-hi"; let tot:=a.size + b.size
  let mut i:=a.size - 1; let mut j:=b.size; let mut o:Array Keyed:=#[← elem' a i]
  if i == 0 then return dnH a b o i j
  if j == 1 then return fsH a b o i j
  let mut g:=gallopOf (← get)
  for _ in [0:tot] do
    let mut m:=0; let mut n:=0
    for _ in [0:tot] do
      let some c ← lt' (← elem' b (j - 1)) (← elem' a (i - 1)) | return dnH a b o i j
      if c then
        i:=i - 1; o:=o.push (← elem' a i); m:=m + 1; n:=0
        if i == 0 then return dnH a b o i j
        if m ≥ g then break
      else
        j:=j - 1; o:=o.push (← elem' b j); n:=n + 1; m:=0
        if j == 1 then return fsH a b o i j
        if n ≥ g then break
    rule "list.sort.gallop"; g:=g + 1
    for _ in [0:tot] do
      if g > 1 then g:=g - 1
      setG' g
      let some t ← gallop' false (← elem' b (j - 1)) a 0 i (i - 1) | return dnH a b o i j
      let k:=i - t
      m:=k
      if k > 0 then
        o:=o ++ (a.extract t i).reverse; i:=t
        if i == 0 then return dnH a b o i j
      j:=j - 1; o:=o.push (← elem' b j)
      if j == 1 then return fsH a b o i j
      let some t ← gallop' true (← elem' a (i - 1)) b 0 j (j - 1) | return dnH a b o i j
      let k:=j - t
      n:=k
      if k > 0 then
        o:=o ++ (b.extract t j).reverse; j:=t
        if j == 1 then return fsH a b o i j
        if j == 0 then return dnH a b o i j
      i:=i - 1; o:=o.push (← elem' a i)
      if i == 0 then return dnH a b o i j
      if m < 7 && n < 7 then break
    g:=g + 1; setG' g
  unsupported "internal:list.sort.merge-bound"):=rfl
theorem mergeHi'_eq (a b:Array Keyed):mergeHi' a b = (do
  rule "list.sort.merge-hi"
  let x ← elem' a (a.size - 1)
  if (a.size - 1 == 0) = true then pure (dnH a b #[x] (a.size - 1) b.size) else if (b.size == 1) = true then pure (fsH a b #[x] (a.size - 1) b.size) else do
    let g ← get
    let c ← forIn [0:a.size + b.size] ((none,a.size - 1,b.size,#[x],gallopOf g):Option (Array Keyed)×Nat×Nat×Array Keyed×Nat) fun _ c=>hi0 a b c.2.1 c.2.2.1 c.2.2.2.1 c.2.2.2.2
    match c.1 with
    | some r=>pure r
    | none=>unsupported "internal:list.sort.merge-bound"):=by
  rw [mergeHi'_eqA]
  refine congrArg (fun f=>_ >>= f) (funext fun _=>?_)
  refine congrArg (fun f=>_ >>= f) (funext fun y=>?_)
  refine ite_congr rfl (fun _=>rfl) fun _=>ite_congr rfl (fun _=>rfl) fun _=>?_
  refine congrArg (fun f=>_ >>= f) (funext fun st=>?_)
  have e:∀ {α β:Type} {m m':M' α} {f f':α→M' β},m = m'→f = f'→m >>= f = m' >>= f':=fun h1 h2=>by rw [h1,h2]
  refine e (congrArg (forIn _ _) (funext fun _=>funext fun c=>?_)) (funext fun c=>?_)
  · obtain ⟨r,i,j,o,g⟩:=c
    unfold hi0
    refine e rfl (funext fun c=>?_)
    obtain ⟨r,i,j,o,m,n⟩:=c
    cases r with
    | some r=>rfl
    | none =>
      refine congrArg (fun f=>_ >>= f) (funext fun _=>?_)
      refine e (congrArg (forIn _ _) (funext fun _=>funext fun c=>?_)) (funext fun c=>?_)
      · obtain ⟨r,i,j,o,g,m,n⟩:=c
        rfl
      · obtain ⟨r,i,j,o,g,m,n⟩:=c
        cases r with
        | some r=>rfl
        | none=>rfl
  · obtain ⟨r,i,j,o,g⟩:=c
    cases r with
    | some r=>rfl
    | none=>rfl
end TS
set_option maxHeartbeats 1000000
namespace TS
open PySem PyProof.Rows
structure Gq (st st':SortSt):Prop where
  k:kindOf st' = kindOf st
  a:arrOf st' = arrOf st
  p:pendingOf st' = pendingOf st
  f:failedOf st' = failedOf st
theorem Gq.refl (st:SortSt):Gq st st:=⟨rfl,rfl,rfl,rfl⟩
noncomputable def setGal (st:SortSt) (g:Nat):SortSt:=SortSt.mk' (kindOf st) (arrOf st) (pendingOf st) g (failedOf st)
theorem Gq.set {st st':SortSt} (h:Gq st st') (g:Nat):Gq st (setGal st' g):=⟨h.k,h.a,h.p,h.f⟩
theorem setG'_eq (g:Nat):setG' g = modify fun st=>setGal st g:=rfl
theorem K_list {a:Array Keyed} {j:Nat} {x:Keyed} (h:a.toList[j]? = some x):K a j = ky x:=by
  rw [Array.getElem?_toList] at h
  unfold K
  rw [h]
theorem ext_end (a:Array Keyed) (i:Nat):(a.extract i a.size).toList = a.toList.drop i:=by
  rw [Array.toList_extract,List.extract_eq_drop_take,← Array.length_toList,List.take_of_length_le (by rw [List.length_drop]; lia)]
theorem ext_mid (a:Array Keyed) (i k:Nat):(a.extract i (i + k)).toList = (a.toList.drop i).take k:=by
  rw [Array.toList_extract,List.extract_eq_drop_take,Nat.add_sub_cancel_left]
theorem at_list {a:Array Keyed} (hI:IntKeys a) {i:Nat} (hi:i < a.size):∃ x,a[i]? = some x∧(∃ n t,x.1 = .int n t)∧a.toList[i]? = some x∧ky x = K a i:=by
  obtain ⟨x,e,ix,kx⟩:=int_at hI hi
  exact ⟨x,e,ix,by rw [Array.getElem?_toList]; exact e,kx⟩
section
variable {prog:Program} {w:World} {A:Around} {E:Value→Shared→Prop} {s:Shared}
theorem wpS_setG {st:SortSt} {g:Nat} {Q:Unit→SortSt→Prop} (h:Q () (setGal st g)):wpS (model prog w) A E s (setG' g) Q st:=by
  rw [setG'_eq]
  exact wpS_modify h
noncomputable def MFin (a b r:Array Keyed):Prop:=Srt ky r.toList∧r.toList.Perm (a.toList ++ b.toList)
section
variable {a b o:Array Keyed} {i j k:Nat}
theorem lo_done (sa:Srt ky a.toList) (sb:Srt ky b.toList) (h:Mg ky a.toList b.toList o.toList i j) (e:i = a.size∨j = b.size):MFin a b (dnL a b o i j):=by
  have:=h.ends sa sb (by simpa using e)
  rw [← ext_end,← ext_end,← Array.toList_append,← Array.toList_append] at this
  exact this
theorem lo_last (sa:Srt ky a.toList) (sb:Srt ky b.toList) (hl:∀ x ∈ b.toList,ky x ≤ K a (a.size - 1)) (h:Mg ky a.toList b.toList o.toList i j) (e:i + 1 = a.size):MFin a b (lsL a b o i j):=by
  have:=h.finB sa sb fun x hx y hy=>by
    obtain ⟨n,hn,hy⟩:=mem_dr hy
    have hlt:=(List.getElem?_eq_some_iff.mp hy).1
    rw [Array.length_toList] at hlt
    have en:n = a.size - 1:=by lia
    subst en
    rw [← K_list hy]
    exact hl x (List.mem_of_mem_drop hx)
  rw [← ext_end,← ext_end,← Array.toList_append,← Array.toList_append] at this
  exact this
theorem lo_A {x:Keyed} (sa:Srt ky a.toList) (sb:Srt ky b.toList) (h:Mg ky a.toList b.toList o.toList i j) (hi:i < a.size) (hx:a.toList[i]? = some x) (hy:∀ y,b.toList[j]? = some y→ky x ≤ ky y):Mg ky a.toList b.toList (o.push x).toList (i + 1) j:=by
  have:=h.stepA (k:=1) sa (by rw [Array.length_toList]; lia) fun z hz y hy'=>by
    rw [take1 hx,List.mem_singleton] at hz
    subst hz
    obtain ⟨n,hn,hy'⟩:=mem_dr hy'
    have hlt:j < b.toList.length:=by have:=(List.getElem?_eq_some_iff.mp hy').1; lia
    exact Int.le_trans (hy _ (List.getElem?_eq_getElem hlt)) (srt_at sb hn (List.getElem?_eq_getElem hlt) hy')
  rw [take1 hx] at this
  rw [Array.toList_push]
  exact this
theorem lo_B {x:Keyed} (sa:Srt ky a.toList) (sb:Srt ky b.toList) (h:Mg ky a.toList b.toList o.toList i j) (hj:j < b.size) (hx:b.toList[j]? = some x) (hy:∀ y,a.toList[i]? = some y→ky x ≤ ky y):Mg ky a.toList b.toList (o.push x).toList i (j + 1) :=
  (lo_A sb sa h.swap hj hx hy).swap
theorem lo_Ak (sa:Srt ky a.toList) (sb:Srt ky b.toList) (h:Mg ky a.toList b.toList o.toList i j) (hk:i + k ≤ a.size) (hy:∀ n y,n < k→b.toList[j]? = some y→K a (i + n) ≤ ky y):Mg ky a.toList b.toList (o ++ a.extract i (i + k)).toList (i + k) j:=by
  rw [Array.toList_append,ext_mid]
  refine h.stepA sa (by simpa using hk) fun z hz y hy'=>?_
  obtain ⟨m,hm,hz⟩:=mem_dt hz
  obtain ⟨n,hn,hy'⟩:=mem_dr hy'
  have hlt:j < b.toList.length:=by have:=(List.getElem?_eq_some_iff.mp hy').1; lia
  rw [← K_list hz]
  exact Int.le_trans (hy m _ hm (List.getElem?_eq_getElem hlt)) (srt_at sb hn (List.getElem?_eq_getElem hlt) hy')
theorem lo_Bk (sa:Srt ky a.toList) (sb:Srt ky b.toList) (h:Mg ky a.toList b.toList o.toList i j) (hk:j + k ≤ b.size) (hy:∀ n y,n < k→a.toList[i]? = some y→K b (j + n) ≤ ky y):Mg ky a.toList b.toList (o ++ b.extract j (j + k)).toList i (j + k) :=
  (lo_Ak sb sa h.swap hk hy).swap
theorem K_srt (sa:Srt ky a.toList) {m n:Nat} (h:m ≤ n) (hn:n < a.size):K a m ≤ K a n:=by
  have e1:a.toList[m]? = some (a.toList[m]'(by simp; lia)):=List.getElem?_eq_getElem _
  have e2:a.toList[n]? = some (a.toList[n]'(by simp; lia)):=List.getElem?_eq_getElem _
  rw [K_list e1,K_list e2]
  exact srt_at sa h e1 e2
end
theorem gt_f {k v:Int}:gt false k v = true↔v ≤ k:=by simp [gt]
theorem gt_t {k v:Int}:gt true k v = true↔v < k:=by simp [gt]
theorem gt_f' {k v:Int}:gt false k v = false↔k < v:=by simp [gt]
theorem gt_t' {k v:Int}:gt true k v = false↔k ≤ v:=by simp [gt]
structure IvL (a b:Array Keyed) (c0:Nat) (o:Array Keyed) (i j:Nat):Prop where
  m:Mg ky a.toList b.toList o.toList i j
  hi:i + 1 < a.size
  hj:j < b.size
  hc:c0 ≤ i + j
structure AB (a b:Array Keyed):Prop where
  ia:IntKeys a
  ib:IntKeys b
  sa:Srt ky a.toList
  sb:Srt ky b.toList
  na:0 < a.size
  nb:0 < b.size
  h0:K b 0 ≤ K a 0
  hl:∀ x ∈ b.toList,ky x ≤ K a (a.size - 1)
noncomputable def St2 (a b:Array Keyed) (c0:Nat) (st0:SortSt) (r:ForInStep L2) (st:SortSt):Prop:=Gq st0 st∧match r with
  | .done c=>(∃ z,c.1 = some z∧MFin a b z)∨(c.1 = none∧IvL a b c0 c.2.1 c.2.2.1 c.2.2.2.1)
  | .yield c=>c.1 = none∧IvL a b c0 c.2.1 c.2.2.1 c.2.2.2.1
noncomputable def St1 (a b:Array Keyed) (c0:Nat) (st0:SortSt) (r:ForInStep L1) (st:SortSt):Prop:=Gq st0 st∧match r with
  | .done c=>(∃ z,c.1 = some z∧MFin a b z)∨(c.1 = none∧IvL a b c0 c.2.1 c.2.2.1 c.2.2.2.1)
  | .yield c=>c.1 = none∧IvL a b c0 c.2.1 c.2.2.1 c.2.2.2.1
section
variable {a b o:Array Keyed} {i j m n g c0:Nat} {st0 st:SortSt}
theorem wp_lo1 (hk:kindOf st0 = oneType') (z:AB a b) (q:Gq st0 st) (v:IvL a b c0 o i j):wpS (model prog w) A E s (lo1 a b g o i j m n) (St1 a b (c0 + 1) st0) st:=by
  unfold lo1
  obtain ⟨y,ey,iy,ly,ky'⟩:=at_list z.ib v.hj
  obtain ⟨x,ex,ix,lx,kx⟩:=at_list z.ia (show i < a.size by have:=v.hi; lia)
  have vi:=v.hi
  have vj:=v.hj
  have vc:=v.hc
  refine wpS_bind (wpS_elem ey (wpS_bind (wpS_elem ex (wpS_bind (wpS_lt (q.k.trans hk) iy ix ?_)))))
  dsimp only
  by_cases c:ky y < ky x
  · rw [decide_eq_true c,if_pos rfl]
    have M:=lo_B z.sa z.sb v.m v.hj ly fun y' e=>by rw [lx] at e; cases e; lia
    refine wpS_bind (wpS_elem ey ?_)
    by_cases e:j + 1 = b.size
    · rw [if_pos (by simpa using e)]
      exact wpS_pure ⟨q,.inl ⟨_,rfl,lo_done z.sa z.sb M (.inr e)⟩⟩
    · rw [if_neg (by simpa using e)]
      have V:IvL a b (c0 + 1) (o.push y) i (j + 1):=⟨M,vi,by lia,by lia⟩
      split
      · exact wpS_pure ⟨q,.inr ⟨rfl,V⟩⟩
      · exact wpS_pure ⟨q,rfl,V⟩
  · rw [decide_eq_false c,if_neg (by simp)]
    have M:=lo_A z.sa z.sb v.m (by lia) lx fun y' e=>by rw [ly] at e; cases e; lia
    refine wpS_bind (wpS_elem ex ?_)
    by_cases e:i + 1 + 1 = a.size
    · rw [if_pos (by simpa using e)]
      exact wpS_pure ⟨q,.inl ⟨_,rfl,lo_last z.sa z.sb z.hl M e⟩⟩
    · rw [if_neg (by simpa using e)]
      have V:IvL a b (c0 + 1) (o.push x) (i + 1) j:=⟨M,by lia,vj,by lia⟩
      split
      · exact wpS_pure ⟨q,.inr ⟨rfl,V⟩⟩
      · exact wpS_pure ⟨q,rfl,V⟩
theorem wp_lo2c (z:AB a b) (q:Gq st0 st) (v:IvL a b c0 o i j) (hle:K a i ≤ K b j):wpS (model prog w) A E s (lo2c a b g m n o i j) (St2 a b c0 st0) st:=by
  unfold lo2c
  have vi:=v.hi
  have vj:=v.hj
  have vc:=v.hc
  obtain ⟨x,ex,ix,lx,kx⟩:=at_list z.ia (show i < a.size by lia)
  have M:=lo_A z.sa z.sb v.m (by lia) lx fun y' e=>by rw [kx,← K_list e]; exact hle
  refine wpS_bind (wpS_elem ex ?_)
  by_cases e:i + 1 + 1 = a.size
  · rw [if_pos (by simpa using e)]
    exact wpS_pure ⟨q,.inl ⟨_,rfl,lo_last z.sa z.sb z.hl M e⟩⟩
  · rw [if_neg (by simpa using e)]
    have V:IvL a b c0 (o.push x) (i + 1) j:=⟨M,by lia,vj,by lia⟩
    split
    · exact wpS_pure ⟨q,.inr ⟨rfl,V⟩⟩
    · exact wpS_pure ⟨q,rfl,V⟩
theorem wp_lo2b (hk:kindOf st0 = oneType') (z:AB a b) (q:Gq st0 st) (v:IvL a b c0 o i j) (hle:K b j ≤ K a i):wpS (model prog w) A E s (lo2b a b g m n o i j) (St2 a b c0 st0) st:=by
  unfold lo2b
  have vi:=v.hi
  have vj:=v.hj
  have vc:=v.hc
  obtain ⟨y,ey,iy,ly,ky'⟩:=at_list z.ib vj
  obtain ⟨x,ex,ix,lx,kx⟩:=at_list z.ia (show i < a.size by lia)
  have M:=lo_B z.sa z.sb v.m vj ly fun y' e=>by rw [ky',← K_list e]; exact hle
  refine wpS_bind (wpS_elem ey ?_)
  by_cases e:j + 1 = b.size
  · rw [if_pos (by simpa using e)]
    exact wpS_pure ⟨q,.inl ⟨_,rfl,lo_done z.sa z.sb M (.inr e)⟩⟩
  rw [if_neg (by simpa using e)]
  refine wpS_bind (wpS_elem ex (wpS_bind (wpS_gallop (q.k.trans hk) ix z.ib (by lia) (by lia) (fun i' j' h1 h2=>K_srt z.sb (by lia) (by lia)) fun k hk1 hlt hge=>?_)))
  dsimp only
  have M2:=lo_Bk (k:=k) z.sa z.sb M (by lia) fun n' y' hn e=>by
    have:=gt_t.mp (hlt n' hn)
    rw [lx] at e
    cases e
    lia
  by_cases k0:k > 0
  · rw [if_pos k0]
    by_cases e2:j + 1 + k = b.size
    · rw [if_pos (by simpa using e2)]
      exact wpS_pure ⟨q,.inl ⟨_,rfl,lo_done z.sa z.sb M2 (.inr e2)⟩⟩
    · rw [if_neg (by simpa using e2)]
      refine wp_lo2c z q ⟨M2,vi,by lia,by lia⟩ ?_
      have:=gt_t'.mp (hge k (Nat.le_refl _) (by lia))
      lia
  · rw [if_neg k0]
    refine wp_lo2c z q ⟨M,vi,by lia,by lia⟩ ?_
    have:=gt_t'.mp (hge 0 (by lia) (by lia))
    rw [kx] at this
    exact this
theorem wp_lo2a (hk:kindOf st0 = oneType') (z:AB a b) (q:Gq st0 st) (v:IvL a b c0 o i j):wpS (model prog w) A E s (lo2a a b g m n o i j) (St2 a b c0 st0) st:=by
  unfold lo2a
  have vi:=v.hi
  have vj:=v.hj
  have vc:=v.hc
  obtain ⟨y,ey,iy,ly,ky'⟩:=at_list z.ib vj
  refine wpS_bind (wpS_setG ?_)
  have q:=q.set g
  refine wpS_bind (wpS_elem ey (wpS_bind (wpS_gallop (q.k.trans hk) iy z.ia (by lia) (by lia) (fun i' j' h1 h2=>K_srt z.sa (by lia) (by lia)) fun k hk1 hlt hge=>?_)))
  dsimp only
  have M2:=lo_Ak (k:=k) z.sa z.sb v.m (by lia) fun n' y' hn e=>by
    have:=gt_f.mp (hlt n' hn)
    rw [ly] at e
    cases e
    lia
  by_cases k0:k > 0
  · rw [if_pos k0]
    by_cases e2:i + k + 1 = a.size
    · rw [if_pos (by simpa using e2)]
      exact wpS_pure ⟨q,.inl ⟨_,rfl,lo_last z.sa z.sb z.hl M2 e2⟩⟩
    · rw [if_neg (by simpa using e2)]
      by_cases e3:i + k = a.size
      · rw [if_pos (by simpa using e3)]
        exact wpS_pure ⟨q,.inl ⟨_,rfl,lo_done z.sa z.sb M2 (.inl e3)⟩⟩
      · rw [if_neg (by simpa using e3)]
        refine wp_lo2b hk z q ⟨M2,by lia,vj,by lia⟩ ?_
        have:=gt_f'.mp (hge k (Nat.le_refl _) (by lia))
        lia
  · rw [if_neg k0]
    refine wp_lo2b hk z q ⟨v.m,vi,vj,vc⟩ ?_
    have:=gt_f'.mp (hge 0 (by lia) (by lia))
    rw [ky',Nat.add_zero] at this
    lia
noncomputable def St0 (a b:Array Keyed) (c0:Nat) (st0:SortSt) (r:ForInStep L0) (st:SortSt):Prop:=Gq st0 st∧match r with
  | .done c=>∃ z,c.1 = some z∧MFin a b z
  | .yield c=>c.1 = none∧IvL a b c0 c.2.1 c.2.2.1 c.2.2.2.1
theorem wp_lo0 (hk:kindOf st0 = oneType') (z:AB a b) (q:Gq st0 st) (v:IvL a b c0 o i j):wpS (model prog w) A E s (lo0 a b o i j g) (St0 a b (c0 + 1) st0) st:=by
  unfold lo0
  refine wpS_bind (wpS_mono (wpS_forRange (I:=fun x c st'=>Gq st0 st'∧c.1 = none∧IvL a b (c0 + x) c.2.1 c.2.2.1 c.2.2.2.1)
    (Q:=fun c st'=>Gq st0 st'∧((∃ z,c.1 = some z∧MFin a b z)∨(c.1 = none∧IvL a b (c0 + 1) c.2.1 c.2.2.1 c.2.2.2.1))) ?_ ?_ ⟨q,rfl,v⟩) ?_)
  · rintro x c st' _ hx ⟨q,hc,v⟩
    refine wpS_mono (wp_lo1 hk z q v) ?_
    rintro r st'' ⟨q,hr⟩
    cases r with
    | done c=>exact ⟨q,hr.imp id fun h=>⟨h.1,h.2.m,h.2.hi,h.2.hj,by have:=h.2.hc; lia⟩⟩
    | yield c=>exact ⟨q,hr.1,hr.2.m,hr.2.hi,hr.2.hj,by have:=hr.2.hc; lia⟩
  · rintro c st' ⟨q,hc,v⟩
    have:=z.na
    exact ⟨q,.inr ⟨hc,v.m,v.hi,v.hj,by have:=v.hc; lia⟩⟩
  · rintro c st' ⟨q,hc⟩
    obtain ⟨r,o,i,j,m,n⟩:=c
    rcases hc with ⟨y,rfl,hy⟩ | ⟨rfl,v⟩
    · exact wpS_pure ⟨q,y,rfl,hy⟩
    dsimp only at v ⊢
    refine wpS_bind (wpS_lift (wpAny_rule ⟨rfl,?_⟩))
    refine wpS_bind (wpS_mono (wpS_forRange (I:=fun x c st'=>Gq st0 st'∧c.1 = none∧IvL a b (c0 + 1) c.2.1 c.2.2.1 c.2.2.2.1)
      (Q:=fun c st'=>Gq st0 st'∧((∃ z,c.1 = some z∧MFin a b z)∨(c.1 = none∧IvL a b (c0 + 1) c.2.1 c.2.2.1 c.2.2.2.1))) ?_ ?_ ⟨q,rfl,v⟩) ?_)
    · rintro x c st' _ hx ⟨q,hc,v⟩
      have:=fun g=>wp_lo2a (prog:=prog) (w:=w) (A:=A) (E:=E) (s:=s) (m:=c.2.2.2.2.2.1) (n:=c.2.2.2.2.2.2) (g:=g) hk z q v
      split
      · refine wpS_mono (this _) ?_
        rintro r st'' ⟨q,hr⟩
        cases r with
        | done c=>exact ⟨q,hr⟩
        | yield c=>exact ⟨q,hr⟩
      · refine wpS_mono (this _) ?_
        rintro r st'' ⟨q,hr⟩
        cases r with
        | done c=>exact ⟨q,hr⟩
        | yield c=>exact ⟨q,hr⟩
    · rintro c st' ⟨q,hc,v⟩
      exact ⟨q,.inr ⟨hc,v⟩⟩
    · rintro c st' ⟨q,hc⟩
      obtain ⟨r,o,i,j,g,m,n⟩:=c
      rcases hc with ⟨y,rfl,hy⟩ | ⟨rfl,v⟩
      · exact wpS_pure ⟨q,y,rfl,hy⟩
      exact wpS_bind (wpS_setG (wpS_pure ⟨q.set _,rfl,v⟩))
end
theorem wpS_mergeLo {a b:Array Keyed} {st:SortSt} {Q:Array Keyed→SortSt→Prop} (hk:kindOf st = oneType') (z:AB a b) (h:∀ st' r,Gq st st'→MFin a b r→Q r st'):wpS (model prog w) A E s (mergeLo' a b) Q st:=by
  rw [mergeLo'_eq]
  refine wpS_bind (wpS_lift (wpAny_rule ⟨rfl,?_⟩))
  obtain ⟨x0,e0,i0,l0,k0⟩:=at_list z.ib z.nb
  refine wpS_bind (wpS_elem e0 ?_)
  have M0:Mg ky a.toList b.toList (#[x0]:Array Keyed).toList 0 1:=by
    have:=lo_B (o:=#[]) (i:=0) (j:=0) z.sa z.sb ⟨Nat.zero_le _,Nat.zero_le _,List.Pairwise.nil,by simp,fun _ h=>by simp at h,fun _ h=>by simp at h⟩ z.nb l0 fun y hy=>by rw [k0,← K_list hy]; exact z.h0
    exact this
  have nb:=z.nb
  have na:=z.na
  by_cases e1:1 = b.size
  · rw [if_pos (by simpa using e1)]
    exact wpS_pure (h _ _ (Gq.refl _) (lo_done z.sa z.sb M0 (.inr e1)))
  rw [if_neg (by simpa using e1)]
  by_cases e2:0 + 1 = a.size
  · rw [if_pos (by simpa using e2)]
    exact wpS_pure (h _ _ (Gq.refl _) (lo_last z.sa z.sb z.hl M0 e2))
  rw [if_neg (by simpa using e2)]
  have V0:IvL a b (0 + 1) #[x0] 0 1:=⟨M0,by lia,by lia,by lia⟩
  refine wpS_bind (wpS_get ?_)
  refine wpS_bind (wpS_mono (wpS_forRange (I:=fun x c st'=>Gq st st'∧c.1 = none∧IvL a b (x + 1) c.2.1 c.2.2.1 c.2.2.2.1)
    (Q:=fun c st'=>Gq st st'∧∃ z,c.1 = some z∧MFin a b z) ?_ ?_ ⟨Gq.refl _,rfl,V0⟩) ?_)
  · rintro x c st' _ hx ⟨q,hc,v⟩
    refine wpS_mono (wp_lo0 hk z q v) ?_
    rintro r st'' ⟨q,hr⟩
    cases r with
    | done c=>exact ⟨q,hr⟩
    | yield c=>exact ⟨q,hr⟩
  · rintro c st' ⟨q,hc,v⟩
    have h1:=v.hc
    have h2:=v.hi
    have h3:=v.hj
    lia
  · rintro c st' ⟨q,y,hc,hy⟩
    rw [hc]
    exact wpS_pure (h _ _ q hy)
end
end TS
set_option maxHeartbeats 1000000
namespace TS
open PySem PyProof.Rows
noncomputable abbrev kn (x:Keyed):Int:=- ky x
section
variable {a b o:Array Keyed} {i j t:Nat}
theorem rev_srt {l:List Keyed} (h:Srt ky l):Srt kn l.reverse:=by
  unfold Srt
  rw [List.pairwise_reverse]
  exact List.Pairwise.imp (fun h=>by show - _ ≤ - _; lia) h
theorem srt_rev {l:List Keyed} (h:Srt kn l):Srt ky l.reverse:=by
  unfold Srt
  rw [List.pairwise_reverse]
  exact List.Pairwise.imp (fun h=>by have h:- _ ≤ - _:=h; lia) h
noncomputable abbrev MH (a b o:Array Keyed) (i j:Nat):Prop:=Mg kn a.toList.reverse b.toList.reverse o.toList (a.size - i) (b.size - j)
theorem take_ext (a:Array Keyed) (i:Nat):(a.extract 0 i).toList = a.toList.take i:=by
  rw [Array.toList_extract,List.extract_eq_drop_take]
  simp
theorem drop_rev {a:Array Keyed} {i:Nat} (hi:i ≤ a.size):a.toList.reverse.drop (a.size - i) = (a.toList.take i).reverse:=by
  rw [← Array.length_toList,List.drop_reverse]
  congr 2
  rw [Array.length_toList]
  lia
theorem fin_of {r:Array Keyed} {l:List Keyed} (e:r.toList = l.reverse) (h:Srt kn l∧l.Perm (a.toList.reverse ++ b.toList.reverse)):MFin a b r:=by
  unfold MFin
  rw [e]
  refine ⟨srt_rev h.1,?_⟩
  refine (List.reverse_perm _).trans (h.2.trans ?_)
  exact (List.reverse_perm _).append (List.reverse_perm _)
theorem hi_done (sa:Srt ky a.toList) (sb:Srt ky b.toList) (hi:i ≤ a.size) (hj:j ≤ b.size) (h:MH a b o i j) (e:i = 0∨j = 0):MFin a b (dnH a b o i j):=by
  have:=h.swap.ends (rev_srt sb) (rev_srt sa) (by
    rw [List.length_reverse,List.length_reverse,Array.length_toList,Array.length_toList]
    lia)
  rw [drop_rev hi,drop_rev hj] at this
  refine fin_of ?_ ⟨this.1,this.2.trans List.perm_append_comm⟩
  rw [Array.toList_append,Array.toList_append,take_ext,take_ext,Array.toList_reverse]
  simp
theorem hi_first (sa:Srt ky a.toList) (sb:Srt ky b.toList) (h0:K b 0 ≤ K a 0) (hi:i ≤ a.size) (hj:j ≤ b.size) (h:MH a b o i j) (e:j = 1):MFin a b (fsH a b o i j):=by
  have:=h.fin (rev_srt sa) (rev_srt sb) fun x hx y hy=>by
    rw [drop_rev hi,List.mem_reverse] at hx
    rw [drop_rev hj,List.mem_reverse,e] at hy
    obtain ⟨n,hn⟩:=List.mem_iff_getElem?.mp (List.mem_of_mem_take hx)
    obtain ⟨m,hm⟩:=List.mem_iff_getElem?.mp hy
    rw [List.getElem?_take] at hm
    split at hm
    · have em:m = 0:=by lia
      subst em
      have hl:=(List.getElem?_eq_some_iff.mp hn).1
      rw [Array.length_toList] at hl
      have:=K_srt sa (Nat.zero_le n) hl
      rw [K_list hn] at this
      rw [K_list hm] at h0
      show - _ ≤ - _
      lia
    · cases hm
  rw [drop_rev hi,drop_rev hj] at this
  refine fin_of ?_ this
  rw [Array.toList_append,Array.toList_append,take_ext,take_ext,Array.toList_reverse]
  simp
theorem rev_at {a:Array Keyed} {i:Nat} (h0:0 < i) (hi:i ≤ a.size):a.toList.reverse[a.size - i]? = a.toList[i - 1]?:=by
  rw [List.getElem?_reverse (by rw [Array.length_toList]; lia),Array.length_toList]
  congr 1
  lia
theorem hi_A {x:Keyed} (sa:Srt ky a.toList) (sb:Srt ky b.toList) (h:MH a b o i j) (h0:0 < i) (hi:i ≤ a.size) (hj:j ≤ b.size) (hx:a.toList[i - 1]? = some x) (hy:0 < j→K b (j - 1) ≤ ky x):MH a b (o.push x) (i - 1) j:=by
  have hx':a.toList.reverse[a.size - i]? = some x:=by rw [rev_at h0 hi]; exact hx
  have:=h.stepA (k:=1) (rev_srt sa) (by rw [List.length_reverse,Array.length_toList]; lia) fun z hz y hy'=>by
    rw [take1 hx',List.mem_singleton] at hz
    subst hz
    rw [drop_rev hj,List.mem_reverse] at hy'
    obtain ⟨n,hn⟩:=List.mem_iff_getElem?.mp hy'
    rw [List.getElem?_take] at hn
    split at hn
    · rename_i hlt
      have:=K_srt sb (show n ≤ j - 1 by lia) (by lia)
      rw [K_list hn] at this
      have:=hy (by lia)
      show - _ ≤ - _
      lia
    · cases hn
  rw [take1 hx'] at this
  show Mg _ _ _ (o.push x).toList (a.size - (i - 1)) _
  rw [Array.toList_push,show a.size - (i - 1) = a.size - i + 1 by lia]
  exact this
theorem hi_B {x:Keyed} (sa:Srt ky a.toList) (sb:Srt ky b.toList) (h:MH a b o i j) (h0:0 < j) (hi:i ≤ a.size) (hj:j ≤ b.size) (hx:b.toList[j - 1]? = some x) (hy:0 < i→K a (i - 1) ≤ ky x):MH a b (o.push x) i (j - 1) :=
  (hi_A sb sa h.swap h0 hj hi hx hy).swap
theorem ext_rev {a:Array Keyed} {t i:Nat} (hi:i ≤ a.size):(a.extract t i).reverse.toList = (a.toList.reverse.drop (a.size - i)).take (i - t):=by
  rw [drop_rev hi,Array.toList_reverse,Array.toList_extract,List.extract_eq_drop_take,List.take_reverse]
  congr 1
  rw [List.length_take,Array.length_toList,List.drop_take]
  by_cases h:t ≤ i
  · rw [show min i a.size - (i - t) = t by lia]
  · rw [show i - t = 0 by lia,List.take_zero]
    rw [show i - (min i a.size - 0) = 0 by lia,List.take_zero]
theorem hi_Ak (sa:Srt ky a.toList) (sb:Srt ky b.toList) (h:MH a b o i j) (ht:t ≤ i) (hi:i ≤ a.size) (hj:j ≤ b.size) (hy:∀ n,t ≤ n→n < i→0 < j→K b (j - 1) ≤ K a n):MH a b (o ++ (a.extract t i).reverse) t j:=by
  show Mg _ _ _ (o ++ (a.extract t i).reverse).toList (a.size - t) _
  rw [Array.toList_append,ext_rev hi,show a.size - t = a.size - i + (i - t) by lia]
  refine h.stepA (rev_srt sa) (by rw [List.length_reverse,Array.length_toList]; lia) fun z hz y hy'=>?_
  obtain ⟨m,hm,hz⟩:=mem_dt hz
  rw [List.getElem?_reverse (by rw [Array.length_toList]; lia),Array.length_toList] at hz
  rw [drop_rev hj,List.mem_reverse] at hy'
  obtain ⟨n,hn⟩:=List.mem_iff_getElem?.mp hy'
  rw [List.getElem?_take] at hn
  split at hn
  · rename_i hlt
    have h1:=K_srt sb (show n ≤ j - 1 by lia) (by lia)
    rw [K_list hn] at h1
    have h2:=hy (a.size - 1 - (a.size - i + m)) (by lia) (by lia) (by lia)
    rw [K_list hz] at h2
    show - _ ≤ - _
    lia
  · cases hn
theorem hi_Bk (sa:Srt ky a.toList) (sb:Srt ky b.toList) (h:MH a b o i j) (ht:t ≤ j) (hi:i ≤ a.size) (hj:j ≤ b.size) (hy:∀ n,t ≤ n→n < j→0 < i→K a (i - 1) ≤ K b n):MH a b (o ++ (b.extract t j).reverse) i t :=
  (hi_Ak sb sa h.swap ht hj hi hy).swap
end
end TS
set_option maxHeartbeats 1000000
namespace TS
open PySem PyProof.Rows
structure IvH (a b:Array Keyed) (c0:Nat) (o:Array Keyed) (i j:Nat):Prop where
  m:MH a b o i j
  hi:0 < i
  hj:1 < j
  la:i ≤ a.size
  lb:j ≤ b.size
  hc:c0 + i + j ≤ a.size + b.size
noncomputable abbrev H1:Type:=Option (Array Keyed)×Nat×Nat×Array Keyed×Nat×Nat
noncomputable abbrev H0:Type:=Option (Array Keyed)×Nat×Nat×Array Keyed×Nat
noncomputable def Th2 (a b:Array Keyed) (c0:Nat) (st0:SortSt) (r:ForInStep H2) (st:SortSt):Prop:=Gq st0 st∧match r with
  | .done c=>(∃ z,c.1 = some z∧MFin a b z)∨(c.1 = none∧IvH a b c0 c.2.2.2.1 c.2.1 c.2.2.1)
  | .yield c=>c.1 = none∧IvH a b c0 c.2.2.2.1 c.2.1 c.2.2.1
noncomputable def Th1 (a b:Array Keyed) (c0:Nat) (st0:SortSt) (r:ForInStep H1) (st:SortSt):Prop:=Gq st0 st∧match r with
  | .done c=>(∃ z,c.1 = some z∧MFin a b z)∨(c.1 = none∧IvH a b c0 c.2.2.2.1 c.2.1 c.2.2.1)
  | .yield c=>c.1 = none∧IvH a b c0 c.2.2.2.1 c.2.1 c.2.2.1
noncomputable def Th0 (a b:Array Keyed) (c0:Nat) (st0:SortSt) (r:ForInStep H0) (st:SortSt):Prop:=Gq st0 st∧match r with
  | .done c=>∃ z,c.1 = some z∧MFin a b z
  | .yield c=>c.1 = none∧IvH a b c0 c.2.2.2.1 c.2.1 c.2.2.1
section
variable {prog:Program} {w:World} {A:Around} {E:Value→Shared→Prop} {s:Shared}
section
variable {a b o:Array Keyed} {i j m n g c0:Nat} {st0 st:SortSt}
theorem wp_hi1 (hk:kindOf st0 = oneType') (z:AB a b) (q:Gq st0 st) (v:IvH a b c0 o i j):wpS (model prog w) A E s (hi1 a b g i j o m n) (Th1 a b (c0 + 1) st0) st:=by
  unfold hi1
  obtain ⟨vm,vi,vj,va,vb,vc⟩:=v
  obtain ⟨y,ey,iy,ly,ky'⟩:=at_list z.ib (show j - 1 < b.size by lia)
  obtain ⟨x,ex,ix,lx,kx⟩:=at_list z.ia (show i - 1 < a.size by lia)
  refine wpS_bind (wpS_elem ey (wpS_bind (wpS_elem ex (wpS_bind (wpS_lt (q.k.trans hk) iy ix ?_)))))
  dsimp only
  by_cases c:ky y < ky x
  · rw [decide_eq_true c,if_pos rfl]
    have M:=hi_A z.sa z.sb vm vi va vb lx fun _=>by lia
    refine wpS_bind (wpS_elem ex ?_)
    by_cases e:i - 1 = 0
    · rw [if_pos (by simpa using e)]
      exact wpS_pure ⟨q,.inl ⟨_,rfl,hi_done z.sa z.sb (by lia) vb M (.inl e)⟩⟩
    · rw [if_neg (by simpa using e)]
      have V:IvH a b (c0 + 1) (o.push x) (i - 1) j:=⟨M,by lia,vj,by lia,vb,by lia⟩
      split
      · exact wpS_pure ⟨q,.inr ⟨rfl,V⟩⟩
      · exact wpS_pure ⟨q,rfl,V⟩
  · rw [decide_eq_false c,if_neg (by simp)]
    have M:=hi_B z.sa z.sb vm (by lia) va vb ly fun _=>by lia
    refine wpS_bind (wpS_elem ey ?_)
    by_cases e:j - 1 = 1
    · rw [if_pos (by simpa using e)]
      exact wpS_pure ⟨q,.inl ⟨_,rfl,hi_first z.sa z.sb z.h0 va (by lia) M e⟩⟩
    · rw [if_neg (by simpa using e)]
      have V:IvH a b (c0 + 1) (o.push y) i (j - 1):=⟨M,vi,by lia,va,by lia,by lia⟩
      split
      · exact wpS_pure ⟨q,.inr ⟨rfl,V⟩⟩
      · exact wpS_pure ⟨q,rfl,V⟩
theorem wp_hi2c (z:AB a b) (q:Gq st0 st) (v:IvH a b c0 o i j) (hle:K b (j - 1) ≤ K a (i - 1)):wpS (model prog w) A E s (hi2c a b g m n i j o) (Th2 a b c0 st0) st:=by
  unfold hi2c
  obtain ⟨vm,vi,vj,va,vb,vc⟩:=v
  obtain ⟨x,ex,ix,lx,kx⟩:=at_list z.ia (show i - 1 < a.size by lia)
  have M:=hi_A z.sa z.sb vm vi va vb lx fun _=>by lia
  refine wpS_bind (wpS_elem ex ?_)
  by_cases e:i - 1 = 0
  · rw [if_pos (by simpa using e)]
    exact wpS_pure ⟨q,.inl ⟨_,rfl,hi_done z.sa z.sb (by lia) vb M (.inl e)⟩⟩
  · rw [if_neg (by simpa using e)]
    have V:IvH a b c0 (o.push x) (i - 1) j:=⟨M,by lia,vj,by lia,vb,by lia⟩
    split
    · exact wpS_pure ⟨q,.inr ⟨rfl,V⟩⟩
    · exact wpS_pure ⟨q,rfl,V⟩
theorem wp_hi2b (hk:kindOf st0 = oneType') (z:AB a b) (q:Gq st0 st) (v:IvH a b c0 o i j) (hle:K a (i - 1) ≤ K b (j - 1)):wpS (model prog w) A E s (hi2b a b g m n i j o) (Th2 a b c0 st0) st:=by
  unfold hi2b
  obtain ⟨vm,vi,vj,va,vb,vc⟩:=v
  obtain ⟨y,ey,iy,ly,ky'⟩:=at_list z.ib (show j - 1 < b.size by lia)
  obtain ⟨x,ex,ix,lx,kx⟩:=at_list z.ia (show i - 1 < a.size by lia)
  have M:=hi_B z.sa z.sb vm (by lia) va vb ly fun _=>by lia
  refine wpS_bind (wpS_elem ey ?_)
  by_cases e:j - 1 = 1
  · rw [if_pos (by simpa using e)]
    exact wpS_pure ⟨q,.inl ⟨_,rfl,hi_first z.sa z.sb z.h0 va (by lia) M e⟩⟩
  rw [if_neg (by simpa using e)]
  refine wpS_bind (wpS_elem ex (wpS_bind (wpS_gallop (q.k.trans hk) ix z.ib (by lia) (by lia) (fun i' j' h1 h2=>K_srt z.sb (by lia) (by lia)) fun t ht hlt hge=>?_)))
  simp only [Nat.zero_add] at hlt hge
  dsimp only
  have M2:=hi_Bk (t:=t) z.sa z.sb M ht va (by lia) fun n' h1 h2 _=>by
    have:=gt_t'.mp (hge n' h1 h2)
    lia
  have hlast:0 < t→K b (t - 1) ≤ K a (i - 1):=fun h=>by
    have:=gt_t.mp (hlt (t - 1) (by lia))
    lia
  by_cases k0:j - 1 - t > 0
  · rw [if_pos k0]
    by_cases e2:t = 1
    · rw [if_pos (by simpa using e2)]
      exact wpS_pure ⟨q,.inl ⟨_,rfl,hi_first z.sa z.sb z.h0 va (by lia) M2 e2⟩⟩
    · rw [if_neg (by simpa using e2)]
      by_cases e3:t = 0
      · rw [if_pos (by simpa using e3)]
        exact wpS_pure ⟨q,.inl ⟨_,rfl,hi_done z.sa z.sb va (by lia) M2 (.inr e3)⟩⟩
      · rw [if_neg (by simpa using e3)]
        exact wp_hi2c z q ⟨M2,vi,by lia,va,by lia,by lia⟩ (hlast (by lia))
  · rw [if_neg k0]
    have et:t = j - 1:=by lia
    exact wp_hi2c z q ⟨M,vi,by lia,va,by lia,by lia⟩ (by rw [← et]; exact hlast (by lia))
theorem wp_hi2a (hk:kindOf st0 = oneType') (z:AB a b) (q:Gq st0 st) (v:IvH a b c0 o i j):wpS (model prog w) A E s (hi2a a b g m n i j o) (Th2 a b c0 st0) st:=by
  unfold hi2a
  obtain ⟨vm,vi,vj,va,vb,vc⟩:=v
  obtain ⟨y,ey,iy,ly,ky'⟩:=at_list z.ib (show j - 1 < b.size by lia)
  refine wpS_bind (wpS_setG ?_)
  have q:=q.set g
  refine wpS_bind (wpS_elem ey (wpS_bind (wpS_gallop (q.k.trans hk) iy z.ia (by lia) (by lia) (fun i' j' h1 h2=>K_srt z.sa (by lia) (by lia)) fun t ht hlt hge=>?_)))
  simp only [Nat.zero_add] at hlt hge
  dsimp only
  have M2:=hi_Ak (t:=t) z.sa z.sb vm ht va vb fun n' h1 h2 _=>by
    have:=gt_f'.mp (hge n' h1 h2)
    lia
  have hlast:0 < t→K a (t - 1) ≤ K b (j - 1):=fun h=>by
    have:=gt_f.mp (hlt (t - 1) (by lia))
    lia
  by_cases k0:i - t > 0
  · rw [if_pos k0]
    by_cases e2:t = 0
    · rw [if_pos (by simpa using e2)]
      exact wpS_pure ⟨q,.inl ⟨_,rfl,hi_done z.sa z.sb (by lia) vb M2 (.inl e2)⟩⟩
    · rw [if_neg (by simpa using e2)]
      exact wp_hi2b hk z q ⟨M2,by lia,vj,by lia,vb,by lia⟩ (hlast (by lia))
  · rw [if_neg k0]
    have et:t = i:=by lia
    exact wp_hi2b hk z q ⟨vm,vi,vj,va,vb,vc⟩ (by rw [← et]; exact hlast (by lia))
theorem wp_hi0 (hk:kindOf st0 = oneType') (z:AB a b) (q:Gq st0 st) (v:IvH a b c0 o i j):wpS (model prog w) A E s (hi0 a b i j o g) (Th0 a b (c0 + 1) st0) st:=by
  unfold hi0
  refine wpS_bind (wpS_mono (wpS_forRange (I:=fun x c st'=>Gq st0 st'∧c.1 = none∧IvH a b (c0 + x) c.2.2.2.1 c.2.1 c.2.2.1)
    (Q:=fun c st'=>Gq st0 st'∧((∃ z,c.1 = some z∧MFin a b z)∨(c.1 = none∧IvH a b (c0 + 1) c.2.2.2.1 c.2.1 c.2.2.1))) ?_ ?_ ⟨q,rfl,v⟩) ?_)
  · rintro x c st' _ hx ⟨q,hc,v⟩
    refine wpS_mono (wp_hi1 hk z q v) ?_
    rintro r st'' ⟨q,hr⟩
    cases r with
    | done c=>exact ⟨q,hr.imp id fun h=>⟨h.1,h.2.m,h.2.hi,h.2.hj,h.2.la,h.2.lb,by have:=h.2.hc; lia⟩⟩
    | yield c=>exact ⟨q,hr.1,hr.2.m,hr.2.hi,hr.2.hj,hr.2.la,hr.2.lb,by have:=hr.2.hc; lia⟩
  · rintro c st' ⟨q,hc,v⟩
    have:=z.na
    exact ⟨q,.inr ⟨hc,v.m,v.hi,v.hj,v.la,v.lb,by have:=v.hc; lia⟩⟩
  · rintro c st' ⟨q,hc⟩
    obtain ⟨r,i,j,o,m,n⟩:=c
    rcases hc with ⟨y,rfl,hy⟩ | ⟨rfl,v⟩
    · exact wpS_pure ⟨q,y,rfl,hy⟩
    dsimp only at v ⊢
    refine wpS_bind (wpS_lift (wpAny_rule ⟨rfl,?_⟩))
    refine wpS_bind (wpS_mono (wpS_forRange (I:=fun x c st'=>Gq st0 st'∧c.1 = none∧IvH a b (c0 + 1) c.2.2.2.1 c.2.1 c.2.2.1)
      (Q:=fun c st'=>Gq st0 st'∧((∃ z,c.1 = some z∧MFin a b z)∨(c.1 = none∧IvH a b (c0 + 1) c.2.2.2.1 c.2.1 c.2.2.1))) ?_ ?_ ⟨q,rfl,v⟩) ?_)
    · rintro x c st' _ hx ⟨q,hc,v⟩
      have:=fun g=>wp_hi2a (prog:=prog) (w:=w) (A:=A) (E:=E) (s:=s) (m:=c.2.2.2.2.2.1) (n:=c.2.2.2.2.2.2) (g:=g) hk z q v
      split
      · refine wpS_mono (this _) ?_
        rintro r st'' ⟨q,hr⟩
        cases r with
        | done c=>exact ⟨q,hr⟩
        | yield c=>exact ⟨q,hr⟩
      · refine wpS_mono (this _) ?_
        rintro r st'' ⟨q,hr⟩
        cases r with
        | done c=>exact ⟨q,hr⟩
        | yield c=>exact ⟨q,hr⟩
    · rintro c st' ⟨q,hc,v⟩
      exact ⟨q,.inr ⟨hc,v⟩⟩
    · rintro c st' ⟨q,hc⟩
      obtain ⟨r,i,j,o,g,m,n⟩:=c
      rcases hc with ⟨y,rfl,hy⟩ | ⟨rfl,v⟩
      · exact wpS_pure ⟨q,y,rfl,hy⟩
      exact wpS_bind (wpS_setG (wpS_pure ⟨q.set _,rfl,v⟩))
end
theorem wpS_mergeHi {a b:Array Keyed} {st:SortSt} {Q:Array Keyed→SortSt→Prop} (hk:kindOf st = oneType') (z:AB a b) (h:∀ st' r,Gq st st'→MFin a b r→Q r st'):wpS (model prog w) A E s (mergeHi' a b) Q st:=by
  rw [mergeHi'_eq]
  refine wpS_bind (wpS_lift (wpAny_rule ⟨rfl,?_⟩))
  have nb:=z.nb
  have na:=z.na
  obtain ⟨x0,e0,i0,l0,k0⟩:=at_list z.ia (show a.size - 1 < a.size by lia)
  refine wpS_bind (wpS_elem e0 ?_)
  have M0:MH a b #[x0] (a.size - 1) b.size:=by
    refine hi_A (o:=#[]) (i:=a.size) z.sa z.sb ⟨by rw [Nat.sub_self]; exact Nat.zero_le _,by rw [Nat.sub_self]; exact Nat.zero_le _,List.Pairwise.nil,by simp,fun _ h=>by simp at h,fun _ h=>by simp at h⟩ na (Nat.le_refl _) (Nat.le_refl _) l0 fun _=>?_
    obtain ⟨y,ey,iy,ly,ky'⟩:=at_list z.ib (show b.size - 1 < b.size by lia)
    rw [← ky',k0]
    exact z.hl y (List.mem_iff_getElem?.mpr ⟨_,ly⟩)
  by_cases e1:a.size - 1 = 0
  · rw [if_pos (by simpa using e1)]
    exact wpS_pure (h _ _ (Gq.refl _) (hi_done z.sa z.sb (by lia) (Nat.le_refl _) M0 (.inl e1)))
  rw [if_neg (by simpa using e1)]
  by_cases e2:b.size = 1
  · rw [if_pos (by simpa using e2)]
    exact wpS_pure (h _ _ (Gq.refl _) (hi_first z.sa z.sb z.h0 (by lia) (Nat.le_refl _) M0 e2))
  rw [if_neg (by simpa using e2)]
  have V0:IvH a b (0 + 1) #[x0] (a.size - 1) b.size:=⟨M0,by lia,by lia,by lia,Nat.le_refl _,by lia⟩
  refine wpS_bind (wpS_get ?_)
  refine wpS_bind (wpS_mono (wpS_forRange (I:=fun x c st'=>Gq st st'∧c.1 = none∧IvH a b (x + 1) c.2.2.2.1 c.2.1 c.2.2.1)
    (Q:=fun c st'=>Gq st st'∧∃ z,c.1 = some z∧MFin a b z) ?_ ?_ ⟨Gq.refl _,rfl,V0⟩) ?_)
  · rintro x c st' _ hx ⟨q,hc,v⟩
    refine wpS_mono (wp_hi0 hk z q v) ?_
    rintro r st'' ⟨q,hr⟩
    cases r with
    | done c=>exact ⟨q,hr⟩
    | yield c=>exact ⟨q,hr⟩
  · rintro c st' ⟨q,hc,v⟩
    have h1:=v.hc
    have h2:=v.hi
    lia
  · rintro c st' ⟨q,y,hc,hy⟩
    rw [hc]
    exact wpS_pure (h _ _ q hy)
end
end TS
set_option maxHeartbeats 1000000
namespace TS
open PySem PyProof.Rows
theorem mergeAt'_eq (i:Nat):mergeAt' i = (do
  let st ← get
  let (some (s1,n1,w1),some (s2,n2,_)):=((pendingOf st)[i]?,(pendingOf st)[i + 1]?) | unsupported "internal:list.sort.pending"
  set (setPending st (((pendingOf st).setIfInBounds i (s1,n1 + n2,w1)).eraseIdxIfInBounds (i + 1)))
  let some k ← gallop' false (← elem' (arrOf st) s2) (arrOf st) s1 n1 0 | return false
  let (s1,n1):=(s1 + k,n1 - k)
  if n1 == 0 then return true
  let some n2 ← gallop' true (← elem' (arrOf st) (s1 + n1 - 1)) (arrOf st) s2 n2 (n2 - 1) | return false
  if n2 == 0 then return true
  let x:=(arrOf st).extract s1 s2; let y:=(arrOf st).extract s2 (s2 + n2)
  let r ← if n1 ≤ n2 then mergeLo' x y else mergeHi' x y
  modify fun z=>setArr z (r.toList.zipIdx.foldl (fun v (p,j)=>v.setIfInBounds (s1 + j) p) (arrOf z))
  return (failedOf (← get)).isNone):=rfl
theorem put_at (s:Nat):∀ (l:List Keyed) (n:Nat) (xs:Array Keyed) (k:Nat),((l.zipIdx n).foldl (fun v (pj:Keyed×Nat)=>v.setIfInBounds (s + pj.2) pj.1) xs)[k]? = if s + n ≤ k∧k < s + n + l.length∧k < xs.size then l[k - (s + n)]? else xs[k]?
  | [],n,xs,k=>by rw [if_neg (by simp; lia)]; rfl
  | x :: l,n,xs,k=>by
    rw [List.zipIdx_cons,List.foldl_cons,put_at s l (n + 1),Array.size_setIfInBounds,Array.getElem?_setIfInBounds,List.length_cons]
    by_cases h1:s + n = k
    · subst h1
      rw [if_neg (by lia),if_pos rfl]
      by_cases h2:s + n < xs.size
      · rw [if_pos h2,if_pos (by lia),Nat.sub_self]
        rfl
      · rw [if_neg h2,if_neg (by lia),getElem?_neg xs _ h2]
    · rw [if_neg h1]
      by_cases h3:s + (n + 1) ≤ k∧k < s + (n + 1) + l.length∧k < xs.size
      · rw [if_pos h3,if_pos (by lia),show k - (s + n) = k - (s + (n + 1)) + 1 by lia]
        rfl
      · rw [if_neg h3,if_neg (by lia)]
theorem put_list {s:Nat} {r xs:Array Keyed} (h:s + r.size ≤ xs.size):(r.toList.zipIdx.foldl (fun v (pj:Keyed×Nat)=>v.setIfInBounds (s + pj.2) pj.1) xs).toList = xs.toList.take s ++ r.toList ++ xs.toList.drop (s + r.size):=by
  apply List.ext_getElem?
  intro k
  rw [Array.getElem?_toList,put_at,Array.length_toList,Nat.add_zero]
  by_cases h1:k < s
  · rw [if_neg (by lia),List.append_assoc,List.getElem?_append_left (by rw [List.length_take,Array.length_toList]; lia),List.getElem?_take,if_pos h1,Array.getElem?_toList]
  · by_cases h2:k < s + r.size
    · rw [if_pos (by lia),List.append_assoc,List.getElem?_append_right (by rw [List.length_take,Array.length_toList]; lia),List.length_take,Array.length_toList,List.getElem?_append_left (by rw [Array.length_toList]; lia)]
      congr 1
      lia
    · rw [if_neg (by lia),List.getElem?_append_right (by rw [List.length_append,List.length_take,Array.length_toList,Array.length_toList]; lia),List.getElem?_drop,Array.getElem?_toList,List.length_append,List.length_take,Array.length_toList,Array.length_toList]
      congr 1
      lia
noncomputable abbrev seg (xs:List Keyed) (s n:Nat):List Keyed:=(xs.drop s).take n
theorem seg_add (xs:List Keyed) (s n m:Nat):seg xs s (n + m) = seg xs s n ++ seg xs (s + n) m:=by
  unfold seg
  rw [List.take_add,List.drop_drop]
theorem seg_split (xs:List Keyed) (s n:Nat):xs = xs.take s ++ seg xs s n ++ xs.drop (s + n):=by
  unfold seg
  rw [List.append_assoc,← List.drop_drop,List.take_append_drop,List.take_append_drop]
theorem ext_seg (a:Array Keyed) {s e:Nat}:(a.extract s e).toList = seg a.toList s (e - s):=by
  rw [Array.toList_extract,List.extract_eq_drop_take]
theorem srt_mid {A1 A2 B1 B2 M:List Keyed} (hA:Srt ky (A1 ++ A2)) (hB:Srt ky (B1 ++ B2)) (hM:Srt ky M) (pm:M.Perm (A2 ++ B1)) (h1:∀ x ∈ A1,∀ y ∈ B1 ++ B2,ky x ≤ ky y) (h2:∀ x ∈ A2,∀ y ∈ B2,ky x ≤ ky y):Srt ky (A1 ++ M ++ B2):=by
  obtain ⟨a1,a2,a3⟩:=List.pairwise_append.mp hA
  obtain ⟨b1,b2,b3⟩:=List.pairwise_append.mp hB
  refine List.pairwise_append.mpr ⟨List.pairwise_append.mpr ⟨a1,hM,fun x hx y hy=>?_⟩,b2,fun x hx y hy=>?_⟩
  · rcases List.mem_append.mp (pm.mem_iff.mp hy) with hy | hy
    · exact a3 x hx y hy
    · exact h1 x hx y (List.mem_append_left _ hy)
  · rcases List.mem_append.mp hx with hx | hx
    · exact h1 x hx y (List.mem_append_right _ hy)
    · rcases List.mem_append.mp (pm.mem_iff.mp hx) with hx | hx
      · exact h2 x hx y hy
      · exact b3 x hx y hy
theorem K_seg {a:Array Keyed} {s n i:Nat} (so:Srt ky (seg a.toList s n)) {j:Nat} (hij:i ≤ j) (hj:j < n) (hn:s + n ≤ a.size):K a (s + i) ≤ K a (s + j):=by
  have f:∀ m,m < n→∃ x,(seg a.toList s n)[m]? = some x∧K a (s + m) = ky x:=fun m hm=>by
    have e:a.toList[s + m]? = some (a.toList[s + m]'(by rw [Array.length_toList]; lia)):=List.getElem?_eq_getElem _
    refine ⟨_,?_,K_list e⟩
    rw [List.getElem?_take,if_pos hm,List.getElem?_drop]
    exact e
  obtain ⟨x,ex,kx⟩:=f i (by lia)
  obtain ⟨y,ey,hy⟩:=f j hj
  rw [kx,hy]
  exact srt_at so hij ex ey
theorem mem_seg {a:Array Keyed} {s n:Nat} {x:Keyed} (h:x ∈ seg a.toList s n):∃ j,j < n∧K a (s + j) = ky x:=by
  obtain ⟨j,hj,e⟩:=mem_dt h
  exact ⟨j,hj,K_list e⟩
theorem IntKeys.seg {a:Array Keyed} (h:IntKeys a) (s e:Nat):IntKeys (a.extract s e):=fun p hp=>by
  rw [ext_seg] at hp
  exact h p (List.mem_of_mem_drop (List.mem_of_mem_take hp))
theorem K_ext {a:Array Keyed} {s e j:Nat} (h:s + j < e):K (a.extract s e) j = K a (s + j):=by
  apply K_congr
  rw [Array.getElem?_extract]
  by_cases hj:j < min e a.size - s
  · rw [if_pos hj]
  · rw [if_neg hj,getElem?_neg a _ (by lia)]
structure Mgd (xs ys:Array Keyed) (s n:Nat):Prop where
  a:ys.toList = xs.toList.take s ++ seg ys.toList s n ++ xs.toList.drop (s + n)
  p:ys.Perm xs
  so:Srt ky (seg ys.toList s n)
section
variable {prog:Program} {w:World} {A:Around} {E:Value→Shared→Prop} {s:Shared}
theorem wpS_set {st st1:SortSt} {Q:PUnit→SortSt→Prop} (h:Q ⟨⟩ st1):wpS (model prog w) A E s (set st1) Q st:=by
  unfold wpS
  rw [StateT.run_set]
  exact wpAny_pure ⟨rfl,h⟩
theorem wpS_mergeAt {st:SortSt} {i s1 n1 w1 n2 w2:Nat} {Q:Bool→SortSt→Prop} (hk:kindOf st = oneType') (hf:failedOf st = none) (hI:IntKeys (arrOf st)) (e1:(pendingOf st)[i]? = some (s1,n1,w1)) (e2:(pendingOf st)[i + 1]? = some (s1 + n1,n2,w2))
    (p1:0 < n1) (p2:0 < n2) (hn:s1 + n1 + n2 ≤ (arrOf st).size) (so1:Srt ky (seg (arrOf st).toList s1 n1)) (so2:Srt ky (seg (arrOf st).toList (s1 + n1) n2))
    (h:∀ st',kindOf st' = oneType'→failedOf st' = none→pendingOf st' = ((pendingOf st).setIfInBounds i (s1,n1 + n2,w1)).eraseIdxIfInBounds (i + 1)→Mgd (arrOf st) (arrOf st') s1 (n1 + n2)→Q true st'):wpS (model prog w) A E s (mergeAt' i) Q st:=by
  rw [mergeAt'_eq]
  refine wpS_bind (wpS_get ?_)
  rw [e1,e2]
  dsimp only
  refine wpS_bind (wpS_set ?_)
  generalize hst:setPending st (((pendingOf st).setIfInBounds i (s1,n1 + n2,w1)).eraseIdxIfInBounds (i + 1)) = st1
  have k1:kindOf st1 = oneType':=by rw [← hst]; exact hk
  have f1:failedOf st1 = none:=by rw [← hst]; exact hf
  have a1:arrOf st1 = arrOf st:=by rw [← hst]
  have d1:pendingOf st1 = ((pendingOf st).setIfInBounds i (s1,n1 + n2,w1)).eraseIdxIfInBounds (i + 1):=by rw [← hst]
  have h:=fun st' k f p m=>h st' k f p m
  generalize arrOf st = xs at *
  obtain ⟨y,ey,iy,ly,ky'⟩:=at_list hI (show s1 + n1 < xs.size by lia)
  refine wpS_bind (wpS_elem ey (wpS_bind (wpS_gallop k1 iy hI (by lia) p1 (fun i j hij hj=>K_seg so1 hij hj (by lia)) fun k hk1 hlt hge=>?_)))
  have whole:Srt ky (seg xs.toList s1 (n1 + n2))→Q true st1:=fun so=>h st1 k1 f1 d1 (by
    rw [a1]
    exact ⟨seg_split _ _ _,Array.Perm.refl _,so⟩)
  dsimp only
  by_cases z1:n1 - k = 0
  · rw [if_pos (by simpa using z1)]
    refine wpS_pure (whole ?_)
    rw [seg_add]
    refine List.pairwise_append.mpr ⟨so1,so2,fun u hu v hv=>?_⟩
    obtain ⟨j,hj,ej⟩:=mem_seg hu
    obtain ⟨j',hj',ej'⟩:=mem_seg hv
    have g1:=gt_f.mp (hlt j (by lia))
    have g2:=K_seg so2 (Nat.zero_le j') hj' (by lia)
    rw [Nat.add_zero] at g2
    lia
  rw [if_neg (by simpa using z1)]
  obtain ⟨x,ex,ix,lx,kx⟩:=at_list hI (show s1 + k + (n1 - k) - 1 < xs.size by lia)
  refine wpS_bind (wpS_elem ex (wpS_bind (wpS_gallop k1 ix hI (by lia) (by lia) (fun i j hij hj=>K_seg so2 hij hj (by lia)) fun t ht hlt2 hge2=>?_)))
  have el:s1 + k + (n1 - k) - 1 = s1 + (n1 - 1):=by lia
  rw [el] at kx
  dsimp only
  by_cases z2:t = 0
  · rw [if_pos (by simpa using z2)]
    refine wpS_pure (whole ?_)
    rw [seg_add]
    refine List.pairwise_append.mpr ⟨so1,so2,fun u hu v hv=>?_⟩
    obtain ⟨j,hj,ej⟩:=mem_seg hu
    obtain ⟨j',hj',ej'⟩:=mem_seg hv
    have g1:=gt_t'.mp (hge2 j' (by lia) hj')
    have g2:=K_seg so1 (show j ≤ n1 - 1 by lia) (by lia) (by lia)
    lia
  rw [if_neg (by simpa using z2)]
  have eA:seg xs.toList s1 n1 = seg xs.toList s1 k ++ seg xs.toList (s1 + k) (n1 - k):=by
    have:=seg_add xs.toList s1 k (n1 - k)
    rwa [show k + (n1 - k) = n1 by lia] at this
  have eB:seg xs.toList (s1 + n1) n2 = seg xs.toList (s1 + n1) t ++ seg xs.toList (s1 + n1 + t) (n2 - t):=by
    have:=seg_add xs.toList (s1 + n1) t (n2 - t)
    rwa [show t + (n2 - t) = n2 by lia] at this
  have tA:(xs.extract (s1 + k) (s1 + n1)).toList = seg xs.toList (s1 + k) (n1 - k):=by
    rw [ext_seg,show s1 + n1 - (s1 + k) = n1 - k by lia]
  have tB:(xs.extract (s1 + n1) (s1 + n1 + t)).toList = seg xs.toList (s1 + n1) t:=by
    rw [ext_seg,Nat.add_sub_cancel_left]
  have zA:(xs.extract (s1 + k) (s1 + n1)).size = n1 - k:=by rw [Array.size_extract]; lia
  have zB:(xs.extract (s1 + n1) (s1 + n1 + t)).size = t:=by rw [Array.size_extract]; lia
  have sA2:=so1
  have sB2:=so2
  rw [eA] at sA2
  rw [eB] at sB2
  have ab:AB (xs.extract (s1 + k) (s1 + n1)) (xs.extract (s1 + n1) (s1 + n1 + t)):=by
    refine ⟨IntKeys.seg hI _ _,IntKeys.seg hI _ _,?_,?_,by lia,by lia,?_,?_⟩
    · rw [tA]
      exact (List.pairwise_append.mp sA2).2.1
    · rw [tB]
      exact (List.pairwise_append.mp sB2).1
    · rw [K_ext (by lia),K_ext (by lia)]
      have:=gt_f'.mp (hge k (Nat.le_refl _) (by lia))
      simp only [Nat.add_zero]
      lia
    · intro u hu
      rw [zA,K_ext (by lia),show s1 + k + (n1 - k - 1) = s1 + (n1 - 1) by lia]
      rw [tB] at hu
      obtain ⟨j,hj,ej⟩:=mem_seg hu
      have:=gt_t.mp (hlt2 j hj)
      lia
  have fin:∀ st' r,Gq st1 st'→MFin (xs.extract (s1 + k) (s1 + n1)) (xs.extract (s1 + n1) (s1 + n1 + t)) r→Q true (setArr st' (r.toList.zipIdx.foldl (fun v (pj:Keyed×Nat)=>v.setIfInBounds (s1 + k + pj.2) pj.1) (arrOf st')))∧failedOf st' = none:=by
    intro st' r q ⟨sr,pr⟩
    have ea:arrOf st' = xs:=q.a.trans a1
    have zr:r.size = n1 - k + t:=by
      have:=pr.length_eq
      rw [List.length_append,Array.length_toList,Array.length_toList,Array.length_toList,zA,zB] at this
      exact this
    rw [tA,tB] at pr
    refine ⟨h _ (q.k.trans k1) (q.f.trans f1) (q.p.trans d1) ?_,q.f.trans f1⟩
    generalize hys:r.toList.zipIdx.foldl (fun v (pj:Keyed×Nat)=>v.setIfInBounds (s1 + k + pj.2) pj.1) (arrOf st') = ys
    have ly:=put_list (s:=s1 + k) (r:=r) (xs:=arrOf st') (by rw [ea]; lia)
    rw [hys,ea,zr] at ly
    show Mgd xs ys s1 (n1 + n2)
    have lt:xs.toList.take (s1 + k) = xs.toList.take s1 ++ seg xs.toList s1 k:=List.take_add
    have ld:xs.toList.drop (s1 + k + (n1 - k + t)) = seg xs.toList (s1 + n1 + t) (n2 - t) ++ xs.toList.drop (s1 + (n1 + n2)):=by
      rw [show s1 + k + (n1 - k + t) = s1 + n1 + t by lia]
      have:=List.take_append_drop (n2 - t) (xs.toList.drop (s1 + n1 + t))
      rw [List.drop_drop,show s1 + n1 + t + (n2 - t) = s1 + (n1 + n2) by lia] at this
      exact this.symm
    have lz:xs.toList.length = xs.size:=Array.length_toList
    have e3:seg ys.toList s1 (n1 + n2) = seg xs.toList s1 k ++ r.toList ++ seg xs.toList (s1 + n1 + t) (n2 - t):=by
      rw [ly,lt,ld]
      unfold seg
      rw [List.append_assoc,List.append_assoc,List.drop_append_of_le_length (by rw [List.length_take,lz]; lia),List.drop_of_length_le (by rw [List.length_take,lz]; lia),List.nil_append]
      rw [← List.append_assoc,← List.append_assoc,List.take_append_of_le_length (by simp only [List.length_append,List.length_take,List.length_drop,lz,Array.length_toList,zr]; lia)]
      rw [List.take_of_length_le (by simp only [List.length_append,List.length_take,List.length_drop,lz,Array.length_toList,zr]; lia)]
    refine ⟨?_,?_,?_⟩
    · rw [e3,ly,lt,ld]
      simp only [List.append_assoc]
    · refine Array.perm_iff_toList_perm.mpr ?_
      have es:xs.toList = xs.toList.take s1 ++ seg xs.toList s1 k ++ (seg xs.toList (s1 + k) (n1 - k) ++ seg xs.toList (s1 + n1) t) ++ (seg xs.toList (s1 + n1 + t) (n2 - t) ++ xs.toList.drop (s1 + (n1 + n2))):=by
        rw [← ld,← lt]
        have:=seg_split xs.toList (s1 + k) (n1 - k + t)
        rw [seg_add,show s1 + k + (n1 - k) = s1 + n1 by lia] at this
        exact this
      rw [ly,lt,ld]
      conv=>rhs; rw [es]
      exact (List.Perm.append_left _ pr).append_right _
    · rw [e3]
      refine srt_mid sA2 sB2 sr pr (fun u hu v hv=>?_) fun u hu v hv=>?_
      · obtain ⟨j,hj,ej⟩:=mem_seg hu
        rw [← eB] at hv
        obtain ⟨j',hj',ej'⟩:=mem_seg hv
        have g1:=gt_f.mp (hlt j hj)
        have g2:=K_seg so2 (Nat.zero_le j') hj' (by lia)
        rw [Nat.add_zero] at g2
        lia
      · obtain ⟨j,hj,ej⟩:=mem_seg hu
        obtain ⟨j',hj',ej'⟩:=mem_seg hv
        have g1:=gt_t'.mp (hge2 (t + j') (by lia) (by lia))
        have g2:=K_seg so1 (show k + j ≤ n1 - 1 by lia) (by lia) (by lia)
        rw [← Nat.add_assoc] at g1 g2
        lia
  split
  · refine wpS_bind (wpS_mergeLo k1 ab fun st' r q m=>?_)
    obtain ⟨f2,f3⟩:=fin st' r q m
    refine wpS_bind (wpS_modify (wpS_bind (wpS_get (wpS_pure ?_))))
    show Q (failedOf st').isNone _
    rw [f3]
    exact f2
  · refine wpS_bind (wpS_mergeHi k1 ab fun st' r q m=>?_)
    obtain ⟨f2,f3⟩:=fin st' r q m
    refine wpS_bind (wpS_modify (wpS_bind (wpS_get (wpS_pure ?_))))
    show Q (failedOf st').isNone _
    rw [f3]
    exact f2
end
end TS
set_option maxHeartbeats 1000000
namespace TS
open PySem PyProof.Rows
noncomputable def Runs (xs:List Keyed):Nat→List (Nat×Nat×Nat)→Nat→Prop
  | s,[],e=>s = e
  | s,r :: l,e=>r.1 = s∧0 < r.2.1∧Srt ky (seg xs s r.2.1)∧Runs xs (s + r.2.1) l e
section
variable {xs ys:List Keyed}
theorem runs_le:∀ {l:List (Nat×Nat×Nat)} {s e:Nat},Runs xs s l e→s + l.length ≤ e
  | [],s,e,h=>by have h:s = e:=h; simp; lia
  | r :: l,s,e,h=>by
    have:=runs_le h.2.2.2
    have:=h.2.1
    rw [List.length_cons]
    lia
theorem runs_app:∀ {l1 l2:List (Nat×Nat×Nat)} {s e:Nat},Runs xs s (l1 ++ l2) e↔∃ m,Runs xs s l1 m∧Runs xs m l2 e
  | [],l2,s,e=>⟨fun h=>⟨s,rfl,h⟩,fun ⟨m,h1,h2⟩=>by cases h1; exact h2⟩
  | r :: l1,l2,s,e=>⟨fun h=>by
      obtain ⟨m,h1,h2⟩:=runs_app.mp h.2.2.2
      exact ⟨m,⟨h.1,h.2.1,h.2.2.1,h1⟩,h2⟩,fun ⟨m,h1,h2⟩=>⟨h1.1,h1.2.1,h1.2.2.1,runs_app.mpr ⟨m,h1.2.2.2,h2⟩⟩⟩
theorem runs_congr:∀ {l:List (Nat×Nat×Nat)} {s e:Nat},(∀ s' n,s ≤ s'→s' + n ≤ e→seg xs s' n = seg ys s' n)→Runs xs s l e→Runs ys s l e
  | [],s,e,_,h=>h
  | r :: l,s,e,hc,h=>by
    have:=runs_le h.2.2.2
    refine ⟨h.1,h.2.1,?_,runs_congr (fun s' n h1 h2=>hc s' n (by lia) h2) h.2.2.2⟩
    rw [← hc s r.2.1 (Nat.le_refl _) (by lia)]
    exact h.2.2.1
theorem runs_map:∀ {l l':List (Nat×Nat×Nat)} {s e:Nat},l.map (fun r=>(r.1,r.2.1)) = l'.map (fun r=>(r.1,r.2.1))→Runs xs s l e→Runs xs s l' e
  | [],[],s,e,_,h=>h
  | [],_ :: _,s,e,hm,h=>by cases hm
  | _ :: _,[],s,e,hm,h=>by cases hm
  | r :: l,r' :: l',s,e,hm,h=>by
    rw [List.map_cons,List.map_cons] at hm
    injection hm with h1 h2
    injection h1 with h3 h4
    refine ⟨h3.symm.trans h.1,?_,?_,?_⟩
    · rw [← h4]; exact h.2.1
    · rw [← h4]; exact h.2.2.1
    · rw [← h4]; exact runs_map h2 h.2.2.2
theorem seg_take {k s n:Nat} (h:s + n ≤ k):seg (xs.take k) s n = seg xs s n:=by
  unfold seg
  rw [List.drop_take,List.take_take]
  congr 1
  lia
end
structure Jn (a₀:Array Keyed) (st:SortSt) (lo:Nat):Prop where
  pm:(arrOf st).Perm a₀
  kd:kindOf st = oneType'
  fl:failedOf st = none
  rn:Runs (arrOf st).toList 0 (pendingOf st).toList lo
  le:lo ≤ a₀.size
section
variable {a₀:Array Keyed} {st:SortSt} {lo:Nat}
theorem Jn.int (h:Jn a₀ st lo) (h0:IntKeys a₀):IntKeys (arrOf st):=fun p hp=>h0 p ((Array.perm_iff_toList_perm.mp h.pm).mem_iff.mp hp)
theorem att_low (h:lo ≤ (arrOf st).size):att ((arrOf st).extract 0 lo) (pendingOf st) (low lo st) = st:=by
  show SortSt.mk' (kindOf st) ((arrOf st).extract 0 lo ++ (arrOf st).extract lo (arrOf st).size) (pendingOf st) (gallopOf st) (failedOf st) = st
  have:(arrOf st).extract 0 lo ++ (arrOf st).extract lo (arrOf st).size = arrOf st:=by
    rw [Array.extract_append_extract]
    simp
    lia
  rw [this]
theorem Jn.att (h:Jn a₀ st lo) {st':SortSt} (b:SBase ((arrOf st).extract lo (arrOf st).size) st'):Jn a₀ (att ((arrOf st).extract 0 lo) (pendingOf st) st') lo∧∀ n,n ≤ a₀.size - lo→SortedTo (arrOf st') n→Srt ky (seg (arrOf (att ((arrOf st).extract 0 lo) (pendingOf st) st')).toList lo n):=by
  have hz:=h.pm.size_eq
  have hle:=h.le
  have et:((arrOf st).extract 0 lo).toList = (arrOf st).toList.take lo:=take_ext _ _
  have ez:((arrOf st).extract 0 lo).toList.length = lo:=by rw [Array.length_toList,Array.size_extract]; lia
  have ea:(arrOf (TS.att ((arrOf st).extract 0 lo) (pendingOf st) st')).toList = ((arrOf st).extract 0 lo).toList ++ (arrOf st').toList:=Array.toList_append
  refine ⟨⟨?_,b.kind,b.failed,?_,h.le⟩,fun n hn so=>?_⟩
  · refine Array.Perm.trans ?_ h.pm
    refine Array.perm_iff_toList_perm.mpr ?_
    rw [ea]
    have:=(List.Perm.append_left ((arrOf st).extract 0 lo).toList (Array.perm_iff_toList_perm.mp b.perm))
    rw [ext_end,et,List.take_append_drop] at this
    rw [et]
    exact this
  · refine runs_congr (fun s n _ hs=>?_) h.rn
    rw [ea,← seg_take hs,← et]
    conv=>rhs; rw [← seg_take hs,List.take_append_of_le_length (by lia),List.take_of_length_le (by lia)]
  · rw [ea]
    unfold seg
    rw [List.drop_append_of_le_length (by lia),List.drop_of_length_le (by lia),List.nil_append]
    unfold Srt
    rw [List.pairwise_iff_getElem]
    intro i j hi hj hij
    rw [List.length_take,Array.length_toList] at hi hj
    have:=so i j (by lia) (by lia)
    rw [K_list (x:=(arrOf st').toList[i]'(by rw [Array.length_toList]; lia)) (List.getElem?_eq_getElem _),K_list (x:=(arrOf st').toList[j]'(by rw [Array.length_toList]; lia)) (List.getElem?_eq_getElem _)] at this
    rw [List.getElem_take,List.getElem_take]
    exact this
theorem low_base (h:Jn a₀ st lo):SBase ((arrOf st).extract lo (arrOf st).size) (low lo st):=⟨Array.Perm.refl _,h.kd,h.fl,rfl⟩
theorem low_int (h:Jn a₀ st lo) (h0:IntKeys a₀):IntKeys ((arrOf st).extract lo (arrOf st).size):=IntKeys.seg (h.int h0) _ _
theorem low_size (h:Jn a₀ st lo):((arrOf st).extract lo (arrOf st).size).size = a₀.size - lo:=by
  rw [Array.size_extract,h.pm.size_eq]
  lia
theorem seg_sorted {n:Nat} (h:Jn a₀ st lo) (hn:lo + n ≤ a₀.size) (so:Srt ky (seg (arrOf st).toList lo n)):SortedTo (arrOf (low lo st)) n:=fun i j hij hj=>by
  have hz:=h.pm.size_eq
  have e:∀ i,i < n→K (arrOf (low lo st)) i = K (arrOf st) (lo + i):=fun i hi=>K_ext (by lia)
  rw [e i (by lia),e j hj]
  exact K_seg so hij hj (by lia)
end
section
variable {prog:Program} {w:World} {A:Around} {E:Value→Shared→Prop} {s:Shared} {a₀:Array Keyed} {st:SortSt} {lo:Nat}
theorem wp_count {Q:Option Nat→SortSt→Prop} (h0:IntKeys a₀) (j:Jn a₀ st lo) (hl:lo < a₀.size) (h:∀ m st',Jn a₀ st' lo→1 ≤ m→m ≤ a₀.size - lo→Srt ky (seg (arrOf st').toList lo m)→Q (some m) st'):wpS (model prog w) A E s (countRun' lo (a₀.size - lo)) Q st:=by
  have hz:=j.pm.size_eq
  have:=(sim_count (p:=(arrOf st).extract 0 lo) (q:=pendingOf st) (lo:=lo) (by rw [Array.size_extract]; lia) (a₀.size - lo)).wps (M:=model prog w) (A:=A) (E:=E) (s:=s) (Q:=Q) (st:=low lo st)
    (wpS_countRun (a₀:=(arrOf st).extract lo (arrOf st).size) (low_int j h0) (by rw [low_size j]; lia) (by lia) (low_base j) fun m st' b h1 h2 so=>by
      obtain ⟨j',g⟩:=j.att b
      exact h m _ j' h1 h2 (g m h2 so))
  rwa [att_low (by lia)] at this
theorem wp_binary {Q:Bool→SortSt→Prop} {n ok:Nat} (h0:IntKeys a₀) (j:Jn a₀ st lo) (hn:lo + n ≤ a₀.size) (hok:ok ≤ n) (so:Srt ky (seg (arrOf st).toList lo ok)) (h:∀ st',Jn a₀ st' lo→Srt ky (seg (arrOf st').toList lo n)→Q true st'):wpS (model prog w) A E s (binarySort' lo n ok) Q st:=by
  have hz:=j.pm.size_eq
  have:=(sim_bin (p:=(arrOf st).extract 0 lo) (q:=pendingOf st) (lo:=lo) (by rw [Array.size_extract]; lia) n ok).wps (M:=model prog w) (A:=A) (E:=E) (s:=s) (Q:=Q) (st:=low lo st)
    (wpS_binarySort (a₀:=(arrOf st).extract lo (arrOf st).size) (low_int j h0) (by rw [low_size j]; lia) hok (low_base j) (seg_sorted j (by lia) so) fun st' b so'=>by
      obtain ⟨j',g⟩:=j.att b
      exact h _ j' (g n (by lia) so'))
  rwa [att_low (by lia)] at this
theorem pend_cut {l:List (Nat×Nat×Nat)} {i:Nat} (h:i + 1 < l.length):∃ l1 r1 r2 l2,l = l1 ++ r1 :: r2 :: l2∧l1.length = i:=by
  refine ⟨l.take i,l[i],l[i + 1],l.drop (i + 2),?_,by rw [List.length_take]; lia⟩
  have e1:=List.drop_eq_getElem_cons (show i < l.length by lia)
  have e2:=List.drop_eq_getElem_cons h
  rw [← e2,← e1,List.take_append_drop]
theorem wp_merge {Q:Bool→SortSt→Prop} {i:Nat} (h0:IntKeys a₀) (j:Jn a₀ st lo) (hi:i + 1 < (pendingOf st).size) (h:∀ st',Jn a₀ st' lo→(pendingOf st').size + 1 = (pendingOf st).size→(∀ s n,lo ≤ s→seg (arrOf st').toList s n = seg (arrOf st).toList s n)→Q true st'):wpS (model prog w) A E s (mergeAt' i) Q st:=by
  have hz:=j.pm.size_eq
  obtain ⟨l1,⟨s1,n1,w1⟩,⟨s2,n2,w2⟩,l2,el,li⟩:=pend_cut (l:=(pendingOf st).toList) (by rw [Array.length_toList]; exact hi)
  have rn:=j.rn
  rw [el] at rn
  obtain ⟨m,r1,r2⟩:=runs_app.mp rn
  obtain ⟨q1,q2,q3,q4,q5,q6,q7⟩:=r2
  have q1:s1 = m:=q1
  have q4:s2 = m + n1:=q4
  subst q1
  subst q4
  have q2:0 < n1:=q2
  have q5:0 < n2:=q5
  have ll:=runs_le q7
  have hle:=j.le
  have e1:(pendingOf st)[i]? = some (s1,n1,w1):=by
    rw [← Array.getElem?_toList,el,List.getElem?_append_right (by lia),li,Nat.sub_self]
    rfl
  have e2:(pendingOf st)[i + 1]? = some (s1 + n1,n2,w2):=by
    rw [← Array.getElem?_toList,el,List.getElem?_append_right (by lia),li,Nat.add_sub_cancel_left]
    rfl
  refine wpS_mergeAt j.kd j.fl (j.int h0) e1 e2 q2 q5 (by dsimp only at ll; lia) q3 q6 fun st' k f p g=>?_
  have ep:(pendingOf st').toList = l1 ++ (s1,n1 + n2,w1) :: l2:=by
    rw [p,Array.toList_eraseIdxIfInBounds,Array.toList_setIfInBounds,el]
    rw [List.set_append_right _ _ (by lia),li,Nat.sub_self,List.set_cons_zero,List.eraseIdx_append_of_length_le (by lia),li,Nat.add_sub_cancel_left]
    rfl
  have tz:((arrOf st).toList.take s1).length = s1:=by rw [List.length_take,Array.length_toList]; dsimp only at ll; lia
  have sz:(seg (arrOf st').toList s1 (n1 + n2)).length = n1 + n2:=by
    rw [List.length_take,List.length_drop,Array.length_toList,g.p.size_eq]
    dsimp only at ll
    lia
  have ea:=g.a
  have dr:∀ (P R:List Keyed) (k:Nat),P.length ≤ k→(P ++ R).drop k = R.drop (k - P.length):=fun P R k h=>by rw [List.drop_append,List.drop_of_length_le h,List.nil_append]
  have out:∀ s n,s1 + (n1 + n2) ≤ s→seg (arrOf st').toList s n = seg (arrOf st).toList s n:=fun s n hs=>by
    obtain ⟨d,rfl⟩:∃ d,s = s1 + (n1 + n2) + d:=⟨s - (s1 + (n1 + n2)),by lia⟩
    have e5:(arrOf st').toList.drop (s1 + (n1 + n2) + d) = (arrOf st).toList.drop (s1 + (n1 + n2) + d):=by
      rw [ea,dr _ _ _ (by rw [List.length_append]; lia),List.drop_drop]
      congr 1
      rw [List.length_append]
      lia
    unfold seg
    rw [e5]
  refine h st' ⟨g.p.trans j.pm,k,f,?_,j.le⟩ ?_ fun s n hs=>out s n (by dsimp only at ll; lia)
  · rw [ep]
    refine runs_app.mpr ⟨s1,runs_congr (fun s n _ hs=>?_) r1,rfl,by show 0 < n1 + n2; lia,g.so,runs_congr (fun s n hs _=>?_) (show Runs _ (s1 + (n1 + n2)) _ _ by rw [← Nat.add_assoc]; exact q7)⟩
    · conv=>rhs; rw [ea,← seg_take hs,List.append_assoc,List.take_append_of_le_length (by lia),List.take_of_length_le (by lia)]
      rw [seg_take hs]
    · exact (out s n hs).symm
  · have e3:=congrArg List.length ep
    have e4:=congrArg List.length el
    simp only [Array.length_toList,List.length_append,List.length_cons] at e3 e4
    lia
end
end TS
set_option maxHeartbeats 1000000
namespace TS
open PySem PyProof.Rows
section
variable {prog:Program} {w:World} {A:Around} {E:Value→Shared→Prop} {s:Shared} {a₀:Array Keyed} {st:SortSt} {lo:Nat}
theorem Jn.pend {p:Array (Nat×Nat×Nat)} (j:Jn a₀ st lo) (h:p.toList.map (fun r=>(r.1,r.2.1)) = (pendingOf st).toList.map (fun r=>(r.1,r.2.1))):Jn a₀ (setPending st p) lo :=
  ⟨j.pm,j.kd,j.fl,runs_map h.symm j.rn,j.le⟩
theorem Jn.push {n:Nat} (j:Jn a₀ st lo) (h1:0 < n) (h2:lo + n ≤ a₀.size) (so:Srt ky (seg (arrOf st).toList lo n)):Jn a₀ (setPending st ((pendingOf st).push (lo,n,0))) (lo + n) :=
  ⟨j.pm,j.kd,j.fl,by
    show Runs (arrOf st).toList 0 ((pendingOf st).push (lo,n,0)).toList (lo + n)
    rw [Array.toList_push]
    exact runs_app.mpr ⟨lo,j.rn,rfl,h1,so,rfl⟩,h2⟩
theorem mod_same (p:Array (Nat×Nat×Nat)) (k w:Nat):(p.modify k fun (r:Nat×Nat×Nat)=>(r.1,r.2.1,w)).toList.map (fun r=>(r.1,r.2.1)) = p.toList.map (fun r=>(r.1,r.2.1)):=by
  apply List.ext_getElem?
  intro i
  rw [List.getElem?_map,List.getElem?_map,Array.getElem?_toList,Array.getElem?_toList,Array.getElem?_modify]
  cases p[i]? with
  | none=>split <;> rfl
  | some r=>split <;> rfl
theorem Jn.done (j:Jn a₀ st a₀.size) (hp:(pendingOf st).size ≤ 1) (h2:2 ≤ a₀.size):SortedTo (arrOf st) a₀.size:=by
  have rn:=j.rn
  have hz:=j.pm.size_eq
  match hl:(pendingOf st).toList,rn with
  | [],rn =>
    have rn:0 = a₀.size:=rn
    lia
  | [(s1,n,w)],rn =>
    obtain ⟨r1,r2,r3,r4⟩:=rn
    have r4:0 + n = a₀.size:=r4
    have r3:Srt ky (seg (arrOf st).toList 0 n):=r3
    intro i k hik hk
    have:=K_seg (a:=arrOf st) (s:=0) (n:=n) (i:=i) (j:=k) r3 hik (by lia) (by lia)
    rwa [Nat.zero_add,Nat.zero_add] at this
  | _ :: _ :: _,rn =>
    have:=congrArg List.length hl
    rw [Array.length_toList] at this
    simp at this
    lia
theorem wp_sortRuns {Q:Unit→SortSt→Prop} (h0:IntKeys a₀) (hB:SBase a₀ st) (h2:2 ≤ a₀.size)
    (h:∀ st',(arrOf st').Perm a₀→failedOf st' = none→SortedTo (arrOf st') a₀.size→Q () st'):wpS (model prog w) A E s sortRuns' Q st:=by
  rw [sortRuns'_eq]
  refine wpS_bind (wpS_get ?_)
  dsimp only
  rw [hB.size]
  generalize minRun' a₀.size a₀.size 0 = mr
  refine wpS_bind (wpS_mono (wpS_forRange
    (I:=fun x c st'=>∃ lo,c = (none,lo)∧Jn a₀ st' lo∧(x ≤ lo∨lo = a₀.size))
    (Q:=fun c st'=>c = (none,a₀.size)∧Jn a₀ st' a₀.size) ?step ?fin ⟨0,rfl,⟨hB.perm,hB.kind,hB.failed,by rw [hB.pend]; rfl,Nat.zero_le _⟩,.inl (Nat.le_refl _)⟩) ?post)
  case fin =>
    rintro c st' ⟨lo,rfl,j,hx⟩
    have:=j.le
    have e:lo = a₀.size:=by lia
    subst e
    exact ⟨rfl,j⟩
  case step =>
    rintro x c st' _ hx ⟨lo,rfl,j,hxl⟩
    have hle:=j.le
    dsimp only
    by_cases hlo:lo ≥ a₀.size
    · rw [if_pos hlo]
      have e:lo = a₀.size:=by lia
      subst e
      exact wpS_pure ⟨rfl,j⟩
    rw [if_neg hlo]
    refine wpS_bind (wp_count h0 j (by lia) fun m st2 j2 hm1 hm2 so2=>?_)
    dsimp only
    by_cases hlt:m < mr
    · rw [if_pos hlt]
      refine wpS_bind (wpS_lift (wpAny_rule ⟨rfl,?_⟩))
      refine wpS_bind (wp_binary h0 j2 (n:=min (a₀.size - lo) mr) (by lia) (by lia) so2 fun st3 j3 so3=>?_)
      simp only [Bool.not_true,Bool.false_eq_true,if_false]
      refine wpS_bind (wpS_get ?_)
      cases hb:(pendingOf st3).back? with
      | none =>
        dsimp only
        exact wpS_bind (wpS_modify (wpS_pure ⟨_,rfl,(j3).push (by lia) (by lia) so3,.inl (by lia)⟩))
      | some r =>
        obtain ⟨s1,n1,w1⟩:=r
        dsimp only
        refine wpS_bind (wpS_mono (wpS_forRange (I:=fun _ c st'=>c = (none,())∧Jn a₀ st' lo∧Srt ky (seg (arrOf st').toList lo (min (a₀.size - lo) mr))) (Q:=fun c st'=>c = (none,())∧Jn a₀ st' lo∧Srt ky (seg (arrOf st').toList lo (min (a₀.size - lo) mr))) ?_ (fun _ _ h=>h) ⟨rfl,j3,so3⟩) ?_)
        · rintro y c st4 _ _ ⟨rfl,j4,so4⟩
          refine wpS_bind (wpS_get ?_)
          by_cases hp:(pendingOf st4).size > 1
          · rw [if_pos hp]
            have hlt4:(pendingOf st4).size - 2 < (pendingOf st4).size:=by lia
            rw [getElem?_pos (pendingOf st4) _ hlt4]
            generalize (pendingOf st4)[(pendingOf st4).size - 2] = r4
            obtain ⟨x1,x2,x3⟩:=r4
            dsimp only
            split
            · exact wpS_pure ⟨rfl,j4,so4⟩
            · refine wpS_bind (wp_merge h0 j4 (by lia) fun st5 j5 _ out=>?_)
              simp only [Bool.not_true,Bool.false_eq_true,if_false]
              exact wpS_pure ⟨rfl,j5,by rw [out _ _ (Nat.le_refl _)]; exact so4⟩
          · rw [if_neg hp]
            exact wpS_pure ⟨rfl,j4,so4⟩
        · rintro c st4 ⟨rfl,j4,so4⟩
          dsimp only
          refine wpS_bind (wpS_modify (wpS_bind (wpS_modify (wpS_pure ⟨_,rfl,(j4.pend (mod_same _ _ _)).push (by lia) (by lia) so4,.inl (by lia)⟩))))
    · rw [if_neg hlt]
      refine wpS_bind (wpS_get ?_)
      cases hb:(pendingOf st2).back? with
      | none =>
        dsimp only
        exact wpS_bind (wpS_modify (wpS_pure ⟨_,rfl,(j2).push (by lia) (by lia) so2,.inl (by lia)⟩))
      | some r =>
        obtain ⟨s1,n1,w1⟩:=r
        dsimp only
        refine wpS_bind (wpS_mono (wpS_forRange (I:=fun _ c st'=>c = (none,())∧Jn a₀ st' lo∧Srt ky (seg (arrOf st').toList lo m)) (Q:=fun c st'=>c = (none,())∧Jn a₀ st' lo∧Srt ky (seg (arrOf st').toList lo m)) ?_ (fun _ _ h=>h) ⟨rfl,j2,so2⟩) ?_)
        · rintro y c st4 _ _ ⟨rfl,j4,so4⟩
          refine wpS_bind (wpS_get ?_)
          by_cases hp:(pendingOf st4).size > 1
          · rw [if_pos hp]
            have hlt4:(pendingOf st4).size - 2 < (pendingOf st4).size:=by lia
            rw [getElem?_pos (pendingOf st4) _ hlt4]
            generalize (pendingOf st4)[(pendingOf st4).size - 2] = r4
            obtain ⟨x1,x2,x3⟩:=r4
            dsimp only
            split
            · exact wpS_pure ⟨rfl,j4,so4⟩
            · refine wpS_bind (wp_merge h0 j4 (by lia) fun st5 j5 _ out=>?_)
              simp only [Bool.not_true,Bool.false_eq_true,if_false]
              exact wpS_pure ⟨rfl,j5,by rw [out _ _ (Nat.le_refl _)]; exact so4⟩
          · rw [if_neg hp]
            exact wpS_pure ⟨rfl,j4,so4⟩
        · rintro c st4 ⟨rfl,j4,so4⟩
          dsimp only
          refine wpS_bind (wpS_modify (wpS_bind (wpS_modify (wpS_pure ⟨_,rfl,(j4.pend (mod_same _ _ _)).push (by lia) (by lia) so4,.inl (by lia)⟩))))
  case post =>
    rintro c st' ⟨rfl,j⟩
    dsimp only
    have hpz:=runs_le j.rn
    rw [Array.length_toList] at hpz
    refine wpS_bind (wpS_mono (wpS_forRange (I:=fun x c st''=>c = (none,())∧Jn a₀ st'' a₀.size∧(pendingOf st'').size + x ≤ a₀.size + 1) (Q:=fun c st''=>c = (none,())∧Jn a₀ st'' a₀.size∧(pendingOf st'').size ≤ 1) ?_ ?_ ⟨rfl,j,by lia⟩) ?_)
    · rintro x c st4 _ hx ⟨rfl,j4,hz⟩
      refine wpS_bind (wpS_get ?_)
      by_cases hp:(pendingOf st4).size ≤ 1
      · rw [if_pos hp]
        exact wpS_pure ⟨rfl,j4,hp⟩
      rw [if_neg hp]
      refine wpS_bind (wp_merge h0 j4 (by (repeat' split) <;> lia) fun st5 j5 z5 _=>?_)
      simp only [Bool.not_true,Bool.false_eq_true,if_false]
      exact wpS_pure ⟨rfl,j5,by lia⟩
    · rintro c st4 ⟨rfl,j4,hz⟩
      exact ⟨rfl,j4,by lia⟩
    · rintro c st4 ⟨rfl,j4,hz⟩
      exact wpS_pure (h _ j4.pm j4.fl (j4.done hz h2))
end
end TS
set_option maxHeartbeats 1000000
namespace TS
open PySem PyProof.Rows
section
variable {prog:Program} {w:World} {A:Around} {E:Value→Shared→Prop} {s:Shared}
theorem sort_any {a:Addr} {vs:List Value} {ns:List Int} {n:Nat} {P:Fin→Shared→Prop} (ho:s.heap.get? a = some (seqObj "list" vs.toArray n)) (hI:IntsAre vs ns) (hz:vs.length ≤ sizeLine)
    (h:∀ (r:Array Value) (ms:List Int),IntsAre r.toList ms→ms.Perm ns→ms.Pairwise (· ≤ ·)→P (.done (.ret .none)) { s with heap:=sortedHeap s.heap a vs r }):wpAny (model prog w) A (Builtin.«list.sort» ⟨[.ref a],[]⟩) P E s:=by
  by_cases h64:vs.length < 64
  · exact list_sort_tree ho hI h64 h
  obtain ⟨v1,v2,rest,rfl⟩:∃ v1 v2 rest,vs = v1 :: v2 :: rest:=by
    match vs,h64 with
    | [],h=>exact absurd (by simp) h
    | [_],h=>exact absurd (by simp) h
    | v1 :: v2 :: rest,_=>exact ⟨v1,v2,rest,rfl⟩
  rw [list_sort_plain]
  have la:a < s.heap.objs.size:=Heap.lt_size ho
  have z2:¬ (v1 :: v2 :: rest).toArray.size < 2:=by simp
  refine wpAny_bind (listItems_at ho rfl (wpAny_bind (listUpdate_at ho rfl ?_ (hsz:=by simpa using hz))))
  have o1:=get?_update_seq ho (fun _=>#[])
  refine wpAny_bind (seqEpoch_at o1 rfl (wpAny_bind (wpAny_newTuple (wpAny_bind (wpAny_newList (wpAny_holding ?_))))))
  generalize (if ((fun x=>#[]) (v1 :: v2 :: rest).toArray).size == (v1 :: v2 :: rest).toArray.size then n else n + 1) = e1 at o1 ⊢
  have o6:(((s.heap.update a (Obj.mapSeq fun _=>#[])).push (seqObj "tuple" (v1 :: v2 :: rest).toArray 0)).push (seqObj "list" #[] 0)).get? a = some (seqObj "list" #[] e1):=by
    rw [Heap.get?_push_ne _ _ _ (by rw [size_push',Heap.size_update]; exact Nat.ne_of_lt (Nat.lt_succ_of_lt la)),Heap.get?_push_ne _ _ _ (by rw [Heap.size_update]; exact Nat.ne_of_lt la)]
    exact o1
  rw [if_neg z2,if_neg z2,keyKind_ints hI]
  refine wpAny_bind (wpAny_pure (wpAny_bind (wpAny_mono (wp_sortRuns (a₀:=pairsOf (v1 :: v2 :: rest)) (Q:=fun _ st'=>(arrOf st').Perm (pairsOf (v1 :: v2 :: rest))∧failedOf st' = none∧SortedTo (arrOf st') (pairsOf (v1 :: v2 :: rest)).size)
    hI.intKeys ⟨Array.Perm.refl _,rfl,rfl,rfl⟩ (by rw [pairsOf_size]; simp) fun st' a1 a2 a3=>⟨a1,a2,a3⟩) ?_ fun _ _ e=>e)))
  rintro ⟨⟨⟩,st'⟩ s' ⟨rfl,hp,hf,hs⟩
  obtain ⟨ms,q1,q2,q3⟩:=sorted_out hI hp hs
  have last:=h ((arrOf st').map (·.2)) ms q1 q2 q3
  have sz:((arrOf st').map (·.2)).size ≤ sizeLine + 1:=by
    rw [Array.size_map,hp.size_eq,pairsOf_size]
    lia
  refine wpAny_bind (seqEpoch_at o6 rfl (wpAny_bind (listUpdate_at o6 rfl ?_ (hsz2:=sz))))
  rw [hf]
  simp only [bne_self_eq_false,Bool.false_eq_true,if_false]
  exact wpAny_pure last
theorem sorted_any {l:Addr} {vs:List Value} {ns:List Int} {Q:Value→Shared→Prop} (hl:s.heap.IsList l vs.toArray) (hI:IntsAre vs ns) (hz:vs.length ≤ sizeLine)
    (h:∀ (r:Array Value) (ms:List Int),IntsAre r.toList ms→ms.Perm ns→ms.Pairwise (· ≤ ·)→Q (.ref (s.heap.objs.size + 1)) { s with heap:=sortedAll s.heap vs r }):wpAny (model prog w) A (call (.builtin "sorted") [.ref l]) Q E s:=by
  refine Calls.call_function_entry kind_sorted plain_sorted entry_sorted (args_sorted1 _) ?_
  unfold Builtin.«sorted»
  refine wpAny_bind (m:=checkCount "sorted" 1 1 _) (wpAny_pure (wpAny_bind (collect_list hl (wpAny_bind (wpAny_newList ?_)) hz)))
  have e:((s.heap.push (seqObj "list" #[] 0)).update s.heap.objs.size (Obj.mapSeq (· ++ vs.toArray))).objs.size = s.heap.objs.size + 1:=by rw [Heap.size_update,size_push']
  have o:(((s.heap.push (seqObj "list" #[] 0)).update s.heap.objs.size (Obj.mapSeq (· ++ vs.toArray))).push (seqObj "list" vs.toArray 0)).get? (s.heap.objs.size + 1) = some (seqObj "list" vs.toArray 0):=by
    rw [← e]
    exact Heap.get?_push_size _ rfl
  show wpAny _ _ _ _ _ { s with heap:=((s.heap.push (seqObj "list" #[] 0)).update s.heap.objs.size (Obj.mapSeq (· ++ vs.toArray))).push (seqObj "list" vs.toArray 0) }
  rw [e]
  exact wpAny_bind (wpAny_holding (wpAny_call_entry slot_list_sort ⟨_,o,rfl⟩ entry_list_sort (sort_any o hI hz fun r ms a1 a2 a3=>⟨_,rfl,wpAny_pure ⟨_,rfl,h r ms a1 a2 a3⟩⟩) (args_list_sort _)))
end
end TS
namespace L2
open PySem PySem.Spec PySem.W PyProof.Rows
section
variable {X:Cx}
theorem call_sortedIL:CallR X (.builtin "sorted") (fun xs H Q=>∃ (p:Addr) (ns:List Int),xs = [V.ref p]∧SqL X.K H p (ns.map V.int)∧ns.length ≤ 100000∧∀ (l:Addr) (ms:List Int),ms.Perm ns→ms.Pairwise (· ≤ ·)→H l = none→Q (.ref l) (upd H l (.lst (ms.map V.int)))):=by
  intro pins s σ H xs us Q I r h
  obtain ⟨p,ns,rfl,hS,h64,q⟩:=h
  obtain ⟨u,rfl,ru⟩:=vals1 r
  cases ru
  obtain ⟨its,rv,pl,_⟩:=I.list hS
  have hl:its.length = ns.length:=by
    have:=rv.length
    rw [List.length_map] at this
    exact this.symm
  refine TS.sorted_any pl.isList (ints_of rv) (by rw [hl]; exact Nat.le_of_lt (small h64)) fun out ms a1 a2 a3=>?_
  obtain ⟨e,he⟩:=sortedAll_at s.heap its out
  have hn:=I.hok.fresh (Nat.le_succ s.heap.objs.size)
  refine ⟨.ref (s.heap.objs.size + 1),_,I.laid (a:=s.heap.objs.size + 1) (o:=.lst (ms.map V.int)) (t':=s.toks) (fun _ _ z=>sortedAll_old z) (Nat.le_succ _) ?_,rfl,q _ ms a2 a3 hn⟩
  refine ⟨?_,out.toList,e,of_ints a1,?_⟩
  · rw [List.length_map,a2.length_eq]
    exact Nat.le_of_lt (small (by lia))
  · rw [he]
theorem call_sortedKL (hc:X.calm = true):CallR X (.builtin "sorted") (fun xs H Q=>∃ (a:Addr) (kvs:List (Key×V)) (ns:List Int),xs = [V.ref a]∧Rd H a (.dK kvs)∧kvs.map (·.1) = ns.map Sum.inl∧ns.length ≤ 100000 ∧
    ∀ (l:Addr) (ms:List Int),ms.Perm ns→ms.Pairwise (· ≤ ·)→H l = none→Q (.ref l) (upd H l (.lst (ms.map V.int)))):=by
  intro pins s σ H xs us Q I r h
  obtain ⟨a,kvs,ns,rfl,ha,hk,h64,q⟩:=h
  obtain ⟨u,rfl,ru⟩:=vals1 r
  cases ru
  obtain ⟨z,hd,vs,rel,dd⟩:=dk_rd I.hok ha
  obtain ⟨ep,da⟩:=dd.dictAt
  have hz:vs.length ≤ sizeLine:=by rw [← rel.length]; exact z
  refine Calls.call_function_entry kind_sorted plain_sorted entry_sorted (args_sorted1 (.ref a)) ?_
  unfold Builtin.«sorted»
  refine wpAny_bind (m:=checkCount "sorted" 1 1 _) (wpAny_pure (wpAny_bind (coll_src (kdl_dict hd) (I.ok.hd hc) da hz fun h1 tk acc kp lt0 it=>?_)))
  have big:=Nat.le_of_lt lt0
  have rv:Vals (kvs.map fun p=>kV p.1) acc.toList:=vals_keys (P:=X.prog) (w:=X.w) rel (by rw [← it.1]; simp) fun j v hj=>it.2 j v (by simpa using hj)
  have em:(kvs.map fun p=>kV p.1) = ns.map V.int:=by
    have e2:(kvs.map (·.1)).map kV = (ns.map Sum.inl).map kV:=by rw [hk]
    rw [List.map_map,List.map_map] at e2
    exact e2
  rw [em] at rv
  have hl:acc.toList.length = ns.length:=by
    have:=rv.length
    rw [List.length_map] at this
    exact this.symm
  have hL:(h1.push (seqObj "list" acc.toList.toArray 0)).get? h1.objs.size = some (seqObj "list" acc.toList.toArray 0):=Heap.get?_push_size _ rfl
  refine wpAny_bind (wpAny_newList ?_)
  have hn:=I.hok.fresh big
  refine wpAny_bind (wpAny_holding (wpAny_call_entry slot_list_sort ⟨_,hL,rfl⟩ entry_list_sort (TS.sort_any hL (ints_of rv) (by rw [hl]; exact Nat.le_of_lt (small h64)) fun out ms a1 a2 a3=>⟨_,rfl,?_⟩) (args_list_sort _)))
  refine wpAny_pure ⟨_,rfl,?_⟩
  obtain ⟨e,he⟩:=sortedHeap_at (out:=out) hL
  refine ⟨.ref h1.objs.size,_,I.laid (a:=h1.objs.size) (o:=.lst (ms.map V.int)) (t':=tk) (fun b o z=>?_) big ?_,rfl,q _ ms a2 a3 hn⟩
  · have hb:=kp b o z
    have lt:=Heap.lt_size hb
    rw [sortedHeap_old (Nat.ne_of_lt lt) (by rw [Heap.size_push]; exact Nat.lt_succ_of_lt lt)]
    exact Heap.get?_push_of_some _ hb
  · refine ⟨?_,out.toList,e,of_ints a1,?_⟩
    · rw [List.length_map,a2.length_eq]
      exact Nat.le_of_lt (small (by lia))
    · rw [he]
end
end L2
set_option maxHeartbeats 1000000
namespace L2
open PySem PySem.Spec PyProof.Rows PySem.W
noncomputable def Itd (a:Addr) (o:Obj) (kvs:List (Key×V)):It :=
  ⟨fun i H=>i < kvs.length∧H a = some (.frz o (.dK kvs)),fun i H x H'=>H' = H∧∃ kv,kvs[i]? = some kv∧x = kV kv.1,fun i H=>kvs.length ≤ i∧H a = some (.frz o (.dK kvs))⟩
theorem turn_dict {P:Program} {w:World} {K:PySem.W.Frag} {tg:Expr} {a it:Addr} {o:Obj} {kvs:List (Key×V)} {vs:List (Key×Value)} {ep:Nat} (rel:KV kvs vs) (ka:KdkAt (mixKind P w) o vs ep):Turn P w K tg (Itd a o kvs) [it] it (fun i h=>h.IsKeyIter it a i vs.length ep) where
  mem:=by simp
  obj:=fun i h st b hb=>by
    have e:b = it:=by simpa using hb
    subst e
    obtain ⟨o,e,c,d⟩:=st
    exact ⟨o,e,fun v z=>by rw [d] at z; cases z⟩
  keep:=fun i h h' st k=>st.at fun o e=>k it (by simp) o e
  item:=by
    intro X hP hw hK s hc i pins σ H E I hf st hg
    subst hP hw hK
    obtain ⟨hi,hq⟩:=hg
    obtain ⟨ho,_⟩:s.heap.get? a = some o∧_:=I.hok a _ hq
    obtain ⟨f0,f1,f2,f3,f4,f5⟩:=hf it (by simp)
    have hl:kvs.length = vs.length:=rel.length
    have hi':i < vs.length:=by lia
    have hx:vs[i]? = some (vs[i].1,vs[i].2):=List.getElem?_eq_getElem hi'
    have ke:kvs[i].1 = vs[i].1:=by
      have h1:=congrArg (fun l=>l[i]?) rel.keys
      simp only [List.getElem?_map,List.getElem?_eq_getElem hi,List.getElem?_eq_getElem hi',Option.map_some] at h1
      exact Option.some.inj h1
    refine wpAny_pyNext_dict_item st (ka.dictAt ho) hx fun key h' hk st' sb=>?_
    have I1:Inv X pins σ H { s with heap:=h' }:=I.turned (t':=s.toks) (fun b o hb e=>(sb.2 b hb).trans e) f0 f1 f3 f4 f5
    obtain ⟨o',e,c,d⟩:=id st'
    exact ⟨key,rfl,go_of (s:={ s with heap:=h' }) e c d (by decide) ⟨kV kvs[i].1,H,I1,by rw [ke]; exact is_kV hk,⟨rfl,kvs[i],List.getElem?_eq_getElem hi,rfl⟩,st',fun b hb=>(hf b hb).1⟩⟩
  done:=by
    intro X hP hw hK s hc i pins σ H E I hf st hg
    subst hP hw hK
    obtain ⟨hi,hq⟩:=hg
    obtain ⟨ho,_⟩:s.heap.get? a = some o∧_:=I.hok a _ hq
    obtain ⟨f0,f1,f2,f3,f4,f5⟩:=hf it (by simp)
    have hl:kvs.length = vs.length:=rel.length
    exact wpAny_pyNext_dict_end hc.none st (ka.dictAt ho) (List.getElem?_eq_none (by lia)) fun h' eb=>⟨rfl,I.turned (t':=s.toks) (fun b o hb e=>eb b o hb e) f0 f1 f3 f4 f5⟩
  self:=fun _ _ _ _ _ st h=>wpAny_pyIter_keyiter st h
section
variable {X:Cx} {tg:Expr}
noncomputable def iDictF (tl:TE):TI:=fun σ H R=>tl σ H fun x H1=>∃ a kvs,x = .ref a∧H1 a = some (.dK kvs)∧∀ o,R (Itd a o kvs) (upd H1 a (.frz o (.dK kvs)))
theorem pi_dictF {l:Expr} {tl:TE} (hl:PE X l tl):PI X tg l (iDictF tl):=by
  intro pins s σ H R I h
  refine thn (hl pins s σ H _ I h) fun v s1 ⟨x,H1,I1,r1,q1⟩=>?_
  obtain ⟨a,kvs,e,hq,q⟩:=q1
  subst e
  cases r1
  obtain ⟨z,hd,vs,rel,dd⟩:=dk_of I1.hok hq
  obtain ⟨ep,o,es,ho,r⟩:=dd.dictAt
  have ka:KdkAt (mixKind X.prog X.w) o vs ep:=⟨es,r⟩
  have I2:Inv X pins σ (upd H1 a (.frz o (.dK kvs))) s1:=by
    have:=d_write (ob:=.frz o (.dK kvs)) (h':=s1.heap) (t':=s1.toks) I1 (by rw [hq]; trivial) ⟨rfl,fun _ _=>rfl⟩ ⟨o,ho⟩ ⟨ho,dk_new z hd rel dd⟩
    exact this
  refine wpAny_pyIter_dict hd ⟨o,es,ho,r⟩ ?_
  refine ⟨s1.heap.objs.size,[s1.heap.objs.size],_,_,_,rfl,I2.kept (t':=s1.toks) fun b o e=>Heap.get?_push_of_some _ e,turn_dict rel ka,⟨_,Heap.get?_push_size _ rfl,rfl,rfl⟩,fun b hb=>?_,q o⟩
  have e:b = s1.heap.objs.size:=by simpa using hb
  subst e
  exact I2.fpOk (Nat.le_refl _) (I2.hok.fresh (Nat.le_refl _))
end
theorem for_dict {a:Addr} {o:Obj} {kvs:List (Key×V)} {g:TG} {tb:TS} {D:Ends} {σ:St} {H:Hp} (Pv:Nat→St→Hp→Prop) (h0:Pv 0 σ H) (hl:∀ i σ H,i ≤ kvs.length→Pv i σ H→H a = some (.frz o (.dK kvs)))
    (hs:∀ i kv σ H,kvs[i]? = some kv→Pv i σ H→g (kV kv.1) σ H fun σ2 H2=>tb { D with nx:=Pv (i + 1),ct:=Pv (i + 1),bk:=D.nx } σ2 H2) (hd:∀ σ H,Pv kvs.length σ H→D.nx σ H) :
    ∃ W:Nat→Nat→St→Hp→Prop,(∃ m,W 0 m σ H)∧∀ i m σ H,W i m σ H →
      ((Itd a o kvs).stop i H∧D.nx σ H)∨((Itd a o kvs).go i H∧∃ N:St→Hp→Prop,(∀ σ' H',N σ' H'→∃ m',m' < m∧W (i + 1) m' σ' H')∧∀ x H',(Itd a o kvs).yld i H x H'→g x σ H' fun σ2 H2=>tb { D with nx:=N,ct:=N,bk:=D.nx } σ2 H2):=by
  refine ⟨fun i m σ H=>m = kvs.length - i∧i ≤ kvs.length∧Pv i σ H,⟨kvs.length,by simp,Nat.zero_le _,h0⟩,?_⟩
  rintro i m σ H ⟨rfl,hi,p⟩
  have q:=hl i σ H hi p
  by_cases hlt:i < kvs.length
  · refine .inr ⟨⟨hlt,q⟩,Pv (i + 1),fun σ' H' p'=>⟨kvs.length - (i + 1),by lia,rfl,hlt,p'⟩,fun x H' y=>?_⟩
    obtain ⟨rfl,kv,h1,rfl⟩:=y
    exact hs i kv σ _ h1 p
  · have e:i = kvs.length:=by lia
    subst e
    exact .inl ⟨⟨Nat.le_refl _,q⟩,hd σ H p⟩
end L2
set_option maxHeartbeats 1000000
namespace L2
open PySem PySem.Spec PyProof.Rows PySem.W
theorem kv_at:∀ {kvs:List (Key×V)} {vs:List (Key×Value)} {i:Nat} {p:Key×V} {q:Key×Value},KV kvs vs→kvs[i]? = some p→vs[i]? = some q→RelV p.2 q.2
  | _,_,0,_,_,.cons r _,h1,h2=>by cases h1; cases h2; exact r.2
  | _,_,i + 1,_,_,.cons _ t,h1,h2=>kv_at (i:=i) t (by simpa using h1) (by simpa using h2)
noncomputable def Itv (a:Addr) (o:Obj) (kvs:List (Key×V)):It :=
  ⟨fun i H=>i < kvs.length∧H a = some (.frz o (.dK kvs)),fun i H x H'=>H' = H∧∃ kv,kvs[i]? = some kv∧x = kv.2,fun i H=>kvs.length ≤ i∧H a = some (.frz o (.dK kvs))⟩
theorem turn_dictV {P:Program} {w:World} {K:PySem.W.Frag} {tg:Expr} {a it:Addr} {o:Obj} {kvs:List (Key×V)} {vs:List (Key×Value)} {ep:Nat} (rel:KV kvs vs) (ka:KdkAt (mixKind P w) o vs ep):Turn P w K tg (Itv a o kvs) [it] it (fun i h=>h.IsValIter it a i vs.length ep) where
  mem:=by simp
  obj:=fun i h st b hb=>by
    have e:b = it:=by simpa using hb
    subst e
    obtain ⟨o,e,c,d⟩:=st
    exact ⟨o,e,fun v z=>by rw [d] at z; cases z⟩
  keep:=fun i h h' st k=>by
    obtain ⟨o,e,r⟩:=st
    exact ⟨o,k it (by simp) o e,r⟩
  item:=by
    intro X hP hw hK s hc i pins σ H E I hf st hg
    subst hP hw hK
    obtain ⟨hi,hq⟩:=hg
    obtain ⟨ho,_⟩:s.heap.get? a = some o∧_:=I.hok a _ hq
    obtain ⟨f0,f1,f2,f3,f4,f5⟩:=hf it (by simp)
    have hl:kvs.length = vs.length:=rel.length
    have hi':i < vs.length:=by lia
    have hx:vs[i]? = some (vs[i].1,vs[i].2):=List.getElem?_eq_getElem hi'
    have hk:kvs[i]? = some kvs[i]:=List.getElem?_eq_getElem hi
    refine wpAny_pyNext_values_item st (ka.dictAt ho) hx fun h' st' sb=>?_
    have I1:Inv X pins σ H { s with heap:=h' }:=I.turned (t':=s.toks) (fun b o hb e=>(sb.2 b hb).trans e) f0 f1 f3 f4 f5
    obtain ⟨o',e,c,d⟩:=id st'
    exact ⟨_,rfl,go_of (s:={ s with heap:=h' }) e c d (by decide) ⟨kvs[i].2,H,I1,kv_at rel hk hx,⟨rfl,kvs[i],hk,rfl⟩,st',fun b hb=>(hf b hb).1⟩⟩
  done:=by
    intro X hP hw hK s hc i pins σ H E I hf st hg
    subst hP hw hK
    obtain ⟨hi,hq⟩:=hg
    obtain ⟨ho,_⟩:s.heap.get? a = some o∧_:=I.hok a _ hq
    obtain ⟨f0,f1,f2,f3,f4,f5⟩:=hf it (by simp)
    have hl:kvs.length = vs.length:=rel.length
    exact wpAny_pyNext_values_end hc.none st (ka.dictAt ho) (List.getElem?_eq_none (by lia)) fun h' eb=>⟨rfl,I.turned (t':=s.toks) (fun b o hb e=>eb b o hb e) f0 f1 f3 f4 f5⟩
  self:=fun _ _ _ _ _ st h=>wpAny_pyIter_valiter st h
section
variable {X:Cx} {tg:Expr}
noncomputable def iDictV (tl:TE):TI:=fun σ H R=>tl σ H fun x H1=>∃ a kvs,x = .ref a∧H1 a = some (.dK kvs)∧∀ o,R (Itv a o kvs) (upd H1 a (.frz o (.dK kvs)))
theorem pi_dictV {l:Expr} {tl:TE} {ap cp:Pos} (hl:PE X l tl) (hbase:attributeBase l "values" X.env (eval l X.env) = eval l X.env:=by rfl) (hline:(ap.endLine == cp.line) = true:=by rfl) :
    PI X tg (.Call (.Attribute l "values" ap) [] [] cp) (iDictV tl):=by
  intro pins s σ H R I h
  refine wpAny_Call_method0_late hbase hline (thn (hl pins s σ H _ I h) fun v s1 ⟨x,H1,I1,r1,q1⟩=>?_)
  obtain ⟨a,kvs,e,hq,q⟩:=q1
  subst e
  cases r1
  obtain ⟨t1,t2,_⟩:=isD_at I1 (.inl ⟨kvs,.inl hq⟩)
  refine ⟨"dict",_,PySem.F.plainAttrs_dict,PySem.F.slot_dict_values,PySem.F.type_dict_values,t1,t2,Calls.callWith_builtin rfl (PySem.evalArgs_none ?_)⟩
  obtain ⟨z,hd,vs,rel,dd⟩:=dk_of I1.hok hq
  refine call_meetsIn PySem.F.slot_dict_values dd.typeIs PySem.F.entry_dict_values (PySem.F.args_dict_values_1 _) (meets_dict_values (mixKind X.prog X.w) a hd) ⟨⟨vs,dd⟩,?_⟩
  obtain ⟨ep,o,es,ho,r⟩:=dd.dictAt
  have ka:KdkAt (mixKind X.prog X.w) o vs ep:=⟨es,r⟩
  have I2:Inv X pins σ (upd H1 a (.frz o (.dK kvs))) s1:=by
    have:=d_write (ob:=.frz o (.dK kvs)) (h':=s1.heap) (t':=s1.toks) I1 (by rw [hq]; trivial) ⟨rfl,fun _ _=>rfl⟩ ⟨o,ho⟩ ⟨ho,dk_new z hd rel dd⟩
    exact this
  have I3:Inv X pins σ (upd H1 a (.frz o (.dK kvs))) { s1 with heap:=s1.heap.push { cls:=.type "dict_values",data:=.fields #[.ref a] } }:=I2.kept (t':=s1.toks) fun b o e=>Heap.get?_push_of_some _ e
  refine wpAny_pyIter_values (s:={ s1 with heap:=s1.heap.push { cls:=.type "dict_values",data:=.fields #[.ref a] } }) ⟨_,Heap.get?_push_size _ rfl,rfl,rfl⟩ ⟨o,es,Heap.get?_push_of_some _ ho,r⟩ ?_
  refine ⟨_,[_],_,_,_,rfl,I3.kept (t':=s1.toks) fun b o e=>Heap.get?_push_of_some _ e,turn_dictV rel ka,⟨_,Heap.get?_push_size _ rfl,rfl,rfl⟩,fun b hb=>?_,q o⟩
  have e:=List.mem_singleton.mp hb
  subst e
  exact I3.fpOk (Nat.le_refl _) (I3.hok.fresh (Nat.le_refl _))
end
theorem for_dictV {a:Addr} {o:Obj} {kvs:List (Key×V)} {g:TG} {tb:TS} {D:Ends} {σ:St} {H:Hp} (Pv:Nat→St→Hp→Prop) (h0:Pv 0 σ H) (hl:∀ i σ H,i ≤ kvs.length→Pv i σ H→H a = some (.frz o (.dK kvs)))
    (hs:∀ i kv σ H,kvs[i]? = some kv→Pv i σ H→g kv.2 σ H fun σ2 H2=>tb { D with nx:=Pv (i + 1),ct:=Pv (i + 1),bk:=D.nx } σ2 H2) (hd:∀ σ H,Pv kvs.length σ H→D.nx σ H) :
    ∃ W:Nat→Nat→St→Hp→Prop,(∃ m,W 0 m σ H)∧∀ i m σ H,W i m σ H →
      ((Itv a o kvs).stop i H∧D.nx σ H)∨((Itv a o kvs).go i H∧∃ N:St→Hp→Prop,(∀ σ' H',N σ' H'→∃ m',m' < m∧W (i + 1) m' σ' H')∧∀ x H',(Itv a o kvs).yld i H x H'→g x σ H' fun σ2 H2=>tb { D with nx:=N,ct:=N,bk:=D.nx } σ2 H2):=by
  refine ⟨fun i m σ H=>m = kvs.length - i∧i ≤ kvs.length∧Pv i σ H,⟨kvs.length,by simp,Nat.zero_le _,h0⟩,?_⟩
  rintro i m σ H ⟨rfl,hi,p⟩
  have q:=hl i σ H hi p
  by_cases hlt:i < kvs.length
  · refine .inr ⟨⟨hlt,q⟩,Pv (i + 1),fun σ' H' p'=>⟨kvs.length - (i + 1),by lia,rfl,hlt,p'⟩,fun x H' y=>?_⟩
    obtain ⟨rfl,kv,h1,rfl⟩:=y
    exact hs i kv σ _ h1 p
  · have e:i = kvs.length:=by lia
    subst e
    exact .inl ⟨⟨Nat.le_refl _,q⟩,hd σ H p⟩
section
variable {X:Cx} {pins:List (Addr×Obj)} {σ:St} {H:Hp} {s:Shared}
theorem Inv.thaw {a:Addr} {o:Obj} {kvs:List (Key×V)} (I:Inv X pins σ H s) (e:H a = some (.frz o (.dK kvs))) (n:∀ o' u,X.H₀ a ≠ some (.frz o' u)):Inv X pins σ (upd H a (.dK kvs)) s:=by
  have ne:∀ b,H b = none→b ≠ a:=fun b h z=>by rw [z,e] at h; cases h
  have nu:∀ b u,H b = some u→u ≠ .frz o (.dK kvs)→upd H a (.dK kvs) b = some u:=fun b u h k=>by
    rw [upd_ne (fun z=>by rw [z,e] at h; cases h; exact k rfl)]
    exact h
  refine ⟨I.ok,I.os,I.bare,⟨I.base.keep,I.base.slot,fun b q h1 h2 h3=>?_,I.base.there,fun b xs h=>nu _ _ (I.base.tups b xs h) (by intro z; cases z),fun b q u h=>?_,fun b ps h=>?_⟩,I.loc,I.cell,?_,fun x c h=>?_,fun p hp=>?_,fun b u h=>?_,I.len⟩
  · have:=I.base.free b q h1 h2 h3
    rw [upd_ne (ne b this)]
    exact this
  · have z:b ≠ a:=fun z=>n q u (z ▸ h)
    rw [upd_ne z]
    exact I.base.frzs b q u h
  · obtain ⟨more,h'⟩:=I.base.tbls b ps h
    exact ⟨more,nu _ _ h' (by intro z; cases z)⟩
  · rw [upd_ne (ne _ I.free)]
    exact I.free
  · rw [upd_ne (ne _ (I.freeC x c h))]
    exact I.freeC x c h
  · obtain ⟨p1,p2,p3⟩:=I.pin p hp
    exact ⟨p1,by rw [upd_ne (ne _ p2)]; exact p2,p3⟩
  · by_cases z:b = a
    · subst z
      rw [upd_same] at h
      cases h
      have hx:s.heap.get? b = some o∧ObjOk X.prog X.w H s.heap b (.dK kvs):=I.hok b _ e
      exact hx.2
    · rw [upd_ne z] at h
      exact (I.hok b u h).stay (fun _ _ _ q=>q) (fun b2 e2=>nu _ _ e2 (by intro z; cases z)) fun b2 xs e2=>nu _ _ e2 (by intro z; cases z)
noncomputable def tThaw (H0:Hp) (t:TS):TS:=fun D σ H=>t { D with nx:=fun σ' H'=>∃ a o kvs,H' a = some (.frz o (.dK kvs))∧(∀ o' u,H0 a ≠ some (.frz o' u))∧D.nx σ' (upd H' a (.dK kvs)) } σ H
theorem ps_thaw {st:Stmt} {t:TS} (h:PS X st t):PS X st (tThaw X.H₀ t):=by
  intro pins s σ H D I q
  refine thn (h pins s σ H _ I q) fun f s1 q1=>?_
  cases f with
  | next =>
    obtain ⟨σ',H',I',a,o,kvs,e,n,q2⟩:=q1
    exact ⟨σ',_,I'.thaw e n,q2⟩
  | ret v=>exact q1
  | brk=>exact q1
  | cont=>exact q1
end
end L2
set_option maxHeartbeats 1000000
namespace L2
open PySem PySem.Spec PySem.Calls PySem.W PyProof.Rows
section
variable {prog:Program} {w:World} {A:Around} {E:Value→Shared→Prop} {s:Shared}
end
end L2
set_option maxHeartbeats 1000000
namespace L2
open PySem PySem.Spec PySem.Calls PySem.W PyProof.Rows
section
variable {X:Cx} {pins:List (Addr×Obj)} {σ:St} {H:Hp} {s:Shared}
end
end L2
namespace L2
open PySem PySem.Spec PyProof.Rows
section
variable {prog:Program} {w:World} {A:Around} {I:Addr} {fp wr:List Addr} {n:Nat} {P:Nat→Value→Prop} {St:Nat→Heap→Prop} {R:Result→Shared→Prop}
end
end L2
namespace L2
open PySem PySem.Spec PyProof.Rows
section
variable {prog:Program} {w:World} {A:Around} {E:Value→Shared→Prop} {s:Shared}
end
section
variable {prog:Program} {w:World} {A:Around} {E:Value→Shared→Prop} {s:Shared}
end
section
variable {prog:Program} {w:World} {A:Around} {E:Value→Shared→Prop} {s:Shared}
end
end L2
namespace L2
open PySem PySem.Spec PyProof.Rows
section
variable {X:Cx} {e v:Expr} {te tv:TE}
end
end L2
set_option maxHeartbeats 1000000
namespace L2
open PySem PySem.Spec PySem.Calls PySem.W PyProof.Rows
noncomputable def tabφ (P:Addr) (ps:Array Value):Heap→Prop:=fun h=>h.get? P = some (tabObj ps)
noncomputable def codφ (c:Addr) (qual:Str):Heap→Prop:=fun h=>h.CodeRec (.ref c) qual
noncomputable def TabS (H:Hp) (P:Addr) (pos:Pos) (qual:Str):Prop:=∃ ps,H P = some (.ext (tabφ P ps))∧TriplesOk ps.toList∧(codeAmong pos ps.toList = none∨∃ c',codeAmong pos ps.toList = some (.ref c')∧H c' = some (.ext (codφ c' qual)))
noncomputable def SxP (P:Addr) (H H':Hp):Prop:=∀ b o,b ≠ P→H b = some o→H' b = some o
theorem SxP.trans {P:Addr} {H H1 H2:Hp} (a:SxP P H H1) (b:SxP P H1 H2):SxP P H H2:=fun c o n e=>b c o n (a c o n e)
theorem Same.sxP {P:Addr} {H H':Hp} (s:Same H H'):SxP P H H':=fun b o _ e=>s b o e
structure BltIn (base:Heap) (mg:Str→Option Value):Prop where
  ex:∃ bm o,mg "__builtins__" = some (.ref bm)∧bm ≠ builtinsNs∧bm ≠ mainGlobals∧base.get? bm = some o∧o.cls = .type "module"∧o.dict = some builtinsNs∧o.data = .plain
section
variable {X:Cx} {pins:List (Addr×Obj)} {σ:St} {H:Hp} {s:Shared}
theorem ext_ok {P:Program} {w:World} {H:Hp} {h:Heap} {a:Addr} {φ:Heap→Prop} (x:ObjOk P w H h a (.ext φ)):φ h:=x.1
theorem triples_snoc:∀ {l:List Value} {a b:Int} {t u:Tok} {c:Value},TriplesOk l→TriplesOk (l ++ [.int a t,.int b u,c])
  | [],_,_,_,_,_,_=>trivial
  | .int _ _ :: .int _ _ :: _ :: rest,_,_,_,_,_,h=>triples_snoc (l:=rest) h
end
section
variable {X:Cx} {e:Expr} {te:TE}
end
end L2
set_option maxHeartbeats 1000000
namespace L2
open PySem PySem.Spec PySem.Calls PySem.W PyProof.Rows
theorem law_callT {P:Program} {w:World} {K:PySem.W.Frag} {mg mb:Str→Option Value} {CX:CXT} {k:Nat} {fa a:Addr} {fd:FuncData} {x:Str} {sp:Sp} {s₁:Shared} {vs:List Value} {ns:List Int} {tabs:List (Addr×Addr)}
    (KX:K.In s₁.heap) (hns:s₁.heap.Ns mainGlobals mg) (hb:s₁.heap.Ns builtinsNs mb) (hbb:∀ x:Str,x ≠ "__name__"→mb x = bootBuiltins x) (hlim:s₁.heap.NoLimit) (hg:s₁.gens = #[])
    (ha:s₁.heap.get? a = some { cls:=.type "list",data:=.seq vs.toArray }) (hi:IntsAre vs ns) (hl:ns.length ≤ sizeLine) (hr:Room k callerA)
    (hbm:∃ bm ob,mg "__builtins__" = some (.ref bm)∧bm ≠ builtinsNs∧s₁.heap.get? bm = some ob∧ob.cls = .type "module"∧ob.dict = some builtinsNs∧ob.data = .plain)
    (hT:TabsAt tabs s₁.heap) (hTK:∀ t ∈ tabs,K.lookup t.2 = none)
    (F:∀ base:Heap,K.In base→base.Ns mainGlobals mg→(∀ t ∈ tabs,CodeHd base t.1 t.2)→BltIn base mg→FnOk P w K mg base CX k fa fd [x] sp) (hbind:∀ (s:Shared) (u:Value),BindsTo s fd ⟨[u],[]⟩ [(x,u)])
    (hsp:∀ H:Hp,SqL K H a (ns.map V.int)→(∀ t ∈ tabs,H t.2 = some (.ext (tabφ t.2 #[])))→sp [.ref a] H (fun v H'=>v = .bl true∧∀ t ∈ tabs,∃ ps,H' t.2 = some (.ext (tabφ t.2 ps))) fun _ _ _=>False)
    (hCX:∀ H e s',CX [] H s₁ (fun _ _ _=>False) e s'→False) :
    codeAny (model P w) callerA (.call (.ref fa) ⟨[.ref a],[]⟩) (fun r s'=>r = .ok (.ret (.bool true))∧OldK s₁.heap s'.heap∧s'.os = s₁.os∧AllBare s'.gens) s₁:=by
  have rv:=vals_ints hi
  have lenV:=hi.length
  have aT:∀ t ∈ tabs,t.2 ≠ a:=fun t ht z=>by
    have:=(hT t ht).2
    rw [z,ha] at this
    cases this
  have core:∀ H:Hp,SqL K H a (ns.map V.int)→HOk P w H s₁.heap→(∀ b,H b = none∨(b = a∧∃ xs,H b = some (.frz { cls:=.type "list",data:=.seq vs.toArray } (.lst xs)))∨(∃ t ∈ tabs,b = t.2∧H b = some (.ext (tabφ b #[]))))→(∀ t ∈ tabs,H t.2 = some (.ext (tabφ t.2 #[])))→(H a ≠ none→K.lookup a = none) →
      codeAny (model P w) callerA (.call (.ref fa) ⟨[.ref a],[]⟩) (fun r s'=>r = .ok (.ret (.bool true))∧OldK s₁.heap s'.heap∧s'.os = s₁.os∧AllBare s'.gens) s₁:=by
    intro H hS hok hA hTH hK
    have base_of:∀ {b:Addr} {o:Obj},s₁.heap.get? b = some o→H b = none→(hidT s₁.heap H).get? b = some o:=fun e n=>hidT_get e n
    have noA:∀ {b:Addr} {o:Obj},s₁.heap.get? b = some o→o ≠ { cls:=.type "list",data:=.seq vs.toArray }→o ≠ tabObj #[]→H b = none:=fun {b o} e n1 n2=>by
      rcases hA b with z | ⟨z,_⟩ | ⟨t,ht,z,_⟩
      · exact z
      · rw [z,ha] at e
        exact absurd (Option.some.inj e).symm n1
      · rw [z,(hT t ht).2] at e
        exact absurd (Option.some.inj e).symm n2
    have nsK:∀ {b:Addr} {m:Str→Option Value},s₁.heap.Ns b m→(hidT s₁.heap H).Ns b m:=fun {b m} ⟨o,es,ep,e,d,r⟩=>⟨o,es,ep,base_of e (noA e (fun z=>by rw [z] at d; cases d) (fun z=>by rw [z] at d; cases d)),d,r⟩
    have hKb:K.In (hidT s₁.heap H):=fun b o e=>base_of (KX b o e) (by
      rcases hA b with z | ⟨z,xs,e2⟩ | ⟨t,ht,z,_⟩
      · exact z
      · subst z
        rw [hK (by rw [e2]; simp)] at e
        cases e
      · rw [z,hTK t ht] at e
        cases e)
    have hM:Mod K mg (hidT s₁.heap H):=⟨hKb,nsK hns,⟨mb,nsK hb,hbb⟩,let ⟨mc,h1,h2⟩:=hlim; ⟨mc,nsK h1,h2⟩⟩
    have hC:∀ t ∈ tabs,CodeHd (hidT s₁.heap H) t.1 t.2:=fun t ht=>by
      obtain ⟨o,vs2,file,tf,flags,tg,inF,text,tt,e,c1,r⟩:=(hT t ht).1
      exact ⟨o,vs2,file,tf,flags,tg,inF,text,tt,base_of e (noA e (fun z=>by rw [z] at c1; injection c1 with c1; exact absurd c1 (by decide)) (fun z=>by rw [z] at c1; cases c1)),c1,r⟩
    have hBl:BltIn (hidT s₁.heap H) mg:=by
      obtain ⟨bm,ob,b1,b2,b3,b4,b5,b6⟩:=hbm
      refine ⟨bm,ob,b1,b2,fun z=>?_,base_of b3 (noA b3 (fun z=>by rw [z] at b6; cases b6) (fun z=>by rw [z] at b6; cases b6)),b4,b5,b6⟩
      obtain ⟨o,es,ep,e,d,r⟩:=hns
      rw [z,e] at b3
      cases b3
      rw [d] at b6
      cases b6
    have e0:Env0 P w K mg (hidT s₁.heap H) callerA [] s₁ H:=⟨rfl,hM,fun b o e=>of_hidT e,Nat.le_of_eq (hidT_size _ _),trivial,fun b hb=>absurd (show b ∈ ([]:List Addr) from hb) (by simp),hok,.of_eq hg⟩
    refine codeAny_mono ((F _ hKb (nsK hns) hC hBl).run callerA [] s₁ H ⟨[.ref a],[]⟩ [.ref a] [.ref a] _ _ hr e0 (hbind s₁ (.ref a)) (.cons rfl .nil) (hsp H hS hTH)) fun r s' h=>?_
    cases r with
    | error e=>exact (hCX H e s' h).elim
    | ok fl =>
      cases fl with
      | next=>exact False.elim h
      | brk=>exact False.elim h
      | cont=>exact False.elim h
      | ret u =>
        obtain ⟨v,H',os,bare,un,hok',r',q⟩:=h
        have q':v = .bl true∧∀ t ∈ tabs,∃ ps,H' t.2 = some (.ext (tabφ t.2 ps)):=q
        obtain ⟨rfl,q'⟩:=q'
        obtain rfl:u = Value.bool true:=r'
        refine ⟨rfl,⟨fun b o e=>?_,fun b o e=>un.there b o e (by simp)⟩,os,bare⟩
        rcases hA b with z | ⟨z,xs,e2⟩ | ⟨t,ht,z,_⟩
        · exact .inl (un.keep b o e z (by intro y; exact absurd (show b ∈ ([]:List Addr) from y) (by simp)) (by simp))
        · have z2:=un.frzs b _ _ e2
          obtain ⟨e1,_⟩:=hok b _ e2
          obtain ⟨e3,_⟩:=hok' b _ z2
          rw [e] at e1; cases e1
          exact .inl e3
        · subst z
          obtain ⟨ps,hp⟩:=q' t ht
          have e3:s'.heap.get? t.2 = some (tabObj ps):=ext_ok (hok' _ _ hp)
          have e4:=(hT t ht).2
          rw [e] at e4
          cases e4
          obtain ⟨o,vs2,file,tf,flags,tg,inF,text,tt,e5,c1,d1,v1,_⟩:=(hT t ht).1
          refine .inr (.inl ⟨⟨t.1,o,vs2,e5,c1,d1,v1⟩,rfl,#[],ps,rfl,?_⟩)
          rw [e3]
          simp
  have tabO:∀ t ∈ tabs,∀ H:Hp,ObjOk P w H s₁.heap t.2 (.ext (tabφ t.2 #[])):=fun t ht H=>⟨(hT t ht).2,⟨_,(hT t ht).2⟩,fun h1 h2 x1 k2=>k2 _ x1⟩
  cases hk:K.lookup a with
  | some o =>
    have e:=KX a o hk
    rw [ha] at e
    cases e
    refine core (fun b=>if b ∈ tabs.map (·.2) then some (.ext (tabφ b #[])) else none) (.inr ⟨_,vs.toArray,_,hk,rfl,rfl,rfl,by rw [List.size_toArray,lenV]; exact hl,by simpa using rv⟩) (fun b u z=>?_) (fun b=>?_) (fun t ht=>if_pos (List.mem_map_of_mem ht)) (fun z=>absurd (if_neg fun m=>?_) z)
    · by_cases hm:b ∈ tabs.map (·.2)
      · have z':=(if_pos hm).symm.trans z
        cases z'
        obtain ⟨t,ht,rfl⟩:=List.mem_map.mp hm
        exact tabO t ht _
      · have z':=(if_neg hm).symm.trans z
        cases z'
    · by_cases hm:b ∈ tabs.map (·.2)
      · obtain ⟨t,ht,rfl⟩:=List.mem_map.mp hm
        exact .inr (.inr ⟨t,ht,rfl,if_pos hm⟩)
      · exact .inl (if_neg hm)
    · obtain ⟨t,ht,z⟩:=List.mem_map.mp m
      exact aT t ht z
  | none =>
    refine core (fun b=>if b = a then some (.frz { cls:=.type "list",data:=.seq vs.toArray } (.lst (ns.map V.int))) else if b ∈ tabs.map (·.2) then some (.ext (tabφ b #[])) else none) (.inl (.inr ⟨{ cls:=.type "list",data:=.seq vs.toArray },if_pos rfl⟩)) (fun b u z=>?_) (fun b=>?_) (fun t ht=>?_) fun _=>hk
    · by_cases hb:b = a
      · have z':=(if_pos hb).symm.trans z
        cases z'
        subst hb
        exact ⟨ha,by rw [List.length_map]; exact hl,vs,_,rv,ha⟩
      · have z':=(if_neg hb).symm.trans z
        by_cases hm:b ∈ tabs.map (·.2)
        · have z2:=(if_pos hm).symm.trans z'
          cases z2
          obtain ⟨t,ht,rfl⟩:=List.mem_map.mp hm
          exact tabO t ht _
        · have z2:=(if_neg hm).symm.trans z'
          cases z2
    · by_cases hb:b = a
      · exact .inr (.inl ⟨hb,_,if_pos hb⟩)
      · by_cases hm:b ∈ tabs.map (·.2)
        · obtain ⟨t,ht,rfl⟩:=List.mem_map.mp hm
          exact .inr (.inr ⟨t,ht,rfl,(if_neg hb).trans (if_pos hm)⟩)
        · exact .inl ((if_neg hb).trans (if_neg hm))
    · exact (if_neg (aT t ht)).trans (if_pos (List.mem_map_of_mem ht))
theorem walk_tab {l:PySem.W.OpenLaw} {n k:Nat} {q:Program} {loose:List Str} {XP:(Str→Option Value)→Heap→Prop} {YP:World→Heap→Prop} {d:DefRec} {K:Params→PySem.W.Frag} {CX:World→CXT} {sp:World→Sp} {x:Str} {tabs:List (Addr×Addr)}
    (hn:l.most = some n) (hn2:n ≤ sizeLine) (hdf:d.params.defaults = []) (hr:Room k callerA)
    (hY:∀ (w:World) (h:Heap),YP w h→(K w.params).In h∧TabsAt tabs h) (hTK:∀ (w:World),∀ t ∈ tabs,(K w.params).lookup t.2 = none)
    (F:∀ (w:World) (mg:Str→Option Value) (fa:Addr) (h:Heap),(K w.params).In h→h.Ns mainGlobals mg→mg d.name = some (.ref fa) →
      ∃ fd:FuncData,(∀ (s:Shared) (u:Value),BindsTo s fd ⟨[u],[]⟩ [(x,u)]) ∧
        ∀ base:Heap,(K w.params).In base→base.Ns mainGlobals mg→(∀ t ∈ tabs,CodeHd base t.1 t.2)→BltIn base mg→FnOk l.prog w (K w.params) mg base (CX w) k fa fd [x] (sp w))
    (hsp:∀ (w:World) (H:Hp) (a:Addr) (ns:List Int),ns.length ≤ n→SqL (K w.params) H a (ns.map V.int)→(∀ t ∈ tabs,H t.2 = some (.ext (tabφ t.2 #[])))→sp w [.ref a] H (fun v H'=>v = .bl true∧∀ t ∈ tabs,∃ ps,H' t.2 = some (.ext (tabφ t.2 ps))) fun _ _ _=>False)
    (hCX:∀ (w:World) (H:Hp) (s:Shared) (e:Value) (s':Shared),CX w [] H s (fun _ _ _=>False) e s'→False) :
    PySem.W.WalkO q loose XP YP l.row.toRowW d [] (fun f vs=>PySem.call f vs):=by
  refine Att.attach_call hn hdf fun w s₀ s₁ mg mb fa o pm cd doc a vs ns G Y ho hd hcd hmg hobj hints hlen hg=>?_
  have KX:=(hY w _ Y).1
  obtain ⟨fd,hb,hF⟩:=F w mg fa _ KX G.T.g hmg
  exact law_callT KX G.T.g G.T.b G.T.builtins G.T.nolimit hg hobj hints (Nat.le_trans hlen hn2) hr G.T.bmain (hY w _ Y).2 (hTK w) hF hb (fun H hS hT=>hsp w H a ns hlen hS hT) fun H e s'=>hCX w H s₁ e s'
end L2
set_option maxHeartbeats 1000000
namespace L2
open PySem PySem.Spec PySem.Calls PySem.W PyProof.Rows
noncomputable def objφ (a:Addr) (o:Obj):Heap→Prop:=fun h=>h.get? a = some o
section
variable {X:Cx} {pins:List (Addr×Obj)} {σ:St} {H:Hp} {s:Shared} {A:Around} {E:Value→Shared→Prop}
end
section
variable {X:Cx} {e:Expr} {te:TE}
end
end L2
set_option maxHeartbeats 1000000
namespace L2
open PySem PySem.Spec PySem.Calls PySem.W PyProof.Rows
noncomputable def del (H:Hp) (c:Addr):Hp:=fun b=>if b = c then none else H b
theorem del_ne {H:Hp} {c b:Addr} (h:b ≠ c):del H c b = H b:=if_neg h
theorem del_same {H:Hp} {c:Addr}:del H c c = none:=if_pos rfl
section
variable {X:Cx} {pins:List (Addr×Obj)} {σ:St} {H:Hp} {s:Shared} {y:Str} {c:Addr} {oc:Obj}
theorem HOk.extra {P:Program} {w:World} {h:Heap} (k:HOk P w H h) (hn:H c = none) (ec:h.get? c = some oc):HOk P w (upd H c (.ext (objφ c oc))) h:=fun b u e=>by
  by_cases z:b = c
  · subst z
    rw [upd_same] at e
    cases e
    exact ⟨ec,⟨_,ec⟩,fun h1 h2 x1 k2=>k2 _ x1⟩
  · rw [upd_ne z] at e
    exact (k b u e).stay (fun _ _ _ q=>q) (fun b2 e2=>by rw [upd_ne (fun z2=>by rw [z2,hn] at e2; cases e2)]; exact e2) fun b2 xs e2=>by rw [upd_ne (fun z2=>by rw [z2,hn] at e2; cases e2)]; exact e2
theorem HOk.del {P:Program} {w:World} {h:Heap} {φ:Heap→Prop} (k:HOk P w H h) (hc:H c = some (.ext φ)):HOk P w (del H c) h:=fun b u e=>by
  have z:b ≠ c:=fun z=>by rw [z,del_same] at e; cases e
  rw [del_ne z] at e
  exact (k b u e).stay (fun _ _ _ q=>q) (fun b2 e2=>by rw [del_ne (fun z2=>by rw [z2,hc] at e2; cases e2)]; exact e2) fun b2 xs e2=>by rw [del_ne (fun z2=>by rw [z2,hc] at e2; cases e2)]; exact e2
theorem codeAmong_snoc_ne {pos pos2:Pos} {c:Value} (hne:¬ (pos.line = pos2.line∧pos.col = pos2.col)) (l:List Value) (h:TriplesOk l):codeAmong pos2 (l ++ [rawInt pos.line,rawInt pos.col,c]) = codeAmong pos2 l:=by
  fun_induction TriplesOk l with
  | case1 =>
    simp only [List.nil_append,codeAmong,rawInt]
    rw [if_neg]
    intro z
    simp only [Bool.and_eq_true,beq_iff_eq] at z
    apply hne
    lia
  | case2 a t b u x rest ih =>
    simp only [List.cons_append,codeAmong]
    rw [ih h]
  | case3=>exact h.elim
theorem triple_1:∀ {l:List Value} {q:Str} {t:Tok},TriplesOk l→¬ l[1]? = some (.str q t)
  | [],_,_,_=>by simp
  | .int _ _ :: .int _ _ :: _ :: _,_,_,_=>by simp
end
end L2
set_option maxHeartbeats 1000000
namespace L2
open PySem PySem.Spec PySem.Calls PySem.W PyProof.Rows
section
variable {X:Cx} {y:Str} {c:Addr}
end
end L2
set_option maxHeartbeats 1000000
namespace L2
open PySem PySem.Spec PySem.Calls PySem.W PyProof.Rows
section
variable {X:Cx} {pins:List (Addr×Obj)} {σ:St} {H:Hp} {s:Shared}
theorem mk_defC {cd P:Addr} {qual:Str} {params:Arguments} {name:Str} {body:List Stmt} {scope:Scope} {pos:Pos} {clos:List (Str×Addr)} {Q:Value→Shared→Prop} (I:Inv X pins σ H s) (hcode:X.env.code = .ref cd) (C:CodeHd X.base cd P) (B:BltIn X.base X.mg) (t:TabS H P pos qual)
    (hcl:closureFor scope X.env = pure clos)
    (h:∀ f c' doc pm ctv s' H',Inv X pins σ H' s'→SxP P H H'→TabS H' P pos qual→(∀ pos2 q2,¬ (pos.line = pos2.line∧pos.col = pos2.col)→TabS H P pos2 q2→TabS H' P pos2 q2)→H f = none→H' f = some (.ext (objφ f (fnMade name qual params body scope clos doc pm c' ctv)))→H' c' = some (.ext (codφ c' qual))→Q (.ref f) s') :
    wpAny (model X.prog X.w) X.A (makeFunction name qual params (.stmts body) scope X.env [] [] [] pos pos.line) Q X.xe s:=by
  obtain ⟨ps,hP,tr,hc⟩:=t
  have eP:s.heap.get? P = some (tabObj ps):=ext_ok (I.hok P _ hP)
  have nB:∀ b o,X.base.get? b = some o→b ≠ P:=fun b o e z=>by
    have:=(I.bs b o e).2
    rw [z,hP] at this
    cases this
  have hgs:=I.mod.glob.keeps I.bk
  have gP:mainGlobals ≠ P:=by
    obtain ⟨o,_,_,e,_⟩:=I.mod.glob
    exact nB _ o e
  have BA:s.heap.BuiltinsAt X.mg P:=by
    obtain ⟨bm,o,b1,b2,b3,b4,b5,b6,b7⟩:=B.ex
    exact ⟨bm,o,b1,b2,b3,nB bm o b4,I.bk _ _ b4,b5,b6,b7⟩
  have nL:∀ b u,H b = some u→b ≠ X.env.locals:=fun b u e z=>by
    have:=I.free
    rw [← z,e] at this
    cases this
  have lay:∀ (h':Heap) (tk:Tok) (H1:Hp) (doc pm:Value) (c':Addr) (ctv:Value),Inv X pins σ H1 { s with heap:=h',toks:=tk } →
      Inv X pins σ (upd H1 h'.objs.size (.ext (objφ h'.objs.size (fnMade name qual params body scope clos doc pm c' ctv)))) { s with heap:=h'.push (fnMade name qual params body scope clos doc pm c' ctv),toks:=tk }:=fun h' tk H1 doc pm c' ctv I1 =>
    I1.laid (a:=h'.objs.size) (t':=tk) (fun b o e=>Heap.get?_push_of_some _ e) (Nat.le_refl _) ⟨Heap.get?_push_size _ rfl,⟨_,Heap.get?_push_size _ rfl⟩,fun h1 h2 x1 k2=>k2 _ x1⟩
  rcases hc with hc | ⟨c',hc,hc'⟩
  · refine makeFunction_K (mg:=X.mg) hcl I.ok.glob hgs hcode (C.keeps I.bk) eP tr hc gP BA fun c' ctv doc h' tk hx hge hlt hrec htb=>?_
    have nc:∀ b o,s.heap.get? b = some o→b ≠ c':=fun b o e z=>absurd (Nat.lt_of_lt_of_le (Heap.lt_size e) (z ▸ hge)) (Nat.lt_irrefl _)
    have Hc:H c' = none:=I.hok.fresh hge
    have ncP:c' ≠ P:=fun z=>nc P _ eP z.symm
    have lt:=I.lt
    have up:∀ b u,b ≠ P→H b = some u→upd (upd H P (.ext (tabφ P (ps ++ #[rawInt pos.line,rawInt pos.col,.ref c'])))) c' (.ext (codφ c' qual)) b = some u:=fun b u hb e=>by
      have:b ≠ c':=fun z=>by rw [z,Hc] at e; cases e
      rw [upd_ne this,upd_ne hb]
      exact e
    have nPt:∀ b u,H b = some u→(∀ φ,u ≠ .ext φ)→b ≠ P:=fun b u e ne z=>by
      rw [z,hP] at e
      cases e
      exact ne _ rfl
    have I1:Inv X pins σ (upd (upd H P (.ext (tabφ P (ps ++ #[rawInt pos.line,rawInt pos.col,.ref c'])))) c' (.ext (codφ c' qual))) { s with heap:=h',toks:=tk }:=by
      refine I.step (g':=s.gens) (d':=s.drawn) (t':=tk) (ch:=[]) (fun b hb=>nomatch hb) (fun b o hL _ _ e n=>hx b o (fun z=>by rw [z,hP] at n; cases n) e) (fun b o hL _ _ e n=>⟨o.slots,hx b o (fun z=>by rw [z,hP] at n; cases n) e⟩)
        (fun b o _ e n=>?_) (fun b o _ e=>?_) (fun b xs e=>up b _ (nPt b _ e fun φ z=>by cases z) e) (fun b o u e=>up b _ (nPt b _ e fun φ z=>by cases z) e) (fun b ps e=>⟨#[],by rw [up b _ (nPt b _ e fun φ z=>by cases z) e]; simp⟩) (fun m hm=>hm.at fun o e=>hx _ o (fun z=>nL P _ hP z.symm) e) (fun b u e=>?_) I.bare
      · rw [upd_ne (nc b o e),upd_ne (fun z=>by rw [z,hP] at n; cases n)]
        exact n
      · by_cases hb:b = P
        · subst hb
          exact ⟨_,htb⟩
        · exact ⟨o,hx b o hb e⟩
      · by_cases hb:b = c'
        · subst hb
          rw [upd_same] at e
          cases e
          obtain ⟨c2,oc,vs2,t2,e2,g2,d2⟩:=id hrec
          cases e2
          refine ⟨hrec,⟨oc,g2⟩,fun h1 h2 x1 k2=>?_⟩
          obtain ⟨c3,oc3,vs3,t3,e3,g3,d3⟩:=x1
          cases e3
          exact ⟨_,oc3,vs3,t3,rfl,k2 _ g3,d3⟩
        · by_cases hbP:b = P
          · subst hbP
            rw [upd_ne hb,upd_same] at e
            cases e
            exact ⟨htb,⟨_,htb⟩,fun h1 h2 x1 k2=>k2 _ x1⟩
          · rw [upd_ne hb,upd_ne hbP] at e
            refine (I.hok b u e).stay (fun c v hc qc=>hx c v ?_ qc) (fun c qc=>up c _ (nPt c _ qc fun φ z=>by cases z) qc) fun c xs qc=>up c _ (nPt c _ qc fun φ z=>by cases z) qc
            rcases hc with z | z
            · rw [z]; exact hbP
            · exact nPt c _ z fun φ z=>by cases z
    have fne:∀ b,b < h'.objs.size→b ≠ h'.objs.size:=fun b hb=>Nat.ne_of_lt hb
    have Plt:P < h'.objs.size:=Heap.lt_size htb
    refine h h'.objs.size c' doc _ ctv _ _ (lay h' tk _ doc _ c' ctv I1) (fun b o hb e=>?_) ?_ (fun pos2 q2 hne ⟨ps2,hP2,tr2,hc2⟩=>?_) ?_ upd_same ?_
    · have lb:=I.hok.lt e
      rw [upd_ne (Nat.ne_of_lt (Nat.lt_of_lt_of_le lb (Nat.le_trans hge (Nat.le_of_lt hlt))))]
      exact up b o hb e
    · refine ⟨_,by rw [upd_ne (fne _ Plt),upd_ne (Ne.symm ncP),upd_same],?_,.inr ⟨c',?_,by rw [upd_ne (fne _ hlt),upd_same]⟩⟩
      · rw [Array.toList_append]
        exact triples_snoc tr
      · rw [Array.toList_append]
        exact codeAmong_snoc _ tr hc
    · have eP2:s.heap.get? P = some (tabObj ps2):=ext_ok (I.hok P _ hP2)
      obtain rfl:ps2 = ps:=by
        rw [eP] at eP2
        injection eP2 with z
        injection z with _ _ z
        injection z with z
        exact z.symm
      refine ⟨_,by rw [upd_ne (fne _ Plt),upd_ne (Ne.symm ncP),upd_same],?_,?_⟩
      · rw [Array.toList_append]
        exact triples_snoc tr
      · rw [Array.toList_append]
        have e2:=codeAmong_snoc_ne (c:=.ref c') hne ps2.toList tr
        rcases hc2 with z | ⟨c2,z1,z2⟩
        · exact .inl (e2.trans z)
        · refine .inr ⟨c2,e2.trans z1,?_⟩
          have lb:=I.hok.lt z2
          have n1:c2 ≠ h'.objs.size:=Nat.ne_of_lt (Nat.lt_of_lt_of_le lb (Nat.le_trans hge (Nat.le_of_lt hlt)))
          have n2:c2 ≠ c':=Nat.ne_of_lt (Nat.lt_of_lt_of_le lb hge)
          by_cases z3:c2 = P
          · exfalso
            obtain ⟨_,oc,vs2,t2,e3,g2,d2⟩:=id (ext_ok (I.hok c2 _ z2):s.heap.CodeRec (.ref c2) q2)
            cases e3
            rw [z3,eP] at g2
            cases g2
            obtain ⟨d2,d3⟩:=d2
            have d4:Data.fields ps2 = Data.fields vs2:=d2
            injection d4 with d4
            subst d4
            exact triple_1 tr (by rw [Array.getElem?_toList]; exact d3)
          · rw [upd_ne n1]
            exact up c2 _ z3 z2
    · exact I.hok.fresh (Nat.le_trans hge (Nat.le_of_lt hlt))
    · rw [upd_ne (fne _ hlt),upd_same]
  · refine makeFunction_hit (mg:=X.mg) hcl I.ok.glob hgs hcode (C.keeps I.bk) eP tr hc BA fun ctv doc h' tk hk hsz=>?_
    have I1:Inv X pins σ H { s with heap:=h',toks:=tk }:=I.kept hk
    have ne:∀ b u,H b = some u→b ≠ h'.objs.size:=fun b u e=>Nat.ne_of_lt (Nat.lt_of_lt_of_le (I.hok.lt e) hsz)
    refine h h'.objs.size c' doc _ ctv _ _ (lay h' tk _ doc _ c' ctv I1) (fun b o hb e=>by rw [upd_ne (ne b o e)]; exact e) ⟨ps,by rw [upd_ne (ne _ _ hP)]; exact hP,tr,.inr ⟨c',hc,by rw [upd_ne (ne _ _ hc')]; exact hc'⟩⟩ (fun pos2 q2 _ ⟨ps2,hP2,tr2,hc2⟩=>⟨ps2,by rw [upd_ne (ne _ _ hP2)]; exact hP2,tr2,hc2.imp id fun ⟨c2,a1,a2⟩=>⟨c2,a1,by rw [upd_ne (ne _ _ a2)]; exact a2⟩⟩) (I.hok.fresh hsz) upd_same (by rw [upd_ne (ne _ _ hc')]; exact hc')
end
structure CloT where
  name:Str
  qual:Str
  params:Arguments
  body:List Stmt
  scope:Scope
  y:Str
  x:Str
section
variable {X:Cx}
noncomputable def tDef (P:Addr) (pos:Pos) (t:CloT) (c:Addr) (i:Nat):TS:=fun D σ H=>TabS H P pos t.qual∧∀ f c' doc pm ctv H',SxP P H H'→TabS H' P pos t.qual→(∀ pos2 q2,¬ (pos.line = pos2.line∧pos.col = pos2.col)→TabS H P pos2 q2→TabS H' P pos2 q2)→H f = none →
  H' f = some (.ext (objφ f (fnMade t.name t.qual t.params t.body t.scope [(t.y,c)] doc pm c' ctv)))→H' c' = some (.ext (codφ c' t.qual))→D.nx (σ.set i (some (.ref f))) H'
theorem ps_def {cd P:Addr} {pos:Pos} {c:Addr} {i:Nat} (t:CloT) (hN:X.N.Nodup) (hi:X.N[i]? = some t.name) (hx:Loc X.env.scope t.name) (hcode:X.env.code = .ref cd) (C:CodeHd X.base cd P) (B:BltIn X.base X.mg) (hqual:qualnameIn X.env t.name t.name = t.qual) (hd0:t.params.defaults = []) (hk0:t.params.kw_defaults = []) (han:annTrees t.params none X.env = [])
    (hcl:closureFor t.scope X.env = pure [(t.y,c)]) (hf:X.fn t.name = true∨X.env.scope.names.lookup t.name = some .local:=by first | exact .inl rfl | exact .inr rfl):PS X (.FunctionDef t.name t.params t.body [] none [] t.scope none t.name pos) (tDef P pos t c i):=by
  intro pins s σ H D I h
  obtain ⟨tb,h⟩:=h
  refine nestDef_K hd0 hk0 han ?_
  rw [hqual]
  refine mk_defC I hcode C B tb hcl fun f c' doc pm ctv s' H' I' sx tb' ot hf' hf'' hc'=>?_
  exact store_ok2 (v:=.ref f) I' hN hi hx rfl (fun s2 I2 _=>⟨_,H',I2,h f c' doc pm ctv H' sx tb' ot hf' hf'' hc'⟩) hf
end
end L2
set_option maxHeartbeats 1000000
namespace L2
open PySem PySem.Spec PySem.Calls PySem.W PyProof.Rows
structure CloSc (t:CloT):Prop where
  kind:t.scope.kind = .function
  co:t.scope.isCoroutine = false
  gen:t.scope.isGenerator = false
  nocell:∀ y ∈ t.scope.names,y.2 ≠ .cell
  loc:t.scope.names.lookup t.x = some .local
  fr:t.scope.names.lookup t.y = some .free
  one:∀ z,t.scope.names.lookup z = some .free→z = t.y
  ne:[t.x,t.y].Nodup
  bind:∀ u doc pm c' ctv c,bindArgs (fnX t.name t.qual t.params t.body t.scope [(t.y,c)] .none .none doc pm none (.ref c') ctv) ⟨[u],[]⟩ = pure [(t.x,u)]
noncomputable def CloAt (t:CloT) (H:Hp) (f d c:Addr) (oc:Obj):Prop:=∃ (doc pm:Value) (c':Addr) (ctv:Value),H f = some (.ext (objφ f (fnMade t.name t.qual t.params t.body t.scope [(t.y,c)] doc pm c' ctv)))∧H c' = some (.ext (codφ c' t.qual))∧H c = some (.ext (objφ c oc))∧oc.data = .cell (some (.ref d))
noncomputable def CloOf (t:CloT) (H:Hp) (f d:Addr):Prop:=∃ c oc,CloAt t H f d c oc
noncomputable def cxClo (P:Program) (w:World) (K:PySem.W.Frag) (mg:Str→Option Value) (base:Heap) (t:CloT) (f c' c:Addr) (A:Around) (outer:List Env) (s:Shared) (H:Hp):Cx where
  prog:=P
  w:=w
  K:=K
  mg:=mg
  base:=base
  A:=A.deeper (envX t.qual t.scope s.heap.objs.size f (.ref c') [(t.y,c)])
  N:=[t.x,t.y]
  s₀:=s
  H₀:=H
  env:=envX t.qual t.scope s.heap.objs.size f (.ref c') [(t.y,c)]
  outer:=outer
  stack:=envX t.qual t.scope s.heap.objs.size f (.ref c') [(t.y,c)] :: outer
  ex:=[]
  calm:=true
  fn:=fun _=>false
  pn:=[]
  xe:=fun _ _=>False
noncomputable def CloOk (P:Program) (w:World) (K:PySem.W.Frag) (mg:Str→Option Value) (base:Heap) (k:Nat) (t:CloT) (sp:Addr→V→Hp→VK→Prop):Prop:=CloSc t ∧
  (∀ (f c' c:Addr) (A:Around) (outer:List Env) (s:Shared) (H:Hp) (d:Addr) (v:V) (Q:VK),Room k (A.deeper (envX t.qual t.scope s.heap.objs.size f (.ref c') [(t.y,c)]))→sp d v H Q →
    ∃ tm,PSs (cxClo P w K mg base t f c' c A outer s H) t.body tm∧tm { nx:=fun _ H'=>Q .non H',rt:=Q } [some v,some (.ref d)] H) ∧
  ∀ (d:Addr) (v:V) (H:Hp) (c:Addr) (oc:Obj) (Q:VK),H c = some (.ext (objφ c oc))→sp d v H Q→sp d v (del H c) fun r H'=>H' c = none→Q r (upd H' c (.ext (objφ c oc)))
section
variable {X:Cx} {pins:List (Addr×Obj)} {σ:St} {H:Hp} {s:Shared}
theorem run_clo {k:Nat} {t:CloT} {sp:Addr→V→Hp→VK→Prop} {f d:Addr} {v:V} {u:Value} {Q:VK} (F:CloOk X.prog X.w X.K X.mg X.base k t sp) (hr:Room (k + 1) X.A) (I:Inv X pins σ H s) (g:CloOf t H f d) (rv:RelV v u) (h:sp d v H Q) :
    wpAny (model X.prog X.w) X.A (call (.ref f) [u]) (EP X pins σ Q) X.xe s:=by
  obtain ⟨c,oc,doc,pm,c',ctv,h1,h2,h3,h4⟩:=g
  obtain ⟨S,body,cell⟩:=F
  have ef:s.heap.get? f = some _:=ext_ok (I.hok f _ h1)
  have ec:s.heap.get? c = some oc:=ext_ok (I.hok c _ h3)
  have er:s.heap.CodeRec (.ref c') t.qual:=ext_ok (I.hok c' _ h2)
  have e0:=I.env0
  have hcf:c ∉ frs X.stack:=fun z=>by
    have:=e0.frf c z
    rw [h3] at this
    cases this
  refine wpAny_call (codeAny_mono (R:=fun r s'=>CR (fun _ _ _ _ _ _=>False) X.stack X.prog X.w H s Q (fun _ _ _=>False) r s') ?_ fun r s' hq=>?_)
  · refine codeAny_call_function hr.depth ef rfl S.co S.gen rfl er ?_
    show wpAny (model X.prog X.w) _ (bindArgs (fnX t.name t.qual t.params t.body t.scope [(t.y,c)] .none .none doc pm none (.ref c') ctv) ⟨[u],[]⟩) _ _ s
    rw [S.bind]
    refine wpAny_pure (wpAny_newFunctionEnv S.nocell (fun y hy=>by
      obtain rfl:y = (t.x,u):=by simpa using hy
      exact S.loc) (fun h₁ hns hsb=>⟨I.nolimit.fresh _ hsb,codeAny_func ?_⟩) S.kind)
    have hk₁:∀ b o,s.heap.get? b = some o→h₁.get? b = some o:=fun b o e=>hsb.extBut b o (Nat.ne_of_lt (Heap.lt_size e)) (Heap.get?_push_of_some _ e)
    obtain ⟨tm,ht,hq⟩:=body f c' c X.A X.stack s (del H c) d v _ (hr.deeper _) (cell d v H c oc Q h3 h)
    have noA:∀ b:Addr,b ∉ (cxClo X.prog X.w X.K X.mg X.base t f c' c X.A X.stack s (del H c)).ex:=fun b z=>absurd (show b ∈ ([]:List Addr) from z) (by simp)
    have lk:∀ {z:Str} {b:Addr},(([(t.y,c)]:List (Str×Addr)).lookup z) = some b→z = t.y∧b = c:=fun {z b} e=>by
      rw [List.lookup_cons] at e
      cases q:z == t.y with
      | true=>rw [q] at e; cases e; exact ⟨eq_of_beq q,rfl⟩
      | false=>rw [q] at e; cases e
    have ylk:([(t.y,c)]:List (Str×Addr)).lookup t.y = some c:=by simp
    have dn:∀ b,H b = none→del H c b = none:=fun b e=>by
      by_cases z:b = c
      · rw [z]; exact del_same
      · rw [del_ne z]; exact e
    have II:Inv (cxClo X.prog X.w X.K X.mg X.base t f c' c X.A X.stack s (del H c)) [] [some v,some (.ref d)] (del H c) { s with heap:=h₁,toks:=s.toks + 1 }:=by
      refine ⟨⟨e0.mod,S.kind,rfl,rfl,Nat.le_refl _,fun y z b q1 q2=>?_,fun y hy=>?_,fun y b q _=>?_,fun _=>hr.hd,Around.frames_deeper e0.frames,.inr ⟨rfl,rfl⟩,fun b z=>absurd z (noA b),fun b o e=>⟨(e0.bs b o e).1,dn b (e0.bs b o e).2⟩,e0.bsz,fun b _ _=>noA b,fun b z=>absurd z (noA b),e0.funs,fun b hb=>dn b (e0.frf b hb)⟩,
        rfl,e0.bare,Un.kept hk₁,⟨_,hns,fun i y x q1 q2 q3=>?_⟩,fun y b q=>?_,?_,fun y b q=>?_,fun p hp=>absurd (show p ∈ ([]:List (Addr×Obj)) from hp) (by simp),(e0.hok.del h3).kept hk₁,rfl⟩
      · exact (lk q1).1.trans (lk q2).1.symm
      · rcases hy with hy | hy
        · exact absurd rfl (S.nocell _ (PySem.mem_of_lookup hy))
        · rw [S.one y hy]
          exact ⟨c,ylk⟩
      · exact absurd q Bool.false_ne_true
      · match i,q1,q2 with
        | 0,q1,q2 =>
          cases q1; cases q2
          exact ⟨u,rv,.inl ⟨S.loc,by simp⟩⟩
        | 1,q1,q2 =>
          cases q1; cases q2
          exact ⟨.ref d,rfl,.inr ⟨.inr S.fr,c,ylk,⟨oc,hk₁ _ _ ec,h4⟩⟩⟩
        | i + 2,q1,q2=>cases q1
      · obtain ⟨rfl,rfl⟩:=lk q
        exact ⟨_,oc,hk₁ _ _ ec,h4⟩
      · exact dn _ (I.hok.fresh (Nat.le_refl _))
      · obtain ⟨rfl,rfl⟩:=lk q
        exact del_same
    refine wpAny_mono (ht [] _ _ _ _ II hq) (fun fl s' hs=>?_) fun e s' hs=>hs.elim
    have fin:∀ {σ':St} {H':Hp} {r:V} {u':Value},Inv (cxClo X.prog X.w X.K X.mg X.base t f c' c X.A X.stack s (del H c)) [] σ' H' s'→RelV r u'→(H' c = none→Q r (upd H' c (.ext (objφ c oc))))→CE X.stack X.prog X.w H s Q u' s':=fun {σ' H' r u'} J rr q=>by
      have un:Un (frs X.stack) [] (del H c) H' s.heap s'.heap:=J.base
      have hn:H' c = none:=un.free c oc ec del_same (by simp)
      have ec':s'.heap.get? c = some oc:=un.keep c oc ec del_same hcf (by simp)
      have nu:∀ b,b ≠ c→upd H' c (.ext (objφ c oc)) b = H' b:=fun b z=>upd_ne z
      have nc:∀ b w,H b = some w→(∀ φ,w ≠ .ext φ)→b ≠ c:=fun b w e k z=>by rw [z,h3] at e; cases e; exact k _ rfl
      refine ⟨r,_,J.os,J.bare,⟨fun b o e n hb hx=>un.keep b o e (dn b n) hb hx,fun b o e n hb hx=>un.slot b o e (dn b n) hb hx,fun b o e n hx=>?_,un.there,fun b xs e=>?_,fun b o w e=>?_,fun b ps e=>?_⟩,J.hok.extra hn ec',rr,q hn⟩
      · rw [nu b (fun z=>by rw [z,h3] at n; cases n)]
        exact un.free b o e (dn b n) hx
      · have z:=nc b _ e (by intro φ z; cases z)
        rw [nu b z]
        exact un.tups b xs (by rw [del_ne z]; exact e)
      · have z:=nc b _ e (by intro φ z; cases z)
        rw [nu b z]
        exact un.frzs b o w (by rw [del_ne z]; exact e)
      · have z:=nc b _ e (by intro φ z; cases z)
        rw [nu b z]
        exact un.tbls b ps (by rw [del_ne z]; exact e)
    cases fl with
    | ret u =>
      obtain ⟨r,σ',H',J,rr,q⟩:=hs
      exact fin J rr q
    | next =>
      obtain ⟨σ',H',J,q⟩:=hs
      exact fin (r:=V.non) (u':=Value.none) J rfl q
    | brk =>
      obtain ⟨_,_,_,q⟩:=hs
      exact False.elim q
    | cont =>
      obtain ⟨_,_,_,q⟩:=hs
      exact False.elim q
  · cases r with
    | error e=>exact hq.elim
    | ok fl =>
      cases fl with
      | ret u=>exact I.after hq
      | next=>exact False.elim hq
      | brk=>exact False.elim hq
      | cont=>exact False.elim hq
theorem CloOf.fn {t:CloT} {f d:Addr} (I:Inv X pins σ H s) (g:CloOf t H f d):FnAt f s.heap:=by
  obtain ⟨c,oc,doc,pm,c',ctv,h1,_⟩:=g
  exact ⟨_,_,_,_,ext_ok (I.hok f _ h1)⟩
end
section
variable {X:Cx} {e:Expr} {te:TE}
noncomputable def tClo (t:CloT) (sp:Addr→V→Hp→VK→Prop) (i:Nat) (te:TE):TE:=fun σ H Q=>∃ f,σ[i]? = some (some (.ref f))∧(∃ d,CloOf t H f d)∧te σ H fun y H1=>∃ d,CloOf t H1 f d∧sp d y H1 Q
theorem pe_clo {k i:Nat} {t:CloT} {sp:Addr→V→Hp→VK→Prop} {x:Str} {p pos:Pos} (F:CloOk X.prog X.w X.K X.mg X.base k t sp) (hr:Room (k + 1) X.A) (hv:∀ {ps:Pos},PE X (.Name x ps) (tVar i)) (he:PE X e te) (h1:starEach [e] X.env = [(false,eval e X.env)]:=by rfl) :
    PE X (.Call (.Name x p) [e] [] pos) (tClo t sp i te):=by
  intro pins s σ H Q I h
  obtain ⟨f,hf,⟨d,g⟩,h⟩:=h
  refine wpAny_Call_Name_kw (thn (hv pins s σ H (fun v H'=>v = .ref f∧H' = H) I ⟨_,hf,rfl,rfl⟩) fun u s1 ⟨v,H1,I1,rv,ev,eH⟩=>?_)
  subst ev eH
  cases rv
  refine callWith_F (g.fn I1) ?_ h1 rfl
  rw [h1]
  show wpAny (model X.prog X.w) _ (spliced ((false,eval e X.env) :: backTo pos (starEach [] X.env))) _ _ s1
  refine Calls.spliced_cons (thn (he pins s1 σ _ _ I1 h) fun u s2 ⟨y,H2,I2,ry,d2,g2,q⟩=>Calls.spliced_nil ⟨g2.fn I2,?_⟩)
  exact run_clo F hr I2 g2 ry q
end
noncomputable abbrev TR:=(V→St→Hp→Prop)→St→Hp→Prop
section
variable {X:Cx}
noncomputable def PSc (X:Cx) (body:List Stmt) (t:TR):Prop:=∀ (pins:List (Addr×Obj)) (s:Shared) (σ:St) (H:Hp) (R:V→St→Hp→Prop),Inv X pins σ H s→t R σ H →
  wpAny (model X.prog X.w) X.A (execs body X.env) (fun f s'=>∃ u v σ' H',f = .ret u∧Inv X pins σ' H' s'∧RelV v u∧R v σ' H') X.xe s
theorem psc_cons {st:Stmt} {rest:List Stmt} {t:TS} {u:TR} (h1:PS X st t) (h2:PSc X rest u):PSc X (st :: rest) (fun R σ H=>t { nx:=u R,rt:=fun _ _=>False } σ H):=by
  intro pins s σ H R I h
  refine wpAny_execs_cons (thn (h1 pins s σ H _ I h) fun f s1 q=>?_)
  cases f with
  | next =>
    obtain ⟨σ',H',I',q⟩:=q
    exact h2 pins s1 σ' H' R I' q
  | ret v=>obtain ⟨_,_,_,_,_,q⟩:=q; exact q.elim
  | brk=>obtain ⟨_,_,_,q⟩:=q; exact q.elim
  | cont=>obtain ⟨_,_,_,q⟩:=q; exact q.elim
theorem psc_ret {e:Expr} {te:TE} {pos:Pos} (he:PE X e te):PSc X [.Return (some e) pos] (fun R σ H=>te σ H fun v H'=>R v σ H'):=by
  intro pins s σ H R I h
  refine wpAny_execs_cons (wpAny_Return_some (thn (he pins s σ H _ I h) fun v s1 ⟨x,H1,I1,r1,q1⟩=>?_))
  exact ⟨v,x,σ,H1,rfl,I1,r1,q1⟩
theorem PSc.nox {body:List Stmt} {t:TR} (h:PSc X.nox body t):PSc X body t:=fun pins s σ H R I hw =>
  wpAny_mono (h pins s σ H R (I.wish _) hw) (fun _ _ ⟨u,v,σ',H',e,I',r,q⟩=>⟨u,v,σ',H',e,I'.unwish,r,q⟩) fun _ _ z=>False.elim z
end
theorem okCell {P:Program} {w:World} {K:PySem.W.Frag} {mg:Str→Option Value} {base:Heap} {x qual y:Str} {st:Stmt} {f:Addr} {fd:FuncData} {N ps:List Str} {k i:Nat} {sp:Sp} (F:Fun K x qual st f fd) (S:FnScope N ps (defScope st)) (len:∀ vs H Q E,sp vs H Q E→vs.length = ps.length)
    (hN:N[i]? = some y) (hy:(defScope st).names.lookup y = some .cell) (n:Nat) (hc:∀ m,(cellsFrom m (defScope st).names []).lookup y = some (m + n))
    (hbody:∀ (cdv:Value) (A:Around) (outer:List Env) (s:Shared) (H:Hp) (vs:List V) (Q:VK) (E:XK),cdv = fd.code→Room k (A.deeper (PyProof.Rows.envOfC qual (defScope st) s.heap.objs.size f cdv))→sp vs H Q E →
      ∃ t,PSc (cxOf CX0 P w K mg base N qual (defScope st) f cdv A outer s H E).nox (defBody st) t ∧
        t (fun v σ' H'=>∃ d,σ'[i]? = some (some (.ref d))∧∀ oc:Obj,H' (s.heap.objs.size + 1 + n) = none→oc.data = .cell (some (.ref d))→Q v (upd H' (s.heap.objs.size + 1 + n) (.ext (objφ (s.heap.objs.size + 1 + n) oc)))) (start N vs) H):FnOk P w K mg base CX0 (k + 1) f fd ps sp:=by
  obtain ⟨oc,od,kV,doc,pm,an,cdv,ct,osl,rfl,lk,hcd⟩:=F.ex
  refine ⟨len,fun A outer s H args us vs Q E hr e0 hb r hsp=>?_⟩
  have hl:=len _ _ _ _ hsp
  have KX:K.In s.heap:=e0.mod.kin.keeps fun b o e=>(e0.bs b o e).1
  have lim:s.heap.NoLimit:=e0.mod.nolimit.keeps fun b o e=>(e0.bs b o e).1
  have hkind:∀ y ∈ ps.zip us,(defScope st).names.lookup y.1 = some .local∨((defScope st).names.lookup y.1 = some .cell∧((cellsFrom (s.heap.objs.size + 1) (defScope st).names []).lookup y.1).isSome = true):=fun ⟨n,v⟩ hy=>by
    rcases S.par n (List.of_mem_zip hy).1 with q | q
    · exact .inl q
    · exact .inr ⟨q,PySem.W.cellsFrom_some _ _ _ (.inl q)⟩
  refine codeAny_call_function hr.depth (KX _ _ lk) rfl S.co S.gen rfl (PySem.W.codeRec_of KX hcd) (hb _ _ _ _ ?_)
  refine wpAny_newFunctionEnv_cells S.kind hkind fun env he s1 x=>?_
  subst he
  refine ⟨lim.keeps x.toInCall.keep,codeAny_func ?_⟩
  obtain ⟨t,ht,hq⟩:=hbody cdv A outer s H vs Q E rfl (hr.deeper _) hsp
  have I:Inv (cxOf CX0 P w K mg base N qual (defScope st) f cdv A outer s H E) [] (start N vs) H s1:=inv_start S hr.hc e0 hl r x
  refine wpAny_mono (ht.nox [] s1 (start N vs) H _ I hq) (fun fl s' hs=>?_) fun e s' hs=>hs
  obtain ⟨u,v,σ',H',rfl,J,rv,d,hd,q⟩:=hs
  obtain ⟨m,hns,hl'⟩:=J.loc
  obtain ⟨u',ru,lo⟩:=hl' i y _ hN hd (.inr (.inl hy))
  cases ru
  have hcc:(cxOf CX0 P w K mg base N qual (defScope st) f cdv A outer s H E).env.cells.lookup y = some (s.heap.objs.size + 1 + n):=hc _
  rcases lo with ⟨z,_⟩ | ⟨_,c2,hc2,o2,eo,do2⟩
  · rw [show (cxOf CX0 P w K mg base N qual (defScope st) f cdv A outer s H E).env.kindOf y = some .cell from hy] at z
    cases z
  · rw [hcc] at hc2
    cases hc2
    have hn:=J.freeC y _ hcc
    have un:Un (frs outer) [] H H' s.heap s'.heap:=J.base
    have fresh:∀ b o,s.heap.get? b = some o→b ≠ s.heap.objs.size + 1 + n:=fun b o e=>Nat.ne_of_lt (Nat.lt_of_lt_of_le (Heap.lt_size e) (Nat.le_trans (Nat.le_succ _) (Nat.le_add_right _ _)))
    have tr:∀ b w,H' b = some w→b ≠ s.heap.objs.size + 1 + n:=fun b w e z=>by rw [z,hn] at e; cases e
    refine ⟨v,_,J.os,J.bare,⟨un.keep,un.slot,fun b o e n' hx=>by rw [upd_ne (fresh b o e)]; exact un.free b o e n' hx,un.there,fun b xs e=>?_,fun b o w e=>?_,fun b ps e=>?_⟩,J.hok.extra hn eo,rv,q o2 hn do2⟩
    · have:=un.tups b xs e
      rw [upd_ne (tr _ _ this)]
      exact this
    · have:=un.frzs b o w e
      rw [upd_ne (tr _ _ this)]
      exact this
    · obtain ⟨more,this⟩:=un.tbls b ps e
      exact ⟨more,by rw [upd_ne (tr _ _ this)]; exact this⟩
end L2
set_option maxHeartbeats 1000000
namespace L2
open PySem PySem.Spec PyProof.Rows
theorem count_eqU {x:V}:∀ {xs:List V} {us:List Value},Vals xs us→xs.all flatV = true→us.countP (eqU x) = xs.countP fun y=>eqV y x
  | _,_,.nil,_=>rfl
  | y :: xs,u :: us,.cons r t,f=>by
    rw [List.all_cons,Bool.and_eq_true] at f
    rw [List.countP_cons,List.countP_cons,eqU_of r f.1,count_eqU t f.2]
section
variable {X:Cx}
noncomputable def rCountL:V→List V→Hp→VK→Prop:=fun x vs H Q=>∃ l xs y,x = .ref l∧vs = [y]∧H l = some (.lst xs)∧flatV y = true∧xs.all flatV = true∧Q (.int ((xs.countP fun z=>eqV z y:Nat):Int)) H
theorem mt_countL:MtR X "list.count" rCountL:=by
  intro pins s σ H x vs v us Q I rx rv h
  obtain ⟨l,xs,y,rfl,rfl,hH,fy,fx,q⟩:=h
  cases rx
  obtain ⟨u,rfl,ru⟩:=vals1 rv
  obtain ⟨z,its,n,r,hl,e⟩:=I.lstM hH
  refine call_meets F.slot_list_count ⟨_,e,rfl⟩ F.entry_list_count (F.args_list_count_2 _ _) (SeqAt.list_countAt l its.toArray n none #[] u (eqU y)) ⟨e,fun w hw=>mem_eqAt ru fy r fx w (by simpa using hw),?_⟩
  refine ⟨.int _,H,I.tok _,⟨_,rfl⟩,?_⟩
  rw [show its.toArray.toList = its by simp,count_eqU r fx]
  exact q
noncomputable def rIndexL:V→List V→Hp→VK→Prop:=fun x vs H Q=>∃ l xs y j,x = .ref l∧vs = [y]∧H l = some (.lst xs)∧flatV y = true∧xs.all flatV = true∧(∃ z,xs[j]? = some z∧eqV z y = true)∧(∀ m z,m < j→xs[m]? = some z→eqV z y = false)∧Q (.int (j:Nat)) H
theorem mt_indexL:MtR X "list.index" rIndexL:=by
  intro pins s σ H x vs v us Q I rx rv h
  obtain ⟨l,xs,y,j,rfl,rfl,hH,fy,fx,⟨z0,hj,hz0⟩,no,q⟩:=h
  cases rx
  obtain ⟨u,rfl,ru⟩:=vals1 rv
  obtain ⟨z,its,n,r,hl,e⟩:=I.lstM hH
  have hjl:j < xs.length:=(List.getElem?_eq_some_iff.mp hj).1
  have at_:∀ m (hm:m < its.toArray.size),∃ zz,xs[m]? = some zz∧eqU y its.toArray[m] = eqV zz y:=fun m hm=>by
    have hm':m < xs.length:=by rw [hl]; simpa using hm
    have hx:=List.getElem?_eq_getElem hm'
    obtain ⟨uu,hu,ruu⟩:=r.get hx
    have:its.toArray[m] = uu:=by
      have h2:its[m]? = some its[m]:=List.getElem?_eq_getElem (by rw [← hl]; exact hm')
      rw [h2] at hu
      cases hu
      simp
    rw [this]
    exact ⟨_,hx,eqU_of ruu (List.all_eq_true.mp fx _ (List.getElem_mem hm'))⟩
  have sz:xs.length ≤ 16777216:=by rw [← sizeLine_eq]; exact z
  refine call_meets F.slot_list_index ⟨_,e,rfl⟩ F.entry_list_index (F.args_list_index_2 _ _) (SeqAt.list_indexAt l its.toArray n none #[] u (eqU y) j (by rw [List.size_toArray,← hl]; exact hjl) (by lia) ?_ (fun m hm hlt=>?_)) ⟨e,fun w hw=>mem_eqAt ru fy r fx w (by simpa using hw),?_⟩
  · obtain ⟨zz,h1,h2⟩:=at_ j (by rw [List.size_toArray,← hl]; exact hjl)
    rw [h2]
    rw [hj] at h1
    cases h1
    exact hz0
  · obtain ⟨zz,h1,h2⟩:=at_ m hm
    rw [h2]
    exact no m zz hlt h1
  · exact ⟨.int _,H,I.tok _,⟨_,rfl⟩,q⟩
end
theorem comp2 {K:PySem.W.Frag} {tu:Bool} {a p:Addr} {tt:TT} {te:TE} {cs:St} {Q:VK} {H1:Hp} {xs:List V} (Pv:Nat→List V→Hp→Prop) (h0:Pv 0 [] (upd H1 p (.lst [])))
    (hl:∀ i ys H,i ≤ xs.length→Pv i ys H→Sq K tu H a xs)
    (hs:∀ i x ys H,xs[i]? = some x→Pv i ys H→∃ q c1 c2,x = .ref q∧SqT K H q [c1,c2]∧tt (some c1 :: some c2 :: cs) H fun b H4=>if b = true then te (some c1 :: some c2 :: cs) H4 fun y H5=>H5 p = some (.lst ys)∧ys.length < sizeLine∧Pv (i + 1) (ys ++ [y]) (upd H5 p (.lst (ys ++ [y]))) else Pv (i + 1) ys H4)
    (hd:∀ ys H,Pv xs.length ys H→Q (.ref p) H):CompWT (fun _=>True) (g2 K) 2 (ItS K tu a) p tt te cs Q H1:=by
  refine compT_seq Pv h0 hl (fun i x ys H hx pv vs0 hv=>?_) hd
  obtain ⟨q,c1,c2,rfl,hq,ht⟩:=hs i x ys H hx pv
  match vs0,hv with
  | [w1,w2],_=>exact ⟨q,_,rfl,hq,rfl,c1,_,rfl,c2,_,rfl,rfl,⟨[some c1,some c2],rfl,rfl⟩,ht⟩
end L2
namespace L2
open PySem PySem.Spec PyProof.Rows
theorem call_len_dK {X:Cx}:CallR X (.builtin "len") (fun xs H Q=>∃ p kvs,xs = [.ref p]∧H p = some (.dK kvs)∧Q (.int (kvs.length:Int)) H):=by
  intro pins s σ H xs us Q I r h
  obtain ⟨p,kvs,rfl,e,q⟩:=h
  obtain ⟨u,rfl,rx⟩:=vals1 r
  cases rx
  obtain ⟨z,nd,vs,rk,dd⟩:=dk_of I.hok e
  have hs:sizeLine = 16777216:=sizeLine_eq
  have hl:=rk.length
  exact PySem.call_len_dict nd dd (by lia) ⟨.int kvs.length,H,I.tok _,⟨_,by rw [hl]⟩,q⟩
end L2
set_option maxHeartbeats 1000000
namespace Bk
open PySem L2
noncomputable abbrev Mp:=Int→Option (List Int)
inductive Rch (m:Mp) (ps:List Int):Int→Prop
  | base {x:Int}:x ∈ ps→Rch m ps x
  | step {x y:Int} {k:List Int}:Rch m ps x→m x = some k→y ∈ k→Rch m ps y
structure RI (m:Mp) (ps ks ws:List Int):Prop where
  nd:ks.Nodup
  sk:∀ x ∈ ks,Rch m ps x
  sw:∀ x ∈ ws,Rch m ps x
  st:∀ x ∈ ps,x ∈ ks∨x ∈ ws
  cl:∀ x ∈ ks,∀ k,m x = some k→∀ y ∈ k,y ∈ ks∨y ∈ ws
theorem RI.start (m:Mp) (ps:List Int):RI m ps [] ps:=⟨List.nodup_nil,(fun _ h=>nomatch h),fun _ h=>.base h,fun _ h=>.inr h,(fun _ h=>nomatch h)⟩
theorem RI.done {m:Mp} {ps ks:List Int} (h:RI m ps ks []) (x:Int):x ∈ ks↔Rch m ps x:=by
  refine ⟨h.sk x,fun r=>?_⟩
  induction r with
  | base hx=>exact (h.st _ hx).elim id fun z=>nomatch z
  | step _ hk hy ih=>exact (h.cl _ ih _ hk _ hy).elim id fun z=>nomatch z
theorem RI.skip {m:Mp} {ps ks ws:List Int} {x:Int} (h:RI m ps ks (ws ++ [x])) (hx:x ∈ ks):RI m ps ks ws :=
  ⟨h.nd,h.sk,fun y hy=>h.sw y (List.mem_append_left _ hy),fun y hy=>by
    rcases h.st y hy with z | z
    · exact .inl z
    · rcases List.mem_append.mp z with z | z
      · exact .inr z
      · rw [List.mem_singleton.mp z]; exact .inl hx,fun y hy k hk u hu=>by
    rcases h.cl y hy k hk u hu with z | z
    · exact .inl z
    · rcases List.mem_append.mp z with z | z
      · exact .inr z
      · rw [List.mem_singleton.mp z]; exact .inl hx⟩
theorem RI.more {m:Mp} {ps ks ws ms:List Int} {x:Int} {k:List Int} (h:RI m ps ks (ws ++ [x])) (hx:x ∉ ks) (hk:m x = some k) (hm:∀ y,y ∈ ms↔y ∈ k):RI m ps (ks ++ [x]) (ws ++ ms):=by
  have rx:=h.sw x (List.mem_append_right _ (List.mem_singleton.mpr rfl))
  have mv:∀ y,y ∈ ks∨y ∈ ws ++ [x]→y ∈ ks ++ [x]∨y ∈ ws ++ ms:=fun y z=>by
    rcases z with z | z
    · exact .inl (List.mem_append_left _ z)
    · rcases List.mem_append.mp z with z | z
      · exact .inr (List.mem_append_left _ z)
      · exact .inl (List.mem_append_right _ z)
  refine ⟨?_,fun y hy=>?_,fun y hy=>?_,fun y hy=>mv y (h.st y hy),fun y hy k' hk' u hu=>?_⟩
  · rw [List.nodup_append]
    exact ⟨h.nd,by simp,fun a ha b hb=>by rw [List.mem_singleton.mp hb]; intro e; exact hx (e ▸ ha)⟩
  · rcases List.mem_append.mp hy with z | z
    · exact h.sk y z
    · rw [List.mem_singleton.mp z]; exact rx
  · rcases List.mem_append.mp hy with z | z
    · exact h.sw y (List.mem_append_left _ z)
    · exact .step rx hk ((hm y).mp z)
  · rcases List.mem_append.mp hy with z | z
    · exact mv u (h.cl y z k' hk' u hu)
    · rw [List.mem_singleton.mp z] at hk'
      rw [hk] at hk'
      cases hk'
      exact .inr (List.mem_append_right _ ((hm u).mpr hu))
noncomputable def wsum (m:Mp) (ks:List Int):List Int→Nat
  | []=>0
  | x :: U=>(if x ∈ ks then 0 else (m x).elim 0 fun k=>k.length) + wsum m ks U
theorem wsum_le {m:Mp} {ks:List Int} {x:Int}:∀ U:List Int,wsum m (ks ++ [x]) U ≤ wsum m ks U
  | []=>Nat.le_refl _
  | y :: U=>by
    have:=wsum_le (m:=m) (ks:=ks) (x:=x) U
    unfold wsum
    by_cases h:y ∈ ks
    · rw [if_pos h,if_pos (List.mem_append_left _ h)]; lia
    · by_cases h2:y ∈ ks ++ [x]
      · rw [if_pos h2]; lia
      · rw [if_neg h,if_neg h2]; lia
theorem wsum_add {m:Mp} {ks:List Int} {x:Int} {k:List Int} (hk:m x = some k) (hx:x ∉ ks):∀ {U:List Int},x ∈ U→wsum m (ks ++ [x]) U + k.length ≤ wsum m ks U
  | y :: U,h=>by
    unfold wsum
    by_cases e:y = x
    · subst e
      have:=wsum_le (m:=m) (ks:=ks) (x:=y) U
      rw [if_pos (List.mem_append_right _ (List.mem_singleton.mpr rfl)),if_neg hx,hk]
      simp only [Option.elim]
      lia
    · have h':x ∈ U:=(List.mem_cons.mp h).resolve_left fun z=>e z.symm
      have:=wsum_add hk hx h'
      by_cases h2:y ∈ ks
      · rw [if_pos h2,if_pos (List.mem_append_left _ h2)]; lia
      · rw [if_neg h2,if_neg (fun z=>(List.mem_append.mp z).elim h2 fun z=>e (List.mem_singleton.mp z))]; lia
theorem wsum_bound {m:Mp} {ks:List Int} (B:Nat) (h:∀ x k,m x = some k→k.length ≤ B):∀ U:List Int,wsum m ks U ≤ B * U.length
  | []=>Nat.zero_le _
  | y :: U=>by
    have:=wsum_bound (ks:=ks) B h U
    unfold wsum
    rw [List.length_cons,Nat.mul_add,Nat.mul_one]
    have:(if y ∈ ks then 0 else (m y).elim 0 fun k=>k.length) ≤ B:=by
      by_cases h2:y ∈ ks
      · rw [if_pos h2]; exact Nat.zero_le _
      · rw [if_neg h2]
        cases e:m y with
        | none=>exact Nat.zero_le _
        | some k=>exact h y k e
    lia
end Bk
set_option maxHeartbeats 1000000
namespace Bk
open PySem L2
noncomputable def pts (p:Mp) (q:Int):List Int:=(p q).getD []
noncomputable def refs (p:Mp) (ks rs:List Int) (x:Int):Nat:=ks.countP (fun q=>decide (x ∈ pts p q)) + rs.count x
theorem pts_of {p:Mp} {q:Int} {k:List Int} (h:p q = some k):pts p q = k:=by unfold pts; rw [h]; rfl
theorem refs_perm {p:Mp} {ks ks' rs rs':List Int} (h:ks.Perm ks') (h':rs.Perm rs') (x:Int):refs p ks rs x = refs p ks' rs' x:=by
  unfold refs
  rw [h.countP_eq,h'.count_eq]
theorem refs_cons (p:Mp) (q:Int) (ks rs:List Int) (x:Int):refs p (q :: ks) rs x = refs p ks rs x + (if x ∈ pts p q then 1 else 0):=by
  unfold refs
  rw [List.countP_cons]
  by_cases h:x ∈ pts p q
  · rw [if_pos h,if_pos (decide_eq_true h)]; lia
  · rw [if_neg h,if_neg (by simpa using h)]; lia
theorem refs_snoc (p:Mp) (q:Int) (ks rs:List Int) (x:Int):refs p (ks ++ [q]) rs x = refs p ks rs x + (if x ∈ pts p q then 1 else 0):=by
  rw [refs_perm (List.perm_append_comm (l₁:=ks) (l₂:=[q])) (List.Perm.refl _) x]
  exact refs_cons p q ks rs x
theorem refs_root (p:Mp) (ks rs:List Int) (r x:Int):refs p ks (r :: rs) x = refs p ks rs x + (if x = r then 1 else 0):=by
  unfold refs
  rw [List.count_cons]
  by_cases h:x = r
  · rw [if_pos h,if_pos (by simpa using h.symm)]; lia
  · rw [if_neg h,if_neg (by simpa using Ne.symm h)]; lia
theorem refs_pos {p:Mp} {ks rs:List Int} {x:Int}:0 < refs p ks rs x↔(∃ q ∈ ks,x ∈ pts p q)∨x ∈ rs:=by
  unfold refs
  constructor
  · intro h
    by_cases c:0 < rs.count x
    · exact .inr (List.count_pos_iff.mp c)
    · have:0 < ks.countP (fun q=>decide (x ∈ pts p q)):=by lia
      obtain ⟨q,h1,h2⟩:=List.countP_pos_iff.mp this
      exact .inl ⟨q,h1,of_decide_eq_true h2⟩
  · rintro (⟨q,h1,h2⟩ | h)
    · have:0 < ks.countP (fun q=>decide (x ∈ pts p q)):=List.countP_pos_iff.mpr ⟨q,h1,decide_eq_true h2⟩
      lia
    · have:=List.count_pos_iff.mpr h
      lia
theorem count_nd {l:List Int} (h:l.Nodup) (x:Int):l.count x = if x ∈ l then 1 else 0:=by
  by_cases c:x ∈ l
  · rw [if_pos c]
    have h1:=List.count_pos_iff.mpr c
    have h2:=List.nodup_iff_count.mp h x
    lia
  · rw [if_neg c]
    exact List.count_eq_zero.mpr c
theorem count_snoc (l:List Int) (a x:Int):(l ++ [a]).count x = l.count x + (if x = a then 1 else 0):=by
  rw [List.count_append,List.count_singleton]
  by_cases h:x = a
  · rw [if_pos h,if_pos (by simpa using h.symm)]
  · rw [if_neg h,if_neg (by simpa using Ne.symm h)]
structure Lay (p:Mp) (ks:List Int):Prop where
  dom:∀ x ∈ ks,∃ k,p x = some k∧k.Nodup∧k.length ≤ 4
  acy:∃ rk:Int→Nat,∃ B,∀ x ∈ ks,rk x ≤ B∧∀ y ∈ pts p x,rk y < rk x
theorem Lay.sub {p:Mp} {ks ks':List Int} (h:Lay p ks) (s:∀ x ∈ ks',x ∈ ks):Lay p ks':=by
  obtain ⟨d,rk,B,a⟩:=h
  exact ⟨fun x hx=>d x (s x hx),rk,B,fun x hx=>a x (s x hx)⟩
structure Held (p:Mp) (rs ks:List Int) (val:Int→Nat):Prop where
  nd:ks.Nodup
  set:∀ x,x ∈ ks↔Rch p rs x
  cnt:∀ x,val x = refs p ks rs x
  lay:Lay p ks
theorem Held.pos {p:Mp} {rs ks:List Int} {val:Int→Nat} (h:Held p rs ks val) (x:Int):x ∈ ks↔0 < val x:=by
  rw [h.cnt,refs_pos,h.set]
  constructor
  · intro r
    cases r with
    | base hx=>exact .inr hx
    | step r hk hy=>exact .inl ⟨_,(h.set _).mpr r,by rw [pts_of hk]; exact hy⟩
  · rintro (⟨q,h1,h2⟩ | hx)
    · obtain ⟨k,hk,_⟩:=h.lay.dom q h1
      rw [pts_of hk] at h2
      exact .step ((h.set q).mp h1) hk h2
    · exact .base hx
theorem Rch.mono {p:Mp} {rs rs':List Int} (s:∀ x ∈ rs,x ∈ rs') {x:Int} (h:Rch p rs x):Rch p rs' x:=by
  induction h with
  | base hx=>exact .base (s _ hx)
  | step _ hk hy ih=>exact .step ih hk hy
theorem Rch.cong {p p':Mp} {rs:List Int} (e:∀ x,Rch p rs x→p' x = p x) {x:Int}:Rch p' rs x↔Rch p rs x:=by
  constructor
  · intro h
    induction h with
    | base hx=>exact .base hx
    | step _ hk hy ih=>exact .step ih (by rw [← e _ ih]; exact hk) hy
  · intro h
    induction h with
    | base hx=>exact .base hx
    | step h1 hk hy ih=>exact .step ih (by rw [e _ h1]; exact hk) hy
theorem refs_cong {p p':Mp} {ks:List Int} (rs:List Int) (e:∀ x ∈ ks,p' x = p x) (x:Int):refs p' ks rs x = refs p ks rs x:=by
  have:ks.countP (fun q=>decide (x ∈ pts p' q)) = ks.countP (fun q=>decide (x ∈ pts p q)):=List.countP_congr fun q hq=>by unfold pts; rw [e q hq]
  unfold refs
  rw [this]
theorem Lay.cong {p p':Mp} {ks:List Int} (h:Lay p ks) (e:∀ x ∈ ks,p' x = p x):Lay p' ks:=by
  obtain ⟨d,rk,B,a⟩:=h
  exact ⟨fun x hx=>by rw [e x hx]; exact d x hx,rk,B,fun x hx=>by unfold pts; rw [e x hx]; exact a x hx⟩
theorem Held.cong {p p':Mp} {rs ks:List Int} {val:Int→Nat} (h:Held p rs ks val) (e:∀ x ∈ ks,p' x = p x):Held p' rs ks val :=
  ⟨h.nd,fun x=>(h.set x).trans (Rch.cong fun y hy=>e y ((h.set y).mpr hy)).symm,fun x=>by rw [refs_cong rs e]; exact h.cnt x,h.lay.cong e⟩
theorem Held.roots {p:Mp} {rs rs' ks:List Int} {val:Int→Nat} (h:Held p rs ks val) (e:rs.Perm rs'):Held p rs' ks val :=
  ⟨h.nd,fun x=>(h.set x).trans ⟨Rch.mono fun y hy=>e.mem_iff.mp hy,Rch.mono fun y hy=>e.mem_iff.mpr hy⟩,fun x=>by rw [h.cnt,refs_perm (List.Perm.refl _) e],h.lay⟩
structure HI (p:Mp) (rs ks:List Int) (val:Int→Nat) (ws:List Int):Prop where
  ri:RI p rs ks ws
  eq:∀ x,val x + ws.count x = refs p ks rs x
  pos:∀ x,x ∈ ks↔0 < val x
noncomputable def upV (val:Int→Nat) (x:Int) (n:Nat):Int→Nat:=fun y=>if y = x then n else val y
theorem upV_same {val:Int→Nat} {x:Int} {n:Nat}:upV val x n x = n:=if_pos rfl
theorem upV_ne {val:Int→Nat} {x y:Int} {n:Nat} (h:y ≠ x):upV val x n y = val y:=if_neg h
theorem HI.start {p:Mp} {rs ks:List Int} {val:Int→Nat} (h:Held p rs ks val) (r:Int):HI p (r :: rs) ks val [r]:=by
  refine ⟨⟨h.nd,fun x hx=>((h.set x).mp hx).mono fun y hy=>List.mem_cons_of_mem _ hy,fun x hx=>.base (by rw [List.mem_singleton.mp hx]; exact List.mem_cons_self ..),fun x hx=>?_,fun x hx k hk y hy=>.inl ((h.set y).mpr (.step ((h.set x).mp hx) hk hy))⟩,fun x=>?_,h.pos⟩
  · rcases List.mem_cons.mp hx with rfl | hx
    · exact .inr (List.mem_singleton.mpr rfl)
    · exact .inl ((h.set x).mpr (.base hx))
  · rw [refs_root,h.cnt,List.count_singleton]
    by_cases c:x = r
    · rw [if_pos c,if_pos (by simpa using c.symm)]
    · rw [if_neg c,if_neg (by simpa using Ne.symm c)]
theorem HI.skip {p:Mp} {rs ks:List Int} {val:Int→Nat} {ws:List Int} {x:Int} (h:HI p rs ks val (ws ++ [x])) (hx:x ∈ ks):HI p rs ks (upV val x (val x + 1)) ws:=by
  refine ⟨h.ri.skip hx,fun y=>?_,fun y=>?_⟩
  · rw [← h.eq y,count_snoc]
    by_cases c:y = x
    · subst c; rw [upV_same,if_pos rfl]; lia
    · rw [upV_ne c,if_neg c]; lia
  · by_cases c:y = x
    · subst c; rw [upV_same]; exact ⟨fun _=>Nat.succ_pos _,fun _=>hx⟩
    · rw [upV_ne c]; exact h.pos y
theorem HI.more {p:Mp} {rs ks:List Int} {val:Int→Nat} {ws k:List Int} {x:Int} (h:HI p rs ks val (ws ++ [x])) (hx:x ∉ ks) (hk:p x = some k) (nd:k.Nodup):HI p rs (ks ++ [x]) (upV val x 1) (ws ++ k):=by
  have v0:val x = 0:=by
    have:¬ 0 < val x:=fun z=>hx ((h.pos x).mpr z)
    lia
  refine ⟨h.ri.more hx hk fun y=>Iff.rfl,fun y=>?_,fun y=>?_⟩
  · have e:=h.eq y
    rw [count_snoc] at e
    rw [refs_snoc,← e,pts_of hk,List.count_append,count_nd nd]
    by_cases c:y = x
    · subst c; rw [upV_same,if_pos rfl,v0]; lia
    · rw [upV_ne c,if_neg c]; lia
  · rw [List.mem_append,List.mem_singleton]
    by_cases c:y = x
    · subst c; rw [upV_same]; exact ⟨fun _=>Nat.one_pos,fun _=>.inr rfl⟩
    · rw [upV_ne c]; exact ⟨fun z=>(h.pos y).mp (z.resolve_right c),fun z=>.inl ((h.pos y).mpr z)⟩
theorem HI.done {p:Mp} {rs ks:List Int} {val:Int→Nat} (h:HI p rs ks val []) (l:∀ U:List Int,(∀ x ∈ U,Rch p rs x)→Lay p U):Held p rs ks val :=
  ⟨h.ri.nd,fun x=>h.ri.done x,fun x=>by have:=h.eq x; simpa using this,l ks h.ri.sk⟩
structure LI (p:Mp) (rs ks:List Int) (val:Int→Nat) (ws:List Int):Prop where
  nd:ks.Nodup
  eq:∀ x,val x = refs p ks rs x + ws.count x
  pos:∀ x,x ∈ ks↔0 < val x
  lay:Lay p ks
theorem LI.start {p:Mp} {rs ks:List Int} {val:Int→Nat} {r:Int} (h:Held p (r :: rs) ks val):LI p rs ks val [r] :=
  ⟨h.nd,fun x=>by
    rw [h.cnt,refs_root,List.count_singleton]
    by_cases c:x = r
    · rw [if_pos c,if_pos (by simpa using c.symm)]
    · rw [if_neg c,if_neg (by simpa using Ne.symm c)],h.pos,h.lay⟩
theorem LI.here {p:Mp} {rs ks:List Int} {val:Int→Nat} {ws:List Int} {x:Int} (h:LI p rs ks val (ws ++ [x])):x ∈ ks∧0 < val x:=by
  have e:=h.eq x
  rw [count_snoc,if_pos rfl] at e
  have:0 < val x:=by lia
  exact ⟨(h.pos x).mpr this,this⟩
theorem LI.less {p:Mp} {rs ks:List Int} {val:Int→Nat} {ws:List Int} {x:Int} (h:LI p rs ks val (ws ++ [x])) (hn:val x ≠ 1):LI p rs ks (upV val x (val x - 1)) ws:=by
  obtain ⟨hx,hv⟩:=h.here
  refine ⟨h.nd,fun y=>?_,fun y=>?_,h.lay⟩
  · have e:=h.eq y
    rw [count_snoc] at e
    by_cases c:y = x
    · subst c; rw [if_pos rfl] at e; rw [upV_same]; lia
    · rw [if_neg c] at e; rw [upV_ne c]; lia
  · by_cases c:y = x
    · subst c; rw [upV_same]; exact ⟨fun _=>by lia,fun _=>hx⟩
    · rw [upV_ne c]; exact h.pos y
theorem LI.gone {p:Mp} {rs ks ks':List Int} {val:Int→Nat} {ws k:List Int} {x:Int} (h:LI p rs ks val (ws ++ [x])) (hn:val x = 1) (pm:ks.Perm (x :: ks')) (hk:p x = some k) (ndk:k.Nodup):LI p rs ks' (upV val x 0) (ws ++ k):=by
  have nd':(x :: ks').Nodup:=pm.nodup_iff.mp h.nd
  rw [List.nodup_cons] at nd'
  have r0:∀ y,refs p ks rs y = refs p ks' rs y + (if y ∈ k then 1 else 0):=fun y=>by
    rw [refs_perm pm (List.Perm.refl _),refs_cons,pts_of hk]
  refine ⟨nd'.2,fun y=>?_,fun y=>?_,h.lay.sub fun y hy=>pm.mem_iff.mpr (List.mem_cons_of_mem _ hy)⟩
  · have e:=h.eq y
    rw [count_snoc,r0 y] at e
    rw [List.count_append,count_nd ndk]
    by_cases c:y = x
    · subst c
      rw [if_pos rfl,hn] at e
      rw [upV_same]
      lia
    · rw [if_neg c] at e
      rw [upV_ne c]
      lia
  · by_cases c:y = x
    · subst c; rw [upV_same]; exact ⟨fun z=>absurd z nd'.1,fun z=>by lia⟩
    · rw [upV_ne c,← h.pos y,pm.mem_iff,List.mem_cons]
      exact ⟨fun z=>.inr z,fun z=>z.resolve_left c⟩
theorem LI.done {p:Mp} {rs ks:List Int} {val:Int→Nat} (h:LI p rs ks val []):Held p rs ks val:=by
  have ce:∀ x,val x = refs p ks rs x:=fun x=>by have:=h.eq x; simpa using this
  have inp:∀ {x},x ∈ ks→(∃ q ∈ ks,x ∈ pts p q)∨x ∈ rs:=fun {x} hx=>refs_pos.mp (by rw [← ce]; exact (h.pos x).mp hx)
  have bk:∀ {x},((∃ q ∈ ks,x ∈ pts p q)∨x ∈ rs)→x ∈ ks:=fun {x} z=>(h.pos x).mpr (by rw [ce]; exact refs_pos.mpr z)
  refine ⟨h.nd,fun x=>⟨fun hx=>?_,fun r=>?_⟩,ce,h.lay⟩
  · obtain ⟨rk,B,a⟩:=h.lay.acy
    have go:∀ n x,x ∈ ks→B ≤ rk x + n→Rch p rs x:=by
      intro n
      induction n with
      | zero =>
        intro x hx hb
        rcases inp hx with ⟨q,hq,hm⟩ | hr
        · have h1:=a q hq
          have h2:=h1.2 x hm
          lia
        · exact .base hr
      | succ n ih =>
        intro x hx hb
        rcases inp hx with ⟨q,hq,hm⟩ | hr
        · have h1:=a q hq
          have h2:=h1.2 x hm
          obtain ⟨k,hk,_⟩:=h.lay.dom q hq
          rw [pts_of hk] at hm
          exact .step (ih q hq (by lia)) hk hm
        · exact .base hr
    exact go B x hx (by lia)
  · induction r with
    | base hx=>exact bk (.inr hx)
    | step _ hk hy ih=>exact bk (.inl ⟨_,ih,by rw [pts_of hk]; exact hy⟩)
noncomputable def wt (p:Mp) (ks:List Int):Nat:=(ks.map fun q=>1 + (pts p q).length).sum
theorem wt_perm {p:Mp} {ks ks':List Int} (h:ks.Perm ks'):wt p ks = wt p ks':=(h.map _).sum_nat
theorem wt_cons (p:Mp) (q:Int) (ks:List Int):wt p (q :: ks) = 1 + (pts p q).length + wt p ks:=rfl
end Bk
set_option maxHeartbeats 1000000
namespace Bk
open PySem L2
theorem val_no {kvs:List (Key×V)} {k:Key} (h:k ∉ kvs.map (·.1)):valV kvs k = none:=by
  cases e:valV kvs k with
  | none=>rfl
  | some v =>
    exfalso
    unfold valV at e
    obtain ⟨kv,hf,_⟩:=Option.map_eq_some_iff.mp e
    have hk:decide (kv.1 = k) = true:=List.find?_some (p:=fun kv:Key×V=>decide (kv.1 = k)) hf
    exact h (List.mem_map.mpr ⟨kv,List.mem_of_find?_eq_some hf,of_decide_eq_true hk⟩)
theorem inl_no {l:List Int} {q:Int} (h:q ∉ l):(Sum.inl q:Key) ∉ l.map (Sum.inl:Int→Key):=fun m=>by
  obtain ⟨x,hx,e⟩:=List.mem_map.mp m
  injection e with e
  exact h (e ▸ hx)
theorem nd_len {α:Type} [DecidableEq α]:∀ {a b:List α},a.Nodup→(∀ x ∈ a,x ∈ b)→a.length ≤ b.length
  | [],_,_,_=>Nat.zero_le _
  | x :: a,b,hn,h=>by
    rw [List.nodup_cons] at hn
    have hx:=h x (List.mem_cons_self ..)
    have:=nd_len (a:=a) (b:=b.erase x) hn.2 fun y hy=>(List.mem_erase_of_ne (a:=y) (b:=x) (fun e=>hn.1 (by rw [← e]; exact hy))).mpr (h y (List.mem_cons_of_mem _ hy))
    rw [List.length_erase_of_mem hx] at this
    have hp:=List.length_pos_of_mem hx
    rw [List.length_cons]
    lia
theorem lt_of_nd {l:List Int} (h:l.Pairwise (· ≤ ·)) (nd:l.Nodup):l.Pairwise (· < ·):=by
  induction l with
  | nil=>exact List.Pairwise.nil
  | cons x l ih =>
    rw [List.pairwise_cons] at h ⊢
    rw [List.nodup_cons] at nd
    exact ⟨fun y hy=>by
      have:=h.1 y hy
      have ne:x ≠ y:=fun e=>nd.1 (e ▸ hy)
      lia,ih h.2 nd.2⟩
noncomputable def seenD (ks:List Int):List (Key×V):=ks.map fun x=>(Sum.inl x,V.bl true)
theorem seenD_keys (ks:List Int):(seenD ks).map (·.1) = ks.map Sum.inl:=by
  unfold seenD
  rw [List.map_map]
  rfl
theorem seenD_len (ks:List Int):(seenD ks).length = ks.length:=List.length_map _
theorem seenD_no {ks:List Int} {x:Int} (h:x ∉ ks):valV (seenD ks) (Sum.inl x) = none:=val_no (by rw [seenD_keys]; exact inl_no h)
theorem seenD_in {x:Int}:∀ {ks:List Int},x ∈ ks→valV (seenD ks) (Sum.inl x) = some (.bl true)
  | y :: ks,h=>by
    by_cases e:y = x
    · subst e
      exact valV_pos rfl
    · show valV ((Sum.inl y,V.bl true) :: seenD ks) _ = _
      rw [valV_neg (fun z=>e (by injection z))]
      exact seenD_in ((List.mem_cons.mp h).resolve_left fun z=>e z.symm)
theorem seenD_put {ks:List Int} {x:Int} (h:x ∉ ks):putK (seenD ks) (Sum.inl x) (V.bl true) = seenD (ks ++ [x]):=by
  rw [putK_new _ (seenD_no h)]
  unfold seenD
  rw [List.map_append]
  rfl
structure Th (kvs:List (Key×V)) (ks:List Int) (val:Int→Nat):Prop where
  keys:kvs.map (·.1) = ks.map Sum.inl
  nd:ks.Nodup
  vin:∀ x ∈ ks,valV kvs (.inl x) = some (.int (val x))
  out:∀ x,x ∉ ks→val x = 0
theorem Th.no {kvs:List (Key×V)} {ks:List Int} {val:Int→Nat} (h:Th kvs ks val) {x:Int} (hx:x ∉ ks):valV kvs (.inl x) = none:=val_no (by rw [h.keys]; exact inl_no hx)
theorem Th.len {kvs:List (Key×V)} {ks:List Int} {val:Int→Nat} (h:Th kvs ks val):kvs.length = ks.length:=by
  have:=congrArg List.length h.keys
  rw [List.length_map,List.length_map] at this
  exact this
theorem put_keys {kvs:List (Key×V)} {k:Key} {u v:V} (h:valV kvs k = some u):(putK kvs k v).map (·.1) = kvs.map (·.1):=by
  unfold putK
  rw [valV_any,h]
  simp only [Option.isSome_some,if_true,List.map_map]
  exact List.map_congr_left fun kv _=>by
    show (if kv.1 = k then (kv.1,v) else kv).1 = kv.1
    split <;> rfl
theorem Th.put {kvs:List (Key×V)} {ks:List Int} {val:Int→Nat} (h:Th kvs ks val) {x:Int} (hx:x ∈ ks) (n:Nat):Th (putK kvs (.inl x) (.int n)) ks (upV val x n):=by
  refine ⟨(put_keys (h.vin x hx)).trans h.keys,h.nd,fun y hy=>?_,fun y hy=>?_⟩
  · rw [valV_put]
    by_cases c:y = x
    · subst c; rw [if_pos rfl,upV_same]
    · rw [if_neg (fun z=>c (by injection z)),upV_ne c]; exact h.vin y hy
  · rw [upV_ne (fun c:y = x=>hy (by rw [c]; exact hx))]; exact h.out y hy
theorem Th.add {kvs:List (Key×V)} {ks:List Int} {val:Int→Nat} (h:Th kvs ks val) {x:Int} (hx:x ∉ ks) (n:Nat):Th (putK kvs (.inl x) (.int n)) (ks ++ [x]) (upV val x n):=by
  refine ⟨?_,?_,fun y hy=>?_,fun y hy=>?_⟩
  · rw [putK_new _ (h.no hx),List.map_append,List.map_append,h.keys]; rfl
  · rw [List.nodup_append]
    exact ⟨h.nd,by simp,fun a ha b hb=>by rw [List.mem_singleton.mp hb]; intro e; exact hx (e ▸ ha)⟩
  · rw [valV_put]
    by_cases c:y = x
    · subst c; rw [if_pos rfl,upV_same]
    · rw [if_neg (fun z=>c (by injection z)),upV_ne c]
      exact h.vin y ((List.mem_append.mp hy).resolve_right fun z=>c (List.mem_singleton.mp z))
  · have c:y ≠ x:=fun c=>hy (List.mem_append_right _ (List.mem_singleton.mpr c))
    rw [upV_ne c]; exact h.out y fun z=>hy (List.mem_append_left _ z)
theorem drop_put {kvs:List (Key×V)} {k:Key} {v:V}:dropK (putK kvs k v) k = dropK kvs k:=by
  unfold putK dropK
  split
  · rw [List.filter_map]
    have:(kvs.filter ((fun kv:Key×V=>decide (kv.1 ≠ k)) ∘ fun kv=>if kv.1 = k then (kv.1,v) else kv)) = kvs.filter fun kv=>decide (kv.1 ≠ k):=List.filter_congr fun kv _=>by
      show decide ((if kv.1 = k then (kv.1,v) else kv).1 ≠ k) = _
      split <;> rfl
    rw [this]
    have:∀ kv ∈ kvs.filter (fun kv=>decide (kv.1 ≠ k)),(if kv.1 = k then (kv.1,v) else kv) = id kv:=fun kv hm=>if_neg (of_decide_eq_true (List.mem_filter.mp hm).2)
    rw [List.map_congr_left this,List.map_id]
  · rw [List.filter_append]
    simp
theorem Th.drop {kvs:List (Key×V)} {ks:List Int} {val:Int→Nat} (h:Th kvs ks val) (x:Int):Th (dropK kvs (.inl x)) (ks.filter fun y=>decide (y ≠ x)) (upV val x 0):=by
  refine ⟨?_,h.nd.filter _,fun y hy=>?_,fun y hy=>?_⟩
  · unfold dropK
    have e1:(kvs.filter fun kv=>decide (kv.1 ≠ Sum.inl x)).map (·.1) = (kvs.map (·.1)).filter fun k=>decide (k ≠ Sum.inl x):=by rw [List.filter_map]; rfl
    rw [e1,h.keys,List.filter_map]
    refine congrArg _ (List.filter_congr fun y _=>?_)
    show decide (Sum.inl y ≠ Sum.inl x) = decide (y ≠ x)
    by_cases c:y = x
    · subst c; simp
    · have c2:(Sum.inl y:Key) ≠ Sum.inl x:=fun z=>c (by injection z)
      rw [decide_eq_true (show y ≠ x from c),decide_eq_true c2]
  · obtain ⟨h1,h2⟩:=List.mem_filter.mp hy
    have c:y ≠ x:=of_decide_eq_true h2
    rw [upV_ne c,valV_drop,if_neg (fun z=>c (by injection z))]
    exact h.vin y h1
  · by_cases c:y = x
    · subst c; exact upV_same
    · rw [upV_ne c]
      exact h.out y fun z=>hy (List.mem_filter.mpr ⟨z,decide_eq_true c⟩)
theorem perm_filter {ks:List Int} (nd:ks.Nodup) {x:Int} (hx:x ∈ ks):ks.Perm (x :: ks.filter fun y=>decide (y ≠ x)):=by
  induction ks with
  | nil=>cases hx
  | cons a l ih =>
    rw [List.nodup_cons] at nd
    by_cases c:a = x
    · subst c
      rw [List.filter_cons_of_neg (by simp)]
      have:l.filter (fun y=>decide (y ≠ a)) = l:=List.filter_eq_self.mpr fun y hy=>decide_eq_true fun e=>nd.1 (e ▸ hy)
      rw [this]
    · rw [List.filter_cons_of_pos (p:=fun y=>decide (y ≠ x)) (decide_eq_true (show a ≠ x from c))]
      exact ((ih nd.2 ((List.mem_cons.mp hx).resolve_left fun e=>c e.symm)).cons a).trans (List.Perm.swap ..)
noncomputable def PcAt (M:List Addr) (H:Hp) (pk:List (Key×V)) (p:Mp):Prop:=∀ x k,p x = some k→∃ (tp l:Addr) (st:Int),valV pk (.inl x) = some (.ref tp)∧H tp = some (.tup [.int st,.ref l])∧H l = some (.lst (k.map V.int))∧l ∉ M
noncomputable def Mu (o:Option HO):Prop:=(∃ xs,o = some (.lst xs))∨(∃ k,o = some (.dK k))∨∃ C d fs,o = some (.ins C d fs)
structure Kx (L:List Addr) (H H':Hp):Prop where
  st:∀ b u,b ∉ L→H b = some u→H' b = some u
  mu:∀ b ∈ L,Mu (H b)
theorem Kx.of {H H':Hp} (s:Same H H'):Kx [] H H':=⟨fun b u _ e=>s b u e,fun b hb=>nomatch hb⟩
theorem Kx.trans {L:List Addr} {H H1 H2:Hp} (a:Kx L H H1) (b:Kx L H1 H2):Kx L H H2:=⟨fun c u n e=>b.st c u n (a.st c u n e),a.mu⟩
theorem Kx.wide {L L':List Addr} {H H':Hp} (a:Kx L H H') (h:∀ b ∈ L,b ∈ L') (m:∀ b ∈ L',Mu (H b)):Kx L' H H':=⟨fun c u n e=>a.st c u (fun z=>n (h c z)) e,m⟩
theorem Kx.same {L:List Addr} {H H1 H2:Hp} (a:Kx L H H1) (s:Same H1 H2):Kx L H H2:=⟨fun c u n e=>s c u (a.st c u n e),a.mu⟩
theorem Kx.ahead {L:List Addr} {H H1 H2:Hp} (s:Same H H1) (a:Kx L H1 H2) (m:∀ b ∈ L,Mu (H b)):Kx L H H2:=⟨fun c u n e=>a.st c u n (s c u e),m⟩
theorem Kx.over {L:List Addr} {H H1:Hp} {a:Addr} (k:Kx L H H1) (h:a ∈ L∨H a = none) (u:HO):Kx L H (upd H1 a u):=⟨fun b v n e=>by
  have ne:b ≠ a:=fun z=>h.elim (fun m=>n (z ▸ m)) fun m=>by rw [z,m] at e; cases e
  rw [upd_ne ne]
  exact k.st b v n e,k.mu⟩
section
variable {L:List Addr} {H H':Hp} (k:Kx L H H')
include k
theorem Kx.tup {b:Addr} {xs:List V} (e:H b = some (.tup xs)):H' b = some (.tup xs):=k.st b _ (fun m=>by rcases k.mu b m with ⟨_,z⟩ | ⟨_,z⟩ | ⟨_,_,_,z⟩ <;> rw [z] at e <;> cases e) e
theorem Kx.ext {b:Addr} {φ:Heap→Prop} (e:H b = some (.ext φ)):H' b = some (.ext φ):=k.st b _ (fun m=>by rcases k.mu b m with ⟨_,z⟩ | ⟨_,z⟩ | ⟨_,_,_,z⟩ <;> rw [z] at e <;> cases e) e
theorem Kx.free {b:Addr} (e:H' b = none):b ∈ L∨H b = none:=by
  by_cases m:b ∈ L
  · exact .inl m
  · cases h:H b with
    | none=>exact .inr rfl
    | some u=>rw [k.st b u m h] at e; cases e
theorem Kx.pc {M:List Addr} {pk:List (Key×V)} {p:Mp} (h:PcAt M H pk p) (s:∀ b ∈ L,b ∈ M):PcAt M H' pk p:=fun x l hx=>by
  obtain ⟨tp,a,st,h1,h2,h3,h4⟩:=h x l hx
  exact ⟨tp,a,st,h1,k.tup h2,k.st _ _ (fun z=>h4 (s _ z)) h3,h4⟩
theorem Kx.clo {t:CloT} {f d:Addr} (h:CloOf t H f d):CloOf t H' f d:=by
  obtain ⟨c,oc,doc,pm,c',ctv,h1,h2,h3,h4⟩:=h
  exact ⟨c,oc,doc,pm,c',ctv,k.ext h1,k.ext h2,k.ext h3,h4⟩
end
theorem PcAt.mono {M:List Addr} {H H':Hp} {pk:List (Key×V)} {p:Mp} (h:PcAt M H pk p) (s:Same H H'):PcAt M H' pk p:=(Kx.of s).pc h fun b hb=>nomatch hb
noncomputable def MkAt (H:Hp):List V→List (Int×Int)→Prop
  | [],[]=>True
  | v :: vs,m :: ms=>(∃ a,v = .ref a∧H a = some (.tup [.int m.1,.int m.2]))∧MkAt H vs ms
  | _,_=>False
theorem MkAt.keep {H H':Hp} (k:∀ b xs,H b = some (.tup xs)→H' b = some (.tup xs)):∀ {vs:List V} {ms:List (Int×Int)},MkAt H vs ms→MkAt H' vs ms
  | [],[],_=>trivial
  | [],_ :: _,h=>h.elim
  | _ :: _,[],h=>h.elim
  | _ :: _,_ :: _,⟨⟨a,e,h⟩,r⟩=>⟨⟨a,e,k _ _ h⟩,r.keep k⟩
theorem MkAt.len {H:Hp}:∀ {vs:List V} {ms:List (Int×Int)},MkAt H vs ms→vs.length = ms.length
  | [],[],_=>rfl
  | [],_ :: _,h=>h.elim
  | _ :: _,[],h=>h.elim
  | _ :: _,_ :: _,⟨_,r⟩=>by rw [List.length_cons,List.length_cons,r.len]
theorem MkAt.get {H:Hp} {i:Nat} {v:V}:∀ {vs:List V} {ms:List (Int×Int)} {i:Nat},MkAt H vs ms→vs[i]? = some v→∃ m a,ms[i]? = some m∧v = .ref a∧H a = some (.tup [.int m.1,.int m.2])
  | [],[],_,_,h=>by simp at h
  | [],_ :: _,_,h,_=>h.elim
  | _ :: _,[],_,h,_=>h.elim
  | w :: vs,m :: ms,0,⟨⟨a,e,h⟩,r⟩,hv=>by cases hv; exact ⟨m,a,rfl,e,h⟩
  | w :: vs,m :: ms,i + 1,⟨_,r⟩,hv=>by
    obtain ⟨m',a,h1,h2,h3⟩:=MkAt.get (i:=i) (v:=v) r (by simpa using hv)
    exact ⟨m',a,by simpa using h1,h2,h3⟩
theorem MkAt.snoc {H:Hp} {m:Int×Int} {a:Addr} (h:H a = some (.tup [.int m.1,.int m.2])):∀ {vs:List V} {ms:List (Int×Int)},MkAt H vs ms→MkAt H (vs ++ [.ref a]) (ms ++ [m])
  | [],[],_=>⟨⟨a,rfl,h⟩,trivial⟩
  | [],_ :: _,z=>z.elim
  | _ :: _,[],z=>z.elim
  | _ :: _,_ :: _,⟨x,r⟩=>⟨x,r.snoc h⟩
theorem MkAt.erase {H:Hp}:∀ {vs:List V} {ms:List (Int×Int)} (i:Nat),MkAt H vs ms→MkAt H (vs.eraseIdx i) (ms.eraseIdx i)
  | [],[],_,_=>trivial
  | [],_ :: _,_,z=>z.elim
  | _ :: _,[],_,z=>z.elim
  | _ :: _,_ :: _,0,⟨x,r⟩=>r
  | _ :: _,_ :: _,i + 1,⟨x,r⟩=>⟨x,r.erase i⟩
theorem gtR {H:Hp} {a:Addr} {kvs:List (Key×V)} {k:Key} {o:Option V} (h:Rd H a (.dK kvs)) (e:valV kvs k = o):DGet H a (kV k) o:=.inl ⟨kvs,k,h,rfl,e.symm⟩
theorem gtK {H:Hp} {a:Addr} {kvs:List (Key×V)} {k:Key} {o:Option V} (h:H a = some (.dK kvs)) (e:valV kvs k = o):DGet H a (kV k) o:=gtR (.inl h) e
theorem kit_bb (K:PySem.W.Frag):PySem.W.kitOne K (.type "bool") (.type "bool") = some true:=by kernel_rfl
theorem kit_ll (K:PySem.W.Frag):PySem.W.kitOne K (.type "list") (.type "list") = some true:=by kernel_rfl
end Bk
namespace L2
open PySem PySem.Spec PyProof.Rows
section
variable {X:Cx}
noncomputable def rSortDL (K:PySem.W.Frag):List V→Hp→VK→Prop:=fun xs H Q=>∃ (a:Addr) (ns:List Int),xs = [V.ref a]∧((∃ kvs,Rd H a (.dK kvs)∧kvs.map (·.1) = ns.map Sum.inl)∨SqL K H a (ns.map V.int))∧ns.length ≤ 100000∧∀ (l:Addr) (ms:List Int),ms.Perm ns→ms.Pairwise (· ≤ ·)→H l = none→Q (.ref l) (upd H l (.lst (ms.map V.int)))
theorem call_sortedDL (hc:X.calm = true):CallR X (.builtin "sorted") (rSortDL X.K):=by
  intro pins s σ H xs us Q I r h
  obtain ⟨a,ns,rfl,hk | hl,h64,q⟩:=h
  · obtain ⟨kvs,h1,h2⟩:=hk
    exact call_sortedKL hc pins s σ H _ us Q I r ⟨a,kvs,ns,rfl,h1,h2,h64,q⟩
  · exact call_sortedIL pins s σ H _ us Q I r ⟨a,ns,rfl,hl,h64,q⟩
end
end L2
namespace Bk
open PySem L2
theorem seenD_again {ks:List Int} {x:Int} (h:x ∈ ks):putK (seenD ks) (Sum.inl x) (V.bl true) = seenD ks:=by
  unfold putK
  rw [valV_any,seenD_in h]
  simp only [Option.isSome_some,if_true]
  unfold seenD
  rw [List.map_map]
  refine List.map_congr_left fun y _=>?_
  show (if (Sum.inl y:Key) = Sum.inl x then ((Sum.inl y:Key),V.bl true) else (Sum.inl y,V.bl true)) = _
  split <;> rfl
noncomputable def insI (ks:List Int) (x:Int):List Int:=if x ∈ ks then ks else ks ++ [x]
theorem seenD_ins (ks:List Int) (x:Int):putK (seenD ks) (Sum.inl x) (V.bl true) = seenD (insI ks x):=by
  unfold insI
  by_cases h:x ∈ ks
  · rw [if_pos h]; exact seenD_again h
  · rw [if_neg h]; exact seenD_put h
theorem insI_nd {ks:List Int} (h:ks.Nodup) (x:Int):(insI ks x).Nodup:=by
  unfold insI
  by_cases c:x ∈ ks
  · rw [if_pos c]; exact h
  · rw [if_neg c,List.nodup_append]
    exact ⟨h,by simp,fun a ha b hb=>by rw [List.mem_singleton.mp hb]; intro e; exact c (e ▸ ha)⟩
theorem insI_len (ks:List Int) (x:Int):(insI ks x).length ≤ ks.length + 1:=by
  unfold insI
  split
  · lia
  · rw [List.length_append]; exact Nat.le_refl _
theorem insI_mem {ks:List Int} {x y:Int} (h:y ∈ insI ks x):y ∈ ks∨y = x:=by
  unfold insI at h
  split at h
  · exact .inl h
  · exact (List.mem_append.mp h).imp id List.mem_singleton.mp
theorem free_len {l ks:List Int} (nd:l.Nodup):l.length ≤ (l.filter fun x=>decide (x ∉ ks)).length + ks.length:=by
  have h1:(l.filter fun x=>decide (x ∈ ks)).length ≤ ks.length:=nd_len (nd.filter _) fun x hx=>of_decide_eq_true (List.mem_filter.mp hx).2
  have h2:l.length = (l.filter fun x=>decide (x ∈ ks)).length + (l.filter fun x=>decide (x ∉ ks)).length:=by
    clear h1 nd
    induction l with
    | nil=>rfl
    | cons a l ih =>
      by_cases c:a ∈ ks
      · rw [List.filter_cons_of_pos (p:=fun x=>decide (x ∈ ks)) (decide_eq_true c),List.filter_cons_of_neg (p:=fun x=>decide (x ∉ ks)) (by simpa using c),List.length_cons,List.length_cons]; lia
      · rw [List.filter_cons_of_neg (p:=fun x=>decide (x ∈ ks)) (by simpa using c),List.filter_cons_of_pos (p:=fun x=>decide (x ∉ ks)) (by simpa using c),List.length_cons,List.length_cons]; lia
  lia
end Bk
set_option maxHeartbeats 1000000
namespace Bk
open PySem L2
structure LR where
  id:Int
  ln:Addr
  mka:Addr
  base:Int
  ms:List (Int×Int)
  rt:Option Int
noncomputable def rtV:Option Int→V
  | none=>.non
  | some x=>.int x
noncomputable def kT (z:String):Key:=Sum.inr (Str.ofString z)
noncomputable def lnD (r:LR):List (Key×V):=[(kT "base",.int r.base),(kT "makes",.ref r.mka),(kT "root",rtV r.rt)]
structure LnAt (H:Hp) (r:LR):Prop where
  d:H r.ln = some (.dK (lnD r))
  m:∃ vs,H r.mka = some (.lst vs)∧MkAt H vs r.ms
noncomputable def stD (P Ls:Addr) (stamp:Int):List (Key×V):=[(kT "pieces",.ref P),(kT "lines",.ref Ls),(kT "stamp",.int stamp)]
noncomputable def lsD (ls:List LR):List (Key×V):=ls.map fun r=>(Sum.inl r.id,.ref r.ln)
structure LawS (M:List Addr) (H:Hp) (S P Ls:Addr) (stamp:Int) (pk:List (Key×V)) (p:Mp) (ls:List LR):Prop where
  s:H S = some (.dK (stD P Ls stamp))
  pd:H P = some (.dK pk)
  pc:PcAt M H pk p
  l:H Ls = some (.dK (lsD ls))
  ln:∀ r ∈ ls,LnAt H r
theorem ln_m (r:LR):valV (lnD r) (kT "makes") = some (.ref r.mka):=by
  unfold lnD
  rw [valV_neg (show ¬ (kT "base" = kT "makes") by decide +kernel),valV_pos rfl]
theorem ln_r (r:LR):valV (lnD r) (kT "root") = some (rtV r.rt):=by
  unfold lnD
  rw [valV_neg (show ¬ (kT "base" = kT "root") by decide +kernel),valV_neg (show ¬ (kT "makes" = kT "root") by decide +kernel),valV_pos rfl]
theorem st_p (P Ls:Addr) (n:Int):valV (stD P Ls n) (kT "pieces") = some (.ref P):=valV_pos rfl
theorem st_l (P Ls:Addr) (n:Int):valV (stD P Ls n) (kT "lines") = some (.ref Ls):=by
  unfold stD
  rw [valV_neg (show ¬ (kT "pieces" = kT "lines") by decide +kernel),valV_pos rfl]
theorem st_s (P Ls:Addr) (n:Int):valV (stD P Ls n) (kT "stamp") = some (.int n):=by
  unfold stD
  rw [valV_neg (show ¬ (kT "pieces" = kT "stamp") by decide +kernel),valV_neg (show ¬ (kT "lines" = kT "stamp") by decide +kernel),valV_pos rfl]
theorem LnAt.mono {H H':Hp} {r:LR} (h:LnAt H r) (s:Same H H'):LnAt H' r:=by
  obtain ⟨h1,vs,h2,h3⟩:=h
  exact ⟨s _ _ h1,vs,s _ _ h2,h3.keep fun _ _ e=>s _ _ e⟩
theorem LawS.mono {M:List Addr} {H H':Hp} {S P Ls:Addr} {n:Int} {pk:List (Key×V)} {p:Mp} {ls:List LR} (h:LawS M H S P Ls n pk p ls) (s:Same H H'):LawS M H' S P Ls n pk p ls :=
  ⟨s _ _ h.s,s _ _ h.pd,h.pc.mono s,s _ _ h.l,fun r hr=>(h.ln r hr).mono s⟩
theorem LawS.kx {M L:List Addr} {H H':Hp} {S P Ls:Addr} {n:Int} {pk:List (Key×V)} {p:Mp} {ls:List LR} (h:LawS M H S P Ls n pk p ls) (k:Kx L H H') (s:∀ b ∈ L,b ∈ M) (hS:S ∉ L) (hP:P ∉ L) (hL:Ls ∉ L) (hl:∀ r ∈ ls,r.ln ∉ L∧r.mka ∉ L):LawS M H' S P Ls n pk p ls :=
  ⟨k.st _ _ hS h.s,k.st _ _ hP h.pd,k.pc h.pc s,k.st _ _ hL h.l,fun r hr=>by
    obtain ⟨h1,vs,h2,h3⟩:=h.ln r hr
    exact ⟨k.st _ _ (hl r hr).1 h1,vs,k.st _ _ (hl r hr).2 h2,h3.keep fun _ _ e=>k.tup e⟩⟩
theorem rts_len {ls:List LR} (h:ls.length ≤ 6) (m:∀ r ∈ ls,r.ms.length ≤ 12):(ls.flatMap fun r=>r.ms.map (·.2) ++ r.rt.toList).length ≤ 13 * ls.length:=by
  clear h
  induction ls with
  | nil=>exact Nat.zero_le _
  | cons r l ih =>
    have h1:=m r (List.mem_cons_self ..)
    have h2:=ih fun x hx=>m x (List.mem_cons_of_mem _ hx)
    have h3:r.rt.toList.length ≤ 1:=by cases r.rt <;> simp
    rw [List.flatMap_cons,List.length_append,List.length_append,List.length_map,List.length_cons]
    lia
noncomputable def lnR (r:LR):List Int:=r.ms.map (·.2) ++ r.rt.toList
noncomputable def roots (ls:List LR):List Int:=ls.flatMap lnR
theorem frz_same {H H':Hp} {a:Addr} {o:Obj} {k:List (Key×V)} (e:H a = some (.dK k)) (s:Same (upd H a (.frz o (.dK k))) H'):H' a = some (.frz o (.dK k))∧Same H (upd H' a (.dK k)):=by
  refine ⟨s _ _ upd_same,fun b u h=>?_⟩
  by_cases c:b = a
  · subst c
    rw [e] at h
    cases h
    exact upd_same
  · rw [upd_ne c]
    exact s b u (by rw [upd_ne c]; exact h)
theorem LnAt.frz {H:Hp} {a:Addr} {o:Obj} {k:List (Key×V)} {r:LR} (h:LnAt H r) (e:H a = some (.dK k)) (n:r.ln ≠ a):LnAt (upd H a (.frz o (.dK k))) r:=by
  obtain ⟨h1,vs,h2,h3⟩:=h
  refine ⟨by rw [upd_ne n]; exact h1,vs,by rw [upd_ne (fun z=>by rw [z,e] at h2; cases h2)]; exact h2,h3.keep fun b xs q=>by rw [upd_ne (fun z=>by rw [z,e] at q; cases q)]; exact q⟩
end Bk
set_option maxHeartbeats 1000000
namespace Bk
open PySem L2
noncomputable def addP (p:Mp) (fr:List (Int×List Int)):Mp:=fun x=>match fr.find? (fun e=>decide (e.1 = x)) with
  | some e=>some e.2
  | none=>p x
theorem find_none {fr:List (Int×List Int)} {x:Int} (h:x ∉ fr.map (·.1)):fr.find? (fun e=>decide (e.1 = x)) = none :=
  List.find?_eq_none.mpr fun e he z=>h (List.mem_map.mpr ⟨e,he,of_decide_eq_true z⟩)
theorem addP_out {p:Mp} {fr:List (Int×List Int)} {x:Int} (h:x ∉ fr.map (·.1)):addP p fr x = p x:=by
  unfold addP
  rw [find_none h]
theorem addP_new {p:Mp} {fr:List (Int×List Int)} {x:Int} {k:List Int} (h:x ∉ fr.map (·.1)):addP p (fr ++ [(x,k)]) x = some k:=by
  unfold addP
  rw [List.find?_append,find_none h]
  simp
theorem addP_old {p:Mp} {fr:List (Int×List Int)} {x y:Int} {k:List Int} (h:y ≠ x):addP p (fr ++ [(x,k)]) y = addP p fr y:=by
  unfold addP
  rw [List.find?_append]
  have:[(x,k)].find? (fun e:Int×List Int=>decide (e.1 = y)) = none:=List.find?_eq_none.mpr fun e he z=>by
    rw [List.mem_singleton.mp he] at z
    exact h (of_decide_eq_true z).symm
  rw [this]
  cases fr.find? (fun e=>decide (e.1 = y)) <;> rfl
theorem addP_at {p:Mp}:∀ {fr:List (Int×List Int)} {i:Nat} {e:Int×List Int},(fr.map (·.1)).Nodup→fr[i]? = some e→addP p fr e.1 = some e.2:=fun {fr i e} nd h=>by
  unfold addP
  have hm:=List.mem_of_getElem? h
  cases hf:fr.find? (fun u=>decide (u.1 = e.1)) with
  | none=>exact absurd (decide_eq_true rfl) (List.find?_eq_none.mp hf e hm)
  | some u =>
    have h1:u.1 = e.1:=of_decide_eq_true (List.find?_some (p:=fun u:Int×List Int=>decide (u.1 = e.1)) hf)
    have h2:=List.mem_of_find?_eq_some hf
    obtain ⟨j,hj⟩:=List.getElem?_of_mem h2
    have hij:j = i:=by
      have a1:(fr.map (·.1))[j]? = some e.1:=by rw [List.getElem?_map,hj]; exact congrArg some h1
      have a2:(fr.map (·.1))[i]? = some e.1:=by rw [List.getElem?_map,h]; rfl
      obtain ⟨b1,c1⟩:=List.getElem?_eq_some_iff.mp a1
      obtain ⟨b2,c2⟩:=List.getElem?_eq_some_iff.mp a2
      exact (List.getElem_inj nd).mp (c1.trans c2.symm)
    rw [hij,h] at hj
    cases hj
    rfl
structure Fr (old lying:List Int) (fr:List (Int×List Int)):Prop where
  nd:(fr.map (·.1)).Nodup
  out:∀ x ∈ fr.map (·.1),x ∉ lying
  pt:∀ (i:Nat) e,fr[i]? = some e→e.2.Nodup∧e.2.length ≤ 4∧∀ y ∈ e.2,y ∈ old∨y ∈ (fr.take i).map (·.1)
theorem Fr.nil (old lying:List Int):Fr old lying []:=⟨List.nodup_nil,(fun _ h=>nomatch h),fun i e h=>by simp at h⟩
theorem Fr.snoc {old lying:List Int} {fr:List (Int×List Int)} {x:Int} {k:List Int} (h:Fr old lying fr) (hx:x ∉ fr.map (·.1)) (hl:x ∉ lying) (nd:k.Nodup) (l4:k.length ≤ 4) (hk:∀ y ∈ k,y ∈ old∨y ∈ fr.map (·.1)):Fr old lying (fr ++ [(x,k)]):=by
  refine ⟨?_,fun y hy=>?_,fun i e he=>?_⟩
  · rw [List.map_append,List.nodup_append]
    exact ⟨h.nd,by simp,fun a ha b hb=>by
      have hb':b = x:=List.mem_singleton.mp hb
      rw [hb']
      intro e
      exact hx (e ▸ ha)⟩
  · rw [List.map_append] at hy
    rcases List.mem_append.mp hy with hy | hy
    · exact h.out y hy
    · rw [List.mem_singleton.mp hy]; exact hl
  · by_cases c:i < fr.length
    · rw [List.getElem?_append_left c] at he
      rw [List.take_append_of_le_length (Nat.le_of_lt c)]
      exact h.pt i e he
    · rw [List.getElem?_append_right (by lia)] at he
      have:i - fr.length = 0:=by
        have:=(List.getElem?_eq_some_iff.mp he).1
        simp at this
        lia
      rw [this] at he
      cases he
      have hi:i = fr.length:=by lia
      subst hi
      rw [List.take_append_of_le_length (Nat.le_refl _),List.take_length]
      exact ⟨nd,l4,hk⟩
theorem mem_at {fr:List (Int×List Int)} {x:Int} (h:x ∈ fr.map (·.1)):∃ (i:Nat) (e:Int×List Int),fr[i]? = some e∧e.1 = x:=by
  obtain ⟨e,he,rfl⟩:=List.mem_map.mp h
  obtain ⟨i,hi⟩:=List.getElem?_of_mem he
  exact ⟨i,e,hi,rfl⟩
noncomputable def ixOf:List Int→Int→Nat
  | [],_=>0
  | y :: l,x=>if y = x then 0 else ixOf l x + 1
theorem ix_take {x:Int}:∀ {l:List Int} {i:Nat},x ∈ l.take i→ixOf l x < i
  | [],i,h=>by simp at h
  | y :: l,0,h=>by simp at h
  | y :: l,i + 1,h=>by
    rw [List.take_succ_cons] at h
    unfold ixOf
    by_cases c:y = x
    · rw [if_pos c]; lia
    · rw [if_neg c]
      have:=ix_take ((List.mem_cons.mp h).resolve_left fun e=>c e.symm)
      lia
theorem ix_at {x:Int}:∀ {l:List Int} {i:Nat},l.Nodup→l[i]? = some x→ixOf l x = i
  | y :: l,0,_,h=>by cases h; exact if_pos rfl
  | y :: l,i + 1,nd,h=>by
    rw [List.nodup_cons] at nd
    have hm:l[i]? = some x:=by simpa using h
    have c:y ≠ x:=fun e=>nd.1 (by rw [e]; exact List.mem_of_getElem? hm)
    unfold ixOf
    rw [if_neg c,ix_at nd.2 hm]
section
variable {p:Mp} {rs ks old:List Int} {val:Int→Nat} {fr:List (Int×List Int)}
theorem Fr.same (h:Fr old ks fr) {x:Int} (hx:x ∈ ks):addP p fr x = p x:=addP_out fun z=>h.out x z hx
set_option tactic.hygienic true in
theorem Fr.rch (h:Fr old ks fr) (H:Held p rs ks val) (ho:∀ x ∈ old,x ∈ ks) {r:Int} (hr:r ∈ fr.map (·.1)) {x:Int} (hx:Rch (addP p fr) (r :: rs) x):x ∈ ks∨x ∈ fr.map (·.1):=by
  induction hx with
  | base hx =>
    rcases List.mem_cons.mp hx with rfl | hx
    · exact .inr hr
    · exact .inl ((H.set _).mpr (.base hx))
  | step h1 hk hy ih =>
    rename_i x y k
    rcases ih with ih | ih
    · rw [h.same ih] at hk
      exact .inl ((H.set _).mpr (.step ((H.set _).mp ih) hk hy))
    · obtain ⟨i,e,he,rfl⟩:=mem_at ih
      rw [addP_at h.nd he] at hk
      cases hk
      rcases (h.pt i e he).2.2 _ hy with z | z
      · exact .inl (ho _ z)
      · exact .inr (by
          obtain ⟨u,hu,e2⟩:=List.mem_map.mp z
          exact List.mem_map.mpr ⟨u,List.mem_of_mem_take hu,e2⟩)
theorem Fr.lay (h:Fr old ks fr) (H:Held p rs ks val) (ho:∀ x ∈ old,x ∈ ks) {U:List Int} (hU:∀ x ∈ U,x ∈ ks∨x ∈ fr.map (·.1)):Lay (addP p fr) U:=by
  refine ⟨fun x hx=>?_,?_⟩
  · rcases hU x hx with z | z
    · rw [h.same z]; exact H.lay.dom x z
    · obtain ⟨i,e,he,rfl⟩:=mem_at z
      exact ⟨_,addP_at h.nd he,(h.pt i e he).1,(h.pt i e he).2.1⟩
  · obtain ⟨rk,B,a⟩:=H.lay.acy
    let rk':Int→Nat:=fun x=>if x ∈ fr.map (·.1) then B + 1 + ixOf (fr.map (·.1)) x else rk x
    have k1:∀ x ∈ ks,rk' x = rk x:=fun x hx=>if_neg fun z=>h.out x z hx
    have k2:∀ x ∈ fr.map (·.1),rk' x = B + 1 + ixOf (fr.map (·.1)) x:=fun x hx=>if_pos hx
    refine ⟨rk',B + 1 + fr.length,fun x hx=>?_⟩
    rcases hU x hx with z | z
    · obtain ⟨b1,b2⟩:=a x z
      refine ⟨by rw [k1 x z]; lia,fun y hy=>?_⟩
      have hy':y ∈ pts p x:=by unfold pts at hy ⊢; rw [h.same z] at hy; exact hy
      obtain ⟨k,hk,_⟩:=H.lay.dom x z
      have yk:y ∈ ks:=(H.set y).mpr (.step ((H.set x).mp z) hk (by rw [pts_of hk] at hy'; exact hy'))
      rw [k1 x z,k1 y yk]
      exact b2 y hy'
    · obtain ⟨i,e,he,rfl⟩:=mem_at z
      have hl:(fr.map (·.1)).length = fr.length:=List.length_map _
      have hix:ixOf (fr.map (·.1)) e.1 = i:=ix_at h.nd (by rw [List.getElem?_map,he]; rfl)
      have hi:i < fr.length:=(List.getElem?_eq_some_iff.mp he).1
      refine ⟨by rw [k2 _ z,hix]; lia,fun y hy=>?_⟩
      rw [pts_of (addP_at h.nd he)] at hy
      rw [k2 _ z,hix]
      rcases (h.pt i e he).2.2 y hy with w | w
      · rw [k1 y (ho y w)]
        have:=(a y (ho y w)).1
        lia
      · have hm:y ∈ fr.map (·.1):=by
          obtain ⟨u,hu,e2⟩:=List.mem_map.mp w
          exact List.mem_map.mpr ⟨u,List.mem_of_mem_take hu,e2⟩
        rw [k2 y hm]
        rw [List.map_take] at w
        have:=ix_take w
        lia
end
theorem PcAt.add {M:List Addr} {H:Hp} {pk:List (Key×V)} {p:Mp} {fr:List (Int×List Int)} {x:Int} {k:List Int} {tp l:Addr} {st:Int} (h:PcAt M H pk (addP p fr)) (hx:x ∉ fr.map (·.1)) (h1:H tp = some (.tup [.int st,.ref l])) (h2:H l = some (.lst (k.map V.int))) (h3:l ∉ M) :
    PcAt M H (putK pk (Sum.inl x) (.ref tp)) (addP p (fr ++ [(x,k)])):=fun y k' hy=>by
  by_cases c:y = x
  · subst c
    rw [addP_new hx] at hy
    cases hy
    exact ⟨tp,l,st,by rw [valV_put,if_pos rfl],h1,h2,h3⟩
  · rw [addP_old c] at hy
    obtain ⟨tp',l',st',g1,g2,g3,g4⟩:=h y k' hy
    exact ⟨tp',l',st',by rw [valV_put,if_neg (fun z=>c (by injection z))]; exact g1,g2,g3,g4⟩
theorem comp_rng {lo:Int} {n:Nat} {p:Addr} {tt:TT} {te:TE} {cs:St} {Q:VK} {H1:Hp} (Pv:Nat→List V→Hp→Prop) (h0:Pv 0 [] (upd H1 p (.lst [])))
    (hs:∀ i ys H,i < n→Pv i ys H→tt (some (.int (lo + i)) :: cs) H fun b H4=>if b = true then te (some (.int (lo + i)) :: cs) H4 fun y H5=>H5 p = some (.lst ys)∧ys.length < sizeLine∧Pv (i + 1) (ys ++ [y]) (upd H5 p (.lst (ys ++ [y]))) else Pv (i + 1) ys H4)
    (hd:∀ ys H,Pv n ys H→Q (.ref p) H):CompW (Itr lo n) p tt te cs Q H1:=by
  refine comp_by n Pv h0 ?_ ?_
  · intro i ys H hi pv
    refine ⟨hi,fun v H3 y=>?_⟩
    obtain ⟨rfl,rfl⟩:=y
    exact hs i ys _ hi pv
  · intro ys H pv
    exact ⟨Nat.le_refl _,hd ys H pv⟩
theorem st_put (P Ls:Addr) (n m:Int):putK (stD P Ls n) (kT "stamp") (.int m) = stD P Ls m:=by
  unfold putK
  rw [valV_any,st_s]
  simp only [Option.isSome_some,if_true]
  unfold stD
  simp only [List.map_cons,List.map_nil]
  rw [if_neg (show ¬ (kT "pieces" = kT "stamp") by decide +kernel),if_neg (show ¬ (kT "lines" = kT "stamp") by decide +kernel),if_pos trivial]
theorem rng_nd (lo:Int) (n:Nat):((List.range n).map fun i:Nat=>lo + (i:Int)).Nodup :=
  List.Pairwise.map (fun i:Nat=>lo + (i:Int)) (fun a b h e=>h (by lia)) (List.nodup_range (n:=n))
end Bk
namespace K31
open PySem L2 PyProof.Rows
noncomputable def top (i:Nat):Stmt:=PySem.Challenge.pw_clonewood_k31_counts_of_one_line.main.body.getD i (.Pass ⟨0,0,0,0⟩)
noncomputable abbrev sLIn:Stmt:=inClass (top 2) 0
noncomputable abbrev sLOr:Stmt:=inClass (top 2) 1
noncomputable abbrev sLIx:Stmt:=inClass (top 2) 2
noncomputable abbrev sBIn:Stmt:=inClass (top 3) 0
noncomputable abbrev sBBg:Stmt:=inClass (top 3) 1
noncomputable abbrev sBLs:Stmt:=inClass (top 3) 2
noncomputable abbrev sBLy:Stmt:=inClass (top 3) 3
noncomputable abbrev sBTm:Stmt:=inClass (top 3) 4
noncomputable abbrev sBTg:Stmt:=inClass (top 3) 5
noncomputable abbrev sBLv:Stmt:=inClass (top 3) 6
noncomputable abbrev sCSt:Stmt:=inClass (top 4) 0
noncomputable abbrev sCMd:Stmt:=inClass (top 4) 1
noncomputable abbrev sCGr:Stmt:=inClass (top 4) 2
noncomputable abbrev sCUn:Stmt:=inClass (top 4) 3
noncomputable abbrev sCEn:Stmt:=inClass (top 4) 4
noncomputable abbrev sCCt:Stmt:=inClass (top 4) 5
noncomputable abbrev sCHd:Stmt:=inClass (top 4) 6
noncomputable abbrev sCRl:Stmt:=inClass (top 4) 7
noncomputable abbrev sCel:Stmt:=top 6
noncomputable abbrev sStm:Stmt:=top 7
noncomputable abbrev sRea:Stmt:=top 8
noncomputable abbrev sLyi:Stmt:=top 9
noncomputable abbrev sTre:Stmt:=top 10
noncomputable abbrev sMst:Stmt:=top 11
noncomputable abbrev sCnt:Stmt:=top 12
noncomputable abbrev sDed:Stmt:=top 13
noncomputable abbrev sTru:Stmt:=top 14
noncomputable abbrev sRig:Stmt:=top 15
noncomputable abbrev sBok:Stmt:=top 16
noncomputable abbrev sLaw:Stmt:=top 17
structure Txt (mg:Str→Option Value):Prop where
  isi:mg "isinstance" = none
  bol:mg "bool" = none
  len:mg "len" = none
  rng:mg "range" = none
  lst:mg "list" = none
  min:mg "min" = none
  max:mg "max" = none
  srt:mg "sorted" = none
end K31
set_option maxHeartbeats 4000000
namespace K31
open PySem L2 Bk
section
variable {P:Program} {w:World} {K:PySem.W.Frag} {mg:Str→Option Value} {base:Heap} {f:Addr} {fd:FuncData}
noncomputable def spCel (K:PySem.W.Frag):Sp:=fun vs H Q _=>∃ (a:Addr) (ns:List Int) (k:Int),vs = [.ref a,.int k]∧0 ≤ k∧SqL K H a (ns.map V.int)∧∀ z:Int,Q (.int z) H
theorem scCel:FnScope ["_law_script","_law_k"] ["_law_script","_law_k"] (defScope sCel):=⟨rfl,rfl,rfl,by decide +kernel,rfl,by decide +kernel,by decide +kernel⟩
theorem ok_Cel (F:Fun K "_law_cell_at" "_law_cell_at" sCel f fd) (T:Txt mg):FnOk P w K mg base CX0 1 f fd ["_law_script","_law_k"] (spCel K):=by
  refine F.ok scCel (fun vs H Q E h=>?_) (fun cdv A outer s H vs Q E hr h=>?_)
  · obtain ⟨a,ns,k,rfl,_⟩:=h
    rfl
  obtain ⟨a,ns,k,rfl,h0,hS,q⟩:=h
  refine ⟨_,(pss_cons (ps_if (pt_cmpR op_lt (pv 1) (pe_callB call_len_seq rfl T.len PySem.boot_len (pc (pv 0) pa_nil)) (nomark _))
    (pss_one (ps_ret (pe_ix ix_list (pv 0) (pv 1) (fun _ _=>rfl))))
    pss_nil)
    (pss_one (ps_ret pe_int))),?_⟩
  refine ⟨_,rfl,_,rfl,a,_,rfl,.inl hS,_,_,rfl,rfl,_,rfl,?_⟩
  refine ite2 (fun c=>?_) (fun c=>?_)
  · have c':k < (((ns.map V.int).length:Nat):Int):=of_decide_eq_true c
    rw [List.length_map] at c'
    obtain ⟨j,rfl⟩:=Int.eq_ofNat_of_zero_le h0
    have hk:j < ns.length:=by lia
    exact ⟨_,rfl,_,rfl,a,_,_,.int ns[j],rfl,rfl,hS,atI_nat (by simp [hk]),q _⟩
  · exact q 0
noncomputable def spStm:Sp:=fun vs H Q _=>∃ c:Int,vs = [.int c,.int 12]∧∀ (r:Addr) (H':Hp) (ns:List Int),Same H H'→H r = none→H' r = some (.lst (ns.map V.int))→ns.length = 12→(∀ x ∈ ns,0 ≤ x)→Q (.ref r) H'
theorem scStm:FnScope ["_law_cell","_law_many","_law_found","_law_left","_law_number","_law_k"] ["_law_cell","_law_many"] (defScope sStm):=⟨rfl,rfl,rfl,by decide +kernel,rfl,by decide +kernel,by decide +kernel⟩
theorem ok_Stm (F:Fun K "_law_stream" "_law_stream" sStm f fd) (T:Txt mg):FnOk P w K mg base CX0 1 f fd ["_law_cell","_law_many"] spStm:=by
  refine F.ok scStm (fun vs H Q E h=>?_) (fun cdv A outer s H vs Q E hr h=>?_)
  · obtain ⟨c,rfl,_⟩:=h
    rfl
  obtain ⟨c,rfl,q⟩:=h
  refine ⟨_,(pss_cons (ps_set (i:=2) scStm.nd rfl (Or.inl rfl) (pe_lst pa_nil))
    (pss_cons (ps_set (i:=3) scStm.nd rfl (Or.inl rfl) (pe_op op_fdiv (pv 0) pe_int))
    (pss_cons (ps_set (i:=4) scStm.nd rfl (Or.inl rfl) (pe_op op_mod (pv 3) pe_int))
    (pss_cons (ps_for PassesOwn.never rfl (pi_range1 rfl T.rng (pc (pv 1) pa_nil)) (pg_name (i:=5) scStm.nd rfl (Or.inl rfl))
    (pss_cons (ps_set (i:=4) scStm.nd rfl (Or.inl rfl) (pe_op op_mod (pe_op op_add (pe_op op_add (pe_op op_add (pe_op op_mul (pv 4) (pv 4)) (pe_op op_mul pe_int (pv 4))) (pe_op op_mul pe_int (pv 5))) pe_int) pe_int))
    (pss_cons (ps_expr (pe_bm PySem.F.plainAttrs_list PySem.F.slot_list_append PySem.F.type_list_append mt_append (pv 2) (pc (pe_ix ix_list (pe_lst (pc (pv 4) (pc (pe_op op_mod (pv 3) pe_int) pa_nil))) (pe_op op_mod (pv 0) pe_int) (fun _ _=>rfl)) pa_nil)))
    (pss_one (ps_set (i:=3) scStm.nd rfl (Or.inl rfl) (pe_op op_fdiv (pv 3) pe_int))))))
    (pss_one (ps_ret (pv 2))))))),?_⟩
  refine ⟨Nat.zero_le _,fun r hr0=>?_⟩
  refine ⟨_,rfl,_,_,rfl,rfl,⟨by decide,by decide⟩,_,rfl,_,_,rfl,rfl,(by show (0:Int) < 2147483647; decide),_,rfl,12,rfl,by decide,by decide,?_⟩
  have z0:=Int.emod_nonneg (c / 2) (show (2147483647:Int) ≠ 0 by decide)
  have z1:=Int.emod_lt_of_pos (c / 2) (show (0:Int) < 2147483647 by decide)
  refine for_range (lo:=0) (n:=(12:Int).toNat) (fun i σ H1=>∃ (l n:Int) (o:Option V) (ns:List Int),σ = [some (.int c),some (.int 12),some (.ref r),some (.int l),some (.int n),o]∧Same H H1∧H1 r = some (.lst (ns.map V.int))∧ns.length = i∧(∀ x ∈ ns,0 ≤ x)∧0 ≤ n∧n < 2147483647) ⟨c / 2,_,_,[],rfl,same_new hr0 _,upd_same,rfl,(fun _ h=>nomatch h),z0,z1⟩ ?_ ?_
  · rintro i σ H1 hi ⟨l,n,o,ns,rfl,s1,e1,l1,p1,n0,n1⟩
    refine ⟨_,rfl,_,rfl,_,_,rfl,rfl,.inl ⟨by lia,by lia⟩,?_⟩
    refine ⟨_,rfl,_,_,rfl,rfl,.inl ⟨by decide,by decide⟩,_,_,rfl,rfl,_,rfl,_,_,rfl,rfl,.inl ⟨by decide,by decide⟩,_,_,rfl,rfl,_,_,rfl,rfl,_,_,rfl,rfl,(by show (0:Int) < 2147483647; decide),?_⟩
    have b0:=Int.emod_nonneg (n * n + 48271 * n + 7919 * (0 + (i:Int)) + 11) (show (2147483647:Int) ≠ 0 by decide)
    have b1:=Int.emod_lt_of_pos (n * n + 48271 * n + 7919 * (0 + (i:Int)) + 11) (show (0:Int) < 2147483647 by decide)
    dsimp only
    generalize (n * n + 48271 * n + 7919 * (0 + (i:Int)) + 11) % 2147483647 = n2 at b0 b1
    refine ⟨_,rfl,.inl ⟨rfl,_,SqL.of e1⟩,_,rfl,_,rfl,_,_,rfl,rfl,(by show (0:Int) < 1000003; decide),(by show 2 ≤ sizeLine; decide),fun p hp=>?_⟩
    have s2:=same_new hp (HO.lst [V.int n2,V.int (l % 1000003)])
    obtain ⟨v,hat,hv⟩:∃ v:Int,atI [V.int n2,V.int (l % 1000003)] (c % 2) = some (.int v)∧0 ≤ v:=by
      have h2:=Int.emod_nonneg l (show (1000003:Int) ≠ 0 by decide)
      have:c % 2 = 0∨c % 2 = 1:=by lia
      rcases this with h | h <;> rw [h]
      · exact ⟨_,rfl,b0⟩
      · exact ⟨_,rfl,h2⟩
    have hi':i < 12:=hi
    refine ⟨_,rfl,_,_,rfl,rfl,(by show (0:Int) < 2; decide),p,_,_,_,rfl,rfl,SqL.of upd_same,hat,r,_,_,rfl,rfl,s2 _ _ e1,small (by rw [List.length_map]; lia),?_⟩
    refine ⟨_,rfl,_,_,rfl,rfl,⟨by decide,by decide⟩,l / 1000003,n2,_,ns ++ [v],rfl,same_over (s1.trans s2) hr0 _,by rw [upd_same,List.map_append]; rfl,by rw [List.length_append,l1]; rfl,fun x hx=>?_,b0,b1⟩
    rcases List.mem_append.mp hx with hx | hx
    · exact p1 x hx
    · rw [List.mem_singleton.mp hx]; exact hv
  · rintro σ H1 ⟨l,n,o,ns,rfl,s1,e1,l1,p1,n0,n1⟩
    exact ⟨_,rfl,q r H1 ns s1 hr0 e1 l1 p1⟩
noncomputable def spTru:Sp:=fun vs H Q _=>∃ a b:Bool,vs = [.bl a,.bl b]∧Q (.bl (a == b)) H
theorem scTru:FnScope ["_law_told","_law_due"] ["_law_told","_law_due"] (defScope sTru):=⟨rfl,rfl,rfl,by decide +kernel,rfl,by decide +kernel,by decide +kernel⟩
theorem ok_Tru (F:Fun K "_law_truth" "_law_truth" sTru f fd) (T:Txt mg):FnOk P w K mg base CX0 1 f fd ["_law_told","_law_due"] spTru:=by
  refine F.ok scTru (fun vs H Q E h=>?_) (fun cdv A outer s H vs Q E hr h=>?_)
  · obtain ⟨a,b,rfl,_⟩:=h
    rfl
  obtain ⟨a,b,rfl,q⟩:=h
  refine ⟨_,(pss_one (ps_ret (pe_and (pe_callB call_isinst rfl T.isi PyProof.Rows.boot_isinstance (pc (pv 0) (pc (pe_bltn (v:=.ty "bool") rfl T.bol PyProof.Rows.boot_bool rfl) pa_nil))) (pe_one (pe_cmpR op_eq (pv 0) (pv 1) (nomark _)))))),?_⟩
  refine ⟨_,rfl,.bl a,"bool",_,true,rfl,.bl a,kit_bb K,_,rfl,iteT ⟨_,rfl,_,rfl,rfl,?_⟩⟩
  have e:decide (V.bl a = V.bl b) = (a == b):=by cases a <;> cases b <;> rfl
  rw [e]
  exact q
structure Un (p:Mp) (U:List Int):Prop where
  u:∀ x k,p x = some k→x ∈ U∧k.length ≤ 4
  n:U.length ≤ 1000
noncomputable def spRea:Sp:=fun vs H Q _=>∃ (dp rl:Addr) (M:List Addr) (pk:List (Key×V)) (p:Mp) (U rs:List Int),vs = [.ref dp,.ref rl]∧H dp = some (.dK pk)∧PcAt M H pk p∧H rl = some (.lst (rs.map V.int))∧rs.length ≤ 100∧(∀ x,Rch p rs x→∃ k,p x = some k)∧Un p U ∧
  ∀ r H' ls,Same H H'→H r = none→H' r = some (.dK (seenD ls))→ls.Nodup→(∀ x,x ∈ ls↔Rch p rs x)→Q (.ref r) H'
theorem scRea:FnScope ["_law_pieces","_law_roots","_law_known","_law_left","_law_place"] ["_law_pieces","_law_roots"] (defScope sRea):=⟨rfl,rfl,rfl,by decide +kernel,rfl,by decide +kernel,by decide +kernel⟩
theorem ok_Rea (F:Fun K "_law_reach" "_law_reach" sRea f fd) (T:Txt mg):FnOk P w K mg base CX0 1 f fd ["_law_pieces","_law_roots"] spRea:=by
  refine F.ok scRea (fun vs H Q E h=>?_) (fun cdv A outer s H vs Q E hr h=>?_)
  · obtain ⟨dp,rl,M,pk,p,U,rs,rfl,_⟩:=h
    rfl
  obtain ⟨dp,rl,M,pk,p,U,rs,rfl,edp,hpc,erl,lrs,thr,un,q⟩:=h
  have hu:=hu_of hr
  refine ⟨_,(pss_cons (ps_set (i:=2) scRea.nd rfl (Or.inl rfl) pe_dnewK)
    (pss_cons (ps_set (i:=3) scRea.nd rfl (Or.inl rfl) (pe_callTy call_list_of rfl T.lst PyProof.Rows.boot_list (pc (pv 1) pa_nil)))
    (pss_cons (ps_while PassesOwn.never (pt_cmpR (op_neE (hu_of hr |> Nat.lt_of_succ_lt)) (pv 3) (pe_lst pa_nil) (nomark _))
    (pss_cons (ps_set (i:=4) scRea.nd rfl (Or.inl rfl) (pe_bm0 PySem.F.plainAttrs_list PySem.F.slot_list_pop PySem.F.type_list_pop mt_pop (pv 3)))
    (pss_one (ps_if (pt_cmp (pc_dnotin hu (pv 4) (pv 2)))
    (pss_cons (ps_dput hu (pv 2) (pv 4) pe_bl rfl)
    (pss_one (ps_set (i:=3) scRea.nd rfl (Or.inl rfl) (pe_op op_cat (pv 3) (pe_ix ix_tup (pe_dget hu (pv 0) (pv 4) (fun _ _=>rfl)) pe_int (fun _ _=>rfl))))))
    pss_nil))))
    (pss_one (ps_ret (pv 2)))))),?_⟩
  refine fun d hd=>?_
  have s0:=same_new hd (HO.dK [])
  refine ⟨_,rfl,rl,_,rfl,.inl (SqL.of (s0 _ _ erl)),fun wl hwl=>?_⟩
  have nwd:wl ≠ d:=fun z=>by rw [z,upd_same] at hwl; cases hwl
  have bd:∀ ks,wsum p ks U ≤ 4000:=fun ks=>by
    have h1:=wsum_bound (m:=p) (ks:=ks) 4 (fun x k hk=>(un.u x k hk).2) U
    have h2:=un.n
    lia
  refine ⟨fun n σ H1=>∃ (o4:Option V) (wl:Addr) (ks ws:List Int),σ = [some (.ref dp),some (.ref rl),some (.ref d),some (.ref wl),o4]∧Same H H1∧H1 d = some (.dK (seenD ks))∧H1 wl = some (.lst (ws.map V.int))∧H wl = none∧RI p rs ks ws∧ws.length + wsum p ks U ≤ n∧ws.length + wsum p ks U ≤ 5000,
    ⟨_,none,wl,[],rs,rfl,s0.trans (same_new hwl _),by rw [upd_ne nwd.symm,upd_same]; rfl,upd_same,s0.free hwl,RI.start p rs,Nat.le_refl _,by have:=bd []; lia⟩,?_⟩
  rintro n σ H1 ⟨o4,wl,ks,ws,rfl,s1,ed,ew,hwl0,ri,hn,hn2⟩
  have lks:ks.length ≤ 1000:=Nat.le_trans (nd_len ri.nd fun x hx=>by
    obtain ⟨k,hk⟩:=thr x (ri.sk x hx)
    exact (un.u x k hk).1) un.n
  refine ⟨_,rfl,Nat.zero_le _,fun pe hpe=>?_⟩
  have se:=same_new hpe (HO.lst [])
  refine ⟨wl,pe,_,rfl,rfl,SqL.of (se _ _ ew),SqL.of upd_same,_,rfl,?_⟩
  have nwd:wl ≠ d:=fun z=>by rw [z,ed] at ew; cases ew
  replace s1:=s1.trans se
  replace ed:=se _ _ ed
  replace ew:=se _ _ ew
  revert s1 ed ew
  generalize upd H1 pe (HO.lst []) = H2
  intro s1 ed ew
  rcases List.eq_nil_or_concat ws with rfl | ⟨ws,x,rfl⟩
  · refine iteF ?_
    exact ⟨_,rfl,q d H2 ks s1 hd ed ri.nd fun x=>ri.done x⟩
  rw [List.concat_eq_append] at ew ri hn hn2 ⊢
  obtain ⟨k,hk⟩:=thr x (ri.sw x (List.mem_append_right _ (List.mem_singleton.mpr rfl)))
  have em:decide ((ws ++ [x]).map V.int ≠ []) = true:=decide_eq_true (by simp)
  rw [em]
  refine iteT ⟨fun σ' H'=>∃ n',n' < n∧∃ (o4:Option V) (wl:Addr) (ks ws:List Int),σ' = [some (.ref dp),some (.ref rl),some (.ref d),some (.ref wl),o4]∧Same H H'∧H' d = some (.dK (seenD ks))∧H' wl = some (.lst (ws.map V.int))∧H wl = none∧RI p rs ks ws∧ws.length + wsum p ks U ≤ n'∧ws.length + wsum p ks U ≤ 5000,fun _ _ h=>h,?_⟩
  have ew':H2 wl = some (.lst (ws.map V.int ++ [V.int x])):=by rw [ew,List.map_append]; rfl
  refine ⟨_,rfl,.inl ⟨rfl,_,SqL.of ew'⟩,wl,_,V.int x,rfl,rfl,ew',by simp,?_⟩
  rw [List.dropLast_concat]
  have s2:Same H (upd H2 wl (.lst (ws.map V.int))):=same_over s1 hwl0 _
  have ed2:upd H2 wl (.lst (ws.map V.int)) d = some (.dK (seenD ks)):=by rw [upd_ne nwd.symm]; exact ed
  have ew2:upd H2 wl (.lst (ws.map V.int)) wl = some (.lst (ws.map V.int)):=upd_same
  revert s2 ed2 ew2
  generalize upd H2 wl (.lst (ws.map V.int)) = H3
  intro s2 ed2 ew2
  have lw:(ws ++ [x]).length = ws.length + 1:=by simp
  rw [lw] at hn hn2
  refine ⟨_,rfl,_,rfl,d,_,rfl,DGet.k (k:=Sum.inl x) ed2,_,rfl,?_⟩
  by_cases hx:x ∈ ks
  · rw [seenD_in hx]
    exact iteF ⟨n - 1,by lia,_,wl,ks,ws,rfl,s2,ed2,ew2,hwl0,ri.skip hx,by lia,by lia⟩
  rw [seenD_no hx]
  refine iteT ?_
  refine ⟨_,rfl,_,rfl,d,_,rfl,DPut.k (k:=Sum.inl x) (v:=V.bl true) ed2 (small (by rw [seenD_len]; lia)),?_⟩
  rw [seenD_put hx]
  have s3:Same H (upd H3 d (.dK (seenD (ks ++ [x])))):=same_over s2 hd _
  have ed3:upd H3 d (.dK (seenD (ks ++ [x]))) d = some (.dK (seenD (ks ++ [x]))):=upd_same
  have ew3:upd H3 d (.dK (seenD (ks ++ [x]))) wl = some (.lst (ws.map V.int)):=by rw [upd_ne nwd]; exact ew2
  revert s3 ed3 ew3
  generalize upd H3 d (.dK (seenD (ks ++ [x]))) = H4
  intro s3 ed3 ew3
  obtain ⟨tp,l,st,g1,g2,g3,_⟩:=(hpc.mono s3) x k hk
  have wa:=wsum_add (m:=p) hk hx (un.u x k hk).1
  have lk4:=(un.u x k hk).2
  refine ⟨_,rfl,_,rfl,_,rfl,dp,_,rfl,gtK (k:=Sum.inl x) (s3 _ _ edp) g1,tp,_,1,_,rfl,rfl,SqT.of g2,rfl,wl,l,_,_,rfl,rfl,ew3,g3,Nat.le_of_lt (small (by simp only [List.length_map]; lia)),fun wn hwn=>?_⟩
  have s4:=same_new hwn (HO.lst (ws.map V.int ++ k.map V.int))
  refine ⟨n - 1,by lia,_,wn,ks ++ [x],ws ++ k,rfl,s3.trans s4,s4 _ _ ed3,by rw [upd_same,List.map_append],s3.free hwn,ri.more hx hk fun y=>Iff.rfl,by rw [List.length_append]; lia,by rw [List.length_append]; lia⟩
end
end K31
set_option maxHeartbeats 4000000
namespace K31
open PySem L2 Bk
section
variable {P:Program} {w:World} {K:PySem.W.Frag} {mg:Str→Option Value} {base:Heap} {f fRea:Addr} {fd dRea:FuncData}
structure Few (Ls:Addr) (ls:List LR):Prop where
  n:ls.length ≤ 6
  m:∀ r ∈ ls,r.ms.length ≤ 12
  a:∀ r ∈ ls,r.ln ≠ Ls
noncomputable def spLyi:Sp:=fun vs H Q _=>∃ (S Pd Ls:Addr) (M:List Addr) (n:Int) (pk:List (Key×V)) (p:Mp) (ls:List LR) (U:List Int),vs = [.ref S]∧LawS M H S Pd Ls n pk p ls∧Few Ls ls∧(∀ x,Rch p (roots ls) x→∃ k,p x = some k)∧Un p U ∧
  ∀ r H' ks,Same H H'→H r = none→H' r = some (.dK (seenD ks))→ks.Nodup→(∀ x,x ∈ ks↔Rch p (roots ls) x)→Q (.ref r) H'
theorem scLyi:FnScope ["_law_state","_law_roots","_law_line"] ["_law_state"] (defScope sLyi):=⟨rfl,rfl,rfl,by decide +kernel,rfl,by decide +kernel,by decide +kernel⟩
theorem ok_Lyi (F:Fun K "_law_lying" "_law_lying" sLyi f fd) (hRea:Has K mg "_law_reach" sRea ["_law_pieces","_law_roots"] fRea dRea) (GRea:FnOk P w K mg base CX0 1 fRea dRea ["_law_pieces","_law_roots"] spRea) (T:Txt mg):FnOk P w K mg base CX0 2 f fd ["_law_state"] spLyi:=by
  refine F.ok scLyi (fun vs H Q E h=>?_) (fun cdv A outer s H vs Q E hr h=>?_)
  · obtain ⟨S,Pd,Ls,M,n,pk,p,ls,U,rfl,_⟩:=h
    rfl
  obtain ⟨S,Pd,Ls,M,n,pk,p,ls,U,rfl,hL,few,thr,un,q⟩:=h
  have hu:=hu_of hr
  refine ⟨_,(pss_cons (ps_set (i:=1) scLyi.nd rfl (Or.inl rfl) (pe_lst pa_nil))
    (pss_cons (ps_thaw (ps_for PassesOwn.never rfl (pi_dictV (pe_dget hu (pv 0) pe_str (fun _ _=>rfl))) (pg_name (i:=2) scLyi.nd rfl (Or.inl rfl))
    (pss_cons (ps_set (i:=1) scLyi.nd rfl (Or.inl rfl) (pe_op op_cat (pv 1) (pe_compR (g:=g2 K) ["_law_stamp","_law_root"] [] [] (pi_seq (pe_dget hu (pv 2) pe_str (fun _ _=>rfl))) (fun _ _ _ _ _ _=>pg_tup rfl (pgs_cons (pg_name (i:=0) (show (["_law_stamp","_law_root"]:List Str).Nodup by decide +kernel) rfl (Or.inl rfl)) (pgs_cons (pg_name (i:=1) (show (["_law_stamp","_law_root"]:List Str).Nodup by decide +kernel) rfl (Or.inl rfl)) pgs_nil))) (fun _ _ _ _ _ _=>pts_nil)
          (fun _ _ _ _ _ _=>(pv 1))
          rfl (by decide +kernel) (by decide +kernel) (by decide +kernel) (fun _ _ z=>nomatch z) rfl rfl)))
    (pss_one (ps_if (pt_cmpR op_notN (pe_dget hu (pv 2) pe_str (fun _ _=>rfl)) pe_non (nomark _))
    (pss_one (ps_expr (pe_bm PySem.F.plainAttrs_list PySem.F.slot_list_append PySem.F.type_list_append mt_append (pv 1) (pc (pe_dget hu (pv 2) pe_str (fun _ _=>rfl)) pa_nil))))
    pss_nil)))))
    (pss_one (ps_ret (pe_call GRea (hr.mono (by decide)) rfl hRea.nm hRea.fn.kp hRea.bd .nil pass0 (pc (pe_dget hu (pv 0) pe_str (fun _ _=>rfl)) (pc (pv 1) pa_nil))))))),?_⟩
  refine ⟨Nat.zero_le _,fun r0 hr0=>?_⟩
  have s0:=same_new hr0 (HO.lst [])
  have L0:=hL.mono s0
  refine ⟨_,rfl,S,_,rfl,gtK (k:=kT "lines") L0.s (st_l _ _ _),Ls,_,rfl,L0.l,fun o=>?_⟩
  have nr:r0 ≠ Ls:=fun z=>by rw [z,hL.l] at hr0; cases hr0
  have nfz:∀ o' u,H Ls ≠ some (.frz o' u):=fun o' u z=>by rw [hL.l] at z; cases z
  have s2:Same (upd H Ls (.frz o (.dK (lsD ls)))) (upd (upd H r0 (HO.lst [])) Ls (.frz o (.dK (lsD ls)))):=fun b u e=>by
    by_cases c:b = Ls
    · subst c; rw [upd_same] at e ⊢; exact e
    · rw [upd_ne c] at e ⊢; exact s0 b u e
  have ll:∀ i,(roots (ls.take i)).length ≤ 78:=fun i=>by
    have h1:=rts_len (ls:=ls.take i) (by rw [List.length_take]; have:=few.n; lia) fun r hr=>few.m r (List.mem_of_mem_take hr)
    have h2:(ls.take i).length ≤ 6:=by rw [List.length_take]; have:=few.n; lia
    unfold roots lnR
    lia
  refine for_dictV (a:=Ls) (o:=o) (kvs:=lsD ls) (fun i σ H1=>∃ (o2:Option V) (rl:Addr),σ = [some (.ref S),some (.ref rl),o2]∧Same (upd H Ls (.frz o (.dK (lsD ls)))) H1∧H1 rl = some (.lst ((roots (ls.take i)).map V.int))∧H rl = none) ⟨none,r0,rfl,s2,by rw [upd_ne nr,upd_same]; rfl,hr0⟩ (fun i σ H1 _ h1=>?_) ?_ ?_
  · obtain ⟨_,_,_,s1,_⟩:=h1
    exact s1 _ _ upd_same
  · rintro i kv σ H1 hkv ⟨o2,rl,rfl,s1,e1,hrl⟩
    unfold lsD at hkv
    rw [List.getElem?_map] at hkv
    obtain ⟨r,hri,rfl⟩:=Option.map_eq_some_iff.mp hkv
    have hrm:=List.mem_of_getElem? hri
    have hln:=((hL.ln r hrm).frz (o:=o) hL.l (few.a r hrm)).mono s1
    obtain ⟨hd,vs,hm,hat⟩:=hln
    have lv:=hat.len
    have lm:=few.m r hrm
    refine ⟨_,rfl,_,rfl,r.ln,_,rfl,gtK (k:=kT "makes") hd (ln_m r),r.mka,false,rfl,⟨_,Sq.of (tu:=false) hm⟩,fun pc hpc=>?_⟩
    refine comp2 (K:=K) (tu:=false) (a:=r.mka) (xs:=vs) (fun j us H2=>Same H1 H2∧H2 pc = some (.lst us)∧us = ((r.ms.take j).map (·.2)).map V.int) ⟨same_new hpc _,upd_same,rfl⟩ (fun j us H2 _ h2=>Sq.of (tu:=false) (h2.1 _ _ hm)) ?_ ?_
    · rintro j v us H2 hv ⟨s3,e3,rfl⟩
      obtain ⟨m,a,hmj,rfl,ha⟩:=hat.get (i:=j) hv
      have lj:j < r.ms.length:=(List.getElem?_eq_some_iff.mp hmj).1
      refine ⟨a,_,_,rfl,SqT.of (s3 _ _ ha),ttT ⟨_,rfl,e3,small (by simp only [List.length_map,List.length_take]; lia),same_over s3 hpc _,upd_same,?_⟩⟩
      rw [List.take_add_one,hmj,List.map_append,List.map_append]
      rfl
    · rintro us H2 ⟨s3,e3,rfl⟩
      rw [lv,List.take_length] at e3
      have l1:=ll i
      refine ⟨rl,pc,_,_,rfl,rfl,s3 _ _ e1,e3,Nat.le_of_lt (small (by simp only [List.length_map]; lia)),fun rn hrn=>?_⟩
      have s4:=same_new hrn (HO.lst ((roots (ls.take i)).map V.int ++ (r.ms.map (·.2)).map V.int))
      have s14:=s1.trans (s3.trans s4)
      have hd4:=(s3.trans s4) _ _ hd
      have hrn0:H rn = none:=by
        have:=(s1.trans s3).free hrn
        by_cases c:rn = Ls
        · rw [c,upd_same] at this; cases this
        · rw [upd_ne c] at this; exact this
      have er:roots (ls.take (i + 1)) = roots (ls.take i) ++ (r.ms.map (·.2) ++ r.rt.toList):=by
        unfold roots
        rw [List.take_add_one,hri,List.flatMap_append]
        show _ ++ (lnR r ++ []) = _
        rw [List.append_nil]
        rfl
      have nrL:rn ≠ Ls:=fun c=>by rw [c,hL.l] at hrn0; cases hrn0
      refine ⟨_,rfl,r.ln,_,rfl,gtK (k:=kT "root") hd4 (ln_r r),rfl,_,rfl,?_⟩
      cases hrt:r.rt with
      | none =>
        refine iteF ⟨_,rn,rfl,s14,?_,hrn0⟩
        rw [upd_same,er,hrt,List.map_append]
        simp
      | some x =>
        have l2:=ll (i + 1)
        rw [er,hrt] at l2
        simp only [List.length_append,List.length_map,Option.toList_some,List.length_singleton] at l2
        refine iteT ⟨_,rfl,.inl ⟨rfl,_,SqL.of upd_same⟩,_,rfl,r.ln,_,rfl,gtK (k:=kT "root") hd4 (ln_r r),rn,_,_,rfl,rfl,upd_same,small (by simp only [List.length_append,List.length_map]; lia),_,rn,rfl,?_,?_,hrn0⟩
        · exact same_over s14 (by rw [upd_ne nrL]; exact hrn0) _
        · rw [upd_same,er,hrt,List.map_append,List.map_append]
          simp [rtV]
  · rintro σ H1 ⟨o2,rl,rfl,s1,e1,hrl⟩
    obtain ⟨ef,sT⟩:=frz_same hL.l s1
    refine ⟨Ls,o,lsD ls,ef,nfz,?_⟩
    have hl':(lsD ls).length = ls.length:=List.length_map _
    rw [hl',List.take_length] at e1
    have nrl:rl ≠ Ls:=fun z=>by rw [z,hL.l] at hrl; cases hrl
    have e2:upd H1 Ls (.dK (lsD ls)) rl = some (.lst ((roots ls).map V.int)):=by rw [upd_ne nrl]; exact e1
    revert sT e2
    generalize upd H1 Ls (.dK (lsD ls)) = H2
    intro sT e2
    have L2:=hL.mono sT
    have:=ll ls.length
    rw [List.take_length] at this
    exact ⟨_,rfl,S,_,rfl,gtK (k:=kT "pieces") L2.s (st_p _ _ _),_,rfl,Pd,rl,M,pk,p,U,roots ls,rfl,L2.pd,L2.pc,e2,by lia,thr,un,fun r H' ks s' hr' e' nd hk=>q r H' ks (sT.trans s') (sT.free hr') e' nd hk⟩
end
end K31
set_option maxHeartbeats 4000000
namespace K31
open PySem L2 Bk
theorem count_ints (l:List Int) (x:Int):(l.map V.int).countP (fun z=>eqV z (.int x)) = l.count x:=by
  induction l with
  | nil=>rfl
  | cons y l ih =>
    rw [List.map_cons,List.countP_cons,List.count_cons,ih]
    rfl
theorem count_rt (o:Option Int) (x:Int):([rtV o]).countP (fun z=>eqV z (.int x)) = o.toList.count x:=by
  cases o with
  | none=>rfl
  | some y=>exact count_ints [y] x
theorem flat_ints (l:List Int):(l.map V.int).all flatV = true:=by
  rw [List.all_map]
  exact List.all_eq_true.mpr fun _ _=>rfl
theorem in_ints (l:List Int) (x:Int):inV (.int x) (l.map V.int) = decide (x ∈ l):=by
  unfold inV
  rw [List.any_map]
  induction l with
  | nil=>rfl
  | cons y l ih =>
    rw [List.any_cons,ih]
    show ((y == x) || _) = _
    by_cases c:y = x
    · subst c; simp
    · have h1:(y == x) = false:=by simpa using c
      rw [h1,Bool.false_or]
      by_cases d:x ∈ l
      · rw [decide_eq_true d,decide_eq_true (List.mem_cons_of_mem _ d)]
      · rw [decide_eq_false d,decide_eq_false (fun z=>(List.mem_cons.mp z).elim (fun e=>c e.symm) d)]
section
variable {P:Program} {w:World} {K:PySem.W.Frag} {mg:Str→Option Value} {base:Heap} {f:Addr} {fd:FuncData}
noncomputable def spCnt:Sp:=fun vs H Q _=>∃ (S Pd Ls ld:Addr) (M:List Addr) (n:Int) (pk:List (Key×V)) (p:Mp) (ls:List LR) (ks:List Int) (x:Int),vs = [.ref S,.ref ld,.int x]∧LawS M H S Pd Ls n pk p ls∧Few Ls ls∧H ld = some (.dK (seenD ks))∧ld ≠ Ls∧ld ≠ S∧ld ≠ Pd∧(∀ y ∈ ks,∃ k,p y = some k) ∧
  ∀ H',Same H H'→Q (.int (refs p ks (roots ls) x:Nat)) H'
theorem scCnt:FnScope ["_law_state","_law_lying_here","_law_place","_law_many","_law_line","_law_other"] ["_law_state","_law_lying_here","_law_place"] (defScope sCnt):=⟨rfl,rfl,rfl,by decide +kernel,rfl,by decide +kernel,by decide +kernel⟩
theorem ok_Cnt (F:Fun K "_law_count" "_law_count" sCnt f fd) (T:Txt mg):FnOk P w K mg base CX0 1 f fd ["_law_state","_law_lying_here","_law_place"] spCnt:=by
  refine F.ok scCnt (fun vs H Q E h=>?_) (fun cdv A outer s H vs Q E hr h=>?_)
  · obtain ⟨S,Pd,Ls,ld,M,n,pk,p,ls,ks,x,rfl,_⟩:=h
    rfl
  obtain ⟨S,Pd,Ls,ld,M,n,pk,p,ls,ks,x,rfl,hL,few,hld,ne1,ne2,ne3,dom,q⟩:=h
  have hu:=hu_of hr
  refine ⟨_,(pss_cons (ps_set (i:=3) scCnt.nd rfl (Or.inl rfl) pe_int)
    (pss_cons (ps_thaw (ps_for PassesOwn.never rfl (pi_dictV (pe_dget hu (pv 0) pe_str (fun _ _=>rfl))) (pg_name (i:=4) scCnt.nd rfl (Or.inl rfl))
    (pss_one (ps_set (i:=3) scCnt.nd rfl (Or.inl rfl) (pe_op op_add (pv 3) (pe_bm PySem.F.plainAttrs_list PySem.F.slot_list_count PySem.F.type_list_count mt_countL (pe_compR (g:=g2 K) ["_law_stamp","_law_root"] [] [] (pi_seq (pe_op op_cat (pe_dget hu (pv 4) pe_str (fun _ _=>rfl)) (pe_lst (pc (pe_tup (pc pe_int (pc (pe_dget hu (pv 4) pe_str (fun _ _=>rfl)) pa_nil))) pa_nil)))) (fun _ _ _ _ _ _=>pg_tup rfl (pgs_cons (pg_name (i:=0) (show (["_law_stamp","_law_root"]:List Str).Nodup by decide +kernel) rfl (Or.inl rfl)) (pgs_cons (pg_name (i:=1) (show (["_law_stamp","_law_root"]:List Str).Nodup by decide +kernel) rfl (Or.inl rfl)) pgs_nil))) (fun _ _ _ _ _ _=>pts_nil)
          (fun _ _ _ _ _ _=>(pv 1))
          rfl (by decide +kernel) (by decide +kernel) (by decide +kernel) (fun _ _ z=>nomatch z) rfl rfl) (pc (pv 2) pa_nil)))))))
    (pss_cons (ps_thaw (ps_for PassesOwn.never rfl (pi_dictF (pv 1)) (pg_name (i:=5) scCnt.nd rfl (Or.inl rfl))
    (pss_one (ps_if (pt_cmpR op_in_seq (pv 2) (pe_ix ix_tup (pe_dget hu (pe_dget hu (pv 0) pe_str (fun _ _=>rfl)) (pv 5) (fun _ _=>rfl)) pe_int (fun _ _=>rfl)) rfl)
    (pss_one (ps_set (i:=3) scCnt.nd rfl (Or.inl rfl) (pe_op op_add (pv 3) pe_int)))
    pss_nil))))
    (pss_one (ps_ret (pv 3)))))),?_⟩
  refine ⟨_,rfl,S,_,rfl,gtK (k:=kT "lines") hL.s (st_l _ _ _),Ls,_,rfl,hL.l,fun o=>?_⟩
  have nfz:∀ o' u,H Ls ≠ some (.frz o' u):=fun o' u z=>by rw [hL.l] at z; cases z
  have nfz2:∀ o' u,H ld ≠ some (.frz o' u):=fun o' u z=>by rw [hld] at z; cases z
  refine for_dictV (a:=Ls) (o:=o) (kvs:=lsD ls) (fun i σ H1=>∃ (o3:Option V),σ = [some (.ref S),some (.ref ld),some (.int x),some (.int ((roots (ls.take i)).count x:Nat)),o3,none]∧Same (upd H Ls (.frz o (.dK (lsD ls)))) H1) ⟨none,rfl,Same.refl _⟩ (fun i σ H1 _ h1=>?_) ?_ ?_
  · obtain ⟨_,_,s1⟩:=h1
    exact s1 _ _ upd_same
  · rintro i kv σ H1 hkv ⟨o3,rfl,s1⟩
    unfold lsD at hkv
    rw [List.getElem?_map] at hkv
    obtain ⟨r,hri,rfl⟩:=Option.map_eq_some_iff.mp hkv
    have hrm:=List.mem_of_getElem? hri
    have hln:=((hL.ln r hrm).frz (o:=o) hL.l (few.a r hrm)).mono s1
    obtain ⟨hd,vs,hm,hat⟩:=hln
    have lv:=hat.len
    have lm:=few.m r hrm
    refine ⟨_,rfl,_,rfl,r.ln,_,rfl,gtK (k:=kT "makes") hd (ln_m r),_,rfl,r.ln,_,rfl,gtK (k:=kT "root") hd (ln_r r),(by show 2 ≤ sizeLine; decide),fun tp htp=>⟨(by show 1 ≤ sizeLine; decide),fun l1 hl1=>?_⟩⟩
    have s2:=(same_new htp (HO.tup [V.int 0,rtV r.rt])).trans (same_new hl1 (HO.lst [V.ref tp]))
    have etp:upd (upd H1 tp (HO.tup [V.int 0,rtV r.rt])) l1 (HO.lst [V.ref tp]) tp = some (.tup [V.int 0,rtV r.rt]):=same_new hl1 _ _ _ upd_same
    have el1:upd (upd H1 tp (HO.tup [V.int 0,rtV r.rt])) l1 (HO.lst [V.ref tp]) l1 = some (.lst [V.ref tp]):=upd_same
    revert s2 etp el1
    generalize upd (upd H1 tp (HO.tup [V.int 0,rtV r.rt])) l1 (HO.lst [V.ref tp]) = H2
    intro s2 etp el1
    refine ⟨r.mka,l1,_,_,rfl,rfl,s2 _ _ hm,el1,Nat.le_of_lt (small (by simp only [List.length_singleton]; lia)),fun cl hcl=>?_⟩
    have s3:=same_new hcl (HO.lst (vs ++ [V.ref tp]))
    have ecl:upd H2 cl (HO.lst (vs ++ [V.ref tp])) cl = some (.lst (vs ++ [V.ref tp])):=upd_same
    have s123:=s1.trans (s2.trans s3)
    have etp3:=s3 _ _ etp
    have hat3:=hat.keep fun b xs e=>(s2.trans s3) _ _ e
    revert s123 ecl etp3 hat3
    generalize upd H2 cl (HO.lst (vs ++ [V.ref tp])) = H3
    intro ecl s123 etp3 hat3
    refine ⟨cl,false,rfl,⟨_,Sq.of (tu:=false) ecl⟩,fun pc hpc=>?_⟩
    refine comp2 (K:=K) (tu:=false) (a:=cl) (xs:=vs ++ [V.ref tp]) (fun j us H4=>Same H3 H4∧H4 pc = some (.lst us)∧us = ((r.ms.map (·.2)).map V.int ++ [rtV r.rt]).take j) ⟨same_new hpc _,upd_same,rfl⟩ (fun j us H4 _ h4=>Sq.of (tu:=false) (h4.1 _ _ ecl)) ?_ ?_
    · rintro j v us H4 hv ⟨s4,e4,rfl⟩
      have lw:((r.ms.map (·.2)).map V.int ++ [rtV r.rt]).length = vs.length + 1:=by simp [lv]
      have hj:j < vs.length + 1:=by
        have:=(List.getElem?_eq_some_iff.mp hv).1
        rw [List.length_append,List.length_singleton] at this
        exact this
      obtain ⟨a,c1,c2,e1,e2,e3⟩:∃ a c1 c2,v = .ref a∧H3 a = some (.tup [c1,c2])∧((r.ms.map (·.2)).map V.int ++ [rtV r.rt])[j]? = some c2:=by
        by_cases c:j < vs.length
        · rw [List.getElem?_append_left c] at hv
          obtain ⟨m,a,hmj,rfl,ha⟩:=hat3.get (i:=j) hv
          refine ⟨a,_,_,rfl,ha,?_⟩
          rw [List.getElem?_append_left (by simp; lia),List.getElem?_map,List.getElem?_map,hmj]
          rfl
        · obtain rfl:j = vs.length:=by lia
          rw [List.getElem?_append_right (Nat.le_refl _),Nat.sub_self] at hv
          cases hv
          refine ⟨tp,_,_,rfl,etp3,?_⟩
          rw [List.getElem?_append_right (by simp; lia)]
          simp [lv]
      exact ⟨a,c1,c2,e1,SqT.of (s4 _ _ e2),ttT ⟨_,rfl,e4,small (by rw [List.length_take,lw]; lia),same_over s4 hpc _,upd_same,by rw [List.take_add_one,e3]; rfl⟩⟩
    · rintro us H4 ⟨s4,e4,rfl⟩
      have lw:(vs ++ [V.ref tp]).length = ((r.ms.map (·.2)).map V.int ++ [rtV r.rt]).length:=by simp [lv]
      rw [lw,List.take_length] at e4
      refine ⟨.inl ⟨rfl,_,SqL.of e4⟩,_,rfl,pc,_,_,rfl,rfl,e4,rfl,?_,_,_,rfl,rfl,some (.ref r.ln),?_,s123.trans s4⟩
      · rw [List.all_append,flat_ints]
        cases r.rt <;> rfl
      · have er:roots (ls.take (i + 1)) = roots (ls.take i) ++ (r.ms.map (·.2) ++ r.rt.toList):=by
          unfold roots
          rw [List.take_add_one,hri,List.flatMap_append]
          show _ ++ (lnR r ++ []) = _
          rw [List.append_nil]
          rfl
        have ee:(((roots (ls.take i)).count x:Nat):Int) + ((((r.ms.map (·.2)).map V.int ++ [rtV r.rt]).countP (fun z=>eqV z (.int x)):Nat):Int) = (((roots (ls.take (i + 1))).count x:Nat):Int):=by
          rw [List.countP_append,count_ints,count_rt,er,List.count_append,List.count_append]
          lia
        show [some (V.ref S),some (V.ref ld),some (V.int x),some (V.int ((((roots (ls.take i)).count x:Nat):Int) + ((((r.ms.map (·.2)).map V.int ++ [rtV r.rt]).countP (fun z=>eqV z (.int x)):Nat):Int))),some (V.ref r.ln),none] = _
        rw [ee]
  · rintro σ H1 ⟨o3,rfl,s1⟩
    obtain ⟨ef,sT⟩:=frz_same hL.l s1
    refine ⟨Ls,o,lsD ls,ef,nfz,?_⟩
    have hl':(lsD ls).length = ls.length:=List.length_map _
    rw [hl',List.take_length]
    revert sT
    generalize upd H1 Ls (.dK (lsD ls)) = H2
    intro sT
    have L2:=hL.mono sT
    have hld2:=sT _ _ hld
    refine ⟨_,rfl,ld,_,rfl,hld2,fun o2=>?_⟩
    have nS:S ≠ ld:=Ne.symm ne2
    refine for_dict (a:=ld) (o:=o2) (kvs:=seenD ks) (fun i σ H3=>∃ (o5:Option V),σ = [some (.ref S),some (.ref ld),some (.int x),some (.int (refs p (ks.take i) (roots ls) x:Nat)),o3,o5]∧Same (upd H2 ld (.frz o2 (.dK (seenD ks)))) H3) ⟨none,?_,Same.refl _⟩ (fun i σ H3 _ h3=>?_) ?_ ?_
    · unfold refs
      simp
    · obtain ⟨_,_,s3⟩:=h3
      exact s3 _ _ upd_same
    · rintro i kv σ H3 hkv ⟨o5,rfl,s3⟩
      unfold seenD at hkv
      rw [List.getElem?_map] at hkv
      obtain ⟨y,hy,rfl⟩:=Option.map_eq_some_iff.mp hkv
      obtain ⟨k,hk⟩:=dom y (List.mem_of_getElem? hy)
      have cp:∀ b u,b ≠ ld→H2 b = some u→H3 b = some u:=fun b u n e=>s3 b u (by rw [upd_ne n]; exact e)
      obtain ⟨tp,l,st,g1,g2,g3,_⟩:=L2.pc y k hk
      have ntp:tp ≠ ld:=fun z=>by rw [z,hld2] at g2; cases g2
      have nl:l ≠ ld:=fun z=>by rw [z,hld2] at g3; cases g3
      refine ⟨_,rfl,_,rfl,S,_,rfl,gtK (k:=kT "pieces") (cp _ _ nS L2.s) (st_p _ _ _),_,rfl,Pd,_,rfl,gtK (k:=Sum.inl y) (cp _ _ (Ne.symm ne3) L2.pd) g1,tp,_,1,_,rfl,rfl,SqT.of (cp _ _ ntp g2),rfl,?_⟩
      refine ⟨l,_,rfl,.inl (SqL.of (cp _ _ nl g3)),rfl,flat_ints _,?_⟩
      have er:refs p (ks.take (i + 1)) (roots ls) x = refs p (ks.take i) (roots ls) x + (if x ∈ k then 1 else 0):=by
        rw [List.take_add_one,hy]
        show refs p (ks.take i ++ [y]) _ _ = _
        rw [refs_snoc,pts_of hk]
      rw [er]
      refine ⟨_,rfl,?_⟩
      show (if (if (false:Bool) = true then !inV (V.int x) (k.map V.int) else inV (V.int x) (k.map V.int)) = true then _ else _)
      rw [if_neg Bool.false_ne_true,in_ints]
      by_cases c:x ∈ k
      · rw [decide_eq_true c,if_pos c]
        exact iteT ⟨_,rfl,_,_,rfl,rfl,_,rfl,s3⟩
      · rw [decide_eq_false c,if_neg c]
        exact iteF ⟨_,rfl,s3⟩
    · rintro σ H3 ⟨o5,rfl,s3⟩
      obtain ⟨ef2,sT2⟩:=frz_same hld2 s3
      refine ⟨ld,o2,seenD ks,ef2,nfz2,?_⟩
      rw [seenD_len,List.take_length]
      exact ⟨_,rfl,q _ (sT.trans sT2)⟩
end
end K31
set_option maxHeartbeats 4000000
namespace K31
open PySem L2 Bk
section
variable {P:Program} {w:World} {K:PySem.W.Frag} {mg:Str→Option Value} {base:Heap} {f fLyi:Addr} {fd dLyi:FuncData}
structure Ap (S Pd Ls:Addr) (ls:List LR):Prop where
  sp:S ≠ Pd
  sl:S ≠ Ls
  pl:Pd ≠ Ls
  ln:∀ r ∈ ls,r.ln ≠ S∧r.ln ≠ Pd
noncomputable def spTre:Sp:=fun vs H Q _=>∃ (S Pd Ls nl od:Addr) (M:List Addr) (n:Int) (pk:List (Key×V)) (p:Mp) (ls:List LR) (U ns old:List Int),vs = [.ref S,.ref nl,.ref od]∧LawS M H S Pd Ls n pk p ls∧Few Ls ls∧Ap S Pd Ls ls∧(∀ b ∈ M,∃ u,H b = some u) ∧
  H nl = some (.lst (ns.map V.int))∧ns.length = 12∧(∀ x ∈ ns,0 ≤ x)∧(H od = some (.dK (seenD old))∨(H od = some (.lst [])∧old = []))∧od ≠ S∧od ≠ Pd∧old.length ≤ 1000∧(∀ x,Rch p (roots ls) x→∃ k,p x = some k)∧Un p U∧pk.length ≤ 900 ∧
  ∀ H' pk' fr r ks,Kx [S,Pd] H H'→LawS M H' S Pd Ls (n + 1) pk' (addP p fr) ls→ks.Nodup→(∀ x,x ∈ ks↔Rch p (roots ls) x)→Fr old ks fr→fr.length ≤ 4→(∃ k,(r,k) ∈ fr)→pk'.length ≤ pk.length + 4→Q (.int r) H'
theorem scTre:FnScope ["_law_state","_law_numbers","_law_old","_law_lying_here","_law_free","_law_fresh","_law_k","_law_some","_law_points_here","_law_j"] ["_law_state","_law_numbers","_law_old"] (defScope sTre):=⟨rfl,rfl,rfl,by decide +kernel,rfl,by decide +kernel,by decide +kernel⟩
theorem ok_Tre (F:Fun K "_law_tree" "_law_tree" sTre f fd) (hLyi:Has K mg "_law_lying" sLyi ["_law_state"] fLyi dLyi) (GLyi:FnOk P w K mg base CX0 2 fLyi dLyi ["_law_state"] spLyi) (T:Txt mg):FnOk P w K mg base CX0 3 f fd ["_law_state","_law_numbers","_law_old"] spTre:=by
  refine F.ok scTre (fun vs H Q E h=>?_) (fun cdv A outer s H vs Q E hr h=>?_)
  · obtain ⟨S,Pd,Ls,nl,od,M,n,pk,p,ls,U,ns,old,rfl,_⟩:=h
    rfl
  obtain ⟨S,Pd,Ls,nl,od,M,n,pk,p,ls,U,ns,old,rfl,hL,few,ap,hM,hnl,lns,pns,hod,ods,odp,lold,thr,un,lpk,q⟩:=h
  have hu:=hu_of hr
  refine ⟨_,(pss_cons (ps_dput hu (pv 0) pe_str (pe_op op_add (pe_dget hu (pv 0) pe_str (fun _ _=>rfl)) pe_int) rfl)
    (pss_cons (ps_set (i:=3) scTre.nd rfl (Or.inr rfl) (pe_call GLyi (hr.mono (by decide)) rfl hLyi.nm hLyi.fn.kp hLyi.bd .nil pass0 (pc (pv 0) pa_nil)))
    (pss_cons (ps_setC2 (i:=4) scTre.nd rfl rfl [3] ["_law_lying_here"] (pi_range2 rfl T.rng (pc pe_int (pc (pe_op op_add pe_int (pe_callB call_len_dK rfl T.len PySem.boot_len (pc (pv 3) pa_nil))) pa_nil))) (fun _ _ _ _ _ _=>(pts_one (pt_cmp (pc_dnotin hu (pv 0) (pv 1)))))
          (fun _ _ _ _ _ _=>(pv 0))
          rfl (by decide +kernel) (by decide +kernel) rfl (by decide +kernel) (fun j y hj=>by
            match j,hj with
            | 0,hj=>cases hj; exact ⟨3,rfl,rfl,rfl,.inl rfl⟩) rfl (by decide +kernel) rfl)
    (pss_cons (ps_set (i:=5) scTre.nd rfl (Or.inl rfl) (pe_lst pa_nil))
    (pss_cons (ps_for PassesOwn.never rfl (pi_range1 rfl T.rng (pc (pe_op op_add pe_int (pe_op op_mod (pe_ix ix_list (pv 1) pe_int (fun _ _=>rfl)) pe_int)) pa_nil)) (pg_name (i:=6) scTre.nd rfl (Or.inl rfl))
    (pss_cons (ps_set (i:=7) scTre.nd rfl (Or.inl rfl) (pe_op op_cat (pe_callB (call_sortedDL rfl) rfl T.srt PyProof.Rows.boot_sorted (pc (pv 2) pa_nil)) (pv 5)))
    (pss_cons (ps_set (i:=8) scTre.nd rfl (Or.inl rfl) pe_dnewK)
    (pss_cons (ps_for PassesOwn.never rfl (pi_range1 rfl T.rng (pc (pe_callB (call_min2 rfl) rfl T.min PyProof.Rows.boot_min (pc (pe_callB call_len_seq rfl T.len PySem.boot_len (pc (pv 7) pa_nil)) (pc (pe_op op_mod (pe_ix ix_list (pv 1) (pe_op op_add pe_int (pv 6)) (fun _ _=>rfl)) pe_int) pa_nil))) pa_nil)) (pg_name (i:=9) scTre.nd rfl (Or.inl rfl))
    (pss_one (ps_dput hu (pv 8) (pe_ix ix_list (pv 7) (pe_op op_mod (pe_op op_fdivB (pe_ix ix_list (pv 1) (pe_op op_add pe_int (pv 6)) (fun _ _=>rfl)) (pe_ix ix_list (pe_lst (pc pe_int (pc pe_int (pc pe_int pa_nil)))) (pv 9) (fun _ _=>rfl))) (pe_callB call_len_seq rfl T.len PySem.boot_len (pc (pv 7) pa_nil))) (fun _ _=>rfl)) pe_bl rfl)))
    (pss_cons (ps_if (PW.pt (pw_and (pt_cmpR (op_neE (hu_of hr |> Nat.lt_of_succ_lt)) (pv 5) (pe_lst pa_nil) (nomark _)) (pw_and1 (pt_cmpR op_gt (pe_op op_mod (pe_op op_fdiv (pe_ix ix_list (pv 1) (pe_op op_add pe_int (pv 6)) (fun _ _=>rfl)) pe_int) pe_int) pe_int (nomark _)))))
    (pss_one (ps_dput hu (pv 8) (pe_ix ix_list (pv 5) (pe_un un_neg pe_int) (fun _ _=>rfl)) pe_bl rfl))
    pss_nil)
    (pss_cons (ps_dput hu (pe_dget hu (pv 0) pe_str (fun _ _=>rfl)) (pe_ix ix_list (pv 4) (pv 6) (fun _ _=>rfl)) (pe_tup (pc (pe_dget hu (pv 0) pe_str (fun _ _=>rfl)) (pc (pe_callB (call_sortedKL rfl) rfl T.srt PyProof.Rows.boot_sorted (pc (pv 8) pa_nil)) pa_nil))) rfl)
    (pss_one (ps_expr (pe_bm PySem.F.plainAttrs_list PySem.F.slot_list_append PySem.F.type_list_append mt_append (pv 5) (pc (pe_ix ix_list (pv 4) (pv 6) (fun _ _=>rfl)) pa_nil))))))))))
    (pss_one (ps_ret (pe_ix ix_list (pv 5) (pe_un un_neg pe_int) (fun _ _=>rfl))))))))),?_⟩
  have dS:∀ {k:List (Key×V)} {b:Addr} {xs:List V},H b = some (.lst xs)→b ∉ [S,Pd]:=fun {k b xs} e z=>by
    rcases List.mem_cons.mp z with rfl | z
    · rw [hL.s] at e; cases e
    · rw [List.mem_singleton.mp z,hL.pd] at e; cases e
  refine ⟨_,rfl,S,_,rfl,gtK (k:=kT "stamp") hL.s (st_s _ _ _),_,_,rfl,rfl,_,rfl,S,_,rfl,DPut.k (k:=kT "stamp") (v:=V.int (n + 1)) hL.s (small (by show 3 ≤ 100000; decide)),?_⟩
  rw [st_put]
  have K1:Kx [S,Pd] H (upd H S (.dK (stD Pd Ls (n + 1)))):=Kx.over ⟨fun b u _ e=>e,fun b hb=>by
    rcases List.mem_cons.mp hb with rfl | hb
    · exact .inr (.inl ⟨_,hL.s⟩)
    · rw [List.mem_singleton.mp hb]; exact .inr (.inl ⟨_,hL.pd⟩)⟩ (.inl (List.mem_cons_self ..)) _
  have L1:LawS M (upd H S (.dK (stD Pd Ls (n + 1)))) S Pd Ls (n + 1) pk p ls:=by
    have k0:Kx [S] H (upd H S (.dK (stD Pd Ls (n + 1)))):=Kx.over ⟨fun b u _ e=>e,fun b hb=>by rw [List.mem_singleton.mp hb]; exact .inr (.inl ⟨_,hL.s⟩)⟩ (.inl (List.mem_cons_self ..)) _
    refine ⟨upd_same,by rw [upd_ne (Ne.symm ap.sp)]; exact hL.pd,fun x k hx=>?_,by rw [upd_ne (Ne.symm ap.sl)]; exact hL.l,fun r hr=>?_⟩
    · obtain ⟨tp,l,st,g1,g2,g3,g4⟩:=hL.pc x k hx
      exact ⟨tp,l,st,g1,k0.tup g2,by rw [upd_ne (fun z=>by rw [z,hL.s] at g3; cases g3)]; exact g3,g4⟩
    · obtain ⟨h1,vs,h2,h3⟩:=hL.ln r hr
      exact ⟨by rw [upd_ne (ap.ln r hr).1]; exact h1,vs,by rw [upd_ne (fun z=>by rw [z,hL.s] at h2; cases h2)]; exact h2,h3.keep fun _ _ e=>k0.tup e⟩
  have hnl1:=K1.st _ _ (dS (k:=pk) hnl) hnl
  have od1:∀ u,H od = some u→upd H S (.dK (stD Pd Ls (n + 1))) od = some u:=fun u e=>by rw [upd_ne ods]; exact e
  have hod1:upd H S (.dK (stD Pd Ls (n + 1))) od = some (.dK (seenD old))∨(upd H S (.dK (stD Pd Ls (n + 1))) od = some (.lst [])∧old = []):=hod.imp (od1 _) fun ⟨a,b⟩=>⟨od1 _ a,b⟩
  clear od1
  revert K1 L1 hnl1 hod1
  generalize upd H S (.dK (stD Pd Ls (n + 1))) = H1
  intro K1 L1 hnl1 hod1
  refine ⟨_,rfl,S,Pd,Ls,M,n + 1,pk,p,ls,U,rfl,L1,few,thr,un,fun ld H2 ks s2 hld e2 ndk hk=>?_⟩
  have lks:ks.length ≤ 1000:=Nat.le_trans (nd_len ndk fun x hx=>by
    obtain ⟨k,hk'⟩:=thr x ((hk x).mp hx)
    exact (un.u x k hk').1) un.n
  refine ⟨_,rfl,ld,_,rfl,e2,_,_,rfl,rfl,_,_,rfl,⟨by decide,by decide,?_,?_⟩,fun fl hfl=>?_⟩
  · rw [seenD_len]; lia
  · rw [seenD_len]; lia
  obtain ⟨N,eN⟩:∃ N:Nat,N = (8 + ((seenD ks).length:Int) - 2).toNat:=⟨_,rfl⟩
  have lN:N = ks.length + 6:=by rw [eN,seenD_len]; lia
  rw [← eN]
  refine comp_rng (lo:=2) (n:=N) (fun i us H3=>Same H2 H3∧H3 fl = some (.lst us)∧us = ((((List.range i).map fun i:Nat=>(2:Int) + (i:Int)).filter fun x=>decide (x ∉ ks)).map V.int)) ⟨same_new hfl _,upd_same,rfl⟩ ?_ ?_
  · rintro i us H3 hi ⟨s3,e3,rfl⟩
    have hr1:(List.range (i + 1)).map (fun i:Nat=>(2:Int) + (i:Int)) = (List.range i).map (fun i:Nat=>(2:Int) + (i:Int)) ++ [2 + (i:Int)]:=by rw [List.range_succ,List.map_append]; rfl
    have lf:((((List.range i).map fun i:Nat=>(2:Int) + (i:Int)).filter fun x=>decide (x ∉ ks)).map V.int).length < sizeLine:=small (by
      have h1:=List.length_filter_le (fun x=>decide (x ∉ ks)) ((List.range i).map fun i:Nat=>(2:Int) + (i:Int))
      rw [List.length_map,List.length_range] at h1
      rw [List.length_map]
      lia)
    rw [hr1,List.filter_append]
    refine ⟨_,rfl,_,rfl,ld,_,rfl,gtK (k:=Sum.inl (2 + (i:Int))) (s3 _ _ e2) rfl,_,rfl,?_⟩
    by_cases c:2 + (i:Int) ∈ ks
    · rw [seenD_in c]
      refine iteF ⟨s3,e3,?_⟩
      rw [List.filter_cons_of_neg (p:=fun x=>decide (x ∉ ks)) (by simpa using c)]
      simp
    · rw [seenD_no c]
      refine iteT ⟨_,rfl,e3,lf,same_over s3 hfl _,upd_same,?_⟩
      rw [List.filter_cons_of_pos (p:=fun x=>decide (x ∉ ks)) (by simpa using c),List.map_append]
      rfl
  rintro us H3 ⟨s3,e3,rfl⟩
  obtain ⟨free,efree⟩:∃ free:List Int,free = ((List.range N).map fun i:Nat=>(2:Int) + (i:Int)).filter fun x=>decide (x ∉ ks):=⟨_,rfl⟩
  rw [← efree] at e3
  have ndf:free.Nodup:=by rw [efree]; exact (rng_nd 2 N).filter _
  have lfree:6 ≤ free.length∧free.length ≤ 2000:=by
    have h1:=free_len (ks:=ks) (rng_nd 2 N)
    have h2:=List.length_filter_le (fun x=>decide (x ∉ ks)) ((List.range N).map fun i:Nat=>(2:Int) + (i:Int))
    rw [← efree,List.length_map,List.length_range] at h1 h2
    lia
  have outf:∀ x ∈ free,x ∉ ks:=fun x hx=>by
    rw [efree] at hx
    exact of_decide_eq_true (List.mem_filter.mp hx).2
  clear efree
  refine ⟨Nat.zero_le _,fun fh hfh=>?_⟩
  have sA:=s2.trans (s3.trans (same_new hfh (HO.lst [])))
  have hfl4:=same_new hfh (HO.lst []) _ _ e3
  have hld4:=(s3.trans (same_new hfh (HO.lst []))) _ _ e2
  have hfh4:upd H3 fh (HO.lst []) fh = some (.lst []):=upd_same
  have fhn:H fh = none:=by
    have h1:=(s2.trans s3).free hfh
    rcases K1.free h1 with z | z
    · rcases List.mem_cons.mp z with z | z
      · rw [z,L1.s] at h1; cases h1
      · rw [List.mem_singleton.mp z,L1.pd] at h1; cases h1
    · exact z
  have L4:LawS (fh :: M) (upd H3 fh (HO.lst [])) S Pd Ls (n + 1) pk p ls:=by
    have l4:=L1.mono sA
    refine ⟨l4.s,l4.pd,fun x k hx=>?_,l4.l,l4.ln⟩
    obtain ⟨tp,l,st,g1,g2,g3,g4⟩:=L1.pc x k hx
    refine ⟨tp,l,st,g1,sA _ _ g2,sA _ _ g3,fun z=>?_⟩
    rcases List.mem_cons.mp z with z | z
    · have:=(s2.trans s3) _ _ g3
      rw [z,hfh] at this
      cases this
    · exact g4 z
  have K4:=K1.same sA
  have hnl4:=sA _ _ hnl1
  have hod4:upd H3 fh (HO.lst []) od = some (.dK (seenD old))∨(upd H3 fh (HO.lst []) od = some (.lst [])∧old = []):=hod1.imp (sA _ _) fun ⟨a,b⟩=>⟨sA _ _ a,b⟩
  have nfl:fl ≠ fh:=fun z=>by rw [z,hfh] at e3; cases e3
  clear s2 s3 e2 e3 hld hfl K1 L1 hnl1 hod1 sA
  revert hfl4 hld4 hfh4 L4 K4 hnl4 hod4
  generalize upd H3 fh (HO.lst []) = H4
  intro hfl4 hld4 hfh4 L4 K4 hnl4 hod4
  obtain ⟨z0,ez0⟩:∃ z:Int,ns[0]? = some z:=⟨_,List.getElem?_eq_getElem (by lia)⟩
  have z0p:=pns z0 (List.mem_of_getElem? ez0)
  have atN:∀ {i:Nat} {z:Int},ns[i]? = some z→atI (ns.map V.int) (i:Int) = some (.int z):=fun h=>atI_nat (by rw [List.getElem?_map,h]; rfl)
  refine ⟨_,rfl,nl,_,0,_,rfl,rfl,SqL.of hnl4,atN ez0,_,_,rfl,rfl,(by show (0:Int) < 4; decide),_,_,rfl,rfl,_,rfl,by lia,by lia,?_⟩
  have hi4:(1 + z0 % 4).toNat ≤ 4∧1 ≤ (1 + z0 % 4).toNat:=by lia
  refine for_range (lo:=0) (n:=(1 + z0 % 4).toNat) (fun i σ H5=>∃ (o6 o7 o8 o9:Option V) (fr:List (Int×List Int)) (pk':List (Key×V)),σ = [some (.ref S),some (.ref nl),some (.ref od),some (.ref ld),some (.ref fl),some (.ref fh),o6,o7,o8,o9]∧Kx [S,Pd] H H5∧LawS (fh :: M) H5 S Pd Ls (n + 1) pk' (addP p fr) ls∧H5 nl = some (.lst (ns.map V.int))∧(H5 od = some (.dK (seenD old))∨(H5 od = some (.lst [])∧old = []))∧H5 fl = some (.lst (free.map V.int))∧H5 fh = some (.lst ((fr.map (·.1)).map V.int))∧fr.length = i∧fr.map (·.1) = free.take i∧Fr old ks fr∧pk'.length ≤ pk.length + i)
    ⟨none,none,none,none,[],pk,rfl,K4,L4,hnl4,hod4,hfl4,hfh4,rfl,rfl,Fr.nil _ _,Nat.le_refl _⟩ ?_ ?_
  · rintro i σ H5 hi ⟨o6,o7,o8,o9,fr,pk',rfl,K5,L5,hnl5,hod5,hfl5,hfh5,li,ef,F5,lp5⟩
    refine ⟨_,rfl,od,old,rfl,(hod5.elim (fun e=>.inl ⟨seenD old,.inl e,seenD_keys old⟩) fun ⟨e,z⟩=>.inr (by rw [z]; exact SqL.of e)),by lia,fun sl ms pm pw hsl=>?_⟩
    have sS:=same_new hsl (HO.lst (ms.map V.int))
    have lms:=pm.length_eq
    refine ⟨_,rfl,sl,fh,_,_,rfl,rfl,upd_same,sS _ _ hfh5,Nat.le_of_lt (small (by simp only [List.length_map]; lia)),fun so hso=>?_⟩
    rw [← List.map_append]
    have s6:=sS.trans (same_new hso (HO.lst ((ms ++ fr.map (·.1)).map V.int)))
    have eso:upd (upd H5 sl (HO.lst (ms.map V.int))) so (HO.lst ((ms ++ fr.map (·.1)).map V.int)) so = some (.lst ((ms ++ fr.map (·.1)).map V.int)):=upd_same
    have hsm:∀ y ∈ ms ++ fr.map (·.1),y ∈ old∨y ∈ fr.map (·.1):=fun y hy=>(List.mem_append.mp hy).imp (fun h=>pm.mem_iff.mp h) id
    have lsm:(ms ++ fr.map (·.1)).length ≤ 1004:=by rw [List.length_append,List.length_map]; lia
    revert s6 eso hsm lsm
    generalize upd (upd H5 sl (HO.lst (ms.map V.int))) so (HO.lst ((ms ++ fr.map (·.1)).map V.int)) = H6
    generalize ms ++ fr.map (·.1) = sm
    intro s6 eso hsm lsm
    refine fun dh hdh=>?_
    obtain ⟨z1,ez1⟩:∃ z:Int,ns[1 + i]? = some z:=⟨_,List.getElem?_eq_getElem (by lia)⟩
    obtain ⟨z5,ez5⟩:∃ z:Int,ns[5 + i]? = some z:=⟨_,List.getElem?_eq_getElem (by lia)⟩
    have z1p:=pns z1 (List.mem_of_getElem? ez1)
    have z5p:=pns z5 (List.mem_of_getElem? ez5)
    have at1:atI (ns.map V.int) (1 + (0 + (i:Int))) = some (.int z1):=by rw [show (1 + (0 + (i:Int))) = ((1 + i:Nat):Int) by lia]; exact atN ez1
    have at5:atI (ns.map V.int) (5 + (0 + (i:Int))) = some (.int z5):=by rw [show (5 + (0 + (i:Int))) = ((5 + i:Nat):Int) by lia]; exact atN ez5
    have s7:=same_new hdh (HO.dK [])
    refine ⟨_,rfl,so,_,rfl,.inl (SqL.of (s7 _ _ eso)),_,rfl,_,rfl,_,_,rfl,rfl,nl,_,_,_,rfl,rfl,SqL.of ((s6.trans s7) _ _ hnl5),at1,_,_,rfl,rfl,(by show (0:Int) < 4; decide),_,_,rfl,_,rfl,?_⟩
    obtain ⟨mn,emn⟩:∃ mn:Int,mn = (if z1 % 4 < ((sm.map V.int).length:Int) then z1 % 4 else ((sm.map V.int).length:Int)):=⟨_,rfl⟩
    rw [← emn]
    have hmn:0 ≤ mn∧mn ≤ 3∧mn ≤ (sm.length:Int):=by
      rw [List.length_map] at emn
      have:=Int.emod_lt_of_pos z1 (show (0:Int) < 4 by decide)
      have:=Int.emod_nonneg z1 (show (4:Int) ≠ 0 by decide)
      rw [emn]
      split <;> lia
    refine ⟨by lia,by lia,?_⟩
    refine for_range (lo:=0) (n:=mn.toNat) (fun j σ H8=>∃ (o9:Option V) (ps:List Int),σ = [some (.ref S),some (.ref nl),some (.ref od),some (.ref ld),some (.ref fl),some (.ref fh),some (.int (0 + (i:Int))),some (.ref so),some (.ref dh),o9]∧Same H6 H8∧H8 dh = some (.dK (seenD ps))∧ps.Nodup∧ps.length ≤ j∧∀ y ∈ ps,y ∈ sm) ⟨o9,[],rfl,s7,upd_same,List.nodup_nil,Nat.le_refl _,(fun _ h=>nomatch h)⟩ ?_ ?_
    · rintro j σ H8 hj ⟨o9',ps,rfl,s8,ed8,ndp,lps,hps⟩
      have j3:j < 3:=by lia
      have sm0:0 < sm.length:=by lia
      refine ⟨_,rfl,_,rfl,_,rfl,_,rfl,_,_,rfl,rfl,nl,_,_,_,rfl,rfl,SqL.of ((s6.trans s8) _ _ hnl5),at5,(by show 3 ≤ sizeLine; decide),fun l3 hl3=>?_⟩
      have s9:=same_new hl3 (HO.lst [V.int 1,V.int 7,V.int 49])
      obtain ⟨dv,hat,hdv⟩:∃ dv:Int,atI [V.int 1,V.int 7,V.int 49] (0 + (j:Int)) = some (.int dv)∧(dv = 1∨dv = 7∨dv = 49):=by
        have:j = 0∨j = 1∨j = 2:=by lia
        rcases this with rfl | rfl | rfl
        · exact ⟨1,rfl,.inl rfl⟩
        · exact ⟨7,rfl,.inr (.inl rfl)⟩
        · exact ⟨49,rfl,.inr (.inr rfl)⟩
      refine ⟨_,rfl,l3,_,_,_,rfl,rfl,SqL.of upd_same,hat,_,_,rfl,rfl,(by rcases hdv with h | h | h <;> rw [h] <;> decide +kernel),_,rfl,so,_,rfl,.inl (SqL.of (s9 _ _ (s8 _ _ eso))),_,_,rfl,rfl,(by show (0:Int) < ((sm.map V.int).length:Int); rw [List.length_map]; lia),?_⟩
      obtain ⟨y,hy,hym⟩:∃ y,atI (sm.map V.int) (z5 / dv % ((sm.map V.int).length:Int)) = some (.int y)∧y ∈ sm:=by
        rw [List.length_map]
        have h0:=Int.emod_nonneg (z5 / dv) (show (sm.length:Int) ≠ 0 by lia)
        have h1:=Int.emod_lt_of_pos (z5 / dv) (show (0:Int) < (sm.length:Int) by lia)
        generalize z5 / dv % (sm.length:Int) = u at h0 h1 ⊢
        obtain ⟨m,rfl⟩:∃ m:Nat,u = (m:Int):=⟨u.toNat,by lia⟩
        have hm:m < sm.length:=by lia
        exact ⟨sm[m],atI_nat (by rw [List.getElem?_map,List.getElem?_eq_getElem hm]; rfl),List.getElem_mem hm⟩
      refine ⟨so,_,_,_,rfl,rfl,SqL.of (s9 _ _ (s8 _ _ eso)),hy,dh,_,rfl,DPut.k (k:=Sum.inl y) (v:=V.bl true) (s9 _ _ ed8) (small (by rw [seenD_len]; lia)),?_⟩
      rw [seenD_ins]
      refine ⟨_,insI ps y,rfl,same_over (s8.trans s9) hdh _,upd_same,insI_nd ndp y,Nat.le_trans (insI_len ps y) (by lia),fun u hu=>?_⟩
      rcases insI_mem hu with h | h
      · exact hps u h
      · rw [h]; exact hym
    · rintro σ H8 ⟨o9',ps,rfl,s8,ed8,ndp,lps,hps⟩
      have lps3:ps.length ≤ 3:=by lia
      dsimp only
      refine seq_in (if_rest (fun σ' H'=>∃ ps':List Int,σ' = [some (.ref S),some (.ref nl),some (.ref od),some (.ref ld),some (.ref fl),some (.ref fh),some (.int (0 + (i:Int))),some (.ref so),some (.ref dh),o9']∧Same H6 H'∧H' dh = some (.dK (seenD ps'))∧ps'.Nodup∧ps'.length ≤ 4∧∀ y ∈ ps',y ∈ old∨y ∈ fr.map (·.1)) (fun σ' H9 hR=>?_) (fun go=>?_))
      · obtain ⟨ps',rfl,s9,ed9,ndp',lps',hps'⟩:=hR
        have s69:=s6.trans s9
        have L9:=L5.mono s69
        have i6:i < free.length:=by lia
        obtain ⟨x,ex⟩:∃ x,free[i]? = some x:=⟨_,List.getElem?_eq_getElem i6⟩
        have xm:=List.mem_of_getElem? ex
        have atx:atI (free.map V.int) (0 + (i:Int)) = some (.int x):=by rw [show (0 + (i:Int)) = ((i:Nat):Int) by lia]; exact atI_nat (by rw [List.getElem?_map,ex]; rfl)
        have hx:x ∉ fr.map (·.1):=by
          rw [ef]
          intro z
          obtain ⟨j,hj⟩:=List.getElem?_of_mem z
          have hj2:j < i:=by
            have:=(List.getElem?_eq_some_iff.mp hj).1
            rw [List.length_take] at this
            lia
          rw [List.getElem?_take_of_lt hj2] at hj
          obtain ⟨b1,c1⟩:=List.getElem?_eq_some_iff.mp hj
          obtain ⟨b2,c2⟩:=List.getElem?_eq_some_iff.mp ex
          have:=(List.getElem_inj ndf).mp (c1.trans c2.symm)
          lia
        refine ⟨_,rfl,S,_,rfl,gtK (k:=kT "stamp") L9.s (st_s _ _ _),_,rfl,dh,seenD ps',ps',rfl,.inl ed9,seenD_keys ps',by lia,fun lq ks' pmq pwq hlq=>⟨(by show 2 ≤ sizeLine; decide),fun tq htq=>?_⟩⟩
        have sq:=(same_new hlq (HO.lst (ks'.map V.int))).trans (same_new htq (HO.tup [V.int (n + 1),V.ref lq]))
        have elq:upd (upd H9 lq (HO.lst (ks'.map V.int))) tq (HO.tup [V.int (n + 1),V.ref lq]) lq = some (.lst (ks'.map V.int)):=same_new htq _ _ _ upd_same
        have etq:upd (upd H9 lq (HO.lst (ks'.map V.int))) tq (HO.tup [V.int (n + 1),V.ref lq]) tq = some (.tup [V.int (n + 1),V.ref lq]):=upd_same
        have K9:=(K5.same s69)
        have nlq:lq ∉ fh :: M:=fun z=>by
          rcases List.mem_cons.mp z with z | z
          · have:=s69 _ _ hfh5
            rw [← z,hlq] at this
            cases this
          · obtain ⟨u,hu'⟩:=hM lq z
            by_cases c:lq ∈ [S,Pd]
            · rcases List.mem_cons.mp c with c | c
              · rw [c,L9.s] at hlq; cases hlq
              · rw [List.mem_singleton.mp c,L9.pd] at hlq; cases hlq
            · rw [K9.st lq u c hu'] at hlq; cases hlq
        have K10:=K9.same sq
        have L10:=L9.mono sq
        have s610:=s69.trans sq
        revert sq elq etq K10 L10 s610
        generalize upd (upd H9 lq (HO.lst (ks'.map V.int))) tq (HO.tup [V.int (n + 1),V.ref lq]) = H10
        intro sq elq etq K10 L10 s610
        refine ⟨_,rfl,S,_,rfl,gtK (k:=kT "pieces") L10.s (st_p _ _ _),_,rfl,_,rfl,fl,_,_,_,rfl,rfl,SqL.of (s610 _ _ hfl5),atx,Pd,_,rfl,DPut.k (k:=Sum.inl x) (v:=V.ref tq) L10.pd (small (by lia)),?_⟩
        have nP:∀ {b:Addr} {xs:List V},H10 b = some (.lst xs)→b ≠ Pd:=fun e z=>by rw [z,L10.pd] at e; cases e
        have fl10:=s610 _ _ hfl5
        have fh10:=s610 _ _ hfh5
        have ePf:upd H10 Pd (.dK (putK pk' (Sum.inl x) (.ref tq))) fh = some (.lst ((fr.map (·.1)).map V.int)):=by rw [upd_ne (nP fh10)]; exact fh10
        have ePl:upd H10 Pd (.dK (putK pk' (Sum.inl x) (.ref tq))) fl = some (.lst (free.map V.int)):=by rw [upd_ne (nP fl10)]; exact fl10
        refine ⟨_,rfl,.inl ⟨rfl,_,SqL.of ePf⟩,_,rfl,_,rfl,fl,_,_,_,rfl,rfl,SqL.of ePl,atx,fh,_,_,rfl,rfl,ePf,small (by simp only [List.length_map]; lia),?_⟩
        have eF:(fr.map (·.1)).map V.int ++ [V.int x] = ((fr ++ [(x,ks')]).map (·.1)).map V.int:=by rw [List.map_append,List.map_append]; rfl
        rw [eF]
        have K11:Kx [S,Pd] H (upd (upd H10 Pd (.dK (putK pk' (Sum.inl x) (.ref tq)))) fh (.lst (((fr ++ [(x,ks')]).map (·.1)).map V.int))):=(K10.over (.inl (List.mem_cons_of_mem _ (List.mem_cons_self ..))) _).over (.inr fhn) _
        have kP:∀ b u,b ≠ Pd→b ≠ fh→H10 b = some u→upd (upd H10 Pd (.dK (putK pk' (Sum.inl x) (.ref tq)))) fh (.lst (((fr ++ [(x,ks')]).map (·.1)).map V.int)) b = some u:=fun b u n1 n2 e=>by rw [upd_ne n2,upd_ne n1]; exact e
        have kt:∀ b xs,H10 b = some (.tup xs)→upd (upd H10 Pd (.dK (putK pk' (Sum.inl x) (.ref tq)))) fh (.lst (((fr ++ [(x,ks')]).map (·.1)).map V.int)) b = some (.tup xs):=fun b xs e=>kP b _ (fun z=>by rw [z,L10.pd] at e; cases e) (fun z=>by rw [z,fh10] at e; cases e) e
        have nfd:∀ {b:Addr} {u:HO},H b = some u→b ≠ fh:=fun e z=>by rw [z,fhn] at e; cases e
        have pc11:=L10.pc.add (x:=x) (k:=ks') hx etq elq nlq
        have hodP:od ≠ fh:=by
          rcases hod with h | ⟨h,_⟩ <;> exact nfd h
        refine ⟨_,_,_,_,fr ++ [(x,ks')],putK pk' (Sum.inl x) (.ref tq),rfl,K11,⟨kP _ _ ap.sp (nfd hL.s) L10.s,by rw [upd_ne (nfd hL.pd),upd_same],fun y k hy=>?_,kP _ _ (Ne.symm ap.pl) (nfd hL.l) L10.l,fun r hr=>?_⟩,kP _ _ (nP (s610 _ _ hnl5)) (nfd hnl) (s610 _ _ hnl5),(hod5.imp (fun e=>kP _ _ odp hodP (s610 _ _ e)) fun ⟨e,z⟩=>⟨kP _ _ odp hodP (s610 _ _ e),z⟩),kP _ _ (nP fl10) nfl fl10,upd_same,by rw [List.length_append,li]; rfl,?_,F5.snoc hx (outf x xm) (pmq.nodup_iff.mpr ndp') (by rw [pmq.length_eq]; exact lps') (fun y hy=>hps' y (pmq.mem_iff.mp hy)),Nat.le_trans (length_putK _ _ _) (by lia)⟩
        · obtain ⟨tp,l,st,g1,g2,g3,g4⟩:=pc11 y k hy
          exact ⟨tp,l,st,g1,kt _ _ g2,kP _ _ (nP g3) (fun z=>g4 (by rw [z]; exact List.mem_cons_self ..)) g3,g4⟩
        · obtain ⟨h1,vs,h2,h3⟩:=L10.ln r hr
          obtain ⟨g1,vs',g2,_⟩:=hL.ln r hr
          exact ⟨kP _ _ (ap.ln r hr).2 (nfd g1) h1,vs,kP _ _ (nP h2) (nfd g2) h2,h3.keep kt⟩
        · rw [List.map_append,ef,List.take_add_one,ex]
          rfl
      · have fh8:=(s6.trans s8) _ _ hfh5
        refine ⟨_,rfl,Nat.zero_le _,fun pe hpe=>?_⟩
        have se:=same_new hpe (HO.lst [])
        refine ⟨fh,pe,_,rfl,rfl,SqL.of (se _ _ fh8),SqL.of upd_same,_,rfl,?_⟩
        have s8e:=s8.trans se
        have goN:_:=fun (_:True)=>go _ (upd H8 pe (HO.lst [])) ⟨ps,rfl,s8e,se _ _ ed8,ndp,by lia,fun y hy=>hsm y (hps y hy)⟩
        rcases List.eq_nil_or_concat fr with hf | ⟨fr0,e0,hf⟩
        · subst hf
          exact iteF (iteF (goN trivial))
        · rw [List.concat_eq_append] at hf
          have em:decide ((fr.map (·.1)).map V.int ≠ []) = true:=decide_eq_true (by rw [hf]; simp)
          rw [em]
          refine iteT ⟨_,rfl,_,rfl,_,_,rfl,rfl,nl,_,_,_,rfl,rfl,SqL.of ((s6.trans s8e) _ _ hnl5),at1,_,_,rfl,rfl,⟨by decide,by decide⟩,_,_,rfl,rfl,(by show (0:Int) < 3; decide),_,_,rfl,rfl,_,rfl,ite2 (fun c=>?_) (fun c=>goN trivial)⟩
          have atl:atI ((fr.map (·.1)).map V.int) (-1) = some (.int e0.1):=by
            rw [hf,List.map_append,List.map_append]
            exact atI_last _ _
          refine ⟨_,rfl,_,rfl,_,rfl,fh,_,_,_,rfl,rfl,SqL.of (se _ _ fh8),atl,dh,_,rfl,DPut.k (k:=Sum.inl e0.1) (v:=V.bl true) (se _ _ ed8) (small (by rw [seenD_len]; lia)),?_⟩
          rw [seenD_ins]
          refine go _ _ ⟨insI ps e0.1,rfl,same_over s8e hdh _,upd_same,insI_nd ndp _,Nat.le_trans (insI_len ps _) (by lia),fun y hy=>?_⟩
          rcases insI_mem hy with h | h
          · exact hsm y (hps y h)
          · right
            rw [h,hf]
            simp
  · rintro σ H5 ⟨o6,o7,o8,o9,fr,pk',rfl,K5,L5,hnl5,hod5,hfl5,hfh5,li,ef,F5,lp5⟩
    have lf:0 < fr.length:=by lia
    rcases List.eq_nil_or_concat fr with hf | ⟨fr0,e0,hf⟩
    · rw [hf] at lf; cases lf
    rw [List.concat_eq_append] at hf
    have atl:atI ((fr.map (·.1)).map V.int) (-1) = some (.int e0.1):=by
      rw [hf,List.map_append,List.map_append]
      exact atI_last _ _
    refine ⟨_,rfl,_,rfl,fh,_,_,_,rfl,rfl,SqL.of hfh5,atl,?_⟩
    exact q H5 pk' fr e0.1 ks K5 ⟨L5.s,L5.pd,fun y k hy=>by
      obtain ⟨tp,l,st,g1,g2,g3,g4⟩:=L5.pc y k hy
      exact ⟨tp,l,st,g1,g2,g3,fun z=>g4 (List.mem_cons_of_mem _ z)⟩,L5.l,L5.ln⟩ ndk hk F5 (by lia) ⟨e0.2,by rw [hf]; simp⟩ (by lia)
end
end K31
set_option maxHeartbeats 4000000
namespace K31
open PySem L2 Bk
theorem LawS.setS {M:List Addr} {H:Hp} {S Pd Ls:Addr} {n:Int} {pk:List (Key×V)} {p:Mp} {ls:List LR} (hL:LawS M H S Pd Ls n pk p ls) (ap:Ap S Pd Ls ls) (m:Int):Kx [S] H (upd H S (.dK (stD Pd Ls m)))∧LawS M (upd H S (.dK (stD Pd Ls m))) S Pd Ls m pk p ls:=by
  have k0:Kx [S] H (upd H S (.dK (stD Pd Ls m))):=Kx.over ⟨fun b u _ e=>e,fun b hb=>by rw [List.mem_singleton.mp hb]; exact .inr (.inl ⟨_,hL.s⟩)⟩ (.inl (List.mem_cons_self ..)) _
  refine ⟨k0,upd_same,by rw [upd_ne (Ne.symm ap.sp)]; exact hL.pd,fun x k hx=>?_,by rw [upd_ne (Ne.symm ap.sl)]; exact hL.l,fun r hr=>?_⟩
  · obtain ⟨tp,l,st,g1,g2,g3,g4⟩:=hL.pc x k hx
    exact ⟨tp,l,st,g1,k0.tup g2,by rw [upd_ne (fun z=>by rw [z,hL.s] at g3; cases g3)]; exact g3,g4⟩
  · obtain ⟨h1,vs,h2,h3⟩:=hL.ln r hr
    exact ⟨by rw [upd_ne (ap.ln r hr).1]; exact h1,vs,by rw [upd_ne (fun z=>by rw [z,hL.s] at h2; cases h2)]; exact h2,h3.keep fun _ _ e=>k0.tup e⟩
section
variable {P:Program} {w:World} {K:PySem.W.Frag} {mg:Str→Option Value} {base:Heap} {f:Addr} {fd:FuncData}
noncomputable def spMst:Sp:=fun vs H Q _=>∃ (S Pd Ls:Addr) (M:List Addr) (n nu:Int) (pk:List (Key×V)) (p:Mp) (ls:List LR) (r:LR),vs = [.ref S,.ref r.ln,.int nu]∧LawS M H S Pd Ls n pk p ls∧Ap S Pd Ls ls∧r ∈ ls∧(r.ms.map (·.1)).Pairwise (· < ·) ∧
  ∀ H' z n',Kx [S] H H'→LawS M H' S Pd Ls n' pk p ls→(∀ m ∈ r.ms,m.1 < z)→Q (.int z) H'
theorem scMst:FnScope ["_law_state","_law_line","_law_number","_law_stamp"] ["_law_state","_law_line","_law_number"] (defScope sMst):=⟨rfl,rfl,rfl,by decide +kernel,rfl,by decide +kernel,by decide +kernel⟩
theorem ok_Mst (F:Fun K "_law_made_stamp" "_law_made_stamp" sMst f fd) (T:Txt mg):FnOk P w K mg base CX0 1 f fd ["_law_state","_law_line","_law_number"] spMst:=by
  refine F.ok scMst (fun vs H Q E h=>?_) (fun cdv A outer s H vs Q E hr h=>?_)
  · obtain ⟨S,Pd,Ls,M,n,nu,pk,p,ls,r,rfl,_⟩:=h
    rfl
  obtain ⟨S,Pd,Ls,M,n,nu,pk,p,ls,r,rfl,hL,ap,hr',inc,q⟩:=h
  have hu:=hu_of hr
  refine ⟨_,(pss_cons (ps_set (i:=3) scMst.nd rfl (Or.inl rfl) (pe_op op_add (pe_dget hu (pv 0) pe_str (fun _ _=>rfl)) (pe_op op_mod (pv 2) pe_int)))
    (pss_cons (ps_if (PW.pt (pw_and (pt_cmpR (op_neE (hu_of hr |> Nat.lt_of_succ_lt)) (pe_dget hu (pv 1) pe_str (fun _ _=>rfl)) (pe_lst pa_nil) (nomark _)) (pw_and1 (pt_cmpR op_le (pv 3) (pe_ix ix_tup (pe_ix ix_list (pe_dget hu (pv 1) pe_str (fun _ _=>rfl)) (pe_un un_neg pe_int) (fun _ _=>rfl)) pe_int (fun _ _=>rfl)) (nomark _)))))
    (pss_one (ps_set (i:=3) scMst.nd rfl (Or.inl rfl) (pe_op op_add (pe_ix ix_tup (pe_ix ix_list (pe_dget hu (pv 1) pe_str (fun _ _=>rfl)) (pe_un un_neg pe_int) (fun _ _=>rfl)) pe_int (fun _ _=>rfl)) pe_int)))
    pss_nil)
    (pss_cons (ps_dput hu (pv 0) pe_str (pe_callB (call_max2 rfl) rfl T.max PyProof.Rows.boot_max (pc (pv 3) (pc (pe_dget hu (pv 0) pe_str (fun _ _=>rfl)) pa_nil))) rfl)
    (pss_one (ps_ret (pv 3)))))),?_⟩
  obtain ⟨hd,vs,hm,hat⟩:=hL.ln r hr'
  refine ⟨_,rfl,S,_,rfl,gtK (k:=kT "stamp") hL.s (st_s _ _ _),_,rfl,_,_,rfl,rfl,(by show (0:Int) < 2; decide),_,_,rfl,rfl,?_⟩
  dsimp only
  generalize n + nu % 2 = z0
  refine seq_in (if_rest (fun σ' H'=>∃ z:Int,σ' = [some (.ref S),some (.ref r.ln),some (.int nu),some (.int z)]∧Same H H'∧∀ m ∈ r.ms,m.1 < z) (fun σ' H1 hR=>?_) (fun go=>?_))
  · obtain ⟨z,rfl,s1,hz⟩:=hR
    have L1:=hL.mono s1
    refine ⟨_,rfl,_,rfl,S,_,rfl,gtK (k:=kT "stamp") L1.s (st_s _ _ _),_,_,rfl,_,rfl,S,_,rfl,DPut.k (k:=kT "stamp") L1.s (small (by show 3 ≤ 100000; decide)),?_⟩
    rw [st_put]
    obtain ⟨k2,L2⟩:=LawS.setS L1 ap (if n > z then n else z)
    exact ⟨_,rfl,q _ z _ (Kx.ahead s1 k2 fun b hb=>by rw [List.mem_singleton.mp hb]; exact .inr (.inl ⟨_,hL.s⟩)) L2 hz⟩
  · refine ⟨_,rfl,r.ln,_,rfl,gtK (k:=kT "makes") hd (ln_m r),Nat.zero_le _,fun pe hpe=>?_⟩
    have se:=same_new hpe (HO.lst [])
    refine ⟨r.mka,pe,_,rfl,rfl,SqL.of (se _ _ hm),SqL.of upd_same,_,rfl,?_⟩
    have lv:=hat.len
    rcases List.eq_nil_or_concat r.ms with hf | ⟨ms0,m0,hf⟩
    · rw [hf] at lv
      have:vs = []:=List.length_eq_zero_iff.mp lv
      subst this
      refine iteF (iteF (go _ _ ⟨z0,rfl,se,fun m hm=>by rw [hf] at hm; cases hm⟩))
    · rw [List.concat_eq_append] at hf
      have ne:vs ≠ []:=fun z=>by rw [z,hf] at lv; simp at lv
      rw [decide_eq_true ne]
      obtain ⟨vs0,v0,rfl⟩:∃ vs0 v0,vs = vs0 ++ [v0]:=by
        rcases List.eq_nil_or_concat vs with h | ⟨a,b,h⟩
        · exact absurd h ne
        · exact ⟨a,b,by rw [h,List.concat_eq_append]⟩
      have l0:vs0.length = ms0.length:=by rw [hf] at lv; simpa using lv
      obtain ⟨m,a,hmj,rfl,ha⟩:=hat.get (i:=vs0.length) (v:=v0) (by rw [List.getElem?_append_right (Nat.le_refl _),Nat.sub_self]; rfl)
      have em:m = m0:=by
        rw [hf,l0,List.getElem?_append_right (Nat.le_refl _),Nat.sub_self] at hmj
        cases hmj
        rfl
      subst em
      have mx:∀ y ∈ r.ms,y.1 ≤ m.1:=fun y hy=>by
        rw [hf] at hy inc
        rw [List.map_append,List.pairwise_append] at inc
        rcases List.mem_append.mp hy with h | h
        · have:=inc.2.2 y.1 (List.mem_map_of_mem h) m.1 (by simp)
          lia
        · rw [List.mem_singleton.mp h]; exact Int.le_refl _
      have rd:∀ {H':Hp},Same H H'→H' r.ln = some (.dK (lnD r))∧H' r.mka = some (.lst (vs0 ++ [.ref a]))∧H' a = some (.tup [.int m.1,.int m.2]):=fun s=>⟨s _ _ hd,s _ _ hm,s _ _ ha⟩
      obtain ⟨d1,m1,a1⟩:=rd se
      refine iteT ⟨_,rfl,_,rfl,r.ln,_,rfl,gtK (k:=kT "makes") d1 (ln_m r),_,rfl,r.mka,_,_,_,rfl,rfl,SqL.of m1,atI_last _ _,a,_,0,_,rfl,rfl,SqT.of a1,rfl,_,_,rfl,rfl,_,rfl,ite2 (fun c=>?_) (fun c=>?_)⟩
      · refine ⟨_,rfl,r.ln,_,rfl,gtK (k:=kT "makes") d1 (ln_m r),_,rfl,r.mka,_,_,_,rfl,rfl,SqL.of m1,atI_last _ _,a,_,0,_,rfl,rfl,SqT.of a1,rfl,_,_,rfl,rfl,?_⟩
        exact go _ _ ⟨m.1 + 1,rfl,se,fun y hy=>by have:=mx y hy; lia⟩
      · have c':¬ z0 ≤ m.1:=by simpa using c
        exact go _ _ ⟨z0,rfl,se,fun y hy=>by have:=mx y hy; lia⟩
end
end K31
set_option maxHeartbeats 4000000
namespace K31
open PySem L2 Bk
noncomputable def noPos:Pos:=⟨0,0,0,0⟩
noncomputable def bodyOf:Stmt→List Stmt
  | .FunctionDef _ _ body _ _ _ _ _ _ _=>body
  | _=>[]
noncomputable def cloOf (q y x:Str):Stmt→CloT×Pos
  | .FunctionDef name params body _ _ _ scope _ _ pos=>(⟨name,q,params,body,scope,y,x⟩,pos)
  | _=>(⟨"",q,⟨[],[],none,[],[],none,[]⟩,[],defScope sCel,y,x⟩,noPos)
noncomputable def cPts:CloT×Pos:=cloOf "_law_book.<locals>._law_points" "_law_pieces" "_law_place" ((bodyOf sBok).getD 0 (.Pass noPos))
noncomputable def cBrn:CloT×Pos:=cloOf "_law_book.<locals>._law_born" "_law_pieces" "_law_place" ((bodyOf sBok).getD 1 (.Pass noPos))
noncomputable def tPts:CloT:=cPts.1
noncomputable def tBrn:CloT:=cBrn.1
theorem one_of {l:List (Str×NameKind)} {y z:Str} (h:(l.all fun e=>!(e.2 == .free) || e.1 == y) = true) (e:l.lookup z = some .free):z = y:=by
  have:=List.all_eq_true.mp h _ (PySem.mem_of_lookup e)
  simpa using this
theorem scPts:CloSc tPts:=⟨rfl,rfl,rfl,by decide +kernel,rfl,rfl,fun z h=>one_of (by decide +kernel) h,by decide +kernel,fun _ _ _ _ _ _=>rfl⟩
section
variable {P:Program} {w:World} {K:PySem.W.Frag} {mg:Str→Option Value} {base:Heap}
noncomputable def spPts:Addr→V→Hp→VK→Prop:=fun d v H Q=>∃ (x:Int) (k:List Int) (tp l:Addr) (st:Int) (pk:List (Key×V)),v = .int x∧H d = some (.dK pk)∧valV pk (.inl x) = some (.ref tp)∧H tp = some (.tup [.int st,.ref l])∧H l = some (.lst (k.map V.int))∧∀ q,H q = none→Q (.ref q) (upd H q (.lst (k.map V.int)))
theorem ok_Pts (T:Txt mg):CloOk P w K mg base 1 tPts spPts:=by
  refine ⟨scPts,fun f c' c A outer s H d v Q hr h=>?_,fun d v H c oc Q hc h=>?_⟩
  · obtain ⟨x,k,tp,l,st,pk,rfl,h1,h2,h3,h4,q⟩:=h
    have hu:=hu_of hr
    refine ⟨_,pss_one (ps_ret (pe_callTy call_list_of rfl T.lst PyProof.Rows.boot_list (pc (pe_ix ix_tup (pe_dget hu (pv 1) (pv 0) (fun _ _=>rfl)) pe_int (fun _ _=>rfl)) pa_nil))),?_⟩
    exact ⟨_,rfl,_,rfl,d,_,rfl,gtK (k:=Sum.inl x) h1 h2,tp,_,1,_,rfl,rfl,SqT.of h3,rfl,l,_,rfl,.inl (SqL.of h4),fun q' hq=>q q' hq⟩
  · obtain ⟨x,k,tp,l,st,pk,rfl,h1,h2,h3,h4,q⟩:=h
    have ne:∀ {b:Addr} {u:HO},H b = some u→(∀ φ,u ≠ .ext φ)→del H c b = some u:=fun {b u} e n=>by
      rw [del_ne (fun z=>by rw [z,hc] at e; cases e; exact n _ rfl)]
      exact e
    refine ⟨x,k,tp,l,st,pk,rfl,ne h1 (by intro φ z; cases z),h2,ne h3 (by intro φ z; cases z),ne h4 (by intro φ z; cases z),fun q' hq hn=>?_⟩
    have nq:q' ≠ c:=fun z=>by rw [z,upd_same] at hn; cases hn
    rw [del_ne nq] at hq
    have e:upd (upd (del H c) q' (.lst (k.map V.int))) c (.ext (objφ c oc)) = upd H q' (.lst (k.map V.int)):=by
      funext b
      by_cases z:b = c
      · subst z
        rw [upd_same,upd_ne nq.symm]
        exact hc.symm
      · rw [upd_ne z]
        by_cases y:b = q'
        · subst y; rw [upd_same,upd_same]
        · rw [upd_ne y,upd_ne y,del_ne z]
    rw [e]
    exact q q' hq
end
end K31
set_option maxHeartbeats 4000000
namespace K31
open PySem L2 Bk
structure BC where
  L:Addr
  C:Addr
structure CF (K:PySem.W.Frag) (c:BC):Prop where
  clL:Cls K c.L
  clC:Cls K c.C
  bL:NoAttr K c.L "base"
  mL:NoAttr K c.L "makes"
  rL:NoAttr K c.L "root"
  pC:NoAttr K c.C "points_of"
  bC:NoAttr K c.C "born_of"
  lC:NoAttr K c.C "lines"
  tC:NoAttr K c.C "there"
noncomputable def bkF (f1 f2 bl th:Addr):List (Str×V):=[("points_of",.ref f1),("born_of",.ref f2),("lines",.ref bl),("there",.ref th)]
section
variable {P:Program} {w:World} {K:PySem.W.Frag} {mg:Str→Option Value} {base:Heap} {f:Addr} {fd:FuncData} {c:BC}
noncomputable def spCCt (c:BC):Sp:=fun vs H Q _=>∃ (B dx f1 f2 bl th:Addr) (cs:List (Key×V)) (ks:List Int) (val:Int→Nat) (x:Int),vs = [.ref B,.int x]∧H B = some (.ins c.C dx (bkF f1 f2 bl th))∧H th = some (.dK cs)∧Th cs ks val∧Q (.int (val x)) H
theorem scCCt:FnScope ["self","place"] ["self","place"] (defScope sCCt):=⟨rfl,rfl,rfl,by decide +kernel,rfl,by decide +kernel,by decide +kernel⟩
theorem ok_CCt (F:Fun K "count" "Counts.count" sCCt f fd) (cf:CF K c):FnOk P w K mg base CX0 1 f fd ["self","place"] (spCCt c):=by
  refine F.ok scCCt (fun vs H Q E h=>?_) (fun cdv A outer s H vs Q E hr h=>?_)
  · obtain ⟨B,dx,f1,f2,bl,th,cs,ks,val,x,rfl,_⟩:=h
    rfl
  obtain ⟨B,dx,f1,f2,bl,th,cs,ks,val,x,rfl,hB,hth,ht,q⟩:=h
  have hu:=hu_of hr
  refine ⟨_,(pss_one (ps_ret (pe_dget2 hu (pe_fld (pv 0) rfl) (pv 1) pe_int ⟨rfl,rfl,rfl,rfl⟩))),?_⟩
  refine ⟨_,rfl,B,c.C,dx,_,_,rfl,hB,cf.clC,cf.tC,rfl,th,rfl,.inl ⟨_,.inl hth⟩,_,rfl,_,gtK (k:=Sum.inl x) hth rfl,?_⟩
  by_cases hx:x ∈ ks
  · rw [ht.vin x hx]
    exact q
  · rw [ht.no hx]
    have:=ht.out x hx
    rw [this] at q
    exact q
noncomputable def spBLs (c:BC):Sp:=fun vs H Q _=>∃ (B dx f1 f2 bl th:Addr) (cs:List (Key×V)) (ks:List Int) (val:Int→Nat) (x:Int),vs = [.ref B,.int x]∧H B = some (.ins c.C dx (bkF f1 f2 bl th))∧H th = some (.dK cs)∧Th cs ks val∧Q (.bl (decide (x ∈ ks))) H
theorem scBLs:FnScope ["self","place"] ["self","place"] (defScope sBLs):=⟨rfl,rfl,rfl,by decide +kernel,rfl,by decide +kernel,by decide +kernel⟩
theorem ok_BLs (F:Fun K "lies" "Book.lies" sBLs f fd) (cf:CF K c):FnOk P w K mg base CX0 1 f fd ["self","place"] (spBLs c):=by
  refine F.ok scBLs (fun vs H Q E h=>?_) (fun cdv A outer s H vs Q E hr h=>?_)
  · obtain ⟨B,dx,f1,f2,bl,th,cs,ks,val,x,rfl,_⟩:=h
    rfl
  obtain ⟨B,dx,f1,f2,bl,th,cs,ks,val,x,rfl,hB,hth,ht,q⟩:=h
  have hu:=hu_of hr
  refine ⟨_,(pss_one (ps_ret (pe_cmp (pc_din hu (pv 1) (pe_fld (pv 0) rfl))))),?_⟩
  refine ⟨_,rfl,_,rfl,B,c.C,dx,_,_,rfl,hB,cf.clC,cf.tC,rfl,th,_,rfl,gtK (k:=Sum.inl x) hth rfl,?_⟩
  by_cases hx:x ∈ ks
  · rw [ht.vin x hx]
    rw [decide_eq_true hx] at q
    exact q
  · rw [ht.no hx]
    rw [decide_eq_false hx] at q
    exact q
noncomputable def spBLy (c:BC):Sp:=fun vs H Q _=>∃ (B dx f1 f2 bl th:Addr) (cs:List (Key×V)) (ks:List Int) (val:Int→Nat),vs = [.ref B]∧H B = some (.ins c.C dx (bkF f1 f2 bl th))∧H th = some (.dK cs)∧Th cs ks val∧ks.length ≤ 1000∧∀ (r:Addr) (ms:List Int),H r = none→ms.Perm ks→ms.Pairwise (· ≤ ·)→Q (.ref r) (upd H r (.lst (ms.map V.int)))
theorem scBLy:FnScope ["self"] ["self"] (defScope sBLy):=⟨rfl,rfl,rfl,by decide +kernel,rfl,by decide +kernel,by decide +kernel⟩
theorem ok_BLy (F:Fun K "lying" "Book.lying" sBLy f fd) (cf:CF K c) (T:Txt mg):FnOk P w K mg base CX0 1 f fd ["self"] (spBLy c):=by
  refine F.ok scBLy (fun vs H Q E h=>?_) (fun cdv A outer s H vs Q E hr h=>?_)
  · obtain ⟨B,dx,f1,f2,bl,th,cs,ks,val,rfl,_⟩:=h
    rfl
  obtain ⟨B,dx,f1,f2,bl,th,cs,ks,val,rfl,hB,hth,ht,lk,q⟩:=h
  refine ⟨_,(pss_one (ps_ret (pe_callB (call_sortedKL rfl) rfl T.srt PyProof.Rows.boot_sorted (pc (pe_fld (pv 0) rfl) pa_nil)))),?_⟩
  exact ⟨_,rfl,B,c.C,dx,_,_,rfl,hB,cf.clC,cf.tC,rfl,th,cs,ks,rfl,.inl hth,ht.keys,by lia,fun r ms pm pw hr'=>q r ms hr' pm pw⟩
structure BkS (c:BC) (M:List Addr) (H:Hp) (B dx f1 f2 bl th Pd:Addr) (pk:List (Key×V)) (p:Mp):Prop where
  b:H B = some (.ins c.C dx (bkF f1 f2 bl th))
  clo:CloOf tPts H f1 Pd
  pd:H Pd = some (.dK pk)
  pc:PcAt M H pk p
  nt:Pd ≠ th
theorem BkS.kx {M:List Addr} {H H':Hp} {B dx f1 f2 bl th Pd:Addr} {pk:List (Key×V)} {p:Mp} {cs:List (Key×V)} (h:BkS c M H B dx f1 f2 bl th Pd pk p) (ht:H th = some (.dK cs)) (hm:th ∈ M) (k:Kx [th] H H'):BkS c M H' B dx f1 f2 bl th Pd pk p :=
  ⟨k.st _ _ (fun z=>by have e:=h.b; rw [List.mem_singleton.mp z,ht] at e; cases e) h.b,k.clo h.clo,k.st _ _ (fun z=>h.nt (List.mem_singleton.mp z)) h.pd,k.pc h.pc fun b hb=>by rw [List.mem_singleton.mp hb]; exact hm,h.nt⟩
noncomputable def spCHd (c:BC):Sp:=fun vs H Q _=>∃ (B dx f1 f2 bl th Pd:Addr) (M:List Addr) (pk cs:List (Key×V)) (p:Mp) (rs ks U:List Int) (val:Int→Nat) (r:Int),vs = [.ref B,.int r]∧BkS c M H B dx f1 f2 bl th Pd pk p∧th ∈ M∧H th = some (.dK cs)∧Th cs ks val∧Held p rs ks val ∧
  (∀ V:List Int,(∀ x ∈ V,Rch p (r :: rs) x)→Lay p V)∧Un p U∧∀ H' cs' ks' val',Kx [th] H H'→H' th = some (.dK cs')→Th cs' ks' val'→Held p (r :: rs) ks' val'→Q .non H'
theorem scCHd:FnScope ["self","root","points","waiting","place"] ["self","root"] (defScope sCHd):=⟨rfl,rfl,rfl,by decide +kernel,rfl,by decide +kernel,by decide +kernel⟩
theorem ok_CHd {fBLs fCCt:Addr} {dBLs dCCt:FuncData} (F:Fun K "hold" "Counts.hold" sCHd f fd) (cf:CF K c) (FPts:CloOk P w K mg base 1 tPts spPts) (hBLs:MHas K c.C "lies" "Book.lies" sBLs ["self","place"] fBLs dBLs) (GBLs:FnOk P w K mg base CX0 1 fBLs dBLs ["self","place"] (spBLs c)) (hCCt:MHas K c.C "count" "Counts.count" sCCt ["self","place"] fCCt dCCt) (GCCt:FnOk P w K mg base CX0 1 fCCt dCCt ["self","place"] (spCCt c)) (T:Txt mg):FnOk P w K mg base CX0 3 f fd ["self","root"] (spCHd c):=by
  refine F.ok scCHd (fun vs H Q E h=>?_) (fun cdv A outer s H vs Q E hr h=>?_)
  · obtain ⟨B,dx,f1,f2,bl,th,Pd,M,pk,cs,p,rs,ks,U,val,r,rfl,_⟩:=h
    rfl
  obtain ⟨B,dx,f1,f2,bl,th,Pd,M,pk,cs,p,rs,ks,U,val,r,rfl,hS,hM,hth,ht,hH,lay,un,q⟩:=h
  have hu:=hu_of hr
  refine ⟨_,(pss_cons (ps_set (i:=2) scCHd.nd rfl (Or.inl rfl) (pe_fld (pv 0) rfl))
    (pss_cons (ps_set (i:=3) scCHd.nd rfl (Or.inl rfl) (pe_lst (pc (pv 1) pa_nil)))
    (pss_one (ps_while PassesOwn.never (pt_truth (pv 3) (fun _=>rfl))
    (pss_cons (ps_set (i:=4) scCHd.nd rfl (Or.inl rfl) (pe_bm0 PySem.F.plainAttrs_list PySem.F.slot_list_pop PySem.F.type_list_pop mt_pop (pv 3)))
    (pss_cons (ps_if (pt_not (pt_val (pe_meth (pv 0) cf.clC hBLs.me GBLs (hr.mono (by decide)) hBLs.bd .nil pass0 (pc (pv 4) pa_nil))))
    (pss_one (ps_expr (pe_bm PySem.F.plainAttrs_list PySem.F.slot_list_extend PySem.F.type_list_extend mt_extend (pv 3) (pc (pe_clo (i:=2) FPts (hr.mono (by decide)) (pv 2) (pv 4)) pa_nil))))
    pss_nil)
    (pss_one (ps_dput hu (pe_fld (pv 0) rfl) (pv 4) (pe_op op_add (pe_meth (pv 0) cf.clC hCCt.me GCCt (hr.mono (by decide)) hCCt.bd .nil pass0 (pc (pv 4) pa_nil)) pe_int) rfl)))))))),?_⟩
  refine ⟨_,rfl,B,c.C,dx,_,_,rfl,hS.b,cf.clC,cf.pC,rfl,_,rfl,(by show 1 ≤ sizeLine; decide),fun wl hwl=>?_⟩
  have k0:Kx [th] H (upd H wl (HO.lst [V.int r])):=Kx.over ⟨fun b u _ e=>e,fun b hb=>by rw [List.mem_singleton.mp hb]; exact .inr (.inl ⟨_,hth⟩)⟩ (.inr hwl) _
  have nwt:wl ≠ th:=fun z=>by rw [z,hth] at hwl; cases hwl
  have bd:∀ ks,wsum p ks U ≤ 4000:=fun ks=>by
    have h1:=wsum_bound (m:=p) (ks:=ks) 4 (fun x k hk=>(un.u x k hk).2) U
    have h2:=un.n
    lia
  refine ⟨fun n σ H1=>∃ (o4:Option V) (cs1:List (Key×V)) (ks1 ws:List Int) (val1:Int→Nat),σ = [some (.ref B),some (.int r),some (.ref f1),some (.ref wl),o4]∧Kx [th] H H1∧H1 th = some (.dK cs1)∧Th cs1 ks1 val1∧H1 wl = some (.lst (ws.map V.int))∧HI p (r :: rs) ks1 val1 ws∧ws.length + wsum p ks1 U ≤ n∧ws.length + wsum p ks1 U ≤ 5000,
    ⟨_,none,cs,ks,[r],val,rfl,k0,by rw [upd_ne nwt.symm]; exact hth,ht,upd_same,HI.start hH r,Nat.le_refl _,by have:=bd ks; show 1 + _ ≤ _; lia⟩,?_⟩
  rintro n σ H1 ⟨o4,cs1,ks1,ws,val1,rfl,k1,hth1,ht1,ew,hi,hn,hn2⟩
  refine ⟨_,rfl,_,.inl ⟨_,SqL.of ew,rfl⟩,?_⟩
  rcases List.eq_nil_or_concat ws with rfl | ⟨ws,x,rfl⟩
  · refine iteF ?_
    exact q H1 cs1 ks1 val1 k1 hth1 ht1 (hi.done lay)
  rw [List.concat_eq_append] at ew hi hn hn2 ⊢
  have rx:=hi.ri.sw x (List.mem_append_right _ (List.mem_singleton.mpr rfl))
  obtain ⟨k,hk,ndk,lk4⟩:=(lay [x] fun y hy=>by rw [List.mem_singleton.mp hy]; exact rx).dom x (List.mem_singleton.mpr rfl)
  have em:(!((ws ++ [x]).map V.int).isEmpty) = true:=by simp
  rw [em]
  refine iteT ⟨fun σ' H'=>∃ n',n' < n∧∃ (o4:Option V) (cs1:List (Key×V)) (ks1 ws:List Int) (val1:Int→Nat),σ' = [some (.ref B),some (.int r),some (.ref f1),some (.ref wl),o4]∧Kx [th] H H'∧H' th = some (.dK cs1)∧Th cs1 ks1 val1∧H' wl = some (.lst (ws.map V.int))∧HI p (r :: rs) ks1 val1 ws∧ws.length + wsum p ks1 U ≤ n'∧ws.length + wsum p ks1 U ≤ 5000,fun _ _ h=>h,?_⟩
  have ew':H1 wl = some (.lst (ws.map V.int ++ [V.int x])):=by rw [ew,List.map_append]; rfl
  refine ⟨_,rfl,.inl ⟨rfl,_,SqL.of ew'⟩,wl,_,V.int x,rfl,rfl,ew',by simp,?_⟩
  rw [List.dropLast_concat]
  have k2:Kx [th] H (upd H1 wl (.lst (ws.map V.int))):=k1.over (.inr hwl) _
  have hth2:upd H1 wl (.lst (ws.map V.int)) th = some (.dK cs1):=by rw [upd_ne nwt.symm]; exact hth1
  have ew2:upd H1 wl (.lst (ws.map V.int)) wl = some (.lst (ws.map V.int)):=upd_same
  revert k2 hth2 ew2
  generalize upd H1 wl (.lst (ws.map V.int)) = H2
  intro k2 hth2 ew2
  have lw:(ws ++ [x]).length = ws.length + 1:=by simp
  rw [lw] at hn hn2
  have S2:=hS.kx hth hM k2
  dsimp only
  refine seq_in (if_rest (fun σ' H'=>∃ ws':List Int,σ' = [some (.ref B),some (.int r),some (.ref f1),some (.ref wl),some (.int x)]∧Kx [th] H H'∧H' th = some (.dK cs1)∧H' wl = some (.lst (ws'.map V.int))∧((x ∈ ks1∧ws' = ws)∨(x ∉ ks1∧ws' = ws ++ k))) (fun σ' H3 hR=>?_) (fun go=>?_))
  · obtain ⟨ws',rfl,k3,hth3,ew3,hx⟩:=hR
    have S3:=hS.kx hth hM k3
    refine ⟨_,rfl,B,dx,_,rfl,S3.b,rfl,_,rfl,B,dx,f1,f2,bl,th,cs1,ks1,val1,x,rfl,S3.b,hth3,ht1,_,_,rfl,rfl,_,rfl,B,c.C,dx,_,_,rfl,S3.b,cf.clC,cf.tC,rfl,_,rfl,th,_,rfl,DPut.k (k:=Sum.inl x) (v:=V.int ((val1 x:Int) + 1)) hth3 (small (by
      rw [ht1.len]
      have:=nd_len ht1.nd (b:=U) fun y hy=>by
        obtain ⟨k',hk',_⟩:=(lay [y] fun z hz=>by rw [List.mem_singleton.mp hz]; exact hi.ri.sk y hy).dom y (List.mem_singleton.mpr rfl)
        exact (un.u y k' hk').1
      have:=un.n
      lia)),?_⟩
    have k4:Kx [th] H (upd H3 th (.dK (putK cs1 (Sum.inl x) (V.int ((val1 x:Int) + 1))))):=k3.over (.inl (List.mem_singleton.mpr rfl)) _
    have ew4:upd H3 th (.dK (putK cs1 (Sum.inl x) (V.int ((val1 x:Int) + 1)))) wl = some (.lst (ws'.map V.int)):=by rw [upd_ne nwt]; exact ew3
    rcases hx with ⟨hx,rfl⟩ | ⟨hx,rfl⟩
    · exact ⟨n - 1,by lia,_,_,ks1,ws',upV val1 x (val1 x + 1),rfl,k4,upd_same,ht1.put hx (val1 x + 1),ew4,hi.skip hx,by lia,by lia⟩
    · have v0:val1 x = 0:=ht1.out x hx
      have wa:=wsum_add (m:=p) hk hx (un.u x k hk).1
      rw [v0] at k4 ew4 ⊢
      exact ⟨n - 1,by lia,_,_,ks1 ++ [x],ws ++ k,upV val1 x 1,rfl,k4,upd_same,ht1.add hx 1,ew4,hi.more hx hk ndk,by rw [List.length_append]; lia,by rw [List.length_append]; lia⟩
  · refine ⟨_,rfl,B,dx,_,rfl,S2.b,rfl,_,rfl,B,dx,f1,f2,bl,th,cs1,ks1,val1,x,rfl,S2.b,hth2,ht1,_,rfl,?_⟩
    by_cases hx:x ∈ ks1
    · rw [decide_eq_true hx]
      exact iteF (go _ _ ⟨ws,rfl,k2,hth2,ew2,.inl ⟨hx,rfl⟩⟩)
    · rw [decide_eq_false hx]
      obtain ⟨tp,l,st,g1,g2,g3,g4⟩:=S2.pc x k hk
      refine iteT ⟨_,rfl,.inl ⟨rfl,_,SqL.of ew2⟩,f1,rfl,⟨Pd,S2.clo⟩,_,rfl,Pd,S2.clo,x,k,tp,l,st,pk,rfl,S2.pd,g1,g2,g3,fun qn hqn=>?_⟩
      have sq:=same_new hqn (HO.lst (k.map V.int))
      refine ⟨wl,qn,_,_,rfl,rfl,sq _ _ ew2,upd_same,Nat.le_of_lt (small (by simp only [List.length_map]; lia)),?_⟩
      rw [← List.map_append]
      exact go _ _ ⟨ws ++ k,rfl,(k2.same sq).over (.inr hwl) _,by rw [upd_ne nwt.symm]; exact sq _ _ hth2,upd_same,.inr ⟨hx,rfl⟩⟩
end
end K31
set_option maxHeartbeats 4000000
namespace K31
open PySem L2 Bk
theorem wt_bound {p:Mp}:∀ {ks:List Int},(∀ x ∈ ks,(pts p x).length ≤ 4)→wt p ks ≤ 5 * ks.length
  | [],_=>Nat.le_refl _
  | x :: l,h=>by
    have h1:=wt_bound (ks:=l) fun y hy=>h y (List.mem_cons_of_mem _ hy)
    have h2:=h x (List.mem_cons_self ..)
    rw [wt_cons,List.length_cons]
    lia
section
variable {P:Program} {w:World} {K:PySem.W.Frag} {mg:Str→Option Value} {base:Heap} {f:Addr} {fd:FuncData} {c:BC}
noncomputable def spCRl (c:BC):Sp:=fun vs H Q _=>∃ (B dx f1 f2 bl th Pd:Addr) (M:List Addr) (pk cs:List (Key×V)) (p:Mp) (rs ks U:List Int) (val:Int→Nat) (r:Int),vs = [.ref B,.int r]∧BkS c M H B dx f1 f2 bl th Pd pk p∧th ∈ M∧H th = some (.dK cs)∧Th cs ks val∧Held p (r :: rs) ks val∧Un p U ∧
  ∀ (H':Hp) (cs':List (Key×V)) (ks':List Int) (val':Int→Nat) (rl:Addr) (fr:List Int),Kx [th] H H'→H' th = some (.dK cs')→Th cs' ks' val'→Held p rs ks' val'→H rl = none→H' rl = some (.lst (fr.map V.int))→fr.Pairwise (· < ·)→(∀ x,x ∈ fr↔x ∈ ks∧x ∉ ks')→Q (.ref rl) H'
theorem scCRl:FnScope ["self","root","points","freed","waiting","place"] ["self","root"] (defScope sCRl):=⟨rfl,rfl,rfl,by decide +kernel,rfl,by decide +kernel,by decide +kernel⟩
theorem ok_CRl {fCCt:Addr} {dCCt:FuncData} (F:Fun K "release" "Counts.release" sCRl f fd) (cf:CF K c) (FPts:CloOk P w K mg base 1 tPts spPts) (hCCt:MHas K c.C "count" "Counts.count" sCCt ["self","place"] fCCt dCCt) (GCCt:FnOk P w K mg base CX0 1 fCCt dCCt ["self","place"] (spCCt c)) (T:Txt mg):FnOk P w K mg base CX0 3 f fd ["self","root"] (spCRl c):=by
  refine F.ok scCRl (fun vs H Q E h=>?_) (fun cdv A outer s H vs Q E hr h=>?_)
  · obtain ⟨B,dx,f1,f2,bl,th,Pd,M,pk,cs,p,rs,ks,U,val,r,rfl,_⟩:=h
    rfl
  obtain ⟨B,dx,f1,f2,bl,th,Pd,M,pk,cs,p,rs,ks,U,val,r,rfl,hS,hM,hth,ht,hH,un,q⟩:=h
  have hu:=hu_of hr
  refine ⟨_,(pss_cons (ps_set (i:=2) scCRl.nd rfl (Or.inl rfl) (pe_fld (pv 0) rfl))
    (pss_cons (ps_set (i:=3) scCRl.nd rfl (Or.inl rfl) (pe_lst pa_nil))
    (pss_cons (ps_set (i:=4) scCRl.nd rfl (Or.inl rfl) (pe_lst (pc (pv 1) pa_nil)))
    (pss_cons (ps_while PassesOwn.never (pt_truth (pv 4) (fun _=>rfl))
    (pss_cons (ps_set (i:=5) scCRl.nd rfl (Or.inl rfl) (pe_bm0 PySem.F.plainAttrs_list PySem.F.slot_list_pop PySem.F.type_list_pop mt_pop (pv 4)))
    (pss_cons (ps_dput hu (pe_fld (pv 0) rfl) (pv 5) (pe_op op_sub (pe_meth (pv 0) cf.clC hCCt.me GCCt (hr.mono (by decide)) hCCt.bd .nil pass0 (pc (pv 5) pa_nil)) pe_int) rfl)
    (pss_one (ps_if (pt_cmpR op_eq (pe_meth (pv 0) cf.clC hCCt.me GCCt (hr.mono (by decide)) hCCt.bd .nil pass0 (pc (pv 5) pa_nil)) pe_int (nomark _))
    (pss_cons (ps_expr (pe_dpop1 (pe_fld (pv 0) rfl) (pv 5) ⟨rfl,rfl,rfl,rfl⟩))
    (pss_cons (ps_expr (pe_bm PySem.F.plainAttrs_list PySem.F.slot_list_append PySem.F.type_list_append mt_append (pv 3) (pc (pv 5) pa_nil)))
    (pss_one (ps_expr (pe_bm PySem.F.plainAttrs_list PySem.F.slot_list_extend PySem.F.type_list_extend mt_extend (pv 4) (pc (pe_clo (i:=2) FPts (hr.mono (by decide)) (pv 2) (pv 5)) pa_nil))))))
    pss_nil)))))
    (pss_one (ps_ret (pe_callB (call_sortedIL) rfl T.srt PyProof.Rows.boot_sorted (pc (pv 3) pa_nil)))))))),?_⟩
  refine ⟨_,rfl,B,c.C,dx,_,_,rfl,hS.b,cf.clC,cf.pC,rfl,Nat.zero_le _,fun fl hfl=>?_⟩
  refine ⟨_,rfl,(by show 1 ≤ sizeLine; decide),fun wl hwl=>?_⟩
  have nwf:wl ≠ fl:=fun z=>by rw [z,upd_same] at hwl; cases hwl
  have hwl0:H wl = none:=(same_new hfl (HO.lst [])).free hwl
  have nwt:wl ≠ th:=fun z=>by rw [z,hth] at hwl0; cases hwl0
  have nft:fl ≠ th:=fun z=>by rw [z,hth] at hfl; cases hfl
  have k0:Kx [th] H (upd (upd H fl (HO.lst [])) wl (HO.lst [V.int r])):=(Kx.over ⟨fun b u _ e=>e,fun b hb=>by rw [List.mem_singleton.mp hb]; exact .inr (.inl ⟨_,hth⟩)⟩ (.inr hfl) _).over (.inr hwl0) _
  have lks:ks.length ≤ 1000:=Nat.le_trans (nd_len ht.nd fun y hy=>by
    obtain ⟨k',hk',_⟩:=hH.lay.dom y hy
    exact (un.u y k' hk').1) un.n
  have bd:wt p ks ≤ 5000:=by
    have:=wt_bound (p:=p) (ks:=ks) fun x hx=>by
      obtain ⟨k',hk',_,l4⟩:=hH.lay.dom x hx
      rw [pts_of hk']
      exact l4
    lia
  refine ⟨fun n σ H1=>∃ (o5:Option V) (cs1:List (Key×V)) (ks1 ws fr:List Int) (val1:Int→Nat),σ = [some (.ref B),some (.int r),some (.ref f1),some (.ref fl),some (.ref wl),o5]∧Kx [th] H H1∧H1 th = some (.dK cs1)∧Th cs1 ks1 val1∧H1 fl = some (.lst (fr.map V.int))∧H1 wl = some (.lst (ws.map V.int))∧LI p rs ks1 val1 ws∧ks.Perm (fr ++ ks1)∧ws.length + wt p ks1 ≤ n∧ws.length + wt p ks1 ≤ 5001,
    ⟨_,none,cs,ks,[r],[],val,rfl,k0,by rw [upd_ne nwt.symm,upd_ne nft.symm]; exact hth,ht,by rw [upd_ne nwf.symm,upd_same]; rfl,upd_same,LI.start hH,List.Perm.refl _,Nat.le_refl _,by show 1 + _ ≤ _; lia⟩,?_⟩
  rintro n σ H1 ⟨o5,cs1,ks1,ws,fr,val1,rfl,k1,hth1,ht1,ef,ew,li,pm,hn,hn2⟩
  have lfk:fr.length + ks1.length = ks.length:=by rw [pm.length_eq,List.length_append]
  refine ⟨_,rfl,_,.inl ⟨_,SqL.of ew,rfl⟩,?_⟩
  rcases List.eq_nil_or_concat ws with rfl | ⟨ws,x,rfl⟩
  · refine iteF ?_
    refine ⟨_,rfl,fl,fr,rfl,SqL.of ef,by lia,fun rl ms pm2 pw hrl=>?_⟩
    have sr:=same_new hrl (HO.lst (ms.map V.int))
    have nd2:(fr ++ ks1).Nodup:=pm.nodup_iff.mp ht.nd
    rw [List.nodup_append] at nd2
    refine q _ cs1 ks1 val1 rl ms (k1.same sr) (sr _ _ hth1) ht1 li.done ?_ upd_same (lt_of_nd pw (pm2.nodup_iff.mpr nd2.1)) fun x=>?_
    · rcases k1.free hrl with z | z
      · rw [List.mem_singleton.mp z,hth1] at hrl; cases hrl
      · exact z
    · rw [pm2.mem_iff,pm.mem_iff,List.mem_append]
      constructor
      · intro h
        exact ⟨.inl h,fun z=>nd2.2.2 x h x z rfl⟩
      · rintro ⟨h | h,z⟩
        · exact h
        · exact absurd h z
  rw [List.concat_eq_append] at ew li hn hn2 ⊢
  obtain ⟨hx,hv⟩:=li.here
  obtain ⟨k,hk,ndk,lk4⟩:=li.lay.dom x hx
  have em:(!((ws ++ [x]).map V.int).isEmpty) = true:=by simp
  rw [em]
  refine iteT ⟨fun σ' H'=>∃ n',n' < n∧∃ (o5:Option V) (cs1:List (Key×V)) (ks1 ws fr:List Int) (val1:Int→Nat),σ' = [some (.ref B),some (.int r),some (.ref f1),some (.ref fl),some (.ref wl),o5]∧Kx [th] H H'∧H' th = some (.dK cs1)∧Th cs1 ks1 val1∧H' fl = some (.lst (fr.map V.int))∧H' wl = some (.lst (ws.map V.int))∧LI p rs ks1 val1 ws∧ks.Perm (fr ++ ks1)∧ws.length + wt p ks1 ≤ n'∧ws.length + wt p ks1 ≤ 5001,fun _ _ h=>h,?_⟩
  have ew':H1 wl = some (.lst (ws.map V.int ++ [V.int x])):=by rw [ew,List.map_append]; rfl
  refine ⟨_,rfl,.inl ⟨rfl,_,SqL.of ew'⟩,wl,_,V.int x,rfl,rfl,ew',by simp,?_⟩
  rw [List.dropLast_concat]
  have k2:Kx [th] H (upd H1 wl (.lst (ws.map V.int))):=k1.over (.inr hwl0) _
  have hth2:upd H1 wl (.lst (ws.map V.int)) th = some (.dK cs1):=by rw [upd_ne nwt.symm]; exact hth1
  have ew2:upd H1 wl (.lst (ws.map V.int)) wl = some (.lst (ws.map V.int)):=upd_same
  have ef2:upd H1 wl (.lst (ws.map V.int)) fl = some (.lst (fr.map V.int)):=by rw [upd_ne nwf.symm]; exact ef
  revert k2 hth2 ew2 ef2
  generalize upd H1 wl (.lst (ws.map V.int)) = H2
  intro k2 hth2 ew2 ef2
  have lw:(ws ++ [x]).length = ws.length + 1:=by simp
  rw [lw] at hn hn2
  have S2:=hS.kx hth hM k2
  have ev:((val1 x:Int) - 1) = ((val1 x - 1:Nat):Int):=by lia
  refine ⟨_,rfl,B,dx,_,rfl,S2.b,rfl,_,rfl,B,dx,f1,f2,bl,th,cs1,ks1,val1,x,rfl,S2.b,hth2,ht1,_,_,rfl,rfl,_,rfl,B,c.C,dx,_,_,rfl,S2.b,cf.clC,cf.tC,rfl,_,rfl,th,_,rfl,DPut.k (k:=Sum.inl x) (v:=V.int ((val1 x:Int) - 1)) hth2 (small (by rw [ht1.len]; lia)),?_⟩
  rw [ev]
  have ht3:=ht1.put hx (val1 x - 1)
  have k3:Kx [th] H (upd H2 th (.dK (putK cs1 (Sum.inl x) (V.int ((val1 x - 1:Nat):Int))))):=k2.over (.inl (List.mem_singleton.mpr rfl)) _
  have hth3:upd H2 th (.dK (putK cs1 (Sum.inl x) (V.int ((val1 x - 1:Nat):Int)))) th = some (.dK (putK cs1 (Sum.inl x) (V.int ((val1 x - 1:Nat):Int)))):=upd_same
  have ew3:upd H2 th (.dK (putK cs1 (Sum.inl x) (V.int ((val1 x - 1:Nat):Int)))) wl = some (.lst (ws.map V.int)):=by rw [upd_ne nwt]; exact ew2
  have ef3:upd H2 th (.dK (putK cs1 (Sum.inl x) (V.int ((val1 x - 1:Nat):Int)))) fl = some (.lst (fr.map V.int)):=by rw [upd_ne nft]; exact ef2
  revert k3 hth3 ew3 ef3
  generalize upd H2 th (.dK (putK cs1 (Sum.inl x) (V.int ((val1 x - 1:Nat):Int)))) = H3
  intro k3 hth3 ew3 ef3
  have S3:=hS.kx hth hM k3
  refine ⟨_,rfl,B,dx,_,rfl,S3.b,rfl,_,rfl,B,dx,f1,f2,bl,th,_,ks1,_,x,rfl,S3.b,hth3,ht3,rfl,_,rfl,?_⟩
  rw [upV_same]
  by_cases v1:val1 x = 1
  · have ed:decide (V.int ((val1 x - 1:Nat):Int) = V.int 0) = true:=decide_eq_true (by rw [v1]; rfl)
    rw [ed]
    refine iteT ⟨_,rfl,B,c.C,dx,_,_,rfl,S3.b,cf.clC,cf.tC,rfl,th,rfl,.inl ⟨_,.inl hth3⟩,_,rfl,_,Sum.inl x,_,hth3,rfl,ht3.vin x hx,?_⟩
    rw [drop_put]
    have k4:Kx [th] H (upd H3 th (.dK (dropK cs1 (Sum.inl x)))):=k3.over (.inl (List.mem_singleton.mpr rfl)) _
    have hth4:upd H3 th (.dK (dropK cs1 (Sum.inl x))) th = some (.dK (dropK cs1 (Sum.inl x))):=upd_same
    have ew4:upd H3 th (.dK (dropK cs1 (Sum.inl x))) wl = some (.lst (ws.map V.int)):=by rw [upd_ne nwt]; exact ew3
    have ef4:upd H3 th (.dK (dropK cs1 (Sum.inl x))) fl = some (.lst (fr.map V.int)):=by rw [upd_ne nft]; exact ef3
    revert k4 hth4 ew4 ef4
    generalize upd H3 th (.dK (dropK cs1 (Sum.inl x))) = H4
    intro k4 hth4 ew4 ef4
    refine ⟨_,rfl,.inl ⟨rfl,_,SqL.of ef4⟩,_,rfl,fl,_,_,rfl,rfl,ef4,small (by rw [List.length_map]; lia),?_⟩
    have k5:Kx [th] H (upd H4 fl (.lst (fr.map V.int ++ [V.int x]))):=k4.over (.inr hfl) _
    have hth5:upd H4 fl (.lst (fr.map V.int ++ [V.int x])) th = some (.dK (dropK cs1 (Sum.inl x))):=by rw [upd_ne nft.symm]; exact hth4
    have ew5:upd H4 fl (.lst (fr.map V.int ++ [V.int x])) wl = some (.lst (ws.map V.int)):=by rw [upd_ne nwf]; exact ew4
    have ef5:upd H4 fl (.lst (fr.map V.int ++ [V.int x])) fl = some (.lst ((fr ++ [x]).map V.int)):=by rw [upd_same,List.map_append]; rfl
    revert k5 hth5 ew5 ef5
    generalize upd H4 fl (.lst (fr.map V.int ++ [V.int x])) = H5
    intro k5 hth5 ew5 ef5
    have S5:=hS.kx hth hM k5
    obtain ⟨tp,l,st,g1,g2,g3,g4⟩:=S5.pc x k hk
    have wb:=wt_perm (p:=p) (perm_filter ht1.nd hx)
    rw [wt_cons,pts_of hk] at wb
    refine ⟨_,rfl,.inl ⟨rfl,_,SqL.of ew5⟩,f1,rfl,⟨Pd,S5.clo⟩,_,rfl,Pd,S5.clo,x,k,tp,l,st,pk,rfl,S5.pd,g1,g2,g3,fun qn hqn=>?_⟩
    have sq:=same_new hqn (HO.lst (k.map V.int))
    refine ⟨wl,qn,_,_,rfl,rfl,sq _ _ ew5,upd_same,Nat.le_of_lt (small (by simp only [List.length_map]; lia)),?_⟩
    rw [← List.map_append]
    refine ⟨n - 1,by lia,_,_,ks1.filter (fun y=>decide (y ≠ x)),ws ++ k,fr ++ [x],upV val1 x 0,rfl,(k5.same sq).over (.inr hwl0) _,by rw [upd_ne nwt.symm]; exact sq _ _ hth5,ht1.drop x,by rw [upd_ne nwf.symm]; exact sq _ _ ef5,upd_same,li.gone v1 (perm_filter ht1.nd hx) hk ndk,?_,by rw [List.length_append]; lia,by rw [List.length_append]; lia⟩
    refine pm.trans ?_
    rw [List.append_assoc]
    exact List.Perm.append_left _ (perm_filter ht1.nd hx)
  · have ed:decide (V.int ((val1 x - 1:Nat):Int) = V.int 0) = false:=decide_eq_false fun z=>by
      injection z with z
      lia
    rw [ed]
    exact iteF ⟨n - 1,by lia,_,_,ks1,ws,fr,upV val1 x (val1 x - 1),rfl,k3,hth3,ht3,ef3,ew3,li.less v1,pm,by lia,by lia⟩
end
end K31
set_option maxHeartbeats 4000000
namespace K31
open PySem L2 Bk
noncomputable def lnF (b:Int) (mk:Addr) (rt:Option Int):List (Str×V):=[("base",.int b),("makes",.ref mk),("root",rtV rt)]
noncomputable def ino (ms:List (Int×Int)) (rt:Option Int):List (Int×Int):=ms ++ rt.toList.map fun x=>(0,x)
structure BkL (c:BC) (H:Hp) (bl tl td mk:Addr) (L b:Int) (ms:List (Int×Int)) (rt:Option Int):Prop where
  l:∃ bd,H bl = some (.dK bd)∧valV bd (.inl L) = some (.ref tl)
  t:H tl = some (.ins c.L td (lnF b mk rt))
  m:∃ vs,H mk = some (.lst vs)∧MkAt H vs ms
theorem BkL.mono {c:BC} {H H':Hp} {bl tl td mk:Addr} {L b:Int} {ms:List (Int×Int)} {rt:Option Int} (h:BkL c H bl tl td mk L b ms rt) (s:Same H H'):BkL c H' bl tl td mk L b ms rt:=by
  obtain ⟨⟨bd,h1,h2⟩,h3,vs,h4,h5⟩:=h
  exact ⟨⟨bd,s _ _ h1,h2⟩,s _ _ h3,vs,s _ _ h4,h5.keep fun _ _ e=>s _ _ e⟩
section
variable {P:Program} {w:World} {K:PySem.W.Frag} {mg:Str→Option Value} {base:Heap} {f:Addr} {fd:FuncData} {c:BC}
noncomputable def spLIn (c:BC):Sp:=fun vs H Q _=>∃ (x dx l:Addr) (b:Int) (rt:Option Int) (ys:List V),vs = [.ref x,.int b,.ref l,rtV rt]∧H x = some (.ins c.L dx [])∧H l = some (.lst ys) ∧
  ∀ mk H',H mk = none→Kx [x] H H'→H' x = some (.ins c.L dx (lnF b mk rt))→H' mk = some (.lst ys)→Q .non H'
theorem scLIn:FnScope ["self","base","makes","root"] ["self","base","makes","root"] (defScope sLIn):=⟨rfl,rfl,rfl,by decide +kernel,rfl,by decide +kernel,by decide +kernel⟩
theorem ok_LIn (F:Fun K "__init__" "Line.__init__" sLIn f fd) (cf:CF K c) (T:Txt mg):FnOk P w K mg base CX0 1 f fd ["self","base","makes","root"] (spLIn c):=by
  refine F.ok scLIn (fun vs H Q E h=>?_) (fun cdv A outer s H vs Q E hr h=>?_)
  · obtain ⟨x,dx,l,b,rt,ys,rfl,_⟩:=h
    rfl
  obtain ⟨x,dx,l,b,rt,ys,rfl,hx,hl,q⟩:=h
  refine ⟨_,(pss_cons (ps_fld (pv 0) (pv 1) rfl)
    (pss_cons (ps_fld (pv 0) (pe_callTy call_list_of rfl T.lst PyProof.Rows.boot_list (pc (pv 2) pa_nil)) rfl)
    (pss_one (ps_fld (pv 0) (pv 3) rfl)))),?_⟩
  have nl:l ≠ x:=fun z=>by rw [z,hx] at hl; cases hl
  refine ⟨_,rfl,_,rfl,x,c.L,dx,_,rfl,hx,cf.clL,cf.bL,Nat.le_of_ble_eq_true rfl,?_⟩
  have k0:Kx [x] H H:=⟨fun b u _ e=>e,fun b hb=>by rw [List.mem_singleton.mp hb]; exact .inr (.inr ⟨_,_,_,hx⟩)⟩
  refine ⟨_,rfl,l,ys,rfl,.inl (SqL.of (by rw [upd_ne nl]; exact hl)),fun mk hmk=>?_⟩
  have nm:mk ≠ x:=fun z=>by rw [z,upd_same] at hmk; cases hmk
  have hmk0:H mk = none:=by rw [upd_ne nm] at hmk; exact hmk
  refine ⟨_,rfl,x,c.L,dx,_,rfl,by rw [upd_ne nm.symm,upd_same],cf.clL,cf.mL,Nat.le_of_ble_eq_true rfl,?_⟩
  refine ⟨_,rfl,_,rfl,x,c.L,dx,_,rfl,upd_same,cf.clL,cf.rL,Nat.le_of_ble_eq_true rfl,?_⟩
  exact q mk _ hmk0 ((((k0.over (.inl (List.mem_singleton.mpr rfl)) _).over (.inr hmk0) _).over (.inl (List.mem_singleton.mpr rfl)) _).over (.inl (List.mem_singleton.mpr rfl)) _) upd_same (by rw [upd_ne nm,upd_ne nm,upd_same])
noncomputable def spLOr (c:BC):Sp:=fun vs H Q _=>∃ (tl td mk:Addr) (b:Int) (ms:List (Int×Int)) (rt:Option Int) (vm:List V),vs = [.ref tl]∧H tl = some (.ins c.L td (lnF b mk rt))∧H mk = some (.lst vm)∧MkAt H vm ms∧ms.length ≤ 1000 ∧
  ∀ r H' ws,Same H H'→H r = none→H' r = some (.lst ws)→MkAt H' ws (ino ms rt)→Q (.ref r) H'
theorem scLOr:FnScope ["self"] ["self"] (defScope sLOr):=⟨rfl,rfl,rfl,by decide +kernel,rfl,by decide +kernel,by decide +kernel⟩
theorem ok_LOr (F:Fun K "in_order" "Line.in_order" sLOr f fd) (cf:CF K c) (T:Txt mg):FnOk P w K mg base CX0 1 f fd ["self"] (spLOr c):=by
  refine F.ok scLOr (fun vs H Q E h=>?_) (fun cdv A outer s H vs Q E hr h=>?_)
  · obtain ⟨tl,td,mk,b,ms,rt,vm,rfl,_⟩:=h
    rfl
  obtain ⟨tl,td,mk,b,ms,rt,vm,rfl,ht,hm,hat,lm,q⟩:=h
  refine ⟨_,(pss_cons (ps_if (pt_cmpR op_isN (pe_fld (pv 0) rfl) pe_non (nomark _))
    (pss_one (ps_ret (pe_callTy call_list_of rfl T.lst PyProof.Rows.boot_list (pc (pe_fld (pv 0) rfl) pa_nil))))
    pss_nil)
    (pss_one (ps_ret (pe_op op_cat (pe_fld (pv 0) rfl) (pe_lst (pc (pe_tup (pc pe_int (pc (pe_fld (pv 0) rfl) pa_nil))) pa_nil)))))),?_⟩
  refine ⟨_,rfl,tl,c.L,td,_,_,rfl,ht,cf.clL,cf.rL,rfl,rfl,_,rfl,?_⟩
  cases rt with
  | none =>
    refine iteT ⟨_,rfl,tl,c.L,td,_,_,rfl,ht,cf.clL,cf.mL,rfl,mk,vm,rfl,.inl (SqL.of hm),fun r hr'=>?_⟩
    refine q r _ vm (same_new hr' _) hr' upd_same ?_
    unfold ino
    rw [show (Option.toList (none:Option Int)).map (fun x=>((0:Int),x)) = [] from rfl,List.append_nil]
    exact hat.keep fun _ _ e=>same_new hr' _ _ _ e
  | some x =>
    refine iteF ⟨_,rfl,tl,c.L,td,_,_,rfl,ht,cf.clL,cf.mL,rfl,_,rfl,tl,c.L,td,_,_,rfl,ht,cf.clL,cf.rL,rfl,(by show 2 ≤ sizeLine; decide),fun t htn=>?_⟩
    have s1:=same_new htn (HO.tup [.int 0,.int x])
    refine ⟨by show 1 ≤ sizeLine; decide,fun l hl=>?_⟩
    have s2:=same_new hl (HO.lst [V.ref t])
    refine ⟨mk,l,vm,_,rfl,rfl,s2 _ _ (s1 _ _ hm),upd_same,Nat.le_of_lt (small (by rw [hat.len]; show _ + 1 ≤ _; lia)),fun r hr'=>?_⟩
    have s3:=same_new hr' (HO.lst (vm ++ [V.ref t]))
    have ss:=s1.trans (s2.trans s3)
    exact q r _ _ ss ((s1.trans s2).free hr') upd_same (MkAt.snoc (m:=((0:Int),x)) ((s2.trans s3) _ _ upd_same) (hat.keep fun _ _ e=>ss _ _ e))
noncomputable def spLIx (c:BC):Sp:=fun vs H Q _=>∃ (tl td mk:Addr) (b s:Int) (ms:List (Int×Int)) (rt:Option Int) (vm:List V) (j:Nat) (m:Int×Int),vs = [.ref tl,.int s]∧H tl = some (.ins c.L td (lnF b mk rt))∧H mk = some (.lst vm)∧MkAt H vm ms∧ms.length ≤ 1000∧ms[j]? = some m∧m.1 = s∧(∀ i m,i < j→ms[i]? = some m→m.1 ≠ s) ∧
  ∀ H',Same H H'→Q (.int (j:Nat)) H'
theorem scLIx:FnScope ["self","stamp"] ["self","stamp"] (defScope sLIx):=⟨rfl,rfl,rfl,by decide +kernel,rfl,by decide +kernel,by decide +kernel⟩
theorem ok_LIx (F:Fun K "index_of" "Line.index_of" sLIx f fd) (cf:CF K c) (T:Txt mg):FnOk P w K mg base CX0 1 f fd ["self","stamp"] (spLIx c):=by
  refine F.ok scLIx (fun vs H Q E h=>?_) (fun cdv A outer s H vs Q E hr h=>?_)
  · obtain ⟨tl,td,mk,b,s,ms,rt,vm,j,m,rfl,_⟩:=h
    rfl
  obtain ⟨tl,td,mk,b,s,ms,rt,vm,j,m,rfl,ht,hm,hat,lm,hj,hs,no,q⟩:=h
  refine ⟨_,(pss_one (ps_ret (pe_bm PySem.F.plainAttrs_list PySem.F.slot_list_index PySem.F.type_list_index mt_indexL (pe_comp1 [] [] (pi_list (pe_fld (pv 0) rfl)) (fun _ _ _ _ _ _=>pts_nil)
          (fun _ _ _ _ _ _=>(pe_ix (ix_tupK (K:=K) rfl) (pv 0) pe_int (fun _ _=>rfl)))
          rfl (by decide +kernel) (by decide +kernel) rfl (by decide +kernel) (fun _ _ z=>nomatch z) rfl (by decide +kernel) rfl) (pc (pv 1) pa_nil)))),?_⟩
  refine ⟨_,rfl,tl,c.L,td,_,_,rfl,ht,cf.clL,cf.mL,rfl,mk,rfl,⟨_,SqL.of hm⟩,fun pc hpc=>?_⟩
  refine comp_list (K:=K) (a:=mk) (xs:=vm) (fun i us H2=>Same H H2∧H2 pc = some (.lst us)∧us = ((ms.take i).map (·.1)).map V.int) ⟨same_new hpc _,upd_same,rfl⟩ (fun i us H2 _ h2=>SqL.of (h2.1 _ _ hm)) ?_ ?_
  · rintro i v us H2 hv ⟨s3,e3,rfl⟩
    obtain ⟨m',a,hmi,rfl,ha⟩:=hat.get (i:=i) hv
    have li:i < ms.length:=(List.getElem?_eq_some_iff.mp hmi).1
    refine ttT ⟨_,rfl,a,_,0,_,rfl,rfl,SqT.of (s3 _ _ ha),rfl,e3,small (by simp only [List.length_map,List.length_take]; lia),same_over s3 hpc _,upd_same,?_⟩
    rw [List.take_add_one,hmi,List.map_append,List.map_append]
    rfl
  · rintro us H2 ⟨s3,e3,rfl⟩
    rw [hat.len,List.take_length] at e3
    refine ⟨.inl ⟨rfl,_,SqL.of e3⟩,_,rfl,pc,_,_,j,rfl,rfl,e3,rfl,?_,⟨.int m.1,?_,?_⟩,fun i z hi hz=>?_,q _ s3⟩
    · exact List.all_eq_true.mpr fun z hz=>by
        obtain ⟨y,_,rfl⟩:=List.mem_map.mp hz
        rfl
    · rw [List.getElem?_map,List.getElem?_map,hj]; rfl
    · show (m.1 == s) = true
      rw [hs]
      exact beq_self_eq_true s
    · rw [List.getElem?_map,List.getElem?_map] at hz
      obtain ⟨y,hy,rfl⟩:=Option.map_eq_some_iff.mp hz
      obtain ⟨m2,hm2,rfl⟩:=Option.map_eq_some_iff.mp hy
      show (m2.1 == s) = false
      exact beq_eq_false_iff_ne.mpr (no i m2 hi hm2)
noncomputable def spBIn (c:BC):Sp:=fun vs H Q _=>∃ (B dx f1 f2:Addr),vs = [.ref B,.ref f1,.ref f2]∧H B = some (.ins c.C dx []) ∧
  ∀ bl th H',H bl = none→H th = none→bl ≠ th→Kx [B] H H'→H' B = some (.ins c.C dx (bkF f1 f2 bl th))→H' bl = some (.dK [])→H' th = some (.dK [])→Q .non H'
theorem scBIn:FnScope ["self","points","born"] ["self","points","born"] (defScope sBIn):=⟨rfl,rfl,rfl,by decide +kernel,rfl,by decide +kernel,by decide +kernel⟩
theorem ok_BIn (F:Fun K "__init__" "Book.__init__" sBIn f fd) (cf:CF K c):FnOk P w K mg base CX0 1 f fd ["self","points","born"] (spBIn c):=by
  refine F.ok scBIn (fun vs H Q E h=>?_) (fun cdv A outer s H vs Q E hr h=>?_)
  · obtain ⟨B,dx,f1,f2,rfl,_⟩:=h
    rfl
  obtain ⟨B,dx,f1,f2,rfl,hB,q⟩:=h
  refine ⟨_,(pss_cons (ps_fld (pv 0) (pv 1) rfl)
    (pss_cons (ps_fld (pv 0) (pv 2) rfl)
    (pss_cons (ps_fld (pv 0) pe_dnewK rfl)
    (pss_one (ps_fld (pv 0) pe_dnewK rfl))))),?_⟩
  have hm:B ∈ [B]:=List.mem_singleton.mpr rfl
  have k0:Kx [B] H H:=⟨fun b u _ e=>e,fun b hb=>by rw [List.mem_singleton.mp hb]; exact .inr (.inr ⟨_,_,_,hB⟩)⟩
  refine ⟨_,rfl,_,rfl,B,c.C,dx,_,rfl,hB,cf.clC,cf.pC,Nat.le_of_ble_eq_true rfl,?_⟩
  refine ⟨_,rfl,_,rfl,B,c.C,dx,_,rfl,upd_same,cf.clC,cf.bC,Nat.le_of_ble_eq_true rfl,?_⟩
  intro bl hbl
  have nb:bl ≠ B:=fun z=>by rw [z,upd_same] at hbl; cases hbl
  have hbl0:H bl = none:=by rw [upd_ne nb,upd_ne nb] at hbl; exact hbl
  refine ⟨_,rfl,B,c.C,dx,_,rfl,by rw [upd_ne nb.symm,upd_same],cf.clC,cf.lC,Nat.le_of_ble_eq_true rfl,?_⟩
  intro th hth
  have nt:th ≠ B:=fun z=>by rw [z,upd_same] at hth; cases hth
  have ntb:th ≠ bl:=fun z=>by rw [z,upd_ne nb,upd_same] at hth; cases hth
  have hth0:H th = none:=by rw [upd_ne nt,upd_ne ntb,upd_ne nt,upd_ne nt] at hth; exact hth
  refine ⟨_,rfl,B,c.C,dx,_,rfl,by rw [upd_ne nt.symm,upd_same],cf.clC,cf.tC,Nat.le_of_ble_eq_true rfl,?_⟩
  exact q bl th _ hbl0 hth0 ntb.symm ((((((k0.over (.inl hm) _).over (.inl hm) _).over (.inr hbl0) _).over (.inl hm) _).over (.inr hth0) _).over (.inl hm) _) upd_same (by rw [upd_ne nb,upd_ne ntb.symm,upd_ne nb,upd_same]) (by rw [upd_ne nt,upd_same])
noncomputable def spBLv (c:BC):Sp:=fun vs H Q _=>∃ (B dx f1 f2 bl th tl td mk:Addr) (L b:Int) (ms:List (Int×Int)) (rt:Option Int),vs = [.ref B,.int L]∧H B = some (.ins c.C dx (bkF f1 f2 bl th))∧BkL c H bl tl td mk L b ms rt∧ms.length ≤ 1000∧ino ms rt ≠ []∧∀ H',Same H H'→Q .non H'
theorem scBLv:FnScope ["self","line"] ["self","line"] (defScope sBLv):=⟨rfl,rfl,rfl,by decide +kernel,rfl,by decide +kernel,by decide +kernel⟩
theorem ok_BLv {fLOr:Addr} {dLOr:FuncData} (F:Fun K "leave_if_empty" "Book.leave_if_empty" sBLv f fd) (cf:CF K c) (hLOr:MHas K c.L "in_order" "Line.in_order" sLOr ["self"] fLOr dLOr) (GLOr:FnOk P w K mg base CX0 1 fLOr dLOr ["self"] (spLOr c)):FnOk P w K mg base CX0 2 f fd ["self","line"] (spBLv c):=by
  refine F.ok scBLv (fun vs H Q E h=>?_) (fun cdv A outer s H vs Q E hr h=>?_)
  · obtain ⟨B,dx,f1,f2,bl,th,tl,td,mk,L,b,ms,rt,rfl,_⟩:=h
    rfl
  obtain ⟨B,dx,f1,f2,bl,th,tl,td,mk,L,b,ms,rt,rfl,hB,hL,lm,ne,q⟩:=h
  have hu:=hu_of hr
  refine ⟨_,(pss_one (ps_if (pt_not (pt_truth (pe_meth0 (pe_dget hu (pe_fld (pv 0) rfl) (pv 1) (fun _ _=>rfl)) cf.clL hLOr.me GLOr (hr.mono (by decide)) hLOr.bd .nil pass0) (fun _=>rfl)))
    (pss_one (ps_expr (pe_dpop1 (pe_fld (pv 0) rfl) (pv 1) ⟨rfl,rfl,rfl,rfl⟩)))
    pss_nil)),?_⟩
  obtain ⟨⟨bd,h1,h2⟩,h3,vm,h4,h5⟩:=hL
  refine ⟨_,rfl,B,c.C,dx,_,_,rfl,hB,cf.clC,cf.lC,rfl,_,rfl,bl,_,rfl,gtK (k:=Sum.inl L) h1 h2,tl,td,_,rfl,h3,rfl,tl,td,mk,b,ms,rt,vm,rfl,h3,h4,h5,lm,fun r H' ws ss hr' er hat=>?_⟩
  refine ⟨_,.inl ⟨_,SqL.of er,rfl⟩,?_⟩
  have:ws.isEmpty = false:=by
    have:=hat.len
    cases ws with
    | nil=>exact absurd (List.length_eq_zero_iff.mp this.symm) ne
    | cons _ _=>rfl
  rw [this]
  exact iteF (q _ ss)
noncomputable def spBTm (c:BC):Sp:=fun vs H Q _=>∃ (B dx f1 f2 bl th tl td mk:Addr) (L b s r:Int) (ms:List (Int×Int)) (rt:Option Int) (j:Nat),vs = [.ref B,.int L,.int s]∧H B = some (.ins c.C dx (bkF f1 f2 bl th))∧BkL c H bl tl td mk L b ms rt∧ms.length ≤ 1000∧ms[j]? = some (s,r)∧(∀ i m,i < j→ms[i]? = some m→m.1 ≠ s)∧ino (ms.eraseIdx j) rt ≠ [] ∧
  ∀ H',Kx [mk] H H'→(∃ vs',H' mk = some (.lst vs')∧MkAt H' vs' (ms.eraseIdx j))→Q (.int r) H'
theorem scBTm:FnScope ["self","line","stamp","told","make"] ["self","line","stamp"] (defScope sBTm):=⟨rfl,rfl,rfl,by decide +kernel,rfl,by decide +kernel,by decide +kernel⟩
theorem ok_BTm {fLIx fBLv:Addr} {dLIx dBLv:FuncData} (F:Fun K "take_make" "Book.take_make" sBTm f fd) (cf:CF K c) (hLIx:MHas K c.L "index_of" "Line.index_of" sLIx ["self","stamp"] fLIx dLIx) (GLIx:FnOk P w K mg base CX0 1 fLIx dLIx ["self","stamp"] (spLIx c)) (hBLv:MHas K c.C "leave_if_empty" "Book.leave_if_empty" sBLv ["self","line"] fBLv dBLv) (GBLv:FnOk P w K mg base CX0 2 fBLv dBLv ["self","line"] (spBLv c)):FnOk P w K mg base CX0 3 f fd ["self","line","stamp"] (spBTm c):=by
  refine F.ok scBTm (fun vs H Q E h=>?_) (fun cdv A outer s H vs Q E hr h=>?_)
  · obtain ⟨B,dx,f1,f2,bl,th,tl,td,mk,L,b,s,r,ms,rt,j,rfl,_⟩:=h
    rfl
  obtain ⟨B,dx,f1,f2,bl,th,tl,td,mk,L,b,s,r,ms,rt,j,rfl,hB,hL,lm,hj,no,ne,q⟩:=h
  have hu:=hu_of hr
  refine ⟨_,(pss_cons (ps_set (i:=3) scBTm.nd rfl (Or.inl rfl) (pe_dget hu (pe_fld (pv 0) rfl) (pv 1) (fun _ _=>rfl)))
    (pss_cons (ps_set (i:=4) scBTm.nd rfl (Or.inl rfl) (pe_bm PySem.F.plainAttrs_list PySem.F.slot_list_pop PySem.F.type_list_pop mt_popAt (pe_fld (pv 3) rfl) (pc (pe_meth (pv 3) cf.clL hLIx.me GLIx (hr.mono (by decide)) hLIx.bd .nil pass0 (pc (pv 2) pa_nil)) pa_nil)))
    (pss_cons (ps_expr (pe_meth (pv 0) cf.clC hBLv.me GBLv (hr.mono (by decide)) hBLv.bd .nil pass0 (pc (pv 1) pa_nil)))
    (pss_one (ps_ret (pe_ix ix_tup (pv 4) pe_int (fun _ _=>rfl))))))),?_⟩
  obtain ⟨⟨bd,h1,h2⟩,h3,vm,h4,h5⟩:=hL
  have lj:j < ms.length:=(List.getElem?_eq_some_iff.mp hj).1
  have lv:=h5.len
  obtain ⟨v,hv⟩:∃ v,vm[j]? = some v:=⟨_,List.getElem?_eq_getElem (by lia)⟩
  obtain ⟨m',a,hmj,rfl,ha⟩:=h5.get (i:=j) hv
  rw [hj] at hmj
  cases hmj
  refine ⟨_,rfl,B,c.C,dx,_,_,rfl,hB,cf.clC,cf.lC,rfl,_,rfl,bl,_,rfl,gtK (k:=Sum.inl L) h1 h2,?_⟩
  refine ⟨_,rfl,tl,c.L,td,_,_,rfl,h3,cf.clL,cf.mL,rfl,.inl ⟨rfl,_,SqL.of h4⟩,_,rfl,tl,td,_,rfl,h3,rfl,_,rfl,tl,td,mk,b,s,ms,rt,vm,j,_,rfl,h3,h4,h5,lm,hj,rfl,no,fun H1 s1=>?_⟩
  refine ⟨mk,vm,j,j,_,rfl,rfl,s1 _ _ h4,by lia,by lia,?_,hv,?_⟩
  · refine (ixN_seq ?_).1
    unfold ixN
    rw [if_pos (by lia),if_pos (by lia)]
    rfl
  have k0:Kx [mk] H H1:=⟨fun b u _ e=>s1 _ _ e,fun b hb=>by rw [List.mem_singleton.mp hb]; exact .inl ⟨_,h4⟩⟩
  have k1:Kx [mk] H (upd H1 mk (.lst (vm.eraseIdx j))):=k0.over (.inl (List.mem_singleton.mpr rfl)) _
  have em:upd H1 mk (.lst (vm.eraseIdx j)) mk = some (.lst (vm.eraseIdx j)):=upd_same
  revert k1 em
  generalize upd H1 mk (.lst (vm.eraseIdx j)) = H2
  intro k1 em
  have nB:B ∉ [mk]:=fun z=>by rw [List.mem_singleton.mp z,h4] at hB; cases hB
  have nbl:bl ∉ [mk]:=fun z=>by rw [List.mem_singleton.mp z,h4] at h1; cases h1
  have ntl:tl ∉ [mk]:=fun z=>by rw [List.mem_singleton.mp z,h4] at h3; cases h3
  have hB2:=k1.st _ _ nB hB
  have hat2:=(h5.erase j).keep fun _ _ e=>k1.tup e
  refine ⟨_,rfl,B,dx,_,rfl,hB2,rfl,_,rfl,B,dx,f1,f2,bl,th,tl,td,mk,L,b,ms.eraseIdx j,rt,rfl,hB2,⟨⟨bd,k1.st _ _ nbl h1,h2⟩,k1.st _ _ ntl h3,_,em,hat2⟩,by rw [List.length_eraseIdx_of_lt lj]; lia,ne,fun H3 s3=>?_⟩
  exact ⟨_,rfl,a,_,1,_,rfl,rfl,SqT.of (s3 _ _ (k1.tup ha)),rfl,q _ (k1.same s3) ⟨_,s3 _ _ em,hat2.keep fun _ _ e=>s3 _ _ e⟩⟩
noncomputable def spBTg (c:BC):Sp:=fun vs H Q _=>∃ (B dx f1 f2 bl th tl td mk:Addr) (L b r:Int) (ms:List (Int×Int)),vs = [.ref B,.int L]∧H B = some (.ins c.C dx (bkF f1 f2 bl th))∧BkL c H bl tl td mk L b ms (some r)∧ms.length ≤ 1000∧ms ≠ []∧tl ≠ B ∧
  ∀ H',Kx [tl] H H'→H' tl = some (.ins c.L td (lnF b mk none))→Q (.int r) H'
theorem scBTg:FnScope ["self","line","told","root"] ["self","line"] (defScope sBTg):=⟨rfl,rfl,rfl,by decide +kernel,rfl,by decide +kernel,by decide +kernel⟩
theorem ok_BTg {fBLv:Addr} {dBLv:FuncData} (F:Fun K "take_growth" "Book.take_growth" sBTg f fd) (cf:CF K c) (hBLv:MHas K c.C "leave_if_empty" "Book.leave_if_empty" sBLv ["self","line"] fBLv dBLv) (GBLv:FnOk P w K mg base CX0 2 fBLv dBLv ["self","line"] (spBLv c)):FnOk P w K mg base CX0 3 f fd ["self","line"] (spBTg c):=by
  refine F.ok scBTg (fun vs H Q E h=>?_) (fun cdv A outer s H vs Q E hr h=>?_)
  · obtain ⟨B,dx,f1,f2,bl,th,tl,td,mk,L,b,r,ms,rfl,_⟩:=h
    rfl
  obtain ⟨B,dx,f1,f2,bl,th,tl,td,mk,L,b,r,ms,rfl,hB,hL,lm,ne,nt,q⟩:=h
  have hu:=hu_of hr
  refine ⟨_,(pss_cons (ps_set (i:=2) scBTg.nd rfl (Or.inl rfl) (pe_dget hu (pe_fld (pv 0) rfl) (pv 1) (fun _ _=>rfl)))
    (pss_cons (ps_set (i:=3) scBTg.nd rfl (Or.inl rfl) (pe_fld (pv 2) rfl))
    (pss_cons (ps_fld (pv 2) pe_non rfl)
    (pss_cons (ps_expr (pe_meth (pv 0) cf.clC hBLv.me GBLv (hr.mono (by decide)) hBLv.bd .nil pass0 (pc (pv 1) pa_nil)))
    (pss_one (ps_ret (pv 3))))))),?_⟩
  obtain ⟨⟨bd,h1,h2⟩,h3,vm,h4,h5⟩:=hL
  refine ⟨_,rfl,B,c.C,dx,_,_,rfl,hB,cf.clC,cf.lC,rfl,_,rfl,bl,_,rfl,gtK (k:=Sum.inl L) h1 h2,?_⟩
  refine ⟨_,rfl,tl,c.L,td,_,_,rfl,h3,cf.clL,cf.rL,rfl,?_⟩
  refine ⟨_,rfl,tl,c.L,td,_,rfl,h3,cf.clL,cf.rL,by simp [lnF],?_⟩
  have k0:Kx [tl] H H:=⟨fun b u _ e=>e,fun b hb=>by rw [List.mem_singleton.mp hb]; exact .inr (.inr ⟨_,_,_,h3⟩)⟩
  have k1:=k0.over (.inl (List.mem_singleton.mpr rfl)) (HO.ins c.L td (lnF b mk none))
  have em:upd H tl (HO.ins c.L td (lnF b mk none)) tl = some (HO.ins c.L td (lnF b mk none)):=upd_same
  show (fun H2=>_) (upd H tl (HO.ins c.L td (lnF b mk none)))
  revert k1 em
  generalize upd H tl (HO.ins c.L td (lnF b mk none)) = H2
  intro k1 em
  have nB:B ∉ [tl]:=fun z=>nt (List.mem_singleton.mp z).symm
  have nbl:bl ∉ [tl]:=fun z=>by rw [List.mem_singleton.mp z,h3] at h1; cases h1
  have nmk:mk ∉ [tl]:=fun z=>by rw [List.mem_singleton.mp z,h3] at h4; cases h4
  have hB2:=k1.st _ _ nB hB
  refine ⟨_,rfl,B,dx,_,rfl,hB2,rfl,_,rfl,B,dx,f1,f2,bl,th,tl,td,mk,L,b,ms,none,rfl,hB2,⟨⟨bd,k1.st _ _ nbl h1,h2⟩,em,_,k1.st _ _ nmk h4,h5.keep fun _ _ e=>k1.tup e⟩,lm,(by unfold ino; simpa using ne),fun H3 s3=>?_⟩
  exact ⟨_,rfl,q _ (k1.same s3) (s3 _ _ em)⟩
end
end K31
set_option maxHeartbeats 4000000
namespace K31
open PySem L2 Bk
theorem mem2 {a b x:Addr} (h:x ∈ [a,b]):x = a∨x = b:=by simpa using h
theorem kx_id {L:List Addr} {H:Hp} (m:∀ b ∈ L,Mu (H b)):Kx L H H:=⟨fun _ _ _ e=>e,m⟩
theorem Held.lay_in {p:Mp} {rs ks:List Int} {val:Int→Nat} {r:Int} (h:Held p rs ks val) (hr:r ∈ rs):∀ V:List Int,(∀ x ∈ V,Rch p (r :: rs) x)→Lay p V:=fun V hV =>
  h.lay.sub fun x hx=>(h.set x).mpr ((hV x hx).mono fun y hy=>(List.mem_cons.mp hy).elim (fun e=>e ▸ hr) id)
section
variable {P:Program} {w:World} {K:PySem.W.Frag} {mg:Str→Option Value} {base:Heap} {f:Addr} {fd:FuncData} {c:BC}
theorem BkS.kx2 {M L:List Addr} {H H':Hp} {B dx f1 f2 bl th Pd:Addr} {pk:List (Key×V)} {p:Mp} (h:BkS c M H B dx f1 f2 bl th Pd pk p) (k:Kx L H H') (s:∀ b ∈ L,b ∈ M) (nB:B ∉ L) (nP:Pd ∉ L):BkS c M H' B dx f1 f2 bl th Pd pk p :=
  ⟨k.st _ _ nB h.b,k.clo h.clo,k.st _ _ nP h.pd,k.pc h.pc s,h.nt⟩
theorem BkS.mono {M:List Addr} {H H':Hp} {B dx f1 f2 bl th Pd:Addr} {pk:List (Key×V)} {p:Mp} (h:BkS c M H B dx f1 f2 bl th Pd pk p) (s:Same H H'):BkS c M H' B dx f1 f2 bl th Pd pk p :=
  h.kx2 (Kx.of s) (fun b hb=>nomatch hb) (fun hb=>nomatch hb) (fun hb=>nomatch hb)
theorem ne_tB {H:Hp} {tl td mk B dx f1 f2 bl th:Addr} {b:Int} {rt:Option Int} (ht:H tl = some (.ins c.L td (lnF b mk rt))) (hB:H B = some (.ins c.C dx (bkF f1 f2 bl th))):tl ≠ B:=fun z=>by
  rw [z,hB] at ht
  injection ht with ht
  injection ht with _ _ ht
  have:=congrArg List.length ht
  have:4 = 3:=this
  lia
noncomputable def spCSt (c:BC):Sp:=fun vs H Q _=>∃ (B dx f1 f2 bl th Pd l:Addr) (M:List Addr) (pk cs bd:List (Key×V)) (p:Mp) (rs ks U:List Int) (val:Int→Nat) (L b:Int) (ms:List (Int×Int)) (rt:Option Int) (vm:List V),vs = [.ref B,.int L,.int b,.ref l,rtV rt]∧BkS c M H B dx f1 f2 bl th Pd pk p∧th ∈ M∧bl ∈ M∧bl ≠ th∧Pd ≠ bl∧H bl = some (.dK bd)∧bd.length ≤ 1000∧H th = some (.dK cs)∧Th cs ks val∧Held p rs ks val ∧
  H l = some (.lst vm)∧MkAt H vm ms∧ms.length ≤ 1000∧(∀ V:List Int,(∀ x ∈ V,Rch p ((ino ms rt).map (·.2) ++ rs) x)→Lay p V)∧Un p U ∧
  ∀ H' tl td mk vm' cs' ks' val',H tl = none→H mk = none→tl ≠ mk→Kx [bl,th] H H'→H' bl = some (.dK (putK bd (.inl L) (.ref tl)))→H' tl = some (.ins c.L td (lnF b mk rt))→H' mk = some (.lst vm')→MkAt H' vm' ms→H' th = some (.dK cs')→Th cs' ks' val'→Held p (((ino ms rt).map (·.2)).reverse ++ rs) ks' val'→Q .non H'
theorem scCSt:FnScope ["self","line","base","makes","root","told","head"] ["self","line","base","makes","root"] (defScope sCSt):=⟨rfl,rfl,rfl,by decide +kernel,rfl,by decide +kernel,by decide +kernel⟩
theorem ok_CSt {aL fLIn fLOr fCHd:Addr} {dLIn dLOr dCHd:FuncData} (F:Fun K "stood" "Counts.stood" sCSt f fd) (cf:CF K c) (LInmk:Mk K c.L fLIn) (GLIn:FnOk P w K mg base CX0 1 fLIn dLIn ["self","base","makes","root"] (spLIn c)) (LInnm:mg "Line" = some (.ref c.L)) (LInbd:Binds K dLIn ["self","base","makes","root"] []) (hLOr:MHas K c.L "in_order" "Line.in_order" sLOr ["self"] fLOr dLOr) (GLOr:FnOk P w K mg base CX0 1 fLOr dLOr ["self"] (spLOr c)) (hCHd:MHas K c.C "hold" "Counts.hold" sCHd ["self","root"] fCHd dCHd) (GCHd:FnOk P w K mg base CX0 3 fCHd dCHd ["self","root"] (spCHd c)):FnOk P w K mg base CX0 4 f fd ["self","line","base","makes","root"] (spCSt c):=by
  refine F.ok scCSt (fun vs H Q E h=>?_) (fun cdv A outer s H vs Q E hr h=>?_)
  · obtain ⟨B,dx,f1,f2,bl,th,Pd,l,M,pk,cs,bd,p,rs,ks,U,val,L,b,ms,rt,vm,rfl,_⟩:=h
    rfl
  obtain ⟨B,dx,f1,f2,bl,th,Pd,l,M,pk,cs,bd,p,rs,ks,U,val,L,b,ms,rt,vm,rfl,hS,hM,hMb,nbt,nPb,hbl,lbd,hth,ht,hH,hl,hat,lm,lay,un,q⟩:=h
  have hu:=hu_of hr
  refine ⟨_,(pss_cons (ps_set (i:=5) scCSt.nd rfl (Or.inl rfl) (pe_make LInmk GLIn (hr.mono (by decide)) rfl LInnm LInbd .nil pass0 (pc (pv 2) (pc (pv 3) (pc (pv 4) pa_nil)))))
    (pss_cons (ps_dput hu (pe_fld (pv 0) rfl) (pv 1) (pv 5) rfl)
    (pss_one (ps_for PassesOwn.never rfl (pi_list (pe_meth0 (pv 5) cf.clL hLOr.me GLOr (hr.mono (by decide)) hLOr.bd .nil pass0)) (pg_name (i:=6) scCSt.nd rfl (Or.inl rfl))
    (pss_one (ps_expr (pe_meth (pv 0) cf.clC hCHd.me GCHd (hr.mono (by decide)) hCHd.bd .nil pass0 (pc (pe_ix ix_tup (pv 6) pe_int (fun _ _=>rfl)) pa_nil)))))))),?_⟩
  refine ⟨_,rfl,_,rfl,_,rfl,fun tl td htl htd ne=>?_⟩
  have s0:Same H (upd (upd H td (.own tl)) tl (.ins c.L td [])):=fun q u e=>by
    rw [upd_ne (ne_of_none e htl),upd_ne (ne_of_none e htd)]
    exact e
  refine ⟨tl,td,l,b,rt,vm,rfl,upd_same,s0 _ _ hl,fun mk H1 hmk k1 et em=>⟨rfl,?_⟩⟩
  have s1:Same H H1:=fun q u e=>k1.st _ _ (fun z=>by rw [List.mem_singleton.mp z,htl] at e; cases e) (s0 _ _ e)
  have hmk0:H mk = none:=s0.free hmk
  have ntm:tl ≠ mk:=fun z=>by rw [z,em] at et; cases et
  have S1:=hS.mono s1
  have mu:∀ b ∈ [bl,th],Mu (H b):=fun b hb=>by
    rcases mem2 hb with rfl | rfl
    · exact .inr (.inl ⟨_,hbl⟩)
    · exact .inr (.inl ⟨_,hth⟩)
  have sM:∀ b ∈ [bl,th],b ∈ M:=fun b hb=>by
    rcases mem2 hb with rfl | rfl
    · exact hMb
    · exact hM
  have nB:B ∉ [bl,th]:=fun z=>by
    have:=hS.b
    rcases mem2 z with z | z
    · rw [z,hbl] at this; cases this
    · rw [z,hth] at this; cases this
  have nP:Pd ∉ [bl,th]:=fun z=>(mem2 z).elim nPb hS.nt
  refine ⟨_,rfl,_,rfl,B,c.C,dx,_,_,rfl,S1.b,cf.clC,cf.lC,rfl,_,rfl,bl,_,rfl,DPut.k (k:=Sum.inl L) (v:=V.ref tl) (s1 _ _ hbl) (small (by lia)),?_⟩
  have k2:Kx [bl,th] H (upd H1 bl (.dK (putK bd (Sum.inl L) (V.ref tl)))):=((kx_id mu).same s1).over (.inl (by simp)) _
  have ntb:tl ≠ bl:=fun z=>by rw [z,hbl] at htl; cases htl
  have nmb:mk ≠ bl:=fun z=>by rw [z,hbl] at hmk0; cases hmk0
  have et2:upd H1 bl (.dK (putK bd (Sum.inl L) (V.ref tl))) tl = some (.ins c.L td (lnF b mk rt)):=by rw [upd_ne ntb]; exact et
  have em2:upd H1 bl (.dK (putK bd (Sum.inl L) (V.ref tl))) mk = some (.lst vm):=by rw [upd_ne nmb]; exact em
  have eb2:upd H1 bl (.dK (putK bd (Sum.inl L) (V.ref tl))) bl = some (.dK (putK bd (Sum.inl L) (V.ref tl))):=upd_same
  have eh2:upd H1 bl (.dK (putK bd (Sum.inl L) (V.ref tl))) th = some (.dK cs):=by rw [upd_ne nbt.symm]; exact s1 _ _ hth
  revert k2 et2 em2 eb2 eh2
  generalize upd H1 bl (.dK (putK bd (Sum.inl L) (V.ref tl))) = H2
  intro k2 et2 em2 eb2 eh2
  have hat2:=hat.keep fun _ _ e=>k2.tup e
  refine ⟨_,rfl,tl,td,_,rfl,et2,rfl,tl,td,mk,b,ms,rt,vm,rfl,et2,em2,hat2,lm,fun r H3 ws s3 hr' er hat3=>?_⟩
  have hr0:H r = none:=by
    rcases k2.free hr' with z | z
    · rcases mem2 z with z | z
      · rw [z,eb2] at hr'; cases hr'
      · rw [z,eh2] at hr'; cases hr'
    · exact z
  have nrt:r ≠ th:=fun z=>by rw [z,hth] at hr0; cases hr0
  have ntt:tl ≠ th:=fun z=>by rw [z,hth] at htl; cases htl
  have nmt:mk ≠ th:=fun z=>by rw [z,hth] at hmk0; cases hmk0
  have k3:Kx [bl,th] H H3:=k2.same s3
  refine ⟨r,rfl,⟨_,SqL.of er⟩,for_list (K:=K) (a:=r) (xs:=ws) (fun i σ H4=>∃ (o6:Option V) (cs4:List (Key×V)) (ks4:List Int) (val4:Int→Nat),σ = [some (.ref B),some (.int L),some (.int b),some (.ref l),some (rtV rt),some (.ref tl),o6]∧Kx [th] H3 H4∧H4 th = some (.dK cs4)∧Th cs4 ks4 val4∧Held p ((((ino ms rt).take i).map (·.2)).reverse ++ rs) ks4 val4)
    ⟨none,cs,ks,val,rfl,kx_id fun b hb=>by rw [List.mem_singleton.mp hb]; exact .inr (.inl ⟨_,s3 _ _ eh2⟩),s3 _ _ eh2,ht,hH⟩ (fun i σ H4 _ h4=>?_) ?_ ?_⟩
  · obtain ⟨_,_,_,_,_,k4,_⟩:=h4
    exact SqL.of (k4.st _ _ (fun z=>nrt (List.mem_singleton.mp z)) er)
  · rintro i v σ H4 hv ⟨o6,cs4,ks4,val4,rfl,k4,eh4,ht4,hH4⟩
    obtain ⟨m,a,hmi,rfl,ha⟩:=hat3.get (i:=i) hv
    have S4:=(hS.kx2 k3 sM nB nP).kx (s3 _ _ eh2) hM k4
    refine ⟨_,rfl,B,dx,_,rfl,S4.b,rfl,_,rfl,a,_,1,_,rfl,rfl,SqT.of (k4.tup ha),rfl,B,dx,f1,f2,bl,th,Pd,M,pk,cs4,p,_,ks4,U,val4,m.2,rfl,S4,hM,eh4,ht4,hH4,fun V hV=>lay V fun x hx=>(hV x hx).mono ?_,un,fun H5 cs5 ks5 val5 k5 eh5 ht5 hH5=>?_⟩
    · intro y hy
      rcases List.mem_cons.mp hy with rfl | hy
      · exact List.mem_append_left _ (List.mem_map.mpr ⟨m,List.mem_of_getElem? hmi,rfl⟩)
      · rcases List.mem_append.mp hy with hy | hy
        · rw [List.mem_reverse] at hy
          obtain ⟨m',h1,h2⟩:=List.mem_map.mp hy
          exact List.mem_append_left _ (List.mem_map.mpr ⟨m',List.mem_of_mem_take h1,h2⟩)
        · exact List.mem_append_right _ hy
    · refine ⟨_,cs5,ks5,val5,rfl,k4.trans k5,eh5,ht5,?_⟩
      rw [List.take_add_one,hmi,List.map_append,List.reverse_append]
      exact hH5
  · rintro σ H4 ⟨o6,cs4,ks4,val4,rfl,k4,eh4,ht4,hH4⟩
    rw [hat3.len,List.take_length] at hH4
    have nn:∀ {a:Addr},a ≠ th→a ∉ [th]:=fun h z=>h (List.mem_singleton.mp z)
    refine q H4 tl td mk vm cs4 ks4 val4 htl hmk0 ntm (k3.trans (k4.wide (fun b hb=>by simp [List.mem_singleton.mp hb]) fun b hb=>?_)) (k4.st _ _ (nn nbt) (s3 _ _ eb2)) (k4.st _ _ (nn ntt) (s3 _ _ et2)) (k4.st _ _ (nn nmt) (s3 _ _ em2)) ((hat2.keep fun _ _ e=>s3 _ _ e).keep fun _ _ e=>k4.tup e) eh4 ht4 hH4
    rcases mem2 hb with rfl | rfl
    · exact .inr (.inl ⟨_,s3 _ _ eb2⟩)
    · exact .inr (.inl ⟨_,s3 _ _ eh2⟩)
noncomputable def spBBg (c:BC):Sp:=fun vs H Q _=>∃ (B dx f1 f2 bl th Pd:Addr) (M:List Addr) (pk cs bd:List (Key×V)) (p:Mp) (rs ks U:List Int) (val:Int→Nat) (L b r:Int),vs = [.ref B,.int L,.int b,.int r]∧BkS c M H B dx f1 f2 bl th Pd pk p∧th ∈ M∧bl ∈ M∧bl ≠ th∧Pd ≠ bl∧H bl = some (.dK bd)∧bd.length ≤ 1000∧H th = some (.dK cs)∧Th cs ks val∧Held p rs ks val ∧
  (∀ V:List Int,(∀ x ∈ V,Rch p (r :: rs) x)→Lay p V)∧Un p U ∧
  ∀ H' tl td mk cs' ks' val',H tl = none→H mk = none→tl ≠ mk→Kx [bl,th] H H'→H' bl = some (.dK (putK bd (.inl L) (.ref tl)))→H' tl = some (.ins c.L td (lnF b mk (some r)))→H' mk = some (.lst [])→H' th = some (.dK cs')→Th cs' ks' val'→Held p (r :: rs) ks' val'→Q .non H'
theorem scBBg:FnScope ["self","line","base","root"] ["self","line","base","root"] (defScope sBBg):=⟨rfl,rfl,rfl,by decide +kernel,rfl,by decide +kernel,by decide +kernel⟩
theorem ok_BBg {fCSt:Addr} {dCSt:FuncData} (F:Fun K "begun" "Book.begun" sBBg f fd) (cf:CF K c) (hCSt:MHas K c.C "stood" "Counts.stood" sCSt ["self","line","base","makes","root"] fCSt dCSt) (GCSt:FnOk P w K mg base CX0 4 fCSt dCSt ["self","line","base","makes","root"] (spCSt c)):FnOk P w K mg base CX0 5 f fd ["self","line","base","root"] (spBBg c):=by
  refine F.ok scBBg (fun vs H Q E h=>?_) (fun cdv A outer s H vs Q E hr h=>?_)
  · obtain ⟨B,dx,f1,f2,bl,th,Pd,M,pk,cs,bd,p,rs,ks,U,val,L,b,r,rfl,_⟩:=h
    rfl
  obtain ⟨B,dx,f1,f2,bl,th,Pd,M,pk,cs,bd,p,rs,ks,U,val,L,b,r,rfl,hS,hM,hMb,nbt,nPb,hbl,lbd,hth,ht,hH,lay,un,q⟩:=h
  refine ⟨_,(pss_one (ps_expr (pe_meth (pv 0) cf.clC hCSt.me GCSt (hr.mono (by decide)) hCSt.bd .nil pass0 (pc (pv 1) (pc (pv 2) (pc (pe_lst pa_nil) (pc (pv 3) pa_nil))))))),?_⟩
  refine ⟨_,rfl,B,dx,_,rfl,hS.b,rfl,_,rfl,_,rfl,Nat.zero_le _,fun l hl=>⟨_,rfl,?_⟩⟩
  have s0:=same_new hl (HO.lst [])
  refine ⟨B,dx,f1,f2,bl,th,Pd,l,M,pk,cs,bd,p,rs,ks,U,val,L,b,[],some r,[],rfl,hS.mono s0,hM,hMb,nbt,nPb,s0 _ _ hbl,lbd,s0 _ _ hth,ht,hH,upd_same,trivial,Nat.zero_le _,lay,un,fun H' tl td mk vm' cs' ks' val' h1 h2 h3 k h4 h5 h6 h7 h8 h9 h10=>?_⟩
  cases vm' with
  | cons _ _=>exact h7.elim
  | nil=>exact q H' tl td mk cs' ks' val' (s0.free h1) (s0.free h2) h3 (k.ahead s0 fun b hb=>by
      rcases mem2 hb with rfl | rfl
      · exact .inr (.inl ⟨_,hbl⟩)
      · exact .inr (.inl ⟨_,hth⟩)) h4 h5 h6 h8 h9 h10
end
end K31
set_option maxHeartbeats 4000000
namespace K31
open PySem L2 Bk
section
variable {P:Program} {w:World} {K:PySem.W.Frag} {mg:Str→Option Value} {base:Heap} {f:Addr} {fd:FuncData} {c:BC}
theorem kx2 {a th:Addr} {H H1 H2:Hp} {cs:List (Key×V)} (k:Kx [a] H H1) (k2:Kx [th] H1 H2) (e:H th = some (.dK cs)):Kx [a,th] H H2:=by
  have mu:∀ b ∈ [a,th],Mu (H b):=fun b hb=>by
    rcases mem2 hb with rfl | rfl
    · exact k.mu _ (List.mem_singleton.mpr rfl)
    · exact .inr (.inl ⟨_,e⟩)
  exact ⟨fun b u n h=>k2.st _ _ (fun z=>n (by simp [List.mem_singleton.mp z])) (k.st _ _ (fun z=>n (by simp [List.mem_singleton.mp z])) h),mu⟩
noncomputable def spCMd (c:BC):Sp:=fun vs H Q _=>∃ (B dx f1 f2 bl th Pd tl td mk:Addr) (M:List Addr) (pk cs:List (Key×V)) (p:Mp) (rs ks U:List Int) (val:Int→Nat) (L b s r:Int) (ms:List (Int×Int)),vs = [.ref B,.int L,.int s]∧BkS c M H B dx f1 f2 bl th Pd pk p∧th ∈ M∧mk ∈ M∧H th = some (.dK cs)∧Th cs ks val∧Held p rs ks val∧BkL c H bl tl td mk L b ms (some r)∧ms.length ≤ 1000∧r ∈ rs∧Un p U ∧
  ∀ H' vm' cs' ks' val',Kx [mk,th] H H'→H' mk = some (.lst vm')→MkAt H' vm' (ms ++ [(s,r)])→H' th = some (.dK cs')→Th cs' ks' val'→Held p (r :: rs) ks' val'→Q .non H'
theorem scCMd:FnScope ["self","line","stamp","told"] ["self","line","stamp"] (defScope sCMd):=⟨rfl,rfl,rfl,by decide +kernel,rfl,by decide +kernel,by decide +kernel⟩
theorem ok_CMd {fCHd:Addr} {dCHd:FuncData} (F:Fun K "made" "Counts.made" sCMd f fd) (cf:CF K c) (hCHd:MHas K c.C "hold" "Counts.hold" sCHd ["self","root"] fCHd dCHd) (GCHd:FnOk P w K mg base CX0 3 fCHd dCHd ["self","root"] (spCHd c)):FnOk P w K mg base CX0 4 f fd ["self","line","stamp"] (spCMd c):=by
  refine F.ok scCMd (fun vs H Q E h=>?_) (fun cdv A outer s H vs Q E hr h=>?_)
  · obtain ⟨B,dx,f1,f2,bl,th,Pd,tl,td,mk,M,pk,cs,p,rs,ks,U,val,L,b,s,r,ms,rfl,_⟩:=h
    rfl
  obtain ⟨B,dx,f1,f2,bl,th,Pd,tl,td,mk,M,pk,cs,p,rs,ks,U,val,L,b,s,r,ms,rfl,hS,hM,hMm,hth,ht,hH,hL,lm,hrr,un,q⟩:=h
  have hu:=hu_of hr
  refine ⟨_,(pss_cons (ps_set (i:=3) scCMd.nd rfl (Or.inl rfl) (pe_dget hu (pe_fld (pv 0) rfl) (pv 1) (fun _ _=>rfl)))
    (pss_cons (ps_expr (pe_bm PySem.F.plainAttrs_list PySem.F.slot_list_append PySem.F.type_list_append mt_append (pe_fld (pv 3) rfl) (pc (pe_tup (pc (pv 2) (pc (pe_fld (pv 3) rfl) pa_nil))) pa_nil)))
    (pss_one (ps_expr (pe_meth (pv 0) cf.clC hCHd.me GCHd (hr.mono (by decide)) hCHd.bd .nil pass0 (pc (pe_fld (pv 3) rfl) pa_nil)))))),?_⟩
  obtain ⟨⟨bd,h1,h2⟩,h3,vm,h4,h5⟩:=hL
  have lv:=h5.len
  refine ⟨_,rfl,B,c.C,dx,_,_,rfl,hS.b,cf.clC,cf.lC,rfl,_,rfl,bl,_,rfl,gtK (k:=Sum.inl L) h1 h2,?_⟩
  refine ⟨_,rfl,tl,c.L,td,_,_,rfl,h3,cf.clL,cf.mL,rfl,.inl ⟨rfl,_,SqL.of h4⟩,_,rfl,_,rfl,tl,c.L,td,_,_,rfl,h3,cf.clL,cf.rL,rfl,(by show 2 ≤ sizeLine; decide),fun t htn=>?_⟩
  have s1:=same_new htn (HO.tup [.int s,rtV (some r)])
  refine ⟨mk,_,_,rfl,rfl,s1 _ _ h4,small (by lia),?_⟩
  have k0:Kx [mk] H (upd H t (HO.tup [.int s,rtV (some r)])):=⟨fun b u _ e=>s1 _ _ e,fun b hb=>by rw [List.mem_singleton.mp hb]; exact .inl ⟨_,h4⟩⟩
  have k1:Kx [mk] H (upd (upd H t (HO.tup [.int s,rtV (some r)])) mk (.lst (vm ++ [.ref t]))):=k0.over (.inl (List.mem_singleton.mpr rfl)) _
  have ntm:t ≠ mk:=fun z=>by rw [z,h4] at htn; cases htn
  have et1:upd (upd H t (HO.tup [.int s,rtV (some r)])) mk (.lst (vm ++ [.ref t])) t = some (.tup [.int s,.int r]):=by rw [upd_ne ntm,upd_same]; rfl
  have em1:upd (upd H t (HO.tup [.int s,rtV (some r)])) mk (.lst (vm ++ [.ref t])) mk = some (.lst (vm ++ [.ref t])):=upd_same
  revert k1 et1 em1
  show _→_→_→(fun H2=>_) (upd (upd H t (HO.tup [.int s,rtV (some r)])) mk (.lst (vm ++ [.ref t])))
  generalize upd (upd H t (HO.tup [.int s,rtV (some r)])) mk (.lst (vm ++ [.ref t])) = H2
  intro k1 et1 em1
  have nn:∀ {a:Addr} {u:HO},H a = some u→(∀ xs,u ≠ .lst xs)→a ∉ [mk]:=fun e n z=>by rw [List.mem_singleton.mp z,h4] at e; cases e; exact n _ rfl
  have nth:=nn hth (by intro _ z; cases z)
  have S2:=hS.kx2 k1 (fun b hb=>by rw [List.mem_singleton.mp hb]; exact hMm) (nn hS.b (by intro _ z; cases z)) (nn hS.pd (by intro _ z; cases z))
  have h32:=k1.st _ _ (nn h3 (by intro _ z; cases z)) h3
  refine ⟨_,rfl,B,dx,_,rfl,S2.b,rfl,_,rfl,tl,c.L,td,_,_,rfl,h32,cf.clL,cf.rL,rfl,B,dx,f1,f2,bl,th,Pd,M,pk,cs,p,rs,ks,U,val,r,rfl,S2,hM,k1.st _ _ nth hth,ht,hH,K31.Held.lay_in hH hrr,un,fun H' cs' ks' val' k2 e1 e2 e3=>?_⟩
  refine q H' _ cs' ks' val' (kx2 k1 k2 hth) (k2.st _ _ (fun z=>nth (by rw [List.mem_singleton.mp z]; exact List.mem_singleton.mpr rfl)) em1) (MkAt.snoc (m:=(s,r)) (k2.tup et1) (h5.keep fun _ _ e=>k2.tup (k1.tup e))) e1 e2 e3
noncomputable def spCGr (c:BC):Sp:=fun vs H Q _=>∃ (B dx f1 f2 bl th Pd tl td mk:Addr) (M:List Addr) (pk cs:List (Key×V)) (p:Mp) (rs ks U:List Int) (val:Int→Nat) (L b r r':Int) (ms:List (Int×Int)),vs = [.ref B,.int L,.int r']∧BkS c M H B dx f1 f2 bl th Pd pk p∧th ∈ M∧tl ∈ M∧H th = some (.dK cs)∧Th cs ks val∧Held p (r :: rs) ks val∧BkL c H bl tl td mk L b ms (some r)∧(∀ V:List Int,(∀ x ∈ V,Rch p (r' :: r :: rs) x)→Lay p V)∧Un p U ∧
  ∀ (H':Hp) (cs':List (Key×V)) (ks':List Int) (val':Int→Nat) (rl:Addr) (fr:List Int),Kx [tl,th] H H'→H' tl = some (.ins c.L td (lnF b mk (some r')))→H' th = some (.dK cs')→Th cs' ks' val'→Held p (r' :: rs) ks' val'→H rl = none→H' rl = some (.lst (fr.map V.int))→fr.Pairwise (· < ·)→(∀ x,x ∈ fr↔Rch p (r' :: r :: rs) x∧x ∉ ks')→Q (.ref rl) H'
theorem scCGr:FnScope ["self","line","root","told","old"] ["self","line","root"] (defScope sCGr):=⟨rfl,rfl,rfl,by decide +kernel,rfl,by decide +kernel,by decide +kernel⟩
theorem ok_CGr {fCHd fCRl:Addr} {dCHd dCRl:FuncData} (F:Fun K "grown" "Counts.grown" sCGr f fd) (cf:CF K c) (hCHd:MHas K c.C "hold" "Counts.hold" sCHd ["self","root"] fCHd dCHd) (GCHd:FnOk P w K mg base CX0 3 fCHd dCHd ["self","root"] (spCHd c)) (hCRl:MHas K c.C "release" "Counts.release" sCRl ["self","root"] fCRl dCRl) (GCRl:FnOk P w K mg base CX0 3 fCRl dCRl ["self","root"] (spCRl c)):FnOk P w K mg base CX0 4 f fd ["self","line","root"] (spCGr c):=by
  refine F.ok scCGr (fun vs H Q E h=>?_) (fun cdv A outer s H vs Q E hr h=>?_)
  · obtain ⟨B,dx,f1,f2,bl,th,Pd,tl,td,mk,M,pk,cs,p,rs,ks,U,val,L,b,r,r',ms,rfl,_⟩:=h
    rfl
  obtain ⟨B,dx,f1,f2,bl,th,Pd,tl,td,mk,M,pk,cs,p,rs,ks,U,val,L,b,r,r',ms,rfl,hS,hM,hMt,hth,ht,hH,hL,lay,un,q⟩:=h
  have hu:=hu_of hr
  refine ⟨_,(pss_cons (ps_set (i:=3) scCGr.nd rfl (Or.inl rfl) (pe_dget hu (pe_fld (pv 0) rfl) (pv 1) (fun _ _=>rfl)))
    (pss_cons (ps_set (i:=4) scCGr.nd rfl (Or.inl rfl) (pe_fld (pv 3) rfl))
    (pss_cons (ps_fld (pv 3) (pv 2) rfl)
    (pss_cons (ps_expr (pe_meth (pv 0) cf.clC hCHd.me GCHd (hr.mono (by decide)) hCHd.bd .nil pass0 (pc (pv 2) pa_nil)))
    (pss_one (ps_ret (pe_meth (pv 0) cf.clC hCRl.me GCRl (hr.mono (by decide)) hCRl.bd .nil pass0 (pc (pv 4) pa_nil)))))))),?_⟩
  obtain ⟨⟨bd,h1,h2⟩,h3,vm,h4,h5⟩:=hL
  refine ⟨_,rfl,B,c.C,dx,_,_,rfl,hS.b,cf.clC,cf.lC,rfl,_,rfl,bl,_,rfl,gtK (k:=Sum.inl L) h1 h2,?_⟩
  refine ⟨_,rfl,tl,c.L,td,_,_,rfl,h3,cf.clL,cf.rL,rfl,?_⟩
  refine ⟨_,rfl,_,rfl,tl,c.L,td,_,rfl,h3,cf.clL,cf.rL,Nat.le_of_ble_eq_true rfl,?_⟩
  have k0:Kx [tl] H H:=kx_id fun b hb=>by rw [List.mem_singleton.mp hb]; exact .inr (.inr ⟨_,_,_,h3⟩)
  have k1:=k0.over (.inl (List.mem_singleton.mpr rfl)) (HO.ins c.L td (lnF b mk (some r')))
  have em:upd H tl (HO.ins c.L td (lnF b mk (some r'))) tl = some (HO.ins c.L td (lnF b mk (some r'))):=upd_same
  revert k1 em
  show _→_→(fun H2=>_) (upd H tl (HO.ins c.L td (lnF b mk (some r'))))
  generalize upd H tl (HO.ins c.L td (lnF b mk (some r'))) = H2
  intro k1 em
  have ntB:=ne_tB h3 hS.b
  have nth:th ∉ [tl]:=fun z=>by rw [List.mem_singleton.mp z,h3] at hth; cases hth
  have nPd:Pd ∉ [tl]:=fun z=>by have:=hS.pd; rw [List.mem_singleton.mp z,h3] at this; cases this
  have S2:=hS.kx2 k1 (fun b hb=>by rw [List.mem_singleton.mp hb]; exact hMt) (fun z=>ntB (List.mem_singleton.mp z).symm) nPd
  have hth2:=k1.st _ _ nth hth
  refine ⟨_,rfl,B,dx,_,rfl,S2.b,rfl,_,rfl,B,dx,f1,f2,bl,th,Pd,M,pk,cs,p,_,ks,U,val,r',rfl,S2,hM,hth2,ht,hH,lay,un,fun H3 cs3 ks3 val3 k3 e1 e2 e3=>?_⟩
  have S3:=S2.kx hth2 hM k3
  have e4:Held p (r :: r' :: rs) ks3 val3:=e3.roots (List.Perm.swap ..)
  refine ⟨_,rfl,B,dx,_,rfl,S3.b,rfl,_,rfl,B,dx,f1,f2,bl,th,Pd,M,pk,cs3,p,_,ks3,U,val3,r,rfl,S3,hM,e1,e2,e4,un,fun H4 cs4 ks4 val4 rl fr k4 g1 g2 g3 g4 g5 g6 g7=>?_⟩
  have ntt:tl ∉ [th]:=fun z=>nth (by rw [List.mem_singleton.mp z]; exact List.mem_singleton.mpr rfl)
  have k34:=kx2 k1 (k3.trans k4) hth
  refine q H4 cs4 ks4 val4 rl fr k34 (k4.st _ _ ntt (k3.st _ _ ntt em)) g1 g2 g3 ?_ g5 g6 fun x=>by rw [g7,e3.set]
  rcases (kx2 k1 k3 hth).free g4 with z | z
  · rcases mem2 z with z | z
    · rw [z,k3.st _ _ ntt em] at g4; cases g4
    · rw [z,e1] at g4; cases g4
  · exact z
noncomputable def spCUn (c:BC):Sp:=fun vs H Q _=>∃ (B dx f1 f2 bl th Pd tl td mk:Addr) (M:List Addr) (pk cs:List (Key×V)) (p:Mp) (rs ks U:List Int) (val:Int→Nat) (L b s r:Int) (ms:List (Int×Int)) (rt:Option Int) (j:Nat),vs = [.ref B,.int L,.int s]∧BkS c M H B dx f1 f2 bl th Pd pk p∧th ∈ M∧mk ∈ M∧H th = some (.dK cs)∧Th cs ks val∧Held p (r :: rs) ks val∧BkL c H bl tl td mk L b ms rt∧ms.length ≤ 1000∧ms[j]? = some (s,r)∧(∀ i m,i < j→ms[i]? = some m→m.1 ≠ s)∧ino (ms.eraseIdx j) rt ≠ []∧Un p U ∧
  ∀ (H':Hp) (vm':List V) (cs':List (Key×V)) (ks':List Int) (val':Int→Nat) (rl:Addr) (fr:List Int),Kx [mk,th] H H'→H' mk = some (.lst vm')→MkAt H' vm' (ms.eraseIdx j)→H' th = some (.dK cs')→Th cs' ks' val'→Held p rs ks' val'→H rl = none→H' rl = some (.lst (fr.map V.int))→fr.Pairwise (· < ·)→(∀ x,x ∈ fr↔x ∈ ks∧x ∉ ks')→Q (.ref rl) H'
theorem scCUn:FnScope ["self","line","stamp"] ["self","line","stamp"] (defScope sCUn):=⟨rfl,rfl,rfl,by decide +kernel,rfl,by decide +kernel,by decide +kernel⟩
theorem ok_CUn {fBTm fCRl:Addr} {dBTm dCRl:FuncData} (F:Fun K "unmade" "Counts.unmade" sCUn f fd) (cf:CF K c) (hBTm:MHas K c.C "take_make" "Book.take_make" sBTm ["self","line","stamp"] fBTm dBTm) (GBTm:FnOk P w K mg base CX0 3 fBTm dBTm ["self","line","stamp"] (spBTm c)) (hCRl:MHas K c.C "release" "Counts.release" sCRl ["self","root"] fCRl dCRl) (GCRl:FnOk P w K mg base CX0 3 fCRl dCRl ["self","root"] (spCRl c)):FnOk P w K mg base CX0 4 f fd ["self","line","stamp"] (spCUn c):=by
  refine F.ok scCUn (fun vs H Q E h=>?_) (fun cdv A outer s H vs Q E hr h=>?_)
  · obtain ⟨B,dx,f1,f2,bl,th,Pd,tl,td,mk,M,pk,cs,p,rs,ks,U,val,L,b,s,r,ms,rt,j,rfl,_⟩:=h
    rfl
  obtain ⟨B,dx,f1,f2,bl,th,Pd,tl,td,mk,M,pk,cs,p,rs,ks,U,val,L,b,s,r,ms,rt,j,rfl,hS,hM,hMm,hth,ht,hH,hL,lm,hj,no,ne,un,q⟩:=h
  refine ⟨_,(pss_one (ps_ret (pe_meth (pv 0) cf.clC hCRl.me GCRl (hr.mono (by decide)) hCRl.bd .nil pass0 (pc (pe_meth (pv 0) cf.clC hBTm.me GBTm (hr.mono (by decide)) hBTm.bd .nil pass0 (pc (pv 1) (pc (pv 2) pa_nil))) pa_nil)))),?_⟩
  have hL':=hL
  obtain ⟨_,_,vm,h4,_⟩:=hL'
  refine ⟨_,rfl,B,dx,_,rfl,hS.b,rfl,_,rfl,B,dx,_,rfl,hS.b,rfl,_,rfl,_,rfl,B,dx,f1,f2,bl,th,tl,td,mk,L,b,s,r,ms,rt,j,rfl,hS.b,hL,lm,hj,no,ne,fun H1 k1 hm=>?_⟩
  obtain ⟨vm',em,hat⟩:=hm
  have nn:∀ {a:Addr} {u:HO},H a = some u→(∀ xs,u ≠ .lst xs)→a ∉ [mk]:=fun e n z=>by rw [List.mem_singleton.mp z,h4] at e; cases e; exact n _ rfl
  have nth:=nn hth (by intro _ z; cases z)
  have nmt:mk ∉ [th]:=fun z=>nth (by rw [List.mem_singleton.mp z]; exact List.mem_singleton.mpr rfl)
  have S1:=hS.kx2 k1 (fun b hb=>by rw [List.mem_singleton.mp hb]; exact hMm) (nn hS.b (by intro _ z; cases z)) (nn hS.pd (by intro _ z; cases z))
  have hth1:=k1.st _ _ nth hth
  refine ⟨B,dx,f1,f2,bl,th,Pd,M,pk,cs,p,rs,ks,U,val,r,rfl,S1,hM,hth1,ht,hH,un,fun H2 cs2 ks2 val2 rl fr k2 g1 g2 g3 g4 g5 g6 g7=>?_⟩
  refine q H2 vm' cs2 ks2 val2 rl fr (kx2 k1 k2 hth) (k2.st _ _ nmt em) (hat.keep fun _ _ e=>k2.tup e) g1 g2 g3 ?_ g5 g6 g7
  rcases k1.free g4 with z | z
  · rw [List.mem_singleton.mp z,em] at g4; cases g4
  · exact z
noncomputable def spCEn (c:BC):Sp:=fun vs H Q _=>∃ (B dx f1 f2 bl th Pd tl td mk:Addr) (M:List Addr) (pk cs:List (Key×V)) (p:Mp) (rs ks U:List Int) (val:Int→Nat) (L b r:Int) (ms:List (Int×Int)),vs = [.ref B,.int L]∧BkS c M H B dx f1 f2 bl th Pd pk p∧th ∈ M∧tl ∈ M∧H th = some (.dK cs)∧Th cs ks val∧Held p (r :: rs) ks val∧BkL c H bl tl td mk L b ms (some r)∧ms.length ≤ 1000∧ms ≠ []∧Un p U ∧
  ∀ (H':Hp) (cs':List (Key×V)) (ks':List Int) (val':Int→Nat) (rl:Addr) (fr:List Int),Kx [tl,th] H H'→H' tl = some (.ins c.L td (lnF b mk none))→H' th = some (.dK cs')→Th cs' ks' val'→Held p rs ks' val'→H rl = none→H' rl = some (.lst (fr.map V.int))→fr.Pairwise (· < ·)→(∀ x,x ∈ fr↔x ∈ ks∧x ∉ ks')→Q (.ref rl) H'
theorem scCEn:FnScope ["self","line"] ["self","line"] (defScope sCEn):=⟨rfl,rfl,rfl,by decide +kernel,rfl,by decide +kernel,by decide +kernel⟩
theorem ok_CEn {fBTg fCRl:Addr} {dBTg dCRl:FuncData} (F:Fun K "ended" "Counts.ended" sCEn f fd) (cf:CF K c) (hBTg:MHas K c.C "take_growth" "Book.take_growth" sBTg ["self","line"] fBTg dBTg) (GBTg:FnOk P w K mg base CX0 3 fBTg dBTg ["self","line"] (spBTg c)) (hCRl:MHas K c.C "release" "Counts.release" sCRl ["self","root"] fCRl dCRl) (GCRl:FnOk P w K mg base CX0 3 fCRl dCRl ["self","root"] (spCRl c)):FnOk P w K mg base CX0 4 f fd ["self","line"] (spCEn c):=by
  refine F.ok scCEn (fun vs H Q E h=>?_) (fun cdv A outer s H vs Q E hr h=>?_)
  · obtain ⟨B,dx,f1,f2,bl,th,Pd,tl,td,mk,M,pk,cs,p,rs,ks,U,val,L,b,r,ms,rfl,_⟩:=h
    rfl
  obtain ⟨B,dx,f1,f2,bl,th,Pd,tl,td,mk,M,pk,cs,p,rs,ks,U,val,L,b,r,ms,rfl,hS,hM,hMt,hth,ht,hH,hL,lm,ne,un,q⟩:=h
  refine ⟨_,(pss_one (ps_ret (pe_meth (pv 0) cf.clC hCRl.me GCRl (hr.mono (by decide)) hCRl.bd .nil pass0 (pc (pe_meth (pv 0) cf.clC hBTg.me GBTg (hr.mono (by decide)) hBTg.bd .nil pass0 (pc (pv 1) pa_nil)) pa_nil)))),?_⟩
  have h3:=hL.t
  have ntB:=ne_tB h3 hS.b
  refine ⟨_,rfl,B,dx,_,rfl,hS.b,rfl,_,rfl,B,dx,_,rfl,hS.b,rfl,_,rfl,B,dx,f1,f2,bl,th,tl,td,mk,L,b,r,ms,rfl,hS.b,hL,lm,ne,ntB,fun H1 k1 em=>?_⟩
  have nth:th ∉ [tl]:=fun z=>by rw [List.mem_singleton.mp z,h3] at hth; cases hth
  have nPd:Pd ∉ [tl]:=fun z=>by have:=hS.pd; rw [List.mem_singleton.mp z,h3] at this; cases this
  have ntt:tl ∉ [th]:=fun z=>nth (by rw [List.mem_singleton.mp z]; exact List.mem_singleton.mpr rfl)
  have S1:=hS.kx2 k1 (fun b hb=>by rw [List.mem_singleton.mp hb]; exact hMt) (fun z=>ntB (List.mem_singleton.mp z).symm) nPd
  have hth1:=k1.st _ _ nth hth
  refine ⟨B,dx,f1,f2,bl,th,Pd,M,pk,cs,p,rs,ks,U,val,r,rfl,S1,hM,hth1,ht,hH,un,fun H2 cs2 ks2 val2 rl fr k2 g1 g2 g3 g4 g5 g6 g7=>?_⟩
  refine q H2 cs2 ks2 val2 rl fr (kx2 k1 k2 hth) (k2.st _ _ ntt em) g1 g2 g3 ?_ g5 g6 g7
  rcases k1.free g4 with z | z
  · rw [List.mem_singleton.mp z,em] at g4; cases g4
  · exact z
end
end K31
set_option maxHeartbeats 4000000
namespace K31
open PySem L2 Bk
theorem rch_split {p:Mp} {a:Int} {rs:List Int} {x:Int} (h:Rch p (a :: rs) x):Rch p [a] x∨Rch p rs x:=by
  induction h with
  | base hx =>
    rcases List.mem_cons.mp hx with rfl | hx
    · exact .inl (.base (List.mem_singleton.mpr rfl))
    · exact .inr (.base hx)
  | step _ hk hy ih=>exact ih.imp (fun h=>.step h hk hy) fun h=>.step h hk hy
theorem perm_erase {α:Type}:∀ {l:List α} {j:Nat} {m:α},l[j]? = some m→l.Perm (m :: l.eraseIdx j)
  | [],j,m,h=>by simp at h
  | x :: l,0,m,h=>by cases h; exact List.Perm.refl _
  | x :: l,j + 1,m,h=>((perm_erase (l:=l) (j:=j) (by simpa using h)).cons x).trans (List.Perm.swap ..)
theorem lt_uniq {a b:List Int} (ha:a.Pairwise (· < ·)) (hb:b.Pairwise (· < ·)) (h:∀ x,x ∈ a↔x ∈ b):a = b:=by
  have nd:∀ {l:List Int},l.Pairwise (· < ·)→l.Nodup:=fun h=>List.Pairwise.imp (fun h e=>by lia) h
  exact List.Perm.eq_of_pairwise (fun x y _ _ h1 h2=>by lia) ha hb ((List.perm_ext_iff_of_nodup (nd ha) (nd hb)).mpr h)
theorem un_add {p:Mp} {U old ks:List Int} {fr:List (Int×List Int)} (un:Un p U) (h:Fr old ks fr) (n:U.length + fr.length ≤ 1000):Un (addP p fr) (U ++ fr.map (·.1)):=by
  refine ⟨fun x k hx=>?_,by rw [List.length_append,List.length_map]; exact n⟩
  by_cases c:x ∈ fr.map (·.1)
  · obtain ⟨i,e,he,rfl⟩:=mem_at c
    rw [addP_at h.nd he] at hx
    cases hx
    exact ⟨List.mem_append_right _ c,(h.pt i e he).2.1⟩
  · rw [addP_out c] at hx
    exact ⟨List.mem_append_left _ (un.u x k hx).1,(un.u x k hx).2⟩
theorem ln_put (r:LR) (o:Option Int):putK (lnD r) (kT "root") (rtV o) = lnD { r with rt:=o }:=by
  unfold putK
  rw [valV_any,ln_r]
  simp only [Option.isSome_some,if_true]
  unfold lnD
  simp only [List.map_cons,List.map_nil]
  rw [if_neg (show ¬ (kT "base" = kT "root") by decide +kernel),if_neg (show ¬ (kT "makes" = kT "root") by decide +kernel),if_pos trivial]
noncomputable def Kw (M:List Addr) (H H':Hp):Prop:=∀ b u,b ∉ M→H b = some u→H' b = some u
theorem Kx.w {L M:List Addr} {H H':Hp} (k:Kx L H H') (s:∀ b ∈ L,b ∈ M):Kw M H H':=fun b u n e=>k.st b u (fun z=>n (s b z)) e
theorem Kw.trans {M:List Addr} {H H1 H2:Hp} (a:Kw M H H1) (b:Kw M H1 H2):Kw M H H2:=fun c u n e=>b c u n (a c u n e)
theorem kw_same {M:List Addr} {H H':Hp} (s:Same H H'):Kw M H H':=fun b u _ e=>s b u e
structure AS where
  S:Addr
  Pd:Addr
  Ls:Addr
  ln:Addr
  mka:Addr
  B:Addr
  bl:Addr
  th:Addr
  tl:Addr
  mb:Addr
  dx:Addr
  f1:Addr
  f2:Addr
  td:Addr
noncomputable def AS.M (a:AS):List Addr:=[a.S,a.Pd,a.Ls,a.ln,a.mka,a.B,a.bl,a.th,a.tl,a.mb]
noncomputable def AS.sel (a:AS) (js:List Nat):List Addr:=js.filterMap fun j=>a.M[j]?
theorem nd_at {l:List Addr} (nd:l.Nodup) {i j:Nat} {x y:Addr} (hi:l[i]? = some x) (hj:l[j]? = some y) (ne:i ≠ j):x ≠ y:=fun e=>by
  subst e
  obtain ⟨b1,c1⟩:=List.getElem?_eq_some_iff.mp hi
  obtain ⟨b2,c2⟩:=List.getElem?_eq_some_iff.mp hj
  exact ne ((List.getElem_inj nd).mp (c1.trans c2.symm))
theorem off {a:AS} (nd:a.M.Nodup) (i:Nat) (js:List Nat) {x:Addr} (hi:a.M[i]? = some x) (h:i ∉ js):x ∉ a.sel js:=fun z=>by
  obtain ⟨j,hj,e⟩:=List.mem_filterMap.mp z
  exact nd_at nd hi e (fun w=>h (w ▸ hj)) rfl
theorem at_sub {a:AS} (js:List Nat):∀ b ∈ a.sel js,b ∈ a.M:=fun b hb=>by
  obtain ⟨j,_,e⟩:=List.mem_filterMap.mp hb
  exact List.mem_of_getElem? e
noncomputable def AS.lr (a:AS) (ms:List (Int×Int)) (rt:Option Int):LR:=⟨1,a.ln,a.mka,0,ms,rt⟩
noncomputable def rsOf (ms:List (Int×Int)) (rt:Option Int):List Int:=ms.map (·.2) ++ rt.toList
theorem roots1 (a:AS) (ms:List (Int×Int)) (rt:Option Int):roots [a.lr ms rt] = rsOf ms rt:=by
  unfold roots
  show (a.lr ms rt |> lnR) ++ [] = _
  rw [List.append_nil]
  rfl
structure Wd (c:BC) (a:AS) (H:Hp) (n:Int) (pk:List (Key×V)) (p:Mp) (ms:List (Int×Int)) (rt:Option Int) (ks:List Int) (val:Int→Nat) (U:List Int):Prop where
  law:LawS a.M H a.S a.Pd a.Ls n pk p [a.lr ms rt]
  bk:BkS c a.M H a.B a.dx a.f1 a.f2 a.bl a.th a.Pd pk p
  ln:BkL c H a.bl a.tl a.td a.mb 1 0 ms rt
  th:∃ cs,H a.th = some (.dK cs)∧Th cs ks val
  held:Held p (rsOf ms rt) ks val
  un:Un p U
  nd:a.M.Nodup
  lm:ms.length ≤ 11
  inc:(ms.map (·.1)).Pairwise (· < ·)
  ne:ino ms rt ≠ []
section
variable {c:BC} {a:AS} {H H':Hp} {n:Int} {pk:List (Key×V)} {p:Mp} {ms:List (Int×Int)} {rt:Option Int} {ks:List Int} {val:Int→Nat} {U:List Int}
theorem Wd.few (w:Wd c a H n pk p ms rt ks val U):Few a.Ls [a.lr ms rt] :=
  ⟨(by show 1 ≤ 6; decide),fun r hr=>by rw [List.mem_singleton.mp hr]; exact Nat.le_succ_of_le w.lm,fun r hr=>by rw [List.mem_singleton.mp hr]; exact nd_at w.nd (i:=3) (j:=2) rfl rfl (by decide)⟩
theorem Wd.ap (w:Wd c a H n pk p ms rt ks val U):Ap a.S a.Pd a.Ls [a.lr ms rt] :=
  ⟨nd_at w.nd (i:=0) (j:=1) rfl rfl (by decide),nd_at w.nd (i:=0) (j:=2) rfl rfl (by decide),nd_at w.nd (i:=1) (j:=2) rfl rfl (by decide),fun r hr=>by rw [List.mem_singleton.mp hr]; exact ⟨nd_at w.nd (i:=3) (j:=0) rfl rfl (by decide),nd_at w.nd (i:=3) (j:=1) rfl rfl (by decide)⟩⟩
theorem Wd.mono (w:Wd c a H n pk p ms rt ks val U) (s:Same H H'):Wd c a H' n pk p ms rt ks val U:=by
  obtain ⟨cs,h1,h2⟩:=w.th
  exact ⟨w.law.mono s,w.bk.mono s,w.ln.mono s,⟨cs,s _ _ h1,h2⟩,w.held,w.un,w.nd,w.lm,w.inc,w.ne⟩
theorem Wd.dom (w:Wd c a H n pk p ms rt ks val U):∀ x,Rch p (roots [a.lr ms rt]) x→∃ k,p x = some k:=fun x hx=>by
  rw [roots1] at hx
  obtain ⟨k,hk,_⟩:=w.held.lay.dom x ((w.held.set x).mpr hx)
  exact ⟨k,hk⟩
theorem Wd.al (w:Wd c a H n pk p ms rt ks val U):∀ b ∈ a.M,∃ u,H b = some u:=fun b hb=>by
  obtain ⟨hd,vs,hm,_⟩:=w.law.ln _ (List.mem_singleton.mpr rfl)
  obtain ⟨cs,h1,h2⟩:=w.th
  obtain ⟨⟨bd,g1,g2⟩,g3,vm,g4,g5⟩:=w.ln
  unfold AS.M at hb
  simp only [List.mem_cons,List.not_mem_nil,or_false] at hb
  rcases hb with rfl | rfl | rfl | rfl | rfl | rfl | rfl | rfl | rfl | rfl
  · exact ⟨_,w.law.s⟩
  · exact ⟨_,w.law.pd⟩
  · exact ⟨_,w.law.l⟩
  · exact ⟨_,hd⟩
  · exact ⟨_,hm⟩
  · exact ⟨_,w.bk.b⟩
  · exact ⟨_,g1⟩
  · exact ⟨_,h1⟩
  · exact ⟨_,g3⟩
  · exact ⟨_,g4⟩
theorem Wd.kl (w:Wd c a H n pk p ms rt ks val U):ks.length ≤ U.length:=nd_len w.held.nd fun y hy=>by
  obtain ⟨k,hk,_⟩:=w.held.lay.dom y hy
  exact (w.un.u y k hk).1
theorem line_set {M L:List Addr} {S Pd Ls:Addr} {r r':LR} (h:LawS M H S Pd Ls n pk p [r]) (k:Kx L H H') (s:∀ b ∈ L,b ∈ M) (hS:S ∉ L) (hP:Pd ∉ L) (hL:Ls ∉ L) (e1:r'.id = r.id) (e2:r'.ln = r.ln) (d:LnAt H' r'):LawS M H' S Pd Ls n pk p [r'] :=
  ⟨k.st _ _ hS h.s,k.st _ _ hP h.pd,k.pc h.pc s,by
    rw [k.st _ _ hL h.l]
    unfold lsD
    show some (HO.dK [(Sum.inl r.id,.ref r.ln)]) = some (HO.dK [(Sum.inl r'.id,.ref r'.ln)])
    rw [e1,e2],fun x hx=>by rw [List.mem_singleton.mp hx]; exact d⟩
end
end K31
set_option maxHeartbeats 4000000
namespace K31
open PySem L2 Bk
theorem BkL.kx {c:BC} {L':List Addr} {H H':Hp} {bl tl td mk:Addr} {L b:Int} {ms:List (Int×Int)} {rt:Option Int} (h:BkL c H bl tl td mk L b ms rt) (k:Kx L' H H') (n1:bl ∉ L') (n2:tl ∉ L') (n3:mk ∉ L'):BkL c H' bl tl td mk L b ms rt:=by
  obtain ⟨⟨bd,h1,h2⟩,h3,vs,h4,h5⟩:=h
  exact ⟨⟨bd,k.st _ _ n1 h1,h2⟩,k.st _ _ n2 h3,vs,k.st _ _ n3 h4,h5.keep fun _ _ e=>k.tup e⟩
theorem mu_up {H H1:Hp} {x:Addr} {u:HO} (s:Same H H1) (m:Mu (H x)):Kx [x] H (upd H1 x u):=by
  have k:Kx [x] H H1:=⟨fun b u _ e=>s _ _ e,fun b hb=>by rw [List.mem_singleton.mp hb]; exact m⟩
  exact k.over (.inl (List.mem_singleton.mpr rfl)) u
section
variable {P:Program} {w:World} {K:PySem.W.Frag} {mg:Str→Option Value} {base:Heap} {f:Addr} {fd:FuncData} {c:BC}
noncomputable def DedQ (c:BC) (a:AS) (H:Hp) (pk:List (Key×V)) (ks U:List Int) (Q:VK):Prop:=∀ (H':Hp) (n':Int) (pk':List (Key×V)) (p':Mp) (ms':List (Int×Int)) (rt':Option Int) (ks':List Int) (val':Int→Nat) (U':List Int) (rl:Addr) (fr:List Int),
  Wd c a H' n' pk' p' ms' rt' ks' val' U'→pk'.length ≤ pk.length + 4→U'.length ≤ U.length + 4→Kw a.M H H'→H' rl = some (.lst (fr.map V.int))→fr.Pairwise (· < ·)→(∀ x,x ∈ fr↔x ∈ ks∧x ∉ ks')→Q (.ref rl) H'
noncomputable def spDed (c:BC):Sp:=fun vs H Q _=>∃ (a:AS) (nl:Addr) (n:Int) (pk:List (Key×V)) (p:Mp) (ms:List (Int×Int)) (rt:Option Int) (ks:List Int) (val:Int→Nat) (U ns:List Int),vs = [.ref a.B,.ref a.S,.ref nl]∧Wd c a H n pk p ms rt ks val U∧H nl = some (.lst (ns.map V.int))∧nl ∉ a.M∧ns.length = 12∧(∀ x ∈ ns,0 ≤ x)∧pk.length ≤ 900∧U.length ≤ 900∧DedQ c a H pk ks U Q
theorem grow {p:Mp} {R ks old ks2:List Int} {val:Int→Nat} {r0 r1:Int} {fr:List (Int×List Int)} (hH:Held p (r0 :: R) ks val) (hold:∀ x,x ∈ old↔Rch p [r0] x) (e2:∀ x,x ∈ ks2↔x ∈ ks) (hfr:Fr old ks2 fr) (hr:r1 ∈ fr.map (·.1)) :
    Held (addP p fr) (r0 :: R) ks val∧(∀ V:List Int,(∀ x ∈ V,Rch (addP p fr) (r1 :: r0 :: R) x)→Lay (addP p fr) V) ∧
    ∀ (ks':List Int) (val':Int→Nat),Held (addP p fr) (r1 :: R) ks' val'→∀ x,(Rch (addP p fr) (r1 :: r0 :: R) x∧x ∉ ks')↔x ∈ ks∧x ∉ ks':=by
  have f2:Fr old ks fr:=⟨hfr.nd,fun x hx z=>hfr.out x hx ((e2 x).mpr z),hfr.pt⟩
  have ho:∀ x ∈ old,x ∈ ks:=fun x hx=>(hH.set x).mpr (((hold x).mp hx).mono fun y hy=>by rw [List.mem_singleton.mp hy]; exact List.mem_cons_self ..)
  have h2:Held (addP p fr) (r0 :: R) ks val:=hH.cong fun x hx=>f2.same hx
  refine ⟨h2,fun V hV=>f2.lay hH ho fun x hx=>f2.rch hH ho hr (hV x hx),fun ks' val' h' x=>?_⟩
  constructor
  · rintro ⟨hx,no⟩
    rcases rch_split hx with z | z
    · exact absurd ((h'.set x).mpr (z.mono fun y hy=>by rw [List.mem_singleton.mp hy]; exact List.mem_cons_self ..)) no
    · exact ⟨(h2.set x).mpr z,no⟩
  · rintro ⟨hx,no⟩
    exact ⟨((h2.set x).mp hx).mono fun y hy=>List.mem_cons_of_mem _ hy,no⟩
theorem rs_some (ms:List (Int×Int)) (r:Int):(rsOf ms (some r)).Perm (r :: ms.map (·.2)):=by
  unfold rsOf
  exact List.perm_append_comm
theorem scDed:FnScope ["_law_book_here","_law_state","_law_numbers","_law_line","_law_way","_law_root","_law_stamp"] ["_law_book_here","_law_state","_law_numbers"] (defScope sDed):=⟨rfl,rfl,rfl,by decide +kernel,rfl,by decide +kernel,by decide +kernel⟩
theorem ok_Ded {fTre fRea fMst fCGr fCMd fCEn fCUn:Addr} {dTre dRea dMst dCGr dCMd dCEn dCUn:FuncData} (F:Fun K "_law_deed" "_law_deed" sDed f fd) (cf:CF K c) (T:Txt mg)
    (hTre:Has K mg "_law_tree" sTre ["_law_state","_law_numbers","_law_old"] fTre dTre) (GTre:FnOk P w K mg base CX0 3 fTre dTre ["_law_state","_law_numbers","_law_old"] spTre)
    (hRea:Has K mg "_law_reach" sRea ["_law_pieces","_law_roots"] fRea dRea) (GRea:FnOk P w K mg base CX0 1 fRea dRea ["_law_pieces","_law_roots"] spRea)
    (hMst:Has K mg "_law_made_stamp" sMst ["_law_state","_law_line","_law_number"] fMst dMst) (GMst:FnOk P w K mg base CX0 1 fMst dMst ["_law_state","_law_line","_law_number"] spMst)
    (hCGr:MHas K c.C "grown" "Counts.grown" sCGr ["self","line","root"] fCGr dCGr) (GCGr:FnOk P w K mg base CX0 4 fCGr dCGr ["self","line","root"] (spCGr c))
    (hCMd:MHas K c.C "made" "Counts.made" sCMd ["self","line","stamp"] fCMd dCMd) (GCMd:FnOk P w K mg base CX0 4 fCMd dCMd ["self","line","stamp"] (spCMd c))
    (hCEn:MHas K c.C "ended" "Counts.ended" sCEn ["self","line"] fCEn dCEn) (GCEn:FnOk P w K mg base CX0 4 fCEn dCEn ["self","line"] (spCEn c))
    (hCUn:MHas K c.C "unmade" "Counts.unmade" sCUn ["self","line","stamp"] fCUn dCUn) (GCUn:FnOk P w K mg base CX0 4 fCUn dCUn ["self","line","stamp"] (spCUn c)) :
    FnOk P w K mg base CX0 5 f fd ["_law_book_here","_law_state","_law_numbers"] (spDed c):=by
  refine F.ok scDed (fun vs H Q E h=>?_) (fun cdv A outer s H vs Q E hr h=>?_)
  · obtain ⟨a,nl,n,pk,p,ms,rt,ks,val,U,ns,rfl,_⟩:=h
    rfl
  obtain ⟨a,nl,n,pk,p,ms,rt,ks,val,U,ns,rfl,wd,hnl,nnl,l12,nn0,lpk,lU,q⟩:=h
  have hu:=hu_of hr
  refine ⟨_,(pss_cons (ps_set (i:=3) scDed.nd rfl (Or.inl rfl) (pe_dget hu (pe_dget hu (pv 1) pe_str (fun _ _=>rfl)) pe_int (fun _ _=>rfl)))
    (pss_cons (ps_set (i:=4) scDed.nd rfl (Or.inl rfl) (pe_op op_mod (pe_ix ix_list (pv 2) pe_int (fun _ _=>rfl)) pe_int))
    (pss_cons (ps_if (PW.pt (pw_and (pt_cmpR op_notN (pe_dget hu (pv 3) pe_str (fun _ _=>rfl)) pe_non (nomark _)) (pw_and1 (pt_cmpR op_lt (pv 4) pe_int (nomark _)))))
    (pss_cons (ps_set (i:=5) scDed.nd rfl (Or.inl rfl) (pe_call GTre (hr.mono (by decide)) rfl hTre.nm hTre.fn.kp hTre.bd .nil pass0 (pc (pv 1) (pc (pv 2) (pc (pe_call GRea (hr.mono (by decide)) rfl hRea.nm hRea.fn.kp hRea.bd .nil pass0 (pc (pe_dget hu (pv 1) pe_str (fun _ _=>rfl)) (pc (pe_lst (pc (pe_dget hu (pv 3) pe_str (fun _ _=>rfl)) pa_nil)) pa_nil))) pa_nil)))))
    (pss_cons (ps_dput hu (pv 3) pe_str (pv 5) rfl)
    (pss_one (ps_ret (pe_meth (pv 0) cf.clC hCGr.me GCGr (hr.mono (by decide)) hCGr.bd .nil pass0 (pc pe_int (pc (pv 5) pa_nil)))))))
    pss_nil)
    (pss_cons (ps_if (PW.pt (pw_and (pt_cmpR op_notN (pe_dget hu (pv 3) pe_str (fun _ _=>rfl)) pe_non (nomark _)) (pw_and (pt_cmpR op_lt (pv 4) pe_int (nomark _)) (pw_and1 (pt_cmpR op_lt (pe_callB call_len_seq rfl T.len PySem.boot_len (pc (pe_dget hu (pv 3) pe_str (fun _ _=>rfl)) pa_nil)) pe_int (nomark _))))))
    (pss_cons (ps_set (i:=6) scDed.nd rfl (Or.inl rfl) (pe_call GMst (hr.mono (by decide)) rfl hMst.nm hMst.fn.kp hMst.bd .nil pass0 (pc (pv 1) (pc (pv 3) (pc (pe_ix ix_list (pv 2) pe_int (fun _ _=>rfl)) pa_nil)))))
    (pss_cons (ps_expr (pe_bm PySem.F.plainAttrs_list PySem.F.slot_list_append PySem.F.type_list_append mt_append (pe_dget hu (pv 3) pe_str (fun _ _=>rfl)) (pc (pe_tup (pc (pv 6) (pc (pe_dget hu (pv 3) pe_str (fun _ _=>rfl)) pa_nil))) pa_nil)))
    (pss_cons (ps_expr (pe_meth (pv 0) cf.clC hCMd.me GCMd (hr.mono (by decide)) hCMd.bd .nil pass0 (pc pe_int (pc (pv 6) pa_nil))))
    (pss_one (ps_ret (pe_lst pa_nil))))))
    pss_nil)
    (pss_cons (ps_if (PW.pt (pw_and (pt_cmpR op_notN (pe_dget hu (pv 3) pe_str (fun _ _=>rfl)) pe_non (nomark _)) (pw_and (pt_cmpR op_eq (pv 4) pe_int (nomark _)) (pw_and1 (pt_cmpR (op_neE (hu_of hr |> Nat.lt_of_succ_lt)) (pe_dget hu (pv 3) pe_str (fun _ _=>rfl)) (pe_lst pa_nil) (nomark _))))))
    (pss_cons (ps_dput hu (pv 3) pe_str pe_non rfl)
    (pss_one (ps_ret (pe_meth (pv 0) cf.clC hCEn.me GCEn (hr.mono (by decide)) hCEn.bd .nil pass0 (pc pe_int pa_nil)))))
    pss_nil)
    (pss_cons (ps_if (PW.pt (pw_and (pt_cmpR (op_neE (hu_of hr |> Nat.lt_of_succ_lt)) (pe_dget hu (pv 3) pe_str (fun _ _=>rfl)) (pe_lst pa_nil) (nomark _)) (pw_and1 (PW.pt (pw_or (pt_cmpR op_gt (pe_callB call_len_seq rfl T.len PySem.boot_len (pc (pe_dget hu (pv 3) pe_str (fun _ _=>rfl)) pa_nil)) pe_int (nomark _)) (pw_or1 (pt_cmpR op_notN (pe_dget hu (pv 3) pe_str (fun _ _=>rfl)) pe_non (nomark _))))))))
    (pss_cons (ps_asg (pe_bm PySem.F.plainAttrs_list PySem.F.slot_list_pop PySem.F.type_list_pop mt_popAt (pe_dget hu (pv 3) pe_str (fun _ _=>rfl)) (pc (pe_op op_mod (pe_ix ix_list (pv 2) pe_int (fun _ _=>rfl)) (pe_callB call_len_seq rfl T.len PySem.boot_len (pc (pe_dget hu (pv 3) pe_str (fun _ _=>rfl)) pa_nil))) pa_nil)) (pg_tup rfl (pgs_cons (pg_name (i:=6) scDed.nd rfl (Or.inl rfl)) (pgs_cons (pg_name (i:=5) scDed.nd rfl (Or.inl rfl)) pgs_nil))))
    (pss_one (ps_ret (pe_meth (pv 0) cf.clC hCUn.me GCUn (hr.mono (by decide)) hCUn.bd .nil pass0 (pc pe_int (pc (pv 6) pa_nil))))))
    pss_nil)
    (pss_one (ps_ret (pe_lst pa_nil))))))))),?_⟩
  have atN:∀ {i:Nat} {z:Int},ns[i]? = some z→atI (ns.map V.int) (i:Int) = some (.int z):=fun h=>atI_nat (by rw [List.getElem?_map,h]; rfl)
  obtain ⟨z10,e10⟩:∃ z,ns[10]? = some z:=⟨_,List.getElem?_eq_getElem (by lia)⟩
  obtain ⟨z11,e11⟩:∃ z,ns[11]? = some z:=⟨_,List.getElem?_eq_getElem (by lia)⟩
  have p11:0 ≤ z11:=nn0 _ (List.mem_of_getElem? e11)
  obtain ⟨hd,vm,hm,hat⟩:=wd.law.ln _ (List.mem_singleton.mpr rfl)
  change H a.ln = some (.dK (lnD (a.lr ms rt))) at hd
  change H a.mka = some (.lst vm) at hm
  change MkAt H vm ms at hat
  have lv:=hat.len
  have lms:=wd.lm
  refine ⟨_,rfl,a.S,_,rfl,gtK (k:=kT "lines") wd.law.s (st_l _ _ _),a.Ls,_,rfl,gtK (k:=Sum.inl 1) wd.law.l (valV_pos rfl),?_⟩
  refine ⟨_,rfl,nl,_,10,_,rfl,rfl,SqL.of hnl,atN (i:=10) e10,_,_,rfl,rfl,(by show (0:Int) < 16; decide),?_⟩
  dsimp only
  generalize z10 % 16 = way
  have dom:=wd.dom
  have ukl:ks.length ≤ 900:=Nat.le_trans wd.kl lU
  have last:∀ {H1:Hp} {σ:St},Same H H1→∀ l,H1 l = none→Q (.ref l) (upd H1 l (.lst [])):=fun {H1 σ} s1 l hl =>
    q _ n pk p ms rt ks val U l [] (wd.mono (s1.trans (same_new hl _))) (by lia) (by lia) (kw_same (s1.trans (same_new hl _))) upd_same List.Pairwise.nil fun x=>⟨(fun h=>nomatch h),fun h=>absurd h.1 h.2⟩
  have ndM:=wd.nd
  have hr1:∀ {H1:Hp},Same H H1→H1 a.ln = some (.dK (lnD (a.lr ms rt)))∧H1 a.mka = some (.lst vm)∧H1 nl = some (.lst (ns.map V.int)):=fun s=>⟨s _ _ hd,s _ _ hm,s _ _ hnl⟩
  refine seq_in (if_rest (fun σ' H'=>σ' = [some (.ref a.B),some (.ref a.S),some (.ref nl),some (.ref a.ln),some (.int way),none,none]∧Same H H') (fun σ' H1 hR=>?_) (fun go=>?_))
  rotate_left
  · refine ⟨_,rfl,a.ln,_,rfl,gtK (k:=kT "root") hd (ln_r _),rfl,_,rfl,?_⟩
    cases rt with
    | none=>exact iteF (iteF (go _ _ ⟨rfl,Same.refl _⟩))
    | some r0 =>
      refine iteT ⟨_,rfl,_,_,rfl,rfl,_,rfl,ite2 (fun _=>?_) (fun _=>go _ _ ⟨rfl,Same.refl _⟩)⟩
      obtain ⟨cs,hth,hTh⟩:=wd.th
      have hH:=wd.held.roots (rs_some ms r0)
      refine ⟨_,rfl,_,rfl,_,rfl,a.S,_,rfl,gtK (k:=kT "pieces") wd.law.s (st_p _ _ _),_,rfl,a.ln,_,rfl,gtK (k:=kT "root") hd (ln_r _),(by show 1 ≤ sizeLine; decide),fun l hl=>?_⟩
      have sl:=same_new hl (HO.lst [V.int r0])
      have wl:=wd.mono sl
      refine ⟨a.Pd,l,a.M,pk,p,U,[r0],rfl,wl.law.pd,wl.law.pc,upd_same,(by show 1 ≤ 100; decide),fun x hx=>dom x (by rw [roots1]; exact hx.mono fun y hy=>(rs_some ms r0).mem_iff.mpr (by rw [List.mem_singleton.mp hy]; exact List.mem_cons_self ..)),wd.un,fun od H5 old s5 hod eod ndo hold=>?_⟩
      have w5:=wl.mono s5
      have hod0:H od = none:=sl.free hod
      refine ⟨a.S,a.Pd,a.Ls,nl,od,a.M,n,pk,p,_,U,ns,old,rfl,w5.law,w5.few,w5.ap,w5.al,s5 _ _ (sl _ _ hnl),l12,nn0,.inl eod,(fun z=>by rw [z,wd.law.s] at hod0; cases hod0),(fun z=>by rw [z,wd.law.pd] at hod0; cases hod0),?_,dom,wd.un,lpk,fun H6 pk6 fr r1 ks6 k6 L6 nd6 hks6 hfr lfr hk lpk6=>?_⟩
      · have:=nd_len ndo (b:=ks) fun x hx=>(hH.set x).mpr (((hold x).mp hx).mono fun y hy=>by rw [List.mem_singleton.mp hy]; exact List.mem_cons_self ..)
        lia
      have hr1m:r1 ∈ fr.map (·.1):=by
        obtain ⟨k,hk⟩:=hk
        exact List.mem_map.mpr ⟨_,hk,rfl⟩
      have B6:BkS c a.M H6 a.B a.dx a.f1 a.f2 a.bl a.th a.Pd pk6 (addP p fr):=⟨k6.st _ _ (off ndM 5 [0,1] rfl (by decide)) w5.bk.b,k6.clo w5.bk.clo,L6.pd,L6.pc,w5.bk.nt⟩
      have ln6:=w5.ln.kx k6 (off ndM 6 [0,1] rfl (by decide)) (off ndM 8 [0,1] rfl (by decide)) (off ndM 9 [0,1] rfl (by decide))
      have th6:=k6.st _ _ (off ndM 7 [0,1] rfl (by decide)) (s5 _ _ (sl _ _ hth))
      obtain ⟨hd6,vm6,hm6,hat6⟩:=L6.ln _ (List.mem_singleton.mpr rfl)
      change H6 a.ln = some (.dK (lnD (a.lr ms (some r0)))) at hd6
      refine ⟨_,rfl,_,rfl,a.ln,_,rfl,DPut.k (k:=kT "root") (v:=V.int r1) hd6 (small (by show 3 ≤ 100000; decide)),?_⟩
      rw [show putK (lnD (a.lr ms (some r0))) (kT "root") (V.int r1) = lnD (a.lr ms (some r1)) from ln_put (a.lr ms (some r0)) (some r1)]
      have k7:Kx [a.ln] H6 (upd H6 a.ln (.dK (lnD (a.lr ms (some r1))))):=mu_up (Same.refl _) (.inr (.inl ⟨_,hd6⟩))
      have d7:upd H6 a.ln (.dK (lnD (a.lr ms (some r1)))) a.ln = some (.dK (lnD (a.lr ms (some r1)))):=upd_same
      revert k7 d7
      generalize upd H6 a.ln (.dK (lnD (a.lr ms (some r1)))) = H7
      intro k7 d7
      have L7:LawS a.M H7 a.S a.Pd a.Ls (n + 1) pk6 (addP p fr) [a.lr ms (some r1)]:=line_set L6 k7 (at_sub [3]) (off ndM 0 [3] rfl (by decide)) (off ndM 1 [3] rfl (by decide)) (off ndM 2 [3] rfl (by decide)) rfl rfl ⟨d7,vm6,k7.st _ _ (off ndM 4 [3] rfl (by decide)) hm6,hat6.keep fun _ _ e=>k7.tup e⟩
      have B7:=B6.kx2 k7 (at_sub [3]) (off ndM 5 [3] rfl (by decide)) (off ndM 1 [3] rfl (by decide))
      have ln7:=ln6.kx k7 (off ndM 6 [3] rfl (by decide)) (off ndM 8 [3] rfl (by decide)) (off ndM 9 [3] rfl (by decide))
      have th7:=k7.st _ _ (off ndM 7 [3] rfl (by decide)) th6
      obtain ⟨h2,lay,frx⟩:=grow hH hold (fun x=>by rw [hks6,roots1,wd.held.set]) hfr hr1m
      have un7:=un_add wd.un hfr (by lia)
      refine ⟨_,rfl,a.B,a.dx,_,rfl,B7.b,rfl,_,rfl,a.B,a.dx,a.f1,a.f2,a.bl,a.th,a.Pd,a.tl,a.td,a.mb,a.M,pk6,cs,addP p fr,ms.map (·.2),ks,U ++ fr.map (·.1),val,1,0,r0,r1,ms,rfl,B7,at_sub [7] _ (List.mem_singleton.mpr rfl),at_sub [8] _ (List.mem_singleton.mpr rfl),th7,hTh,h2,ln7,lay,un7,fun H8 cs8 ks8 val8 rl fr8 k8 t8 th8 Th8 held8 rl0 erl pw hfr8=>?_⟩
      obtain ⟨⟨bd,g1,g2⟩,_,vmb,g4,g5⟩:=ln7
      refine q H8 (n + 1) pk6 (addP p fr) ms (some r1) ks8 val8 (U ++ fr.map (·.1)) rl fr8 ⟨L7.kx k8 (at_sub [8,7]) (off ndM 0 [8,7] rfl (by decide)) (off ndM 1 [8,7] rfl (by decide)) (off ndM 2 [8,7] rfl (by decide)) (fun r hr=>by rw [List.mem_singleton.mp hr]; exact ⟨off ndM 3 [8,7] rfl (by decide),off ndM 4 [8,7] rfl (by decide)⟩),B7.kx2 k8 (at_sub [8,7]) (off ndM 5 [8,7] rfl (by decide)) (off ndM 1 [8,7] rfl (by decide)),
        ⟨⟨bd,k8.st _ _ (off ndM 6 [8,7] rfl (by decide)) g1,g2⟩,t8,vmb,k8.st _ _ (off ndM 9 [8,7] rfl (by decide)) g4,g5.keep fun _ _ e=>k8.tup e⟩,⟨cs8,th8,Th8⟩,held8.roots (rs_some ms r1).symm,un7,ndM,lms,wd.inc,by unfold ino; simp⟩ lpk6 (by rw [List.length_append,List.length_map]; lia) ?_ erl pw fun x=>(hfr8 x).trans (frx ks8 val8 held8 x)
      exact (kw_same (sl.trans s5)).trans ((Kx.w k6 (at_sub [0,1])).trans ((Kx.w k7 (at_sub [3])).trans (Kx.w k8 (at_sub [8,7]))))
  obtain ⟨rfl,s1⟩:=hR
  refine seq_in (if_rest (fun σ' H'=>σ' = [some (.ref a.B),some (.ref a.S),some (.ref nl),some (.ref a.ln),some (.int way),none,none]∧Same H H') (fun σ' H2 hR=>?_) (fun go=>?_))
  rotate_left
  · obtain ⟨d1,m1,n1⟩:=hr1 s1
    refine ⟨_,rfl,a.ln,_,rfl,gtK (k:=kT "root") d1 (ln_r _),rfl,_,rfl,?_⟩
    cases rt with
    | none=>exact iteF (iteF (go _ _ ⟨rfl,s1⟩))
    | some r0 =>
      refine iteT ⟨_,rfl,_,_,rfl,rfl,_,rfl,ite2 (fun _=>?_) (fun _=>iteF (go _ _ ⟨rfl,s1⟩))⟩
      refine ⟨_,rfl,a.ln,_,rfl,gtK (k:=kT "makes") d1 (ln_m _),a.mka,_,rfl,.inl (SqL.of m1),_,_,rfl,rfl,_,rfl,ite2 (fun l11=>?_) (fun _=>go _ _ ⟨rfl,s1⟩)⟩
      have w1:=wd.mono s1
      obtain ⟨cs,hth,hTh⟩:=w1.th
      refine ⟨_,rfl,_,rfl,_,rfl,nl,_,11,_,rfl,rfl,SqL.of n1,atN (i:=11) e11,a.S,a.Pd,a.Ls,a.M,n,z11,pk,p,[a.lr ms (some r0)],a.lr ms (some r0),rfl,w1.law,w1.ap,List.mem_singleton.mpr rfl,wd.inc,fun H4 z n' k4 L4 hz=>?_⟩
      have B4:=w1.bk.kx2 k4 (at_sub [0]) (off ndM 5 [0] rfl (by decide)) (off ndM 1 [0] rfl (by decide))
      have ln4:=w1.ln.kx k4 (off ndM 6 [0] rfl (by decide)) (off ndM 8 [0] rfl (by decide)) (off ndM 9 [0] rfl (by decide))
      have th4:=k4.st _ _ (off ndM 7 [0] rfl (by decide)) hth
      obtain ⟨hd4,vm4,hm4,hat4⟩:=L4.ln _ (List.mem_singleton.mpr rfl)
      change H4 a.ln = some (.dK (lnD (a.lr ms (some r0)))) at hd4
      change H4 a.mka = some (.lst vm4) at hm4
      change MkAt H4 vm4 ms at hat4
      have lv4:=hat4.len
      refine ⟨_,rfl,a.ln,_,rfl,gtK (k:=kT "makes") hd4 (ln_m _),.inl ⟨rfl,_,SqL.of hm4⟩,_,rfl,_,rfl,a.ln,_,rfl,gtK (k:=kT "root") hd4 (ln_r _),(by show 2 ≤ sizeLine; decide),fun t ht=>?_⟩
      have st:=same_new ht (HO.tup [.int z,rtV (a.lr ms (some r0)).rt])
      refine ⟨a.mka,_,_,rfl,rfl,st _ _ hm4,small (by lia),?_⟩
      have k6:Kx [a.mka] H4 (upd (upd H4 t (HO.tup [.int z,rtV (a.lr ms (some r0)).rt])) a.mka (.lst (vm4 ++ [.ref t]))):=mu_up st (.inl ⟨_,hm4⟩)
      have ntm:t ≠ a.mka:=fun z=>by rw [z,hm4] at ht; cases ht
      have et6:upd (upd H4 t (HO.tup [.int z,rtV (a.lr ms (some r0)).rt])) a.mka (.lst (vm4 ++ [.ref t])) t = some (.tup [.int z,.int r0]):=by rw [upd_ne ntm,upd_same]; rfl
      have em6:upd (upd H4 t (HO.tup [.int z,rtV (a.lr ms (some r0)).rt])) a.mka (.lst (vm4 ++ [.ref t])) a.mka = some (.lst (vm4 ++ [.ref t])):=upd_same
      revert k6 et6 em6
      generalize upd (upd H4 t (HO.tup [.int z,rtV (a.lr ms (some r0)).rt])) a.mka (.lst (vm4 ++ [.ref t])) = H6
      intro k6 et6 em6
      have L6:LawS a.M H6 a.S a.Pd a.Ls n' pk p [a.lr (ms ++ [(z,r0)]) (some r0)]:=line_set L4 k6 (at_sub [4]) (off ndM 0 [4] rfl (by decide)) (off ndM 1 [4] rfl (by decide)) (off ndM 2 [4] rfl (by decide)) rfl rfl ⟨k6.st _ _ (off ndM 3 [4] rfl (by decide)) hd4,_,em6,MkAt.snoc (m:=(z,r0)) et6 (hat4.keep fun _ _ e=>k6.tup e)⟩
      have B6:=B4.kx2 k6 (at_sub [4]) (off ndM 5 [4] rfl (by decide)) (off ndM 1 [4] rfl (by decide))
      have ln6:=ln4.kx k6 (off ndM 6 [4] rfl (by decide)) (off ndM 8 [4] rfl (by decide)) (off ndM 9 [4] rfl (by decide))
      have th6:=k6.st _ _ (off ndM 7 [4] rfl (by decide)) th4
      refine ⟨_,rfl,a.B,a.dx,_,rfl,B6.b,rfl,_,rfl,a.B,a.dx,a.f1,a.f2,a.bl,a.th,a.Pd,a.tl,a.td,a.mb,a.M,pk,cs,p,rsOf ms (some r0),ks,U,val,1,0,z,r0,ms,rfl,B6,at_sub [7] _ (List.mem_singleton.mpr rfl),at_sub [9] _ (List.mem_singleton.mpr rfl),th6,hTh,wd.held,ln6,by lia,(rs_some ms r0).mem_iff.mpr (List.mem_cons_self ..),wd.un,fun H7 vm7 cs7 ks7 val7 k7 em7 hat7 th7 Th7 held7=>?_⟩
      refine ⟨Nat.zero_le _,fun l hl=>?_⟩
      have sl:=same_new hl (HO.lst [])
      obtain ⟨⟨bd,g1,g2⟩,g3,_⟩:=ln6
      have hpm:(r0 :: rsOf ms (some r0)).Perm (rsOf (ms ++ [(z,r0)]) (some r0)):=by
        unfold rsOf
        rw [List.map_append]
        exact List.perm_append_comm (l₁:=[r0])
      have w7:Wd c a H7 n' pk p (ms ++ [(z,r0)]) (some r0) ks7 val7 U:=⟨L6.kx k7 (at_sub [9,7]) (off ndM 0 [9,7] rfl (by decide)) (off ndM 1 [9,7] rfl (by decide)) (off ndM 2 [9,7] rfl (by decide)) (fun r hr=>by rw [List.mem_singleton.mp hr]; exact ⟨off ndM 3 [9,7] rfl (by decide),off ndM 4 [9,7] rfl (by decide)⟩),B6.kx2 k7 (at_sub [9,7]) (off ndM 5 [9,7] rfl (by decide)) (off ndM 1 [9,7] rfl (by decide)),
        ⟨⟨bd,k7.st _ _ (off ndM 6 [9,7] rfl (by decide)) g1,g2⟩,k7.st _ _ (off ndM 8 [9,7] rfl (by decide)) g3,vm7,em7,hat7⟩,⟨cs7,th7,Th7⟩,held7.roots hpm,wd.un,ndM,by
          have l11':(vm.length:Int) < 11:=by simpa using l11
          rw [List.length_append]
          show ms.length + 1 ≤ 11
          lia,by
          rw [List.map_append,List.pairwise_append]
          exact ⟨wd.inc,List.pairwise_singleton _ _,fun x hx y hy=>by
            obtain ⟨m,hm',rfl⟩:=List.mem_map.mp hx
            have:y = z:=by simpa using hy
            rw [this]
            exact hz m hm'⟩,by unfold ino; simp⟩
      refine q _ n' pk p _ _ ks7 val7 U l [] (w7.mono sl) (by lia) (by lia) ?_ upd_same List.Pairwise.nil fun x=>⟨(fun h=>nomatch h),fun h=>?_⟩
      · exact (kw_same s1).trans ((Kx.w k4 (at_sub [0])).trans ((Kx.w k6 (at_sub [4])).trans ((Kx.w k7 (at_sub [9,7])).trans (kw_same sl))))
      · exact absurd ((held7.set x).mpr (((wd.held.set x).mp h.1).mono fun y hy=>List.mem_cons_of_mem _ hy)) h.2
  obtain ⟨rfl,s2⟩:=hR
  refine seq_in (if_rest (fun σ' H'=>σ' = [some (.ref a.B),some (.ref a.S),some (.ref nl),some (.ref a.ln),some (.int way),none,none]∧Same H H') (fun σ' H3 hR=>?_) (fun go=>?_))
  rotate_left
  · obtain ⟨d1,m1,n1⟩:=hr1 s2
    refine ⟨_,rfl,a.ln,_,rfl,gtK (k:=kT "root") d1 (ln_r _),rfl,_,rfl,?_⟩
    cases rt with
    | none=>exact iteF (iteF (go _ _ ⟨rfl,s2⟩))
    | some r0 =>
      refine iteT ⟨_,rfl,rfl,_,rfl,ite2 (fun _=>?_) (fun _=>iteF (go _ _ ⟨rfl,s2⟩))⟩
      refine ⟨_,rfl,a.ln,_,rfl,gtK (k:=kT "makes") d1 (ln_m _),Nat.zero_le _,fun pe hpe=>?_⟩
      have se:=same_new hpe (HO.lst [])
      refine ⟨a.mka,pe,_,rfl,rfl,SqL.of (se _ _ m1),SqL.of upd_same,_,rfl,ite2 (fun nem=>?_) (fun _=>go _ _ ⟨rfl,s2.trans se⟩)⟩
      have w5:=wd.mono (s2.trans se)
      have hne:ms ≠ []:=fun z=>by
        rw [z] at lv
        rw [List.length_eq_zero_iff.mp lv] at nem
        exact absurd nem (by decide)
      have kw5:Kw a.M H (upd H2 pe (HO.lst [])):=kw_same (s2.trans se)
      revert kw5 w5
      generalize upd H2 pe (HO.lst []) = H5
      intro w5 kw5
      obtain ⟨cs,hth,hTh⟩:=w5.th
      obtain ⟨hd5,vm5,hm5,hat5⟩:=w5.law.ln _ (List.mem_singleton.mpr rfl)
      change H5 a.ln = some (.dK (lnD (a.lr ms (some r0)))) at hd5
      refine ⟨_,rfl,a.ln,_,rfl,DPut.k (k:=kT "root") (v:=V.non) hd5 (small (by show 3 ≤ 100000; decide)),?_⟩
      rw [show putK (lnD (a.lr ms (some r0))) (kT "root") V.non = lnD (a.lr ms none) from ln_put (a.lr ms (some r0)) none]
      have k7:Kx [a.ln] H5 (upd H5 a.ln (.dK (lnD (a.lr ms none)))):=mu_up (Same.refl _) (.inr (.inl ⟨_,hd5⟩))
      have d7:upd H5 a.ln (.dK (lnD (a.lr ms none))) a.ln = some (.dK (lnD (a.lr ms none))):=upd_same
      revert k7 d7
      generalize upd H5 a.ln (.dK (lnD (a.lr ms none))) = H7
      intro k7 d7
      have L7:LawS a.M H7 a.S a.Pd a.Ls n pk p [a.lr ms none]:=line_set w5.law k7 (at_sub [3]) (off ndM 0 [3] rfl (by decide)) (off ndM 1 [3] rfl (by decide)) (off ndM 2 [3] rfl (by decide)) rfl rfl ⟨d7,vm5,k7.st _ _ (off ndM 4 [3] rfl (by decide)) hm5,hat5.keep fun _ _ e=>k7.tup e⟩
      have B7:=w5.bk.kx2 k7 (at_sub [3]) (off ndM 5 [3] rfl (by decide)) (off ndM 1 [3] rfl (by decide))
      have ln7:=w5.ln.kx k7 (off ndM 6 [3] rfl (by decide)) (off ndM 8 [3] rfl (by decide)) (off ndM 9 [3] rfl (by decide))
      have th7:=k7.st _ _ (off ndM 7 [3] rfl (by decide)) hth
      refine ⟨_,rfl,a.B,a.dx,_,rfl,B7.b,rfl,a.B,a.dx,a.f1,a.f2,a.bl,a.th,a.Pd,a.tl,a.td,a.mb,a.M,pk,cs,p,ms.map (·.2),ks,U,val,1,0,r0,ms,rfl,B7,at_sub [7] _ (List.mem_singleton.mpr rfl),at_sub [8] _ (List.mem_singleton.mpr rfl),th7,hTh,wd.held.roots (rs_some ms r0),ln7,by lia,hne,wd.un,fun H8 cs8 ks8 val8 rl fr8 k8 t8 th8 Th8 held8 rl0 erl pw hfr8=>?_⟩
      obtain ⟨⟨bd,g1,g2⟩,_,vmb,g4,g5⟩:=ln7
      refine q H8 n pk p ms none ks8 val8 U rl fr8 ⟨L7.kx k8 (at_sub [8,7]) (off ndM 0 [8,7] rfl (by decide)) (off ndM 1 [8,7] rfl (by decide)) (off ndM 2 [8,7] rfl (by decide)) (fun r hr=>by rw [List.mem_singleton.mp hr]; exact ⟨off ndM 3 [8,7] rfl (by decide),off ndM 4 [8,7] rfl (by decide)⟩),B7.kx2 k8 (at_sub [8,7]) (off ndM 5 [8,7] rfl (by decide)) (off ndM 1 [8,7] rfl (by decide)),
        ⟨⟨bd,k8.st _ _ (off ndM 6 [8,7] rfl (by decide)) g1,g2⟩,t8,vmb,k8.st _ _ (off ndM 9 [8,7] rfl (by decide)) g4,g5.keep fun _ _ e=>k8.tup e⟩,⟨cs8,th8,Th8⟩,(by unfold rsOf; simpa using held8),wd.un,ndM,lms,wd.inc,(by unfold ino; simpa using hne)⟩ (by lia) (by lia) ?_ erl pw hfr8
      exact kw5.trans ((Kx.w k7 (at_sub [3])).trans (Kx.w k8 (at_sub [8,7])))
  obtain ⟨rfl,s3⟩:=hR
  refine seq_in (if_rest (fun σ' H'=>σ' = [some (.ref a.B),some (.ref a.S),some (.ref nl),some (.ref a.ln),some (.int way),none,none]∧Same H H') (fun σ' H4 s4=>?_) (fun go=>?_))
  · exact ⟨Nat.zero_le _,fun l hl=>last (σ:=[]) s4.2 l hl⟩
  · obtain ⟨d1,m1,n1⟩:=hr1 s3
    refine ⟨_,rfl,a.ln,_,rfl,gtK (k:=kT "makes") d1 (ln_m _),Nat.zero_le _,fun pe hpe=>?_⟩
    have se:=same_new hpe (HO.lst [])
    refine ⟨a.mka,pe,_,rfl,rfl,SqL.of (se _ _ m1),SqL.of upd_same,_,rfl,ite2 (fun nem=>?_) (fun _=>iteF (go _ _ ⟨rfl,s3.trans se⟩))⟩
    have w5:=wd.mono (s3.trans se)
    have hne:ms ≠ []:=fun z=>by
      rw [z] at lv
      rw [List.length_eq_zero_iff.mp lv] at nem
      exact absurd nem (by decide)
    have hln:0 < ms.length:=List.length_pos_iff.mpr hne
    have n5:=se _ _ n1
    have kw5:Kw a.M H (upd H3 pe (HO.lst [])):=kw_same (s3.trans se)
    have s35:=s3.trans se
    revert w5 kw5 n5 s35
    generalize upd H3 pe (HO.lst []) = H5
    intro w5 n5 kw5 s35
    obtain ⟨cs,hth,hTh⟩:=w5.th
    obtain ⟨hd5,vm5,hm5,hat5⟩:=w5.law.ln _ (List.mem_singleton.mpr rfl)
    change H5 a.ln = some (.dK (lnD (a.lr ms rt))) at hd5
    change H5 a.mka = some (.lst vm5) at hm5
    change MkAt H5 vm5 ms at hat5
    have lv5:=hat5.len
    refine ⟨_,rfl,a.ln,_,rfl,gtK (k:=kT "makes") hd5 (ln_m _),a.mka,_,rfl,.inl (SqL.of hm5),_,_,rfl,rfl,_,rfl,?_⟩
    refine (fun bd=>ite2 (fun c=>iteT (bd (.inl (by have:=of_decide_eq_true c; lia)))) (fun c=>⟨_,rfl,a.ln,_,rfl,gtK (k:=kT "root") hd5 (ln_r _),rfl,_,rfl,ite2 (fun c2=>bd (.inr (fun z=>by rw [z] at c2; exact absurd c2 (fun y:false = true=>nomatch y)))) (fun _=>go _ _ ⟨rfl,s35⟩)⟩)) (fun (hc:1 < ms.length∨rt ≠ none)=>?_)
    have zl:0 ≤ z11 % (vm5.length:Int):=Int.emod_nonneg _ (by lia)
    have zu:z11 % (vm5.length:Int) < vm5.length:=Int.emod_lt_of_pos _ (by lia)
    obtain ⟨j,hj⟩:∃ j:Nat,z11 % (vm5.length:Int) = j:=⟨_,(Int.toNat_of_nonneg zl).symm⟩
    obtain ⟨v,hv⟩:∃ v,vm5[j]? = some v:=⟨_,List.getElem?_eq_getElem (by lia)⟩
    obtain ⟨m,ta,hmj,rfl,hta⟩:=hat5.get (i:=j) hv
    obtain ⟨sm,rm⟩:=m
    refine ⟨_,rfl,a.ln,_,rfl,gtK (k:=kT "makes") hd5 (ln_m _),.inl ⟨rfl,_,SqL.of hm5⟩,_,rfl,nl,_,11,_,rfl,rfl,SqL.of n5,atN (i:=11) e11,_,rfl,a.ln,_,rfl,gtK (k:=kT "makes") hd5 (ln_m _),a.mka,_,rfl,.inl (SqL.of hm5),_,_,rfl,rfl,(by lia),a.mka,vm5,_,j,_,rfl,rfl,hm5,by lia,by lia,?_,hv,?_⟩
    · rw [hj]
      refine (ixN_seq ?_).1
      unfold ixN
      rw [if_pos (by lia),if_pos (by lia)]
      rfl
    have k6:Kx [a.mka] H5 (upd H5 a.mka (.lst (vm5.eraseIdx j))):=mu_up (Same.refl _) (.inl ⟨_,hm5⟩)
    have em6:upd H5 a.mka (.lst (vm5.eraseIdx j)) a.mka = some (.lst (vm5.eraseIdx j)):=upd_same
    revert k6 em6
    generalize upd H5 a.mka (.lst (vm5.eraseIdx j)) = H6
    intro k6 em6
    have L6:LawS a.M H6 a.S a.Pd a.Ls n pk p [a.lr (ms.eraseIdx j) rt]:=line_set w5.law k6 (at_sub [4]) (off ndM 0 [4] rfl (by decide)) (off ndM 1 [4] rfl (by decide)) (off ndM 2 [4] rfl (by decide)) rfl rfl ⟨k6.st _ _ (off ndM 3 [4] rfl (by decide)) hd5,_,em6,(hat5.erase j).keep fun _ _ e=>k6.tup e⟩
    have B6:=w5.bk.kx2 k6 (at_sub [4]) (off ndM 5 [4] rfl (by decide)) (off ndM 1 [4] rfl (by decide))
    have ln6:=w5.ln.kx k6 (off ndM 6 [4] rfl (by decide)) (off ndM 8 [4] rfl (by decide)) (off ndM 9 [4] rfl (by decide))
    have th6:=k6.st _ _ (off ndM 7 [4] rfl (by decide)) hth
    refine ⟨ta,_,rfl,SqT.of (k6.tup hta),rfl,_,_,rfl,_,_,rfl,rfl,?_⟩
    have lj:j < ms.length:=(List.getElem?_eq_some_iff.mp hmj).1
    have hpm:(rsOf ms rt).Perm (rm :: rsOf (ms.eraseIdx j) rt):=by
      unfold rsOf
      exact ((perm_erase hmj).map (·.2)).append_right rt.toList
    have ine:ino (ms.eraseIdx j) rt ≠ []:=by
      unfold ino
      rcases hc with hc | hc
      · intro z
        have:=congrArg List.length z
        rw [List.length_append,List.length_eraseIdx_of_lt lj] at this
        have h0:([]:List (Int×Int)).length = 0:=rfl
        lia
      · cases rt with
        | none=>exact absurd rfl hc
        | some x=>simp
    have no:∀ i m,i < j→ms[i]? = some m→m.1 ≠ sm:=fun i m hi hm' e=>by
      have inc:=wd.inc
      rw [List.pairwise_iff_getElem] at inc
      have li:i < ms.length:=by lia
      have:=inc i j (by rw [List.length_map]; lia) (by rw [List.length_map]; lia) hi
      rw [List.getElem_map,List.getElem_map] at this
      have e1:=(List.getElem?_eq_some_iff.mp hm').2
      have e2:=(List.getElem?_eq_some_iff.mp hmj).2
      rw [e1,e2,e] at this
      exact absurd this (by show ¬ sm < sm; lia)
    refine ⟨_,rfl,a.B,a.dx,_,rfl,B6.b,rfl,_,rfl,a.B,a.dx,a.f1,a.f2,a.bl,a.th,a.Pd,a.tl,a.td,a.mb,a.M,pk,cs,p,rsOf (ms.eraseIdx j) rt,ks,U,val,1,0,sm,rm,ms,rt,j,rfl,B6,at_sub [7] _ (List.mem_singleton.mpr rfl),at_sub [9] _ (List.mem_singleton.mpr rfl),th6,hTh,wd.held.roots hpm,ln6,by lia,hmj,no,ine,wd.un,fun H8 vm8 cs8 ks8 val8 rl fr8 k8 em8 hat8 th8 Th8 held8 rl0 erl pw hfr8=>?_⟩
    obtain ⟨⟨bd,g1,g2⟩,g3,_⟩:=ln6
    refine q H8 n pk p (ms.eraseIdx j) rt ks8 val8 U rl fr8 ⟨L6.kx k8 (at_sub [9,7]) (off ndM 0 [9,7] rfl (by decide)) (off ndM 1 [9,7] rfl (by decide)) (off ndM 2 [9,7] rfl (by decide)) (fun r hr=>by rw [List.mem_singleton.mp hr]; exact ⟨off ndM 3 [9,7] rfl (by decide),off ndM 4 [9,7] rfl (by decide)⟩),B6.kx2 k8 (at_sub [9,7]) (off ndM 5 [9,7] rfl (by decide)) (off ndM 1 [9,7] rfl (by decide)),
      ⟨⟨bd,k8.st _ _ (off ndM 6 [9,7] rfl (by decide)) g1,g2⟩,k8.st _ _ (off ndM 8 [9,7] rfl (by decide)) g3,vm8,em8,hat8⟩,⟨cs8,th8,Th8⟩,held8,wd.un,ndM,by rw [List.length_eraseIdx_of_lt lj]; lia,List.Pairwise.sublist ((List.eraseIdx_sublist ms j).map _) wd.inc,ine⟩ (by lia) (by lia) ?_ erl pw hfr8
    exact kw5.trans ((Kx.w k6 (at_sub [4])).trans (Kx.w k8 (at_sub [9,7])))
end
end K31
set_option maxHeartbeats 4000000
namespace K31
open PySem L2 Bk
theorem eqVs_ints:∀ ms:List Int,eqVs (ms.map V.int) (ms.map V.int) = true
  | []=>rfl
  | m :: ms=>by
    show (eqV (.int m) (.int m) && eqVs (ms.map V.int) (ms.map V.int)) = true
    rw [eqVs_ints ms]
    show ((m == m) && true) = true
    rw [beq_self_eq_true]
    rfl
section
variable {P:Program} {w:World} {K:PySem.W.Frag} {mg:Str→Option Value} {base:Heap} {f:Addr} {fd:FuncData} {c:BC}
noncomputable def spRig (c:BC):Sp:=fun vs H Q _=>∃ (a:AS) (ld:Addr) (n:Int) (pk:List (Key×V)) (p:Mp) (ms:List (Int×Int)) (rt:Option Int) (ks kl:List Int) (val:Int→Nat) (U:List Int),vs = [.ref a.B,.ref a.S,.ref ld]∧Wd c a H n pk p ms rt ks val U∧H ld = some (.dK (seenD kl))∧ld ∉ a.M∧kl.Nodup∧(∀ x,x ∈ kl↔x ∈ ks)∧∀ H',Same H H'→Q (.bl true) H'
theorem scRig:FnScope ["_law_book_here","_law_state","_law_lying_here","_law_place"] ["_law_book_here","_law_state","_law_lying_here"] (defScope sRig):=⟨rfl,rfl,rfl,by decide +kernel,rfl,by decide +kernel,by decide +kernel⟩
theorem ok_Rig {fBLy fTru fBLs fCCt fCnt:Addr} {dBLy dTru dBLs dCCt dCnt:FuncData} (F:Fun K "_law_right" "_law_right" sRig f fd) (cf:CF K c) (T:Txt mg)
    (hBLy:MHas K c.C "lying" "Book.lying" sBLy ["self"] fBLy dBLy) (GBLy:FnOk P w K mg base CX0 1 fBLy dBLy ["self"] (spBLy c))
    (hTru:Has K mg "_law_truth" sTru ["_law_told","_law_due"] fTru dTru) (GTru:FnOk P w K mg base CX0 1 fTru dTru ["_law_told","_law_due"] spTru)
    (hBLs:MHas K c.C "lies" "Book.lies" sBLs ["self","place"] fBLs dBLs) (GBLs:FnOk P w K mg base CX0 1 fBLs dBLs ["self","place"] (spBLs c))
    (hCCt:MHas K c.C "count" "Counts.count" sCCt ["self","place"] fCCt dCCt) (GCCt:FnOk P w K mg base CX0 1 fCCt dCCt ["self","place"] (spCCt c))
    (hCnt:Has K mg "_law_count" sCnt ["_law_state","_law_lying_here","_law_place"] fCnt dCnt) (GCnt:FnOk P w K mg base CX0 1 fCnt dCnt ["_law_state","_law_lying_here","_law_place"] spCnt) :
    FnOk P w K mg base CX0 2 f fd ["_law_book_here","_law_state","_law_lying_here"] (spRig c):=by
  refine F.ok scRig (fun vs H Q E h=>?_) (fun cdv A outer s H vs Q E hr h=>?_)
  · obtain ⟨a,ld,n,pk,p,ms,rt,ks,kl,val,U,rfl,_⟩:=h
    rfl
  obtain ⟨a,ld,n,pk,p,ms,rt,ks,kl,val,U,rfl,wd,hld,nld,ndl,hkl,q⟩:=h
  have hu:=hu_of hr
  refine ⟨_,(pss_cons (ps_if (pt_cmpR (op_neL (hu_of hr |> Nat.lt_of_succ_lt)) (pe_meth0 (pv 0) cf.clC hBLy.me GBLy (hr.mono (by decide)) hBLy.bd .nil pass0) (pe_callB (call_sortedKL rfl) rfl T.srt PyProof.Rows.boot_sorted (pc (pv 2) pa_nil)) (nomark _))
    (pss_one (ps_ret pe_bl))
    pss_nil)
    (pss_cons (ps_for PassesOwn.never rfl (pi_list (pe_op op_cat (pe_callTy (call_listK rfl) rfl T.lst PyProof.Rows.boot_list (pc (pv 2) pa_nil)) (pe_lst (pc pe_int (pc pe_int (pc pe_int pa_nil)))))) (pg_name (i:=3) scRig.nd rfl (Or.inl rfl))
    (pss_one (ps_if (PW.pt (pw_or (pt_not (pt_val (pe_call GTru (hr.mono (by decide)) rfl hTru.nm hTru.fn.kp hTru.bd .nil pass0 (pc (pe_meth (pv 0) cf.clC hBLs.me GBLs (hr.mono (by decide)) hBLs.bd .nil pass0 (pc (pv 3) pa_nil)) (pc (pe_cmp (pc_din hu (pv 3) (pv 2))) pa_nil))))) (pw_or1 (pt_cmpR op_ne (pe_meth (pv 0) cf.clC hCCt.me GCCt (hr.mono (by decide)) hCCt.bd .nil pass0 (pc (pv 3) pa_nil)) (pe_call GCnt (hr.mono (by decide)) rfl hCnt.nm hCnt.fn.kp hCnt.bd .nil pass0 (pc (pv 1) (pc (pv 2) (pc (pv 3) pa_nil)))) (nomark _)))))
    (pss_one (ps_ret pe_bl))
    pss_nil)))
    (pss_one (ps_ret pe_bl)))),?_⟩
  obtain ⟨cs,hth,hTh⟩:=wd.th
  have ndM:=wd.nd
  have lU:=wd.un.n
  have lk:ks.length ≤ 1000:=Nat.le_trans wd.kl lU
  have hpm:kl.Perm ks:=(List.perm_ext_iff_of_nodup ndl wd.held.nd).mpr hkl
  have lkl:kl.length = ks.length:=hpm.length_eq
  refine ⟨_,rfl,a.B,a.dx,_,rfl,wd.bk.b,rfl,a.B,a.dx,a.f1,a.f2,a.bl,a.th,cs,ks,val,rfl,wd.bk.b,hth,hTh,lk,fun r1 m1 hr1 pm1 pw1=>?_⟩
  have s1:=same_new hr1 (HO.lst (m1.map V.int))
  refine ⟨_,rfl,ld,seenD kl,kl,rfl,.inl (s1 _ _ hld),seenD_keys kl,by lia,fun r2 m2 pm2 pw2 hr2=>?_⟩
  have s2:=same_new hr2 (HO.lst (m2.map V.int))
  have e12:m1 = m2:=by
    refine lt_uniq (lt_of_nd pw1 (pm1.nodup_iff.mpr wd.held.nd)) (lt_of_nd pw2 (pm2.nodup_iff.mpr ndl)) fun x=>?_
    rw [pm1.mem_iff,pm2.mem_iff,hkl]
  subst e12
  refine ⟨r1,r2,_,_,rfl,rfl,SqL.of (s2 _ _ upd_same),SqL.of upd_same,flat_ints _,flat_ints _,_,rfl,?_⟩
  rw [eqVs_ints]
  refine iteF ?_
  have s12:=s1.trans s2
  refine ⟨_,rfl,ld,seenD kl,rfl,s12 _ _ hld,fun l3 hl3=>?_⟩
  have s3:=same_new hl3 (HO.lst ((seenD kl).map fun p=>kV p.1))
  have e3:(seenD kl).map (fun p=>kV p.1) = kl.map V.int:=by
    unfold seenD
    rw [List.map_map]
    rfl
  refine ⟨(by show 3 ≤ sizeLine; decide),fun l4 hl4=>?_⟩
  have s4:=same_new hl4 (HO.lst [V.int 0,V.int 1,V.int 5000])
  refine ⟨l3,l4,_,_,rfl,rfl,s4 _ _ upd_same,upd_same,Nat.le_of_lt (small (by rw [e3,List.length_map]; show _ + 3 ≤ _; lia)),fun l5 hl5=>?_⟩
  rw [e3] at s3 hl4 s4 hl5 ⊢
  rw [show kl.map V.int ++ [V.int 0,V.int 1,V.int 5000] = (kl ++ [0,1,5000]).map V.int by rw [List.map_append]; rfl]
  have s5:=same_new hl5 (HO.lst ((kl ++ [0,1,5000]).map V.int))
  have sA:=s12.trans (s3.trans (s4.trans s5))
  have e5:upd (upd (upd (upd (upd H r1 (HO.lst (m1.map V.int))) r2 (HO.lst (m1.map V.int))) l3 (HO.lst (kl.map V.int))) l4 (HO.lst [V.int 0,V.int 1,V.int 5000])) l5 (HO.lst ((kl ++ [0,1,5000]).map V.int)) l5 = some (HO.lst ((kl ++ [0,1,5000]).map V.int)):=upd_same
  revert sA e5
  generalize upd (upd (upd (upd (upd H r1 (HO.lst (m1.map V.int))) r2 (HO.lst (m1.map V.int))) l3 (HO.lst (kl.map V.int))) l4 (HO.lst [V.int 0,V.int 1,V.int 5000])) l5 (HO.lst ((kl ++ [0,1,5000]).map V.int)) = H5
  intro sA e5
  refine ⟨l5,rfl,⟨_,SqL.of e5⟩,for_list (K:=K) (a:=l5) (xs:=(kl ++ [0,1,5000]).map V.int) (fun i σ H6=>∃ o3:Option V,σ = [some (.ref a.B),some (.ref a.S),some (.ref ld),o3]∧Same H5 H6) ⟨none,rfl,Same.refl _⟩ (fun i σ H6 _ h6=>SqL.of (h6.choose_spec.2 _ _ e5)) ?_ ?_⟩
  · rintro i v σ H6 hv ⟨o3,rfl,s6⟩
    rw [List.getElem?_map] at hv
    obtain ⟨x,hx,rfl⟩:=Option.map_eq_some_iff.mp hv
    have w6:=wd.mono (sA.trans s6)
    have th6:=(sA.trans s6) _ _ hth
    have ld6:=(sA.trans s6) _ _ hld
    refine ⟨_,rfl,a.B,a.dx,_,rfl,w6.bk.b,rfl,_,rfl,a.B,a.dx,a.f1,a.f2,a.bl,a.th,cs,ks,val,x,rfl,w6.bk.b,th6,hTh,_,rfl,_,rfl,ld,_,rfl,gtK (k:=Sum.inl x) ld6 rfl,_,_,rfl,?_⟩
    have ed:(decide (x ∈ ks) == (valV (seenD kl) (Sum.inl x)).isSome) = true:=by
      by_cases hx:x ∈ ks
      · rw [decide_eq_true hx,seenD_in ((hkl x).mpr hx)]; rfl
      · rw [decide_eq_false hx,seenD_no fun z=>hx ((hkl x).mp z)]; rfl
    rw [ed]
    refine ⟨_,rfl,iteF ?_⟩
    refine ⟨_,rfl,a.B,a.dx,_,rfl,w6.bk.b,rfl,_,rfl,a.B,a.dx,a.f1,a.f2,a.bl,a.th,cs,ks,val,x,rfl,w6.bk.b,th6,hTh,?_⟩
    refine ⟨_,rfl,_,rfl,_,rfl,a.S,a.Pd,a.Ls,ld,a.M,n,pk,p,_,kl,x,rfl,w6.law,w6.few,ld6,(fun z=>nld (z ▸ at_sub [2] _ (List.mem_singleton.mpr rfl))),(fun z=>nld (z ▸ at_sub [0] _ (List.mem_singleton.mpr rfl))),(fun z=>nld (z ▸ at_sub [1] _ (List.mem_singleton.mpr rfl))),fun y hy=>by
      obtain ⟨k,hk,_⟩:=wd.held.lay.dom y ((hkl y).mp hy)
      exact ⟨k,hk⟩,fun H7 s7=>?_⟩
    have ev:val x = refs p kl (roots [a.lr ms rt]) x:=by
      rw [roots1,wd.held.cnt]
      exact (refs_perm hpm (List.Perm.refl _) x).symm
    refine ⟨rfl,_,rfl,?_⟩
    rw [ev]
    rw [show (!decide (V.int ((refs p kl (roots [a.lr ms rt]) x:Nat):Int) = V.int ((refs p kl (roots [a.lr ms rt]) x:Nat):Int))) = false by simp]
    exact iteF ⟨_,rfl,s6.trans s7⟩
  · rintro σ H6 ⟨o3,rfl,s6⟩
    exact q _ (sA.trans s6)
end
end K31
set_option maxHeartbeats 4000000
namespace K31
open PySem L2 Bk
noncomputable def posP:Pos:=cPts.2
noncomputable def posB:Pos:=cBrn.2
theorem scBok:FnScope ["_law_pieces","_law_points","_law_born"] ["_law_pieces"] (defScope sBok):=⟨rfl,rfl,rfl,by decide +kernel,rfl,by decide +kernel,by decide +kernel⟩
theorem cod_tab {c:Addr} {q:Str} {ps:Array Value} (tr:TriplesOk ps.toList):codφ c q ≠ tabφ c ps:=fun e=>by
  have h:tabφ c ps { objs:=Array.replicate (c + 1) (PySem.W.tabObj ps) }:=by
    show PySem.Heap.get? _ c = _
    unfold PySem.Heap.get?
    have:(Array.replicate (c + 1) (PySem.W.tabObj ps))[c]? = some (PySem.W.tabObj ps):=by rw [Array.getElem?_replicate,if_pos (Nat.lt_succ_self c)]
    dsimp only
    rw [this]
  have h2:=h
  rw [← e] at h2
  obtain ⟨c',o,vs,t,e3,g,d,d2⟩:=h2
  cases e3
  have h3:PySem.Heap.get? _ c = _:=h
  rw [h3] at g
  cases g
  have d4:Data.fields ps = Data.fields vs:=d
  injection d4 with d4
  subst d4
  exact triple_1 tr (by rw [Array.getElem?_toList]; exact d2)
section
variable {P:Program} {w:World} {K:PySem.W.Frag} {mg:Str→Option Value} {base:Heap} {f:Addr} {fd:FuncData} {c:BC}
noncomputable def spBok (c:BC) (PC:Addr):Sp:=fun vs H Q _=>∃ (Pd:Addr),vs = [.ref Pd]∧TabS H PC posP tPts.qual∧TabS H PC posB tBrn.qual ∧
  ∀ (H':Hp) (B dx f1 f2 bl th:Addr),SxP PC H H'→H B = none→H bl = none→H th = none→B ≠ bl→B ≠ th→bl ≠ th→H' B = some (.ins c.C dx (bkF f1 f2 bl th))→CloOf tPts H' f1 Pd→H' bl = some (.dK [])→H' th = some (.dK [])→(∃ ps,H' PC = some (.ext (tabφ PC ps)))→Q (.ref B) H'
theorem ok_Bok {cc PC fBIn:Addr} {dBIn:FuncData} (F:Fun K "_law_book" "_law_book" sBok f fd) (hcode:fd.code = .ref cc) (C:PySem.W.CodeHd base cc PC) (B:BltIn base mg) (cf:CF K c) (BInmk:Mk K c.C fBIn) (GBIn:FnOk P w K mg base CX0 1 fBIn dBIn ["self","points","born"] (spBIn c)) (BInnm:mg "Counts" = some (.ref c.C)) (BInbd:Binds K dBIn ["self","points","born"] []):FnOk P w K mg base CX0 3 f fd ["_law_pieces"] (spBok c PC):=by
  refine okCell (i:=0) (y:="_law_pieces") F scBok (fun vs H Q E h=>?_) rfl rfl 0 (fun m=>rfl) (fun cdv A outer s H vs Q E hcd hr h=>?_)
  · obtain ⟨Pd,rfl,_⟩:=h
    rfl
  obtain ⟨Pd,rfl,t1,t2,q⟩:=h
  refine ⟨_,psc_cons (ps_def (cd:=cc) (P:=PC) (pos:=posP) (c:=s.heap.objs.size + 1 + 0) (i:=1) tPts scBok.nd rfl (Or.inl rfl) (hcd.trans hcode) C B rfl rfl rfl rfl rfl) (psc_cons (ps_def (cd:=cc) (P:=PC) (pos:=posB) (c:=s.heap.objs.size + 1 + 0) (i:=2) tBrn scBok.nd rfl (Or.inl rfl) (hcd.trans hcode) C B rfl rfl rfl rfl rfl) (psc_ret (pe_make BInmk GBIn (hr.mono (by decide)) rfl BInnm BInbd .nil pass0 (pc (pv 1) (pc (pv 2) pa_nil))))),?_⟩
  refine ⟨t1,fun f1 c1 doc1 pm1 ctv1 H1 sx1 tb1 ot1 hf1 ef1 ec1=>?_⟩
  refine ⟨ot1 posB tBrn.qual (by decide) t2,fun f2 c2 doc2 pm2 ctv2 H2 sx2 tb2 ot2 hf2 ef2 ec2=>?_⟩
  have sx:=sx1.trans sx2
  obtain ⟨ps2,eP2,_⟩:=tb2
  obtain ⟨ps1,eP1,tr1,_⟩:=tb1
  have fr2:∀ {b:Addr},H2 b = none→H b = none:=fun {b} e=>by
    cases h:H b with
    | none=>rfl
    | some o =>
      by_cases z:b = PC
      · rw [z,eP2] at e; cases e
      · rw [sx b o z h] at e; cases e
  refine ⟨_,rfl,_,rfl,fun Bo dx hBo hdx ne=>?_⟩
  have s0:Same H2 (upd (upd H2 dx (.own Bo)) Bo (.ins c.C dx [])):=fun q u e=>by
    rw [upd_ne (ne_of_none e hBo),upd_ne (ne_of_none e hdx)]
    exact e
  refine ⟨Bo,dx,f1,f2,rfl,upd_same,fun bl th H3 hbl hth nbt k3 eB ebl eth=>⟨rfl,?_⟩⟩
  have s3:Same H2 H3:=fun q u e=>k3.st _ _ (fun z=>by rw [List.mem_singleton.mp z,hBo] at e; cases e) (s0 _ _ e)
  refine ⟨Pd,rfl,fun oc hcn hoc=>?_⟩
  have s4:=same_new hcn (HO.ext (objφ (s.heap.objs.size + 1 + 0) oc))
  have hbl2:=s0.free hbl
  have hth2:=s0.free hth
  have nb1:Bo ≠ bl:=fun z=>by rw [← z,upd_same] at hbl; cases hbl
  have nb2:Bo ≠ th:=fun z=>by rw [← z,upd_same] at hth; cases hth
  have nf1:f1 ≠ PC:=fun z=>by
    obtain ⟨_,eP,_⟩:=t1
    rw [z,eP] at hf1
    cases hf1
  have nc1:c1 ≠ PC:=fun z=>by
    rw [z,eP1] at ec1
    injection ec1 with ec1
    injection ec1 with ec1
    exact cod_tab tr1 ec1.symm
  refine q _ Bo dx f1 f2 bl th (sx.trans ((s3.trans s4).sxP)) (fr2 hBo) (fr2 hbl2) (fr2 hth2) nb1 nb2 nbt (s4 _ _ eB) ⟨_,oc,doc1,pm1,c1,ctv1,s4 _ _ (s3 _ _ (sx2 _ _ nf1 ef1)),s4 _ _ (s3 _ _ (sx2 _ _ nc1 ec1)),upd_same,hoc⟩ (s4 _ _ ebl) (s4 _ _ eth) ⟨ps2,s4 _ _ (s3 _ _ eP2)⟩
end
end K31
set_option maxHeartbeats 4000000
namespace L2
open PySem
theorem pe_disp3 {X:Cx} {pos:Pos} {e k1 v1 k2 v2 k3 v3:Expr} {t1 u1 t2 u2 t3 u3:TE} (he:e = .Dict [some k1,some k2,some k3] [v1,v2,v3] pos) (a1:PE X k1 t1) (b1:PE X v1 u1) (a2:PE X k2 t2) (b2:PE X v2 u2) (a3:PE X k3 t3) (b3:PE X v3 u3) :
    PE X e (tDisp [(t1,u1),(t2,u2),(t3,u3)]):=by
  have h:PPs X pos [some k1,some k2,some k3] [v1,v2,v3] [(t1,u1),(t2,u2),(t3,u3)]:=(pps_cons a1 b1 (pps_cons a2 b2 (pps_cons a3 b3 pps_nil)))
  rw [he]
  exact pe_disp h rfl rfl (by simp) (by simp)
end L2
namespace K31
open PySem L2 Bk
theorem merge3 {k1 k2 k3:Key} (n12:k1 ≠ k2) (n13:k1 ≠ k3) (n23:k2 ≠ k3) (a b c:V):mergeK [] [(k1,a),(k2,b),(k3,c)] = [(k1,a),(k2,b),(k3,c)]:=by
  show putK (putK (putK [] k1 a) k2 b) k3 c = _
  have e1:putK [] k1 a = [(k1,a)]:=rfl
  rw [e1,putK_new b (by rw [valV_neg n12]; rfl),putK_new c (by
    show valV ((k1,a) :: [(k2,b)]) k3 = none
    rw [valV_neg n13,valV_neg n23]; rfl)]
  rfl
theorem merge_st (Pd Ls:Addr):mergeK [] (stD Pd Ls 0) = stD Pd Ls 0:=merge3 (by decide +kernel) (by decide +kernel) (by decide +kernel) _ _ _
theorem merge_ln (r:LR):mergeK [] (lnD r) = lnD r:=merge3 (by decide +kernel) (by decide +kernel) (by decide +kernel) _ _ _
theorem rch_nil {p:Mp} {x:Int} (h:Rch p [] x):False:=by
  induction h with
  | base hx=>cases hx
  | step _ _ _ ih=>exact ih
theorem held_nil (p:Mp):Held p [] [] fun _=>0:=⟨List.nodup_nil,fun x=>⟨(fun h=>nomatch h),fun h=>(rch_nil h).elim⟩,fun x=>rfl,⟨(fun _ h=>nomatch h),fun _=>0,0,(fun _ h=>nomatch h)⟩⟩
theorem cut_len {ns:List Int}:(cutV (ns.map V.int) (some 1) (some 41)).length ≤ 41:=by
  unfold cutV
  refine Nat.le_trans (List.length_take_le _ _) ?_
  have:HT.sIx (ns.map V.int).length (ns.map V.int).length (some 41) ≤ 41:=by
    rw [show (some (41:Int)) = some ((41:Nat):Int) from rfl,HT.sIx_nat]
    lia
  lia
theorem nd_new {l:List Addr} {H:Hp} {x:Addr} (nd:l.Nodup) (al:∀ b ∈ l,∃ u,H b = some u) (h:H x = none):(x :: l).Nodup:=by
  rw [List.nodup_cons]
  exact ⟨(fun z=>by obtain ⟨u,e⟩:=al x z; rw [h] at e; cases e),nd⟩
theorem nd_sel {l:List Addr} (nd:l.Nodup):∀ {js:List Nat},js.Nodup→(js.filterMap fun j=>l[j]?).Nodup
  | [],_=>List.nodup_nil
  | j :: js,h=>by
    rw [List.nodup_cons] at h
    have ih:=nd_sel nd h.2
    rw [List.filterMap_cons]
    cases e:l[j]? with
    | none=>exact ih
    | some x =>
      show (x :: _).Nodup
      rw [List.nodup_cons]
      exact ⟨fun z=>by
        obtain ⟨i,hi,e2⟩:=List.mem_filterMap.mp z
        exact nd_at nd e e2 (fun w=>h.1 (w ▸ hi)) rfl,ih⟩
theorem PcAt.more {M M':List Addr} {H:Hp} {pk:List (Key×V)} {p:Mp} (h:PcAt M H pk p) (n:∀ b ∈ M',b ∈ M∨H b = none):PcAt M' H pk p:=fun x k hx=>by
  obtain ⟨tp,l,st,h1,h2,h3,h4⟩:=h x k hx
  refine ⟨tp,l,st,h1,h2,h3,fun z=>?_⟩
  rcases n l z with z | z
  · exact h4 z
  · rw [z] at h3; cases h3
theorem sqK {K:PySem.W.Frag} {H H':Hp} {a:Addr} {xs:List V} (h:SqL K H a xs) (k:∀ u,H a = some u→(u = .lst xs∨∃ o,u = .frz o (.lst xs))→H' a = some u):SqL K H' a xs:=by
  rcases h with h | h
  · rcases h with h | ⟨o,h⟩
    · exact .inl (.inl (k _ h (.inl rfl)))
    · exact .inl (.inr ⟨o,k _ h (.inr ⟨o,rfl⟩)⟩)
  · exact .inr h
theorem Wd.mu {c:BC} {a:AS} {H:Hp} {n:Int} {pk:List (Key×V)} {p:Mp} {ms:List (Int×Int)} {rt:Option Int} {ks:List Int} {val:Int→Nat} {U:List Int} (w:Wd c a H n pk p ms rt ks val U):∀ b ∈ a.M,Mu (H b):=fun b hb=>by
  obtain ⟨hd,vs,hm,_⟩:=w.law.ln _ (List.mem_singleton.mpr rfl)
  obtain ⟨cs,h1,h2⟩:=w.th
  obtain ⟨⟨bd,g1,g2⟩,g3,vm,g4,g5⟩:=w.ln
  unfold AS.M at hb
  simp only [List.mem_cons,List.not_mem_nil,or_false] at hb
  rcases hb with rfl | rfl | rfl | rfl | rfl | rfl | rfl | rfl | rfl | rfl
  · exact .inr (.inl ⟨_,w.law.s⟩)
  · exact .inr (.inl ⟨_,w.law.pd⟩)
  · exact .inr (.inl ⟨_,w.law.l⟩)
  · exact .inr (.inl ⟨_,hd⟩)
  · exact .inl ⟨_,hm⟩
  · exact .inr (.inr ⟨_,_,_,w.bk.b⟩)
  · exact .inr (.inl ⟨_,g1⟩)
  · exact .inr (.inl ⟨_,h1⟩)
  · exact .inr (.inr ⟨_,_,_,g3⟩)
  · exact .inl ⟨_,g4⟩
theorem Wd.out {c:BC} {a:AS} {H:Hp} {n:Int} {pk:List (Key×V)} {p:Mp} {ms:List (Int×Int)} {rt:Option Int} {ks:List Int} {val:Int→Nat} {U:List Int} (w:Wd c a H n pk p ms rt ks val U) {b:Addr} (h:H b = none):b ∉ a.M:=fun z=>by
  obtain ⟨u,e⟩:=w.al b z
  rw [h] at e; cases e
theorem Wd.outx {c:BC} {a:AS} {H:Hp} {n:Int} {pk:List (Key×V)} {p:Mp} {ms:List (Int×Int)} {rt:Option Int} {ks:List Int} {val:Int→Nat} {U:List Int} (w:Wd c a H n pk p ms rt ks val U) {b:Addr} {φ:Heap→Prop} (h:H b = some (.ext φ)):b ∉ a.M:=fun z=>by
  rcases w.mu b z with ⟨_,e⟩ | ⟨_,e⟩ | ⟨_,_,_,e⟩ <;> rw [h] at e <;> cases e
section
variable {P:Program} {w:World} {K:PySem.W.Frag} {mg:Str→Option Value} {base:Heap} {f:Addr} {fd:FuncData} {c:BC}
noncomputable def spLaw (PC:Addr) (K:PySem.W.Frag):Sp:=fun vs H Q _=>∃ (a:Addr) (ns:List Int),vs = [.ref a]∧SqL K H a (ns.map V.int)∧H PC = some (.ext (tabφ PC #[]))∧∀ H' ps,H' PC = some (.ext (tabφ PC ps))→Q (.bl true) H'
theorem scLaw:FnScope ["_law_script","_law_state","_law_book_here","_law_root","_law_cell","_law_ahead","_law_freed","_law_lying_here","_law_due"] ["_law_script"] (defScope sLaw):=⟨rfl,rfl,rfl,by decide +kernel,rfl,by decide +kernel,by decide +kernel⟩
theorem ok_law {PC fBok fTre fStm fCel fBBg fLyi fDed fRig:Addr} {dBok dTre dStm dCel dBBg dLyi dDed dRig:FuncData} (F:Fun K "law" "law" sLaw f fd) (cf:CF K c) (T:Txt mg)
    (hBok:Has K mg "_law_book" sBok ["_law_pieces"] fBok dBok) (GBok:FnOk P w K mg base CX0 3 fBok dBok ["_law_pieces"] (spBok c PC))
    (hTre:Has K mg "_law_tree" sTre ["_law_state","_law_numbers","_law_old"] fTre dTre) (GTre:FnOk P w K mg base CX0 3 fTre dTre ["_law_state","_law_numbers","_law_old"] spTre)
    (hStm:Has K mg "_law_stream" sStm ["_law_cell","_law_many"] fStm dStm) (GStm:FnOk P w K mg base CX0 1 fStm dStm ["_law_cell","_law_many"] spStm)
    (hCel:Has K mg "_law_cell_at" sCel ["_law_script","_law_k"] fCel dCel) (GCel:FnOk P w K mg base CX0 1 fCel dCel ["_law_script","_law_k"] (spCel K))
    (hBBg:MHas K c.C "begun" "Book.begun" sBBg ["self","line","base","root"] fBBg dBBg) (GBBg:FnOk P w K mg base CX0 5 fBBg dBBg ["self","line","base","root"] (spBBg c))
    (hLyi:Has K mg "_law_lying" sLyi ["_law_state"] fLyi dLyi) (GLyi:FnOk P w K mg base CX0 2 fLyi dLyi ["_law_state"] spLyi)
    (hDed:Has K mg "_law_deed" sDed ["_law_book_here","_law_state","_law_numbers"] fDed dDed) (GDed:FnOk P w K mg base CX0 5 fDed dDed ["_law_book_here","_law_state","_law_numbers"] (spDed c))
    (hRig:Has K mg "_law_right" sRig ["_law_book_here","_law_state","_law_lying_here"] fRig dRig) (GRig:FnOk P w K mg base CX0 2 fRig dRig ["_law_book_here","_law_state","_law_lying_here"] (spRig c)) :
    FnOk P w K mg base CX0 6 f fd ["_law_script"] (spLaw PC K):=by
  refine F.ok scLaw (fun vs H Q E h=>?_) (fun cdv A outer s H vs Q E hr h=>?_)
  · obtain ⟨scr,ns,rfl,_⟩:=h
    rfl
  obtain ⟨scr,ns,rfl,hS,hPC,q⟩:=h
  have hu:=hu_of hr
  refine ⟨_,(@pss_cons _ _ _ _ _ (@ps_set _ _ 1 _ _ _ _ scLaw.nd rfl (Or.inl rfl) (@pe_disp3 _ _ _ _ _ _ _ _ _ _ _ _ _ _ _ rfl pe_str pe_dnewK pe_str pe_dnewK pe_str pe_int) (by rfl) (.inl rfl))
    (pss_cons (ps_set (i:=2) scLaw.nd rfl (Or.inl rfl) (pe_call GBok (hr.mono (by decide)) rfl hBok.nm hBok.fn.kp hBok.bd .nil pass0 (pc (pe_dget hu (pv 1) pe_str (fun _ _=>rfl)) pa_nil)))
    (pss_cons (ps_set (i:=3) scLaw.nd rfl (Or.inl rfl) (pe_call GTre (hr.mono (by decide)) rfl hTre.nm hTre.fn.kp hTre.bd .nil pass0 (pc (pv 1) (pc (pe_call GStm (hr.mono (by decide)) rfl hStm.nm hStm.fn.kp hStm.bd .nil pass0 (pc (pe_call GCel (hr.mono (by decide)) rfl hCel.nm hCel.fn.kp hCel.bd .nil pass0 (pc (pv 0) (pc pe_int pa_nil))) (pc pe_int pa_nil))) (pc (pe_lst pa_nil) pa_nil)))))
    (pss_cons (ps_dput hu (pe_dget hu (pv 1) pe_str (fun _ _=>rfl)) pe_int (@pe_disp3 _ _ _ _ _ _ _ _ _ _ _ _ _ _ _ rfl pe_str pe_int pe_str (pe_lst pa_nil) pe_str (pv 3)) rfl)
    (pss_cons (ps_expr (pe_meth (pv 2) cf.clC hBBg.me GBBg (hr.mono (by decide)) hBBg.bd .nil pass0 (pc pe_int (pc pe_int (pc (pv 3) pa_nil)))))
    (pss_cons (ps_for PassesOwn.never rfl (pi_list (pe_slice sl_list (pv 0) (po_some pe_int) (po_some pe_int))) (pg_name (i:=4) scLaw.nd rfl (Or.inl rfl))
    (pss_cons (ps_set (i:=5) scLaw.nd rfl (Or.inl rfl) (pe_call GLyi (hr.mono (by decide)) rfl hLyi.nm hLyi.fn.kp hLyi.bd .nil pass0 (pc (pv 1) pa_nil)))
    (pss_cons (ps_set (i:=6) scLaw.nd rfl (Or.inl rfl) (pe_call GDed (hr.mono (by decide)) rfl hDed.nm hDed.fn.kp hDed.bd .nil pass0 (pc (pv 2) (pc (pv 1) (pc (pe_call GStm (hr.mono (by decide)) rfl hStm.nm hStm.fn.kp hStm.bd .nil pass0 (pc (pv 4) (pc pe_int pa_nil))) pa_nil)))))
    (pss_cons (ps_set (i:=7) scLaw.nd rfl (Or.inr rfl) (pe_call GLyi (hr.mono (by decide)) rfl hLyi.nm hLyi.fn.kp hLyi.bd .nil pass0 (pc (pv 1) pa_nil)))
    (pss_cons (ps_setC2 (i:=8) scLaw.nd rfl rfl [7] ["_law_lying_here"] (pi_list (pe_callB (call_sortedKL rfl) rfl T.srt PyProof.Rows.boot_sorted (pc (pv 5) pa_nil))) (fun _ _ _ _ _ _=>(pts_one (pt_cmp (pc_dnotin hu (pv 0) (pv 1)))))
          (fun _ _ _ _ _ _=>(pv 0))
          rfl (by decide +kernel) (by decide +kernel) rfl (by decide +kernel) (fun j y hj=>by
            match j,hj with
            | 0,hj=>cases hj; exact ⟨7,rfl,rfl,rfl,.inl rfl⟩) rfl (by decide +kernel) rfl)
    (pss_cons (ps_if (PW.pt (pw_or (pt_not (pt_val (pe_callB call_isinst rfl T.isi PyProof.Rows.boot_isinstance (pc (pv 6) (pc (pe_bltn (v:=.ty "list") rfl T.lst PyProof.Rows.boot_list rfl) pa_nil))))) (pw_or1 (pt_cmpR (op_neL (hu_of hr |> Nat.lt_of_succ_lt)) (pv 6) (pv 8) (nomark _)))))
    (pss_one (ps_ret pe_bl))
    pss_nil)
    (pss_one (ps_if (pt_not (pt_val (pe_call GRig (hr.mono (by decide)) rfl hRig.nm hRig.fn.kp hRig.bd .nil pass0 (pc (pv 2) (pc (pv 1) (pc (pv 7) pa_nil))))))
    (pss_one (ps_ret pe_bl))
    pss_nil))))))))
    (pss_one (ps_ret (pe_call GRig (hr.mono (by decide)) rfl hRig.nm hRig.fn.kp hRig.bd .nil pass0 (pc (pv 2) (pc (pv 1) (pc (pe_call GLyi (hr.mono (by decide)) rfl hLyi.nm hLyi.fn.kp hLyi.bd .nil pass0 (pc (pv 1) pa_nil)) pa_nil)))))))))))),?_⟩
  intro st hst Pd hPd Ls hLs
  have u1:=same_new hst (HO.dK [])
  have u2:=same_new hPd (HO.dK [])
  have u3:=same_new hLs (HO.dK [])
  have nPs:Pd ≠ st:=fun z=>by rw [z,upd_same] at hPd; cases hPd
  have nLs:Ls ≠ st:=fun z=>by rw [z,u2 _ _ upd_same] at hLs; cases hLs
  have nLP:Ls ≠ Pd:=fun z=>by rw [z,upd_same] at hLs; cases hLs
  refine ⟨u3 _ _ (u2 _ _ upd_same),stD Pd Ls 0,rfl,(by show 3 ≤ 15; decide),?_⟩
  rw [merge_st]
  have s4:Same H (upd (upd (upd (upd H st (HO.dK [])) Pd (HO.dK [])) Ls (HO.dK [])) st (.dK (stD Pd Ls 0))):=same_over (u1.trans (u2.trans u3)) hst _
  have e4:upd (upd (upd (upd H st (HO.dK [])) Pd (HO.dK [])) Ls (HO.dK [])) st (.dK (stD Pd Ls 0)) st = some (.dK (stD Pd Ls 0)):=upd_same
  have eP4:upd (upd (upd (upd H st (HO.dK [])) Pd (HO.dK [])) Ls (HO.dK [])) st (.dK (stD Pd Ls 0)) Pd = some (.dK []):=by rw [upd_ne nPs]; exact u3 _ _ upd_same
  have eL4:upd (upd (upd (upd H st (HO.dK [])) Pd (HO.dK [])) Ls (HO.dK [])) st (.dK (stD Pd Ls 0)) Ls = some (.dK []):=by rw [upd_ne nLs]; exact upd_same
  revert s4 e4 eP4 eL4
  generalize upd (upd (upd (upd H st (HO.dK [])) Pd (HO.dK [])) Ls (HO.dK [])) st (.dK (stD Pd Ls 0)) = H4
  intro s4 e4 eP4 eL4
  have hPC4:=s4 _ _ hPC
  refine ⟨_,rfl,st,_,rfl,gtK (k:=kT "pieces") e4 (st_p _ _ _),Pd,rfl,⟨#[],hPC4,trivial,.inl rfl⟩,⟨#[],hPC4,trivial,.inl rfl⟩,fun H5 B dx f1 f2 bl th sx hB hbl hth nBb nBt nbt eB clo ebl eth hps=>?_⟩
  obtain ⟨ps,ePC⟩:=hps
  have np:∀ {b:Addr} {u:HO},H4 b = some u→(∀ φ,u ≠ .ext φ)→b ≠ PC:=fun e n z=>by rw [z,hPC4] at e; cases e; exact n _ rfl
  have e5:=sx _ _ (np e4 (by intro _ z; cases z)) e4
  have eP5:=sx _ _ (np eP4 (by intro _ z; cases z)) eP4
  have eL5:=sx _ _ (np eL4 (by intro _ z; cases z)) eL4
  have hS5:SqL K H5 scr (ns.map V.int):=sqK (s4.seq hS) fun u e hu=>sx _ _ (np e (by rcases hu with rfl | ⟨o,rfl⟩ <;> intro _ z <;> cases z)) e
  have oB:B ∉ [st,Pd,Ls]:=fun z=>by
    rcases (by simpa using z:B = st∨B = Pd∨B = Ls) with z | z | z <;> rw [z] at hB
    · rw [e4] at hB; cases hB
    · rw [eP4] at hB; cases hB
    · rw [eL4] at hB; cases hB
  have obl:bl ∉ [st,Pd,Ls]:=fun z=>by
    rcases (by simpa using z:bl = st∨bl = Pd∨bl = Ls) with z | z | z <;> rw [z] at hbl
    · rw [e4] at hbl; cases hbl
    · rw [eP4] at hbl; cases hbl
    · rw [eL4] at hbl; cases hbl
  have oth:th ∉ [st,Pd,Ls]:=fun z=>by
    rcases (by simpa using z:th = st∨th = Pd∨th = Ls) with z | z | z <;> rw [z] at hth
    · rw [e4] at hth; cases hth
    · rw [eP4] at hth; cases hth
    · rw [eL4] at hth; cases hth
  have nd6:[th,bl,B,Ls,Pd,st].Nodup:=by
    simp only [List.mem_cons,List.not_mem_nil,or_false,not_or] at oB obl oth
    simp only [List.nodup_cons,List.mem_cons,List.not_mem_nil,or_false,not_or,List.nodup_nil,and_true,not_false_eq_true]
    exact ⟨⟨nbt.symm,nBt.symm,oth.2.2,oth.2.1,oth.1⟩,⟨nBb.symm,obl.2.2,obl.2.1,obl.1⟩,⟨oB.2.2,oB.2.1,oB.1⟩,⟨nLP,nLs⟩,nPs⟩
  refine ⟨_,rfl,_,rfl,scr,ns,0,rfl,Int.le_refl _,hS5,fun z=>⟨z,rfl,fun nl H6 nms s6 hnl enl l12 nn0=>⟨Nat.zero_le _,fun od hod=>?_⟩⟩⟩
  have sE:=s6.trans (same_new hod (HO.lst []))
  have eod:upd H6 od (HO.lst []) od = some (.lst []):=upd_same
  have enl7:=same_new hod (HO.lst []) _ _ enl
  have hod5:H5 od = none:=s6.free hod
  revert sE eod enl7
  generalize upd H6 od (HO.lst []) = H7
  intro sE eod enl7
  have dom0:∀ x,Rch (fun _=>none) (roots []) x→∃ k,(fun _=>none:Mp) x = some k:=fun x hx=>(rch_nil hx).elim
  refine ⟨st,Pd,Ls,nl,od,[st,Pd,Ls,B,bl,th],0,[],fun _=>none,[],[],nms,[],rfl,⟨sE _ _ e5,sE _ _ eP5,(fun x k h=>nomatch h),sE _ _ eL5,(fun r h=>nomatch h)⟩,⟨Nat.zero_le _,(fun r h=>nomatch h),(fun r h=>nomatch h)⟩,⟨nPs.symm,nLs.symm,nLP.symm,(fun r h=>nomatch h)⟩,fun b hb=>?_,enl7,l12,nn0,.inr ⟨eod,rfl⟩,(fun z=>by rw [z,e5] at hod5; cases hod5),(fun z=>by rw [z,eP5] at hod5; cases hod5),Nat.zero_le _,dom0,⟨(fun x k h=>nomatch h),Nat.zero_le _⟩,Nat.zero_le _,fun H8 pk8 fr r1 ks8 k8 L8 nd8 hks8 hfr lfr hk lpk8=>?_⟩
  · simp only [List.mem_cons,List.not_mem_nil,or_false] at hb
    rcases hb with rfl | rfl | rfl | rfl | rfl | rfl
    · exact ⟨_,sE _ _ e5⟩
    · exact ⟨_,sE _ _ eP5⟩
    · exact ⟨_,sE _ _ eL5⟩
    · exact ⟨_,sE _ _ eB⟩
    · exact ⟨_,sE _ _ ebl⟩
    · exact ⟨_,sE _ _ eth⟩
  have hr1m:r1 ∈ fr.map (·.1):=by
    obtain ⟨k,hk⟩:=hk
    exact List.mem_map.mpr ⟨_,hk,rfl⟩
  have f8:Fr [] [] fr:=⟨hfr.nd,(fun _ _ z=>nomatch z),hfr.pt⟩
  have n2:∀ {b:Addr},b ∉ [st,Pd,Ls]→b ∉ [st,Pd]:=fun h z=>h (by
    rcases mem2 z with rfl | rfl
    · exact List.mem_cons_self ..
    · exact List.mem_cons_of_mem _ (List.mem_cons_self ..))
  refine fun ln hln=>⟨Nat.zero_le _,fun mka hmka=>⟨_,rfl,same_new hmka (HO.lst []) _ _ upd_same,lnD ⟨1,ln,mka,0,[],some r1⟩,rfl,(by show 3 ≤ 15; decide),?_⟩⟩
  rw [merge_ln]
  have nml:mka ≠ ln:=fun z=>by rw [z,upd_same] at hmka; cases hmka
  have hmka8:H8 mka = none:=by rw [upd_ne nml] at hmka; exact hmka
  have s9:Same H8 (upd (upd (upd H8 ln (HO.dK [])) mka (HO.lst [])) ln (.dK (lnD ⟨1,ln,mka,0,[],some r1⟩))):=same_over ((same_new hln (HO.dK [])).trans (same_new hmka (HO.lst []))) hln _
  have eln9:upd (upd (upd H8 ln (HO.dK [])) mka (HO.lst [])) ln (.dK (lnD ⟨1,ln,mka,0,[],some r1⟩)) ln = some (.dK (lnD ⟨1,ln,mka,0,[],some r1⟩)):=upd_same
  have emk9:upd (upd (upd H8 ln (HO.dK [])) mka (HO.lst [])) ln (.dK (lnD ⟨1,ln,mka,0,[],some r1⟩)) mka = some (.lst []):=by rw [upd_ne nml,upd_same]
  revert s9 eln9 emk9
  generalize upd (upd (upd H8 ln (HO.dK [])) mka (HO.lst [])) ln (.dK (lnD ⟨1,ln,mka,0,[],some r1⟩)) = H9
  intro s9 eln9 emk9
  have L9:=L8.mono s9
  refine ⟨_,rfl,st,_,rfl,gtK (k:=kT "lines") L9.s (st_l _ _ _),Ls,_,rfl,DPut.k (k:=Sum.inl 1) (v:=V.ref ln) L9.l (small (Nat.zero_le _)),?_⟩
  rw [show putK (lsD []) (Sum.inl 1) (V.ref ln) = lsD [⟨1,ln,mka,0,[],some r1⟩] from rfl]
  have k10:Kx [Ls] H9 (upd H9 Ls (.dK (lsD [⟨1,ln,mka,0,[],some r1⟩]))):=mu_up (Same.refl _) (.inr (.inl ⟨_,L9.l⟩))
  have eL10:upd H9 Ls (.dK (lsD [⟨1,ln,mka,0,[],some r1⟩])) Ls = some (.dK (lsD [⟨1,ln,mka,0,[],some r1⟩])):=upd_same
  revert k10 eL10
  generalize upd H9 Ls (.dK (lsD [⟨1,ln,mka,0,[],some r1⟩])) = H10
  intro k10 eL10
  have n1:∀ {b:Addr},b ≠ Ls→b ∉ [Ls]:=fun h z=>h (List.mem_singleton.mp z)
  have nlL:ln ≠ Ls:=fun z=>by rw [z,L8.l] at hln; cases hln
  have nmL:mka ≠ Ls:=fun z=>by rw [z,L8.l] at hmka8; cases hmka8
  have K510:Kx [st,Pd,Ls] H5 H10:=⟨fun b u h e=>k10.st _ _ (n1 fun z=>h (by simp [z])) (s9 _ _ (k8.st _ _ (n2 h) (sE _ _ e))),fun b hb=>by
    simp only [List.mem_cons,List.not_mem_nil,or_false] at hb
    rcases hb with rfl | rfl | rfl
    · exact .inr (.inl ⟨_,e5⟩)
    · exact .inr (.inl ⟨_,eP5⟩)
    · exact .inr (.inl ⟨_,eL5⟩)⟩
  have eB10:=K510.st _ _ oB eB
  have ebl10:=K510.st _ _ obl ebl
  have eth10:=K510.st _ _ oth eth
  have clo10:=K510.clo clo
  have ePC10:=K510.ext ePC
  have es10:=k10.st _ _ (n1 nLs.symm) L9.s
  have eP10:=k10.st _ _ (n1 nLP.symm) L9.pd
  have eln10:=k10.st _ _ (n1 nlL) eln9
  have emk10:=k10.st _ _ (n1 nmL) emk9
  have al8:∀ b ∈ [th,bl,B,Ls,Pd,st],∃ u,H8 b = some u:=fun b hb=>by
    simp only [List.mem_cons,List.not_mem_nil,or_false] at hb
    rcases hb with rfl | rfl | rfl | rfl | rfl | rfl
    · exact ⟨_,k8.st _ _ (n2 oth) (sE _ _ eth)⟩
    · exact ⟨_,k8.st _ _ (n2 obl) (sE _ _ ebl)⟩
    · exact ⟨_,k8.st _ _ (n2 oB) (sE _ _ eB)⟩
    · exact ⟨_,L8.l⟩
    · exact ⟨_,L8.pd⟩
    · exact ⟨_,L8.s⟩
  have nd7:[ln,th,bl,B,Ls,Pd,st].Nodup:=nd_new nd6 al8 hln
  have ndx8:[mka,ln,th,bl,B,Ls,Pd,st].Nodup:=nd_new nd7 (H:=upd H8 ln (HO.dK [])) (fun b hb=>by
    rcases List.mem_cons.mp hb with rfl | hb
    · exact ⟨_,upd_same⟩
    · obtain ⟨u,e⟩:=al8 b hb
      exact ⟨u,same_new hln _ _ _ e⟩) hmka
  have al10:∀ b ∈ [mka,ln,th,bl,B,Ls,Pd,st],∃ u,H10 b = some u:=fun b hb=>by
    simp only [List.mem_cons,List.not_mem_nil,or_false] at hb
    rcases hb with rfl | rfl | rfl | rfl | rfl | rfl | rfl | rfl
    · exact ⟨_,emk10⟩
    · exact ⟨_,eln10⟩
    · exact ⟨_,eth10⟩
    · exact ⟨_,ebl10⟩
    · exact ⟨_,eB10⟩
    · exact ⟨_,eL10⟩
    · exact ⟨_,eP10⟩
    · exact ⟨_,es10⟩
  have pc10:PcAt [st,Pd,Ls,ln,mka,B,bl,th] H10 pk8 (addP (fun _=>none) fr):=k10.pc (PcAt.mono (PcAt.more L8.pc fun b hb=>by
    simp only [List.mem_cons,List.not_mem_nil,or_false] at hb ⊢
    rcases hb with rfl | rfl | rfl | rfl | rfl | rfl | rfl | rfl
    · exact .inl (.inl rfl)
    · exact .inl (.inr (.inl rfl))
    · exact .inl (.inr (.inr (.inl rfl)))
    · exact .inr hln
    · exact .inr hmka8
    · exact .inl (.inr (.inr (.inr (.inl rfl))))
    · exact .inl (.inr (.inr (.inr (.inr (.inl rfl)))))
    · exact .inl (.inr (.inr (.inr (.inr (.inr rfl)))))) s9) fun b hb=>by rw [List.mem_singleton.mp hb]; simp
  have hS10:SqL K H10 scr (ns.map V.int):=sqK hS5 fun u e hu=>K510.st _ _ (fun z=>by
    rcases K510.mu _ z with ⟨_,y⟩ | ⟨_,y⟩ | ⟨_,_,_,y⟩
    · simp only [List.mem_cons,List.not_mem_nil,or_false] at z
      rcases z with z | z | z <;> rw [z] at y
      · rw [e5] at y; cases y
      · rw [eP5] at y; cases y
      · rw [eL5] at y; cases y
    · rw [e] at y; rcases hu with rfl | ⟨o,rfl⟩ <;> cases y
    · rw [e] at y; rcases hu with rfl | ⟨o,rfl⟩ <;> cases y) e
  have un10:Un (addP (fun _=>none) fr) ([] ++ fr.map (·.1)):=un_add (old:=[]) (ks:=[]) ⟨(fun x k h=>nomatch h),Nat.zero_le _⟩ f8 (by show 0 + _ ≤ _; lia)
  refine ⟨_,rfl,B,dx,_,rfl,eB10,rfl,_,rfl,B,dx,f1,f2,bl,th,Pd,[st,Pd,Ls,ln,mka,B,bl,th],pk8,[],[],addP (fun _=>none) fr,[],[],[] ++ fr.map (·.1),fun _=>0,1,0,r1,rfl,⟨eB10,clo10,eP10,pc10,fun z=>oth (by simp [z])⟩,by simp,by simp,nbt,(fun z=>obl (by simp [z])),ebl10,Nat.zero_le _,eth10,⟨rfl,List.nodup_nil,(fun x h=>nomatch h),fun x _=>rfl⟩,held_nil _,fun V hV=>f8.lay (held_nil (fun _=>none)) (fun x h=>nomatch h) fun x hx=>f8.rch (held_nil (fun _=>none)) (fun x h=>nomatch h) hr1m (hV x hx),un10,fun H11 tl td mk cs ks val htl hmk ntm k11 ebl11 etl emk eth11 Th11 held11=>?_⟩
  have nd9:[tl,mka,ln,th,bl,B,Ls,Pd,st].Nodup:=nd_new ndx8 al10 htl
  have nd10:[mk,tl,mka,ln,th,bl,B,Ls,Pd,st].Nodup:=by
    rw [List.nodup_cons]
    refine ⟨fun z=>?_,nd9⟩
    rcases List.mem_cons.mp z with z | z
    · exact ntm z.symm
    · obtain ⟨u,e⟩:=al10 mk z
      rw [hmk] at e; cases e
  obtain ⟨a,ea⟩:∃ a:AS,a = { S:=st,Pd:=Pd,Ls:=Ls,ln:=ln,mka:=mka,B:=B,bl:=bl,th:=th,tl:=tl,mb:=mk,dx:=dx,f1:=f1,f2:=f2,td:=td }:=⟨_,rfl⟩
  have eM:a.M = [9,8,7,3,2,6,5,4,1,0].filterMap fun j=>[mk,tl,mka,ln,th,bl,B,Ls,Pd,st][j]?:=by rw [ea]; rfl
  have ndM:a.M.Nodup:=by rw [eM]; exact nd_sel nd10 (by decide)
  have al10M:∀ b ∈ a.M,b ∈ [st,Pd,Ls,ln,mka,B,bl,th]∨H10 b = none:=fun b hb=>by
    rw [ea] at hb
    unfold AS.M at hb
    simp only [List.mem_cons,List.not_mem_nil,or_false] at hb ⊢
    rcases hb with rfl | rfl | rfl | rfl | rfl | rfl | rfl | rfl | rfl | rfl
    · exact .inl (.inl rfl)
    · exact .inl (.inr (.inl rfl))
    · exact .inl (.inr (.inr (.inl rfl)))
    · exact .inl (.inr (.inr (.inr (.inl rfl))))
    · exact .inl (.inr (.inr (.inr (.inr (.inl rfl)))))
    · exact .inl (.inr (.inr (.inr (.inr (.inr (.inl rfl))))))
    · exact .inl (.inr (.inr (.inr (.inr (.inr (.inr (.inl rfl)))))))
    · exact .inl (.inr (.inr (.inr (.inr (.inr (.inr (.inr rfl)))))))
    · exact .inr htl
    · exact .inr hmk
  have pcM:PcAt a.M H10 pk8 (addP (fun _=>none) fr):=PcAt.more pc10 al10M
  have sub67:∀ b ∈ [bl,th],b ∈ a.M:=fun b hb=>by
    rw [ea]
    unfold AS.M
    rcases mem2 hb with rfl | rfl <;> simp
  have wd:Wd c a H11 (0 + 1) pk8 (addP (fun _=>none) fr) [] (some r1) ks val ([] ++ fr.map (·.1)):=by
    clear eM al10M
    subst ea
    have L10:LawS (AS.M _) H10 st Pd Ls (0 + 1) pk8 (addP (fun _=>none) fr) [⟨1,ln,mka,0,[],some r1⟩]:=⟨es10,eP10,pcM,eL10,fun r hr=>by rw [List.mem_singleton.mp hr]; exact ⟨eln10,[],emk10,trivial⟩⟩
    have B10:BkS c (AS.M _) H10 B dx f1 f2 bl th Pd pk8 (addP (fun _=>none) fr):=⟨eB10,clo10,eP10,pcM,fun z=>oth (by simp [z])⟩
    exact ⟨L10.kx k11 sub67 (off ndM 0 [6,7] rfl (by decide)) (off ndM 1 [6,7] rfl (by decide)) (off ndM 2 [6,7] rfl (by decide)) (fun r hr=>by rw [List.mem_singleton.mp hr]; exact ⟨off ndM 3 [6,7] rfl (by decide),off ndM 4 [6,7] rfl (by decide)⟩),B10.kx2 k11 sub67 (off ndM 5 [6,7] rfl (by decide)) (off ndM 1 [6,7] rfl (by decide)),
      ⟨⟨_,ebl11,rfl⟩,etl,[],emk,trivial⟩,⟨cs,eth11,Th11⟩,held11,un10,ndM,Nat.zero_le _,List.Pairwise.nil,by unfold ino; simp⟩
  have ePC11:=k11.ext ePC10
  have hS11:SqL K H11 scr (ns.map V.int):=sqK hS10 fun u e hu=>k11.st _ _ (fun z=>by
    rcases mem2 z with z | z <;> rw [z] at e
    · rw [ebl10] at e; cases e; rcases hu with hu | ⟨o,hu⟩ <;> cases hu
    · rw [eth10] at e; cases e; rcases hu with hu | ⟨o,hu⟩ <;> cases hu) e
  have eS:a.S = st:=by rw [ea]
  have eBB:a.B = B:=by rw [ea]
  have lU0:([] ++ fr.map fun e:Int×List Int=>e.1).length ≤ 4 + 4 * 0:=by rw [List.nil_append,List.length_map]; lia
  have lpk0:pk8.length ≤ 4 + 4 * 0:=by have:([]:List (Key×V)).length = 0:=rfl; lia
  clear sub67 ea eM al10M pcM ndM
  generalize (0:Int) + 1 = n0 at wd
  generalize [] ++ fr.map (·.1) = U0 at wd lU0
  generalize addP (fun _=>none) fr = p0 at wd
  generalize some r1 = rt0 at wd
  generalize pk8 = pk0 at wd lpk0
  generalize ([]:List (Int×Int)) = ms0 at wd
  clear hS10 un10 pc10 nd9 nd10 al10 ndx8 nd7 al8 emk10 eln10 eP10 es10 ePC10 clo10 eth10 ebl10 eB10 K510 held11 Th11 eth11 emk etl ebl11 k11
  refine ⟨_,rfl,_,rfl,_,rfl,scr,_,rfl,hS11,fun sl hsl=>?_⟩
  have s12:=same_new hsl (HO.lst (cutV (ns.map V.int) (some 1) (some 41)))
  have lcut:=cut_len (ns:=ns)
  have nsl:=wd.out hsl
  have wd12:=wd.mono s12
  have nPCx:=wd.outx ePC11
  have esl:upd H11 sl (HO.lst (cutV (ns.map V.int) (some 1) (some 41))) sl = some (HO.lst (cutV (ns.map V.int) (some 1) (some 41))):=upd_same
  have ePC12:=s12 _ _ ePC11
  have cm:∀ {i:Nat} {x:V},(cutV (ns.map V.int) (some 1) (some 41))[i]? = some x→∃ z,x = .int z:=cut_mem
  revert wd12 esl ePC12 lcut cm
  generalize upd H11 sl (HO.lst (cutV (ns.map V.int) (some 1) (some 41))) = H12
  generalize cutV (ns.map V.int) (some 1) (some 41) = xs
  intro lcut wd12 esl ePC12 cm
  subst eS eBB
  refine ⟨sl,rfl,⟨_,SqL.of esl⟩,for_list (K:=K) (a:=sl) (xs:=xs) (fun i σ H'=>∃ (o4 o5 o6 o7 o8:Option V) (n:Int) (pk:List (Key×V)) (p:Mp) (ms:List (Int×Int)) (rt:Option Int) (ks:List Int) (val:Int→Nat) (U:List Int),σ = [some (.ref scr),some (.ref a.S),some (.ref a.B),some (.int r1),o4,o5,o6,o7,o8]∧Wd c a H' n pk p ms rt ks val U∧pk.length ≤ 4 + 4 * i∧U.length ≤ 4 + 4 * i∧H' sl = some (.lst xs)∧H' PC = some (.ext (tabφ PC ps)))
    ⟨none,none,none,none,none,n0,pk0,p0,ms0,rt0,ks,val,U0,rfl,wd12,lpk0,lU0,esl,ePC12⟩ (fun i σ H' _ h'=>?_) ?_ ?_⟩
  · obtain ⟨_,_,_,_,_,_,_,_,_,_,_,_,_,_,_,_,_,e,_⟩:=h'
    exact SqL.of e
  · rintro i v σ H' hv ⟨o4,o5,o6,o7,o8,n,pk,p,ms,rt,ks,val,U,rfl,wd,lpk,lU,esl,ePC⟩
    obtain ⟨z,rfl⟩:=cm hv
    have li:i < xs.length:=(List.getElem?_eq_some_iff.mp hv).1
    refine ⟨_,rfl,a.S,a.Pd,a.Ls,a.M,n,pk,p,_,U,rfl,wd.law,wd.few,wd.dom,wd.un,fun ah H1 ka s1 hah eah nda hka=>?_⟩
    have w1:=wd.mono s1
    have nah:=wd.out hah
    refine ⟨_,rfl,_,rfl,_,rfl,z,rfl,fun nl H2 nms s2 hnl enl l12 nn0=>?_⟩
    have w2:=w1.mono s2
    refine ⟨a,nl,n,pk,p,ms,rt,ks,val,U,nms,rfl,w2,enl,w1.out hnl,l12,nn0,by lia,by lia,fun H3 n' pk' p' ms' rt' ks' val' U' rl fr w3 lpk' lU' kw erl pw hfr=>?_⟩
    have esl3:=kw _ _ nsl (s2 _ _ (s1 _ _ esl))
    have ePC3:=kw _ _ nPCx (s2 _ _ (s1 _ _ ePC))
    have eah3:=kw _ _ nah (s2 _ _ eah)
    refine ⟨_,rfl,a.S,a.Pd,a.Ls,a.M,n',pk',p',_,U',rfl,w3.law,w3.few,w3.dom,w3.un,fun ld H4 kl s4 hld eld ndl hkl=>?_⟩
    have w4:=w3.mono s4
    have nld:=w3.out hld
    have ekl:∀ x,x ∈ kl↔x ∈ ks':=fun x=>by rw [hkl,roots1,w3.held.set]
    have eka:∀ x,x ∈ ka↔x ∈ ks:=fun x=>by rw [hka,roots1,wd.held.set]
    have lka:ka.length ≤ 1000:=Nat.le_trans (nd_len nda (b:=ks) fun x hx=>(eka x).mp hx) (Nat.le_trans wd.kl wd.un.n)
    have eah4:=s4 _ _ eah3
    refine ⟨_,rfl,ah,seenD ka,ka,rfl,.inl eah4,seenD_keys ka,by lia,fun so mso pmo pwo hso=>?_⟩
    have s5:=same_new hso (HO.lst (mso.map V.int))
    refine ⟨so,rfl,⟨_,SqL.of upd_same⟩,fun du hdu=>?_⟩
    have eso:upd H4 so (HO.lst (mso.map V.int)) so = some (HO.lst (mso.map V.int)):=upd_same
    revert s5 eso
    generalize upd H4 so (HO.lst (mso.map V.int)) = H5' at hdu ⊢
    intro s5 eso
    have eld5:=s5 _ _ eld
    refine comp_list (K:=K) (a:=so) (xs:=mso.map V.int) (fun j us H6=>Same H5' H6∧H6 du = some (.lst us)∧us = (((mso.take j).filter fun x=>decide (x ∉ kl)).map V.int)) ⟨same_new hdu _,upd_same,rfl⟩ (fun j us H6 _ h6=>SqL.of (h6.1 _ _ eso)) ?_ ?_
    · rintro j v us H6 hv ⟨s6,e6,rfl⟩
      rw [List.getElem?_map] at hv
      obtain ⟨x,hx,rfl⟩:=Option.map_eq_some_iff.mp hv
      have lf:(((mso.take j).filter fun x=>decide (x ∉ kl)).map V.int).length < sizeLine:=small (by
        have h1:=List.length_filter_le (fun x=>decide (x ∉ kl)) (mso.take j)
        have h2:=List.length_take_le j mso
        have h3:=pmo.length_eq
        rw [List.length_take] at h1
        rw [List.length_map]
        lia)
      rw [List.take_add_one,hx,List.filter_append]
      refine ⟨_,rfl,_,rfl,ld,_,rfl,gtK (k:=Sum.inl x) (s6 _ _ eld5) rfl,_,rfl,?_⟩
      by_cases cx:x ∈ kl
      · rw [seenD_in cx]
        refine iteF ⟨s6,e6,?_⟩
        show _ = ((_ ++ List.filter (fun x=>decide (x ∉ kl)) [x]).map V.int)
        rw [List.filter_cons_of_neg (p:=fun x=>decide (x ∉ kl)) (by simpa using cx)]
        simp
      · rw [seenD_no cx]
        refine iteT ⟨_,rfl,e6,lf,same_over s6 hdu _,upd_same,?_⟩
        show _ = ((_ ++ List.filter (fun x=>decide (x ∉ kl)) [x]).map V.int)
        rw [List.filter_cons_of_pos (p:=fun x=>decide (x ∉ kl)) (by simpa using cx),List.map_append]
        rfl
    rintro us H6 ⟨s6,e6,rfl⟩
    rw [List.length_map,List.take_length] at e6
    have ss:=s4.trans (s5.trans s6)
    have erl6:=ss _ _ erl
    have edue:fr = mso.filter fun x=>decide (x ∉ kl):=by
      refine lt_uniq pw (List.Pairwise.filter _ (lt_of_nd pwo (pmo.nodup_iff.mpr nda))) fun x=>?_
      rw [hfr,List.mem_filter,pmo.mem_iff,eka]
      constructor
      · rintro ⟨h1,h2⟩
        exact ⟨h1,decide_eq_true fun z=>h2 ((ekl x).mp z)⟩
      · rintro ⟨h1,h2⟩
        exact ⟨h1,fun z=>of_decide_eq_true h2 ((ekl x).mpr z)⟩
    rw [← edue] at e6
    have w6:=w3.mono ss
    refine ⟨_,rfl,_,_,_,true,rfl,.lst erl6,kit_ll K,_,rfl,iteF ?_⟩
    refine ⟨_,rfl,_,rfl,rl,du,_,_,rfl,rfl,SqL.of erl6,SqL.of e6,flat_ints _,flat_ints _,_,rfl,?_⟩
    rw [eqVs_ints]
    refine iteF ?_
    refine ⟨_,rfl,_,rfl,_,rfl,a,ld,n',pk',p',ms',rt',ks',kl,val',U',rfl,w6,(s5.trans s6) _ _ eld,nld,ndl,ekl,fun H7 s7=>?_⟩
    refine ⟨_,rfl,iteF ?_⟩
    exact ⟨_,_,_,_,_,n',pk',p',ms',rt',ks',val',U',rfl,w6.mono s7,by lia,by lia,s7 _ _ (ss _ _ esl3),s7 _ _ (ss _ _ ePC3)⟩
  · rintro σ H' ⟨o4,o5,o6,o7,o8,n,pk,p,ms,rt,ks,val,U,rfl,wd,lpk,lU,esl,ePC⟩
    refine ⟨_,rfl,_,rfl,_,rfl,a.S,a.Pd,a.Ls,a.M,n,pk,p,_,U,rfl,wd.law,wd.few,wd.dom,wd.un,fun ld H1 kl s1 hld eld ndl hkl=>?_⟩
    refine ⟨a,ld,n,pk,p,ms,rt,ks,kl,val,U,rfl,wd.mono s1,eld,wd.out hld,ndl,fun x=>by rw [hkl,roots1,wd.held.set],fun H2 s2=>?_⟩
    exact q _ ps (s2 _ _ (s1 _ _ ePC))
end
end K31
namespace L2
open PySem FL
section
variable {K:PySem.W.Frag} {h:Heap} {mg:Str→Option Value}
noncomputable def Bnd (x q:Str) (st:Stmt) (ps:List Str):Prop:=∀ (kV doc pm:Value) (an:Option Addr) (cdv ct:Value) (us:List Value),us.length = ps.length→bindArgs (PySem.W.fnOf x q (defArgs st) (defBody st) (defScope st) .none kV doc pm an cdv ct) ⟨us,[]⟩ = pure (ps.zip us)
structure Fa (K:PySem.W.Frag) (x q:Str) (st:Stmt) (f:Addr) (oc:Value) (od an:Option Addr) (osl:Array (Option Value)) (kV doc pm cdv ct:Value):Prop where
  l:K.lookup f = some ⟨oc,od,.func (PySem.W.fnOf x q (defArgs st) (defBody st) (defScope st) .none kV doc pm an cdv ct),osl⟩
  c:PySem.W.codeIn K cdv q = true
  k:PySem.W.keepIn K (.ref f) = true
theorem has_mk {x:Str} {st:Stmt} {ps:List Str} {f:Addr} {oc:Value} {od an:Option Addr} {osl:Array (Option Value)} {kV doc pm cdv ct:Value} (X:K.In h) (G:h.Ns mainGlobals mg) (a:PySem.W.nsIn K mainGlobals x = some (some (.ref f))) (F:Fa K x x st f oc od an osl kV doc pm cdv ct) (b:Bnd x x st ps) :
    Has K mg x st ps f (PySem.W.fnOf x x (defArgs st) (defBody st) (defScope st) .none kV doc pm an cdv ct):=⟨fun_mk F.l F.c F.k,(fun_mk F.l F.c F.k).binds b,PySem.W.mg_of X G a⟩
theorem mhas_mk {C:Addr} {x q:Str} {st:Stmt} {ps:List Str} {f:Addr} {oc:Value} {od an:Option Addr} {osl:Array (Option Value)} {kV doc pm cdv ct:Value} (a:PySem.W.findIn K (.ref C) x = some (some (.ref f))) (n:PySem.W.isFn K (.ref f) = true) (F:Fa K x q st f oc od an osl kV doc pm cdv ct) (b:Bnd x q st ps) :
    MHas K C x q st ps f (PySem.W.fnOf x q (defArgs st) (defBody st) (defScope st) .none kV doc pm an cdv ct):=⟨fun_mk F.l F.c F.k,(fun_mk F.l F.c F.k).binds b,⟨a,n,F.k⟩⟩
structure IHas (K:PySem.W.Frag) (mg:Str→Option Value) (x q:Str) (C:Addr) (st:Stmt) (ps:List Str) (f:Addr) (fd:FuncData):Prop where
  fn:Fun K "__init__" q st f fd
  bd:Binds K fd ps []
  mak:Mk K C f
  nm:mg x = some (.ref C)
theorem ihas_mk {C:Addr} {x q:Str} {st:Stmt} {ps:List Str} {f:Addr} {oc:Value} {od an:Option Addr} {osl:Array (Option Value)} {kV doc pm cdv ct:Value} (nm:mg x = some (.ref C)) (m:PySem.W.makesIn K C = true) (a:PySem.W.findIn K (.ref C) "__init__" = some (some (.ref f))) (n:PySem.W.isFn K (.ref f) = true) (kc:PySem.W.keepIn K (.ref C) = true) (F:Fa K "__init__" q st f oc od an osl kV doc pm cdv ct) (b:Bnd "__init__" q st ps) :
    IHas K mg x q C st ps f (PySem.W.fnOf "__init__" q (defArgs st) (defBody st) (defScope st) .none kV doc pm an cdv ct):=⟨fun_mk F.l F.c F.k,(fun_mk F.l F.c F.k).binds b,⟨m,a,n,kc⟩,nm⟩
end
section
variable {P:List Value→Prop}
theorem us1 (h:∀ a,P [a]) (us:List Value) (e:us.length = 1):P us:=by
  obtain ⟨a,rfl⟩:=List.length_eq_one_iff.mp e
  exact h a
theorem us2 (h:∀ a b,P [a,b]) (us:List Value) (e:us.length = 2):P us:=by
  cases us with
  | nil => cases e
  | cons a r => exact us1 (P:=fun r=>P (a :: r)) (h a) r (Nat.succ.inj e)
theorem us3 (h:∀ a b c,P [a,b,c]) (us:List Value) (e:us.length = 3):P us:=by
  cases us with
  | nil => cases e
  | cons a r => exact us2 (P:=fun r=>P (a :: r)) (h a) r (Nat.succ.inj e)
theorem us4 (h:∀ a b c d,P [a,b,c,d]) (us:List Value) (e:us.length = 4):P us:=by
  cases us with
  | nil => cases e
  | cons a r => exact us3 (P:=fun r=>P (a :: r)) (h a) r (Nat.succ.inj e)
theorem us5 (h:∀ a b c d e,P [a,b,c,d,e]) (us:List Value) (e:us.length = 5):P us:=by
  cases us with
  | nil => cases e
  | cons a r => exact us4 (P:=fun r=>P (a :: r)) (h a) r (Nat.succ.inj e)
end
end L2
set_option maxHeartbeats 8000000
namespace K31
open PySem L2 FL
theorem all_mk {l:PySem.W.OpenLaw} {w:World} {K:PySem.W.Frag} {mg:Str→Option Value} {fa cL cC fLIn fLOr fLIx fBIn fBBg fBLs fBLy fBTm fBTg fBLv fCSt fCMd fCGr fCUn fCEn fCCt fCHd fCRl fCel fStm fRea fLyi fTre fMst fCnt fDed fTru fRig fBok fLaw:Addr} {dLIn dLOr dLIx dBIn dBBg dBLs dBLy dBTm dBTg dBLv dCSt dCMd dCGr dCUn dCEn dCCt dCHd dCRl dCel dStm dRea dLyi dTre dMst dCnt dDed dTru dRig dBok dLaw:FuncData} (hfa:mg "law" = some (.ref fa))
    (ncL:mg "Line" = some (.ref cL))
    (ncC:mg "Counts" = some (.ref cC))
    (clcL:Cls K cL)
    (clcC:Cls K cC)
    (nacL_0:NoAttr K cL "base")
    (nacL_1:NoAttr K cL "makes")
    (nacL_2:NoAttr K cL "root")
    (nacC_0:NoAttr K cC "points_of")
    (nacC_1:NoAttr K cC "born_of")
    (nacC_2:NoAttr K cC "lines")
    (nacC_3:NoAttr K cC "there")
    (iLIn:IHas K mg "Line" "Line.__init__" cL sLIn ["self","base","makes","root"] fLIn dLIn)
    (hLOr:MHas K cL "in_order" "Line.in_order" sLOr ["self"] fLOr dLOr)
    (hLIx:MHas K cL "index_of" "Line.index_of" sLIx ["self","stamp"] fLIx dLIx)
    (iBIn:IHas K mg "Counts" "Book.__init__" cC sBIn ["self","points","born"] fBIn dBIn)
    (hBBg:MHas K cC "begun" "Book.begun" sBBg ["self","line","base","root"] fBBg dBBg)
    (hBLs:MHas K cC "lies" "Book.lies" sBLs ["self","place"] fBLs dBLs)
    (hBLy:MHas K cC "lying" "Book.lying" sBLy ["self"] fBLy dBLy)
    (hBTm:MHas K cC "take_make" "Book.take_make" sBTm ["self","line","stamp"] fBTm dBTm)
    (hBTg:MHas K cC "take_growth" "Book.take_growth" sBTg ["self","line"] fBTg dBTg)
    (hBLv:MHas K cC "leave_if_empty" "Book.leave_if_empty" sBLv ["self","line"] fBLv dBLv)
    (hCSt:MHas K cC "stood" "Counts.stood" sCSt ["self","line","base","makes","root"] fCSt dCSt)
    (hCMd:MHas K cC "made" "Counts.made" sCMd ["self","line","stamp"] fCMd dCMd)
    (hCGr:MHas K cC "grown" "Counts.grown" sCGr ["self","line","root"] fCGr dCGr)
    (hCUn:MHas K cC "unmade" "Counts.unmade" sCUn ["self","line","stamp"] fCUn dCUn)
    (hCEn:MHas K cC "ended" "Counts.ended" sCEn ["self","line"] fCEn dCEn)
    (hCCt:MHas K cC "count" "Counts.count" sCCt ["self","place"] fCCt dCCt)
    (hCHd:MHas K cC "hold" "Counts.hold" sCHd ["self","root"] fCHd dCHd)
    (hCRl:MHas K cC "release" "Counts.release" sCRl ["self","root"] fCRl dCRl)
    (hCel:Has K mg "_law_cell_at" sCel ["_law_script","_law_k"] fCel dCel)
    (hStm:Has K mg "_law_stream" sStm ["_law_cell","_law_many"] fStm dStm)
    (hRea:Has K mg "_law_reach" sRea ["_law_pieces","_law_roots"] fRea dRea)
    (hLyi:Has K mg "_law_lying" sLyi ["_law_state"] fLyi dLyi)
    (hTre:Has K mg "_law_tree" sTre ["_law_state","_law_numbers","_law_old"] fTre dTre)
    (hMst:Has K mg "_law_made_stamp" sMst ["_law_state","_law_line","_law_number"] fMst dMst)
    (hCnt:Has K mg "_law_count" sCnt ["_law_state","_law_lying_here","_law_place"] fCnt dCnt)
    (hDed:Has K mg "_law_deed" sDed ["_law_book_here","_law_state","_law_numbers"] fDed dDed)
    (hTru:Has K mg "_law_truth" sTru ["_law_told","_law_due"] fTru dTru)
    (hRig:Has K mg "_law_right" sRig ["_law_book_here","_law_state","_law_lying_here"] fRig dRig)
    (hBok:Has K mg "_law_book" sBok ["_law_pieces"] fBok dBok)
    (hLaw:Has K mg "law" sLaw ["_law_script"] fLaw dLaw)
    (eBok:dBok.code = .ref 269)
    (bL:∀ (s:Shared) (v:Value),BindsTo s dLaw ⟨[v],[]⟩ [("_law_script",v)])
    (T:Txt mg) :
    ∃ fd:FuncData,(∀ (s:Shared) (v:Value),BindsTo s fd ⟨[v],[]⟩ [("_law_script",v)])∧∀ base:Heap,K.In base→base.Ns mainGlobals mg→(∀ t ∈ ([(269,265)]:List (Addr×Addr)),PySem.W.CodeHd base t.1 t.2)→BltIn base mg→FnOk l.prog w K mg base CX0 6 fa fd ["_law_script"] (spLaw 265 K):=by
  cases hfa.symm.trans hLaw.nm
  refine ⟨_,bL,fun base _ _ hC B=>?_⟩
  let c:BC:=⟨cL,cC⟩
  have cf:CF K c:=⟨clcL,clcC,nacL_0,nacL_1,nacL_2,nacC_0,nacC_1,nacC_2,nacC_3⟩
  have GLIn:FnOk l.prog w K mg base CX0 1 fLIn _ ["self","base","makes","root"] (spLIn c):=ok_LIn iLIn.fn cf T
  have GLOr:FnOk l.prog w K mg base CX0 1 fLOr _ ["self"] (spLOr c):=ok_LOr hLOr.fn cf T
  have GLIx:FnOk l.prog w K mg base CX0 1 fLIx _ ["self","stamp"] (spLIx c):=ok_LIx hLIx.fn cf T
  have GBIn:FnOk l.prog w K mg base CX0 1 fBIn _ ["self","points","born"] (spBIn c):=ok_BIn iBIn.fn cf
  have GBLs:FnOk l.prog w K mg base CX0 1 fBLs _ ["self","place"] (spBLs c):=ok_BLs hBLs.fn cf
  have GBLy:FnOk l.prog w K mg base CX0 1 fBLy _ ["self"] (spBLy c):=ok_BLy hBLy.fn cf T
  have GBLv:FnOk l.prog w K mg base CX0 2 fBLv _ ["self","line"] (spBLv c):=ok_BLv hBLv.fn cf hLOr GLOr
  have GBTm:FnOk l.prog w K mg base CX0 3 fBTm _ ["self","line","stamp"] (spBTm c):=ok_BTm hBTm.fn cf hLIx GLIx hBLv GBLv
  have GBTg:FnOk l.prog w K mg base CX0 3 fBTg _ ["self","line"] (spBTg c):=ok_BTg hBTg.fn cf hBLv GBLv
  have GCCt:FnOk l.prog w K mg base CX0 1 fCCt _ ["self","place"] (spCCt c):=ok_CCt hCCt.fn cf
  have FPts:=ok_Pts (P:=l.prog) (w:=w) (K:=K) (base:=base) T
  have GCHd:FnOk l.prog w K mg base CX0 3 fCHd _ ["self","root"] (spCHd c):=ok_CHd hCHd.fn cf FPts hBLs GBLs hCCt GCCt T
  have GCRl:FnOk l.prog w K mg base CX0 3 fCRl _ ["self","root"] (spCRl c):=ok_CRl hCRl.fn cf FPts hCCt GCCt T
  have GCSt:FnOk l.prog w K mg base CX0 4 fCSt _ ["self","line","base","makes","root"] (spCSt c):=ok_CSt (aL:=0) hCSt.fn cf iLIn.mak GLIn ncL iLIn.bd hLOr GLOr hCHd GCHd
  have GBBg:FnOk l.prog w K mg base CX0 5 fBBg _ ["self","line","base","root"] (spBBg c):=ok_BBg hBBg.fn cf hCSt GCSt
  have GCMd:FnOk l.prog w K mg base CX0 4 fCMd _ ["self","line","stamp"] (spCMd c):=ok_CMd hCMd.fn cf hCHd GCHd
  have GCGr:FnOk l.prog w K mg base CX0 4 fCGr _ ["self","line","root"] (spCGr c):=ok_CGr hCGr.fn cf hCHd GCHd hCRl GCRl
  have GCUn:FnOk l.prog w K mg base CX0 4 fCUn _ ["self","line","stamp"] (spCUn c):=ok_CUn hCUn.fn cf hBTm GBTm hCRl GCRl
  have GCEn:FnOk l.prog w K mg base CX0 4 fCEn _ ["self","line"] (spCEn c):=ok_CEn hCEn.fn cf hBTg GBTg hCRl GCRl
  have GCel:FnOk l.prog w K mg base CX0 1 fCel _ ["_law_script","_law_k"] (spCel K):=ok_Cel hCel.fn T
  have GStm:FnOk l.prog w K mg base CX0 1 fStm _ ["_law_cell","_law_many"] spStm:=ok_Stm hStm.fn T
  have GTru:FnOk l.prog w K mg base CX0 1 fTru _ ["_law_told","_law_due"] spTru:=ok_Tru hTru.fn T
  have GRea:FnOk l.prog w K mg base CX0 1 fRea _ ["_law_pieces","_law_roots"] spRea:=ok_Rea hRea.fn T
  have GLyi:FnOk l.prog w K mg base CX0 2 fLyi _ ["_law_state"] spLyi:=ok_Lyi hLyi.fn hRea GRea T
  have GTre:FnOk l.prog w K mg base CX0 3 fTre _ ["_law_state","_law_numbers","_law_old"] spTre:=ok_Tre hTre.fn hLyi GLyi T
  have GMst:FnOk l.prog w K mg base CX0 1 fMst _ ["_law_state","_law_line","_law_number"] spMst:=ok_Mst hMst.fn T
  have GCnt:FnOk l.prog w K mg base CX0 1 fCnt _ ["_law_state","_law_lying_here","_law_place"] spCnt:=ok_Cnt hCnt.fn T
  have GDed:FnOk l.prog w K mg base CX0 5 fDed _ ["_law_book_here","_law_state","_law_numbers"] (spDed c):=ok_Ded hDed.fn cf T hTre GTre hRea GRea hMst GMst hCGr GCGr hCMd GCMd hCEn GCEn hCUn GCUn
  have GRig:FnOk l.prog w K mg base CX0 2 fRig _ ["_law_book_here","_law_state","_law_lying_here"] (spRig c):=ok_Rig hRig.fn cf T hBLy GBLy hTru GTru hBLs GBLs hCCt GCCt hCnt GCnt
  have GBok:FnOk l.prog w K mg base CX0 3 fBok _ ["_law_pieces"] (spBok c 265):=ok_Bok hBok.fn eBok (hC _ (List.mem_cons_self ..)) B cf iBIn.mak GBIn ncC iBIn.bd
  exact ok_law hLaw.fn cf T hBok GBok hTre GTre hStm GStm hCel GCel hBBg GBBg hLyi GLyi hDed GDed hRig GRig
theorem walkL {l:PySem.W.OpenLaw} {q:Program} {loose:List Str} {XP:(Str→Option Value)→Heap→Prop} {YP:World→Heap→Prop} {d:DefRec} {K:Params→PySem.W.Frag} (hn:l.most = some 63) (hdf:d.params.defaults = [])
    (hY:∀ (w:World) (h:Heap),YP w h→(K w.params).In h∧PySem.W.TabsAt [(269,265)] h) (hTK:∀ (w:World),∀ t ∈ ([(269,265)]:List (Addr×Addr)),(K w.params).lookup t.2 = none)
    (F:∀ (w:World) (mg:Str→Option Value) (fa:Addr) (h:Heap),(K w.params).In h→h.Ns mainGlobals mg→mg d.name = some (.ref fa) →
      ∃ fd:FuncData,(∀ (s:Shared) (u:Value),BindsTo s fd ⟨[u],[]⟩ [("_law_script",u)])∧∀ base:Heap,(K w.params).In base→base.Ns mainGlobals mg→(∀ t ∈ ([(269,265)]:List (Addr×Addr)),PySem.W.CodeHd base t.1 t.2)→BltIn base mg→FnOk l.prog w (K w.params) mg base CX0 6 fa fd ["_law_script"] (spLaw 265 (K w.params))) :
    PySem.W.WalkO q loose XP YP l.row.toRowW d [] (fun f vs=>PySem.call f vs) :=
  L2.walk_tab (n:=63) (k:=6) (x:="_law_script") (CX:=fun _=>CX0) (sp:=fun w=>spLaw 265 (K w.params)) (tabs:=[(269,265)]) hn (by decide) hdf ⟨fun _=>rfl,by decide,by decide⟩ hY hTK F
    (fun _ _ a ns hl hS hT=>⟨a,ns,rfl,hS,hT _ (List.mem_cons_self ..),fun _ ps e=>⟨rfl,List.forall_mem_cons.mpr ⟨⟨ps,e⟩,fun _ h=>nomatch h⟩⟩⟩) fun _ _ _ _ _ z=>z
end K31
open PySem PySem.W PyProof.Rows L2
set_option maxRecDepth 100000
set_option maxHeartbeats 0
open_top K31hd for PySem.Challenge.rw_clonewood_k31_counts_of_one_line
theorem PySem.Challenge.cw_clonewood_k31_counts_of_one_line_holds : PySem.Challenge.rw_clonewood_k31_counts_of_one_line.Holds := by
  refine K31hd ?_
  k_fill
  refine K31.walkL (l:=PySem.Challenge.rw_clonewood_k31_counts_of_one_line) rfl rfl (fun w h Y=>⟨PySem.W.km_in_of Y,List.forall_mem_cons.mpr ⟨⟨PySem.W.codeHd_of_K (c:=269) (P:=265) (PySem.W.km_in_of Y) (by kernel_rfl),PySem.W.km_tabs_of Y 265 (List.mem_cons_self ..)⟩,fun _ h=>nomatch h⟩⟩) (fun w=>List.forall_mem_cons.mpr ⟨by kernel_rfl,fun _ h=>nomatch h⟩) ?F
  case F =>
    intro w mg fa h KX G hmg
    refine' K31.all_mk hmg ?ncL ?ncC ?clcL ?clcC ?nacL_0 ?nacL_1 ?nacL_2 ?nacC_0 ?nacC_1 ?nacC_2 ?nacC_3 ?iLIn ?hLOr ?hLIx ?iBIn ?hBBg ?hBLs ?hBLy ?hBTm ?hBTg ?hBLv ?hCSt ?hCMd ?hCGr ?hCUn ?hCEn ?hCCt ?hCHd ?hCRl ?hCel ?hStm ?hRea ?hLyi ?hTre ?hMst ?hCnt ?hDed ?hTru ?hRig ?hBok ?hLaw ?eBok ?bL ?T
    (case ncL | ncC=>exact PySem.W.mg_of KX G (by k_is))
    (case clcL | clcC=>exact ⟨by k_is,by k_is,by k_is,by k_is⟩)
    (case nacL_0 | nacL_1 | nacL_2 | nacC_0 | nacC_1 | nacC_2 | nacC_3=>unfold NoAttr; k_is)
    (case iLIn=>exact ihas_mk (PySem.W.mg_of KX G (by k_is)) (by k_is) (by k_is) (by k_is) (by k_is) ⟨by k_is,by k_is,by k_is⟩ (fun _ _ _ _ _ _=>us4 fun _ _ _ _=>rfl))
    (case hLOr | hBLy=>exact mhas_mk (by k_is) (by k_is) ⟨by k_is,by k_is,by k_is⟩ (fun _ _ _ _ _ _=>us1 fun _=>rfl))
    (case hLIx | hBLs | hBTg | hBLv | hCEn | hCCt | hCHd | hCRl=>exact mhas_mk (by k_is) (by k_is) ⟨by k_is,by k_is,by k_is⟩ (fun _ _ _ _ _ _=>us2 fun _ _=>rfl))
    (case iBIn=>exact ihas_mk (PySem.W.mg_of KX G (by k_is)) (by k_is) (by k_is) (by k_is) (by k_is) ⟨by k_is,by k_is,by k_is⟩ (fun _ _ _ _ _ _=>us3 fun _ _ _=>rfl))
    (case hBBg=>exact mhas_mk (by k_is) (by k_is) ⟨by k_is,by k_is,by k_is⟩ (fun _ _ _ _ _ _=>us4 fun _ _ _ _=>rfl))
    (case hBTm | hCMd | hCGr | hCUn=>exact mhas_mk (by k_is) (by k_is) ⟨by k_is,by k_is,by k_is⟩ (fun _ _ _ _ _ _=>us3 fun _ _ _=>rfl))
    (case hCSt=>exact mhas_mk (by k_is) (by k_is) ⟨by k_is,by k_is,by k_is⟩ (fun _ _ _ _ _ _=>us5 fun _ _ _ _ _=>rfl))
    (case hCel | hStm | hRea | hTru=>exact has_mk KX G (by k_is) ⟨by k_is,by k_is,by k_is⟩ (fun _ _ _ _ _ _=>us2 fun _ _=>rfl))
    (case hLyi | hBok | hLaw=>exact has_mk KX G (by k_is) ⟨by k_is,by k_is,by k_is⟩ (fun _ _ _ _ _ _=>us1 fun _=>rfl))
    (case hTre | hMst | hCnt | hDed | hRig=>exact has_mk KX G (by k_is) ⟨by k_is,by k_is,by k_is⟩ (fun _ _ _ _ _ _=>us3 fun _ _ _=>rfl))
    (case eBok=>rfl)
    (case bL=>exact fun _ _=>.of_eq rfl)
    (case T=>exact ⟨PySem.W.mg_none_of KX G (by k_is),PySem.W.mg_none_of KX G (by k_is),PySem.W.mg_none_of KX G (by k_is),PySem.W.mg_none_of KX G (by k_is),PySem.W.mg_none_of KX G (by k_is),PySem.W.mg_none_of KX G (by k_is),PySem.W.mg_none_of KX G (by k_is),PySem.W.mg_none_of KX G (by k_is)⟩)
#print axioms PySem.Challenge.cw_clonewood_k31_counts_of_one_line_holds
