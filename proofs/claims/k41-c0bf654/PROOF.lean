import PyProof.Rows.All
import Wide.All
import OpenK.AllK
import Wide.FinOn
import Lean
import PyProof.EqAt
import PyProof.EqKinds
import PyProof.NeKinds
import PyProof.TupleCall
import PySem.Challenge.RW_clonewood_k41_cells_put_hollowed_and_sha
import PyProof.SetKind
import PyProof.Rows.SetFrom
import KE.KDictList
import KE.KEqDict
import OpenK.KCls
import PyProof.Rows.Range3
import KE.KNest
set_option Elab.async false
set_option linter.all false
set_option maxRecDepth 100000
set_option maxHeartbeats 8000000
abbrev DB:List PySem.Str:=["self"]
abbrev DC:List PySem.Str:=["self","path","names"]
abbrev DD:List PySem.Str:=["self","place"]
abbrev DF:List PySem.Str:=["thing"]
abbrev DG:List PySem.Str:=["path"]
abbrev DH:List PySem.Str:=["row","low","high"]
abbrev DI:List PySem.Str:=["self","name"]
abbrev DJ:List PySem.Str:=["stretch"]
abbrev DK:List PySem.Str:=["ahead","stretch"]
abbrev DL:List PySem.Str:=["self","names"]
abbrev DM:List PySem.Str:=["row"]
abbrev DN:List PySem.Str:=["self","place","told"]
abbrev DO:List PySem.Str:=["_law_cell","_law_k"]
abbrev DP:List PySem.Str:=["thing","low","high"]
abbrev DQ:List PySem.Str:=["self","born"]
abbrev DR:List PySem.Str:=["self","born","size","row"]
abbrev DT:List PySem.Str:=["self","names","size","row"]
abbrev DU:List PySem.Str:=["at","long"]
abbrev DV:List PySem.Str:=["self","knot"]
abbrev DW:List PySem.Str:=["self","born","cells"]
abbrev DX:List PySem.Str:=["self","born","limit","entries"]
abbrev DY:List PySem.Str:=["knot","at","long"]
abbrev DZ:List PySem.Str:=["self","names","knot","low","high","row"]
abbrev D0:List PySem.Str:=["at","cells"]
abbrev D3:List PySem.Str:=["self","path","names","leaving"]
abbrev D4:List PySem.Str:=["self","names","kind","place"]
abbrev D5:List PySem.Str:=["self","path","at","cells"]
abbrev D7:List PySem.Str:=["_law_script","_law_k"]
abbrev D8:List PySem.Str:=["row","by"]
abbrev D9:List PySem.Str:=["stuff"]
abbrev Ea:List PySem.Str:=["self","born","name","kind","place"]
abbrev Eb:List PySem.Str:=["look","found","name"]
abbrev Ec:List PySem.Str:=["cells"]
abbrev Ed:List PySem.Str:=["_law_cell","_law_long"]
abbrev Ee:List PySem.Str:=["self","look","root","now"]
abbrev Ef:List PySem.Str:=["_law_cell","_law_many"]
abbrev Eg:List PySem.Str:=["row","low","high","new"]
abbrev Eh:List PySem.Str:=["look","root","names"]
abbrev Ei:List PySem.Str:=["self","path","size"]
abbrev Ej:List PySem.Str:=["self","path","at","long"]
abbrev Ek:List PySem.Str:=["self","path","at","long","to","to_at"]
abbrev El:List PySem.Str:=["self","path","to"]
abbrev Em:List PySem.Str:=["_law_cell","_law_most"]
abbrev En:List PySem.Str:=["_law_cells_here","_law_at_here","_law_some"]
abbrev Eo:List PySem.Str:=["_law_cell","_law_names","_law_files"]
abbrev Ep:List PySem.Str:=["_law_deed","_law_ask_here"]
abbrev Er:List PySem.Str:=["_law_files","_law_ask_here"]
abbrev Es:List PySem.Str:=["_law_deed"]
abbrev Et:List PySem.Str:=["_law_view","_law_place"]
abbrev Eu:List PySem.Str:=["_law_deed","_law_files"]
abbrev Ev:List PySem.Str:=["_law_script"]
abbrev Ew:List PySem.Str:=["at","long","place","skip","by"]
abbrev Ex:List PySem.Str:=["name","kind","place"]
abbrev Ey:List PySem.Str:=["self","path","names","there"]
abbrev EA:List PySem.Str:=["row","low","high","new","both"]
abbrev EC:List PySem.Str:=["_law_deed","_law_files","_law_stuff","_law_name","_law_kind","_law_place"]
abbrev ED:List PySem.Str:=["_law_script","_law_names","_law_deed","_law_beside","_law_files","_law_others","_law_cell","_law_ask_here","_law_before","_law_sizes","_law_due"]
namespace L2
open PySem PySem.Spec PyProof.Rows
abbrev Key:=Sum Int Str
def jV:Key->Value->Bool
 | .inl k,v=>Value.isInt k v
 | .inr x,v=>Value.isStrOf x v
def Cq (w:World):Key->Int
 | .inl k=>hashInt k
 | .inr x=>hashStr w x
theorem bv:∀{k:Key} {v:Value},jV k v=true->(∃i t,k=Sum.inl i/\v=Value.int i t)\/(∃x t,k=Sum.inr x/\v=Value.str x t)
 | .inl i,v,h=>by
  obtain⟨t,e⟩:=Value.isInt_shape (k:=i) (v:=v) h;exact .inl ⟨i,t,rfl,e⟩
 | .inr x,v,h=>by
  obtain⟨t,e⟩:=Value.isStrOf_shape (x:=x) (v:=v) h;exact .inr ⟨x,t,rfl,e⟩
theorem qV (i:Int)(t:Tok):jV (.inl i) (.int i t)=true:=by simp[jV,Value.isInt]
theorem qW (x:Str)(t:Tok):jV (.inr x) (.str x t)=true:=by simp[jV,Value.isStrOf]
theorem xI (a b:Int):decide ((Sum.inl a:Key)=Sum.inl b)=(a == b):=by
 by_cases e:a=b
 . subst e;simp
 . have h:¬ (Sum.inl a:Key)=Sum.inl b:=fun q=>e (Sum.inl.inj q);rw[decide_eq_false h];exact(beq_eq_false_iff_ne.mpr e).symm
theorem xJ (a b:Str):decide ((Sum.inr a:Key)=Sum.inr b)=decide (a=b):=by
 by_cases e:a=b
 . subst e;simp
 . have h:¬ (Sum.inr a:Key)=Sum.inr b:=fun q=>e (Sum.inr.inj q);rw[decide_eq_false h,decide_eq_false e]
theorem xK (a:Int)(b:Str):decide ((Sum.inl a:Key)=Sum.inr b)=false:=decide_eq_false (fun q=>nomatch q)
theorem xL (a:Str)(b:Int):decide ((Sum.inr a:Key)=Sum.inl b)=false:=decide_eq_false (fun q=>nomatch q)
def bp (prog:Program)(w:World):PySem.KeyKind prog w Key where
 is:=jV
 hash:=Cq w
 inj:=fun v a b ha hb=>by
  rcases bv ha with⟨i,t,rfl,rfl⟩|⟨x,t,rfl,rfl⟩
  . rcases bv hb with⟨j,u,rfl,e⟩|⟨y,u,rfl,e⟩
    . injection e with e1 _;rw[e1]
    . exact nomatch e
  . rcases bv hb with⟨j,u,rfl,e⟩|⟨y,u,rfl,e⟩
    . exact nomatch e
    . injection e with e1 _;rw[e1]
 byValue:=fun k v h=>by
  rcases bv h with⟨i,t,rfl,rfl⟩|⟨x,t,rfl,rfl⟩ <;> rfl
 pyHash:=fun hv h=>by
  rcases bv hv with⟨i,t,rfl,rfl⟩|⟨x,t,rfl,rfl⟩
  . exact wpAny_pyHash_int h
  . exact wpAny_pyHash_str h
 eqBool:=fun hu hv h=>by
  rcases bv hu with⟨i,t,rfl,rfl⟩|⟨x,t,rfl,rfl⟩
  . rcases bv hv with⟨j,u,rfl,rfl⟩|⟨y,u,rfl,rfl⟩
    . rw[xI]at h;exact wpAny_eqBool_int h
    . rw[xK]at h;exact SeqAt.EqAt.int_str i t y u _ _ _ _ h
  . rcases bv hv with⟨j,u,rfl,rfl⟩|⟨y,u,rfl,rfl⟩
    . rw[xL]at h;exact SeqAt.EqAt.str_int x t j u _ _ _ _ h
    . rw[xJ]at h;exact wpAny_eqBool_str h
 «strs»:=fun k x t v h=>by
  rcases bv h with⟨i,u,rfl,e⟩|⟨y,u,rfl,e⟩
  . exact nomatch e
  . injection e with e1 _;subst e1;cases v <;> rfl
theorem mF (prog:Program)(w:World)(i:Int)(t:Tok):(bp prog w).is (.inl i) (.int i t)=true:=qV i t
theorem mG (prog:Program)(w:World)(x:Str)(t:Tok):(bp prog w).is (.inr x) (.str x t)=true:=qW x t
inductive V where
 | non | bl (b:Bool) | int (i:Int) | str (x:Str) | byt (b:Array UInt8) | flt (b:UInt64) | ref (a:Addr) | ty (n:String)
 deriving DecidableEq
def aY:V->Value->Prop
 | .non,u=>u=Value.none
 | .bl b,u=>u=Value.bool b
 | .int i,u=>∃t,u=Value.int i t
 | .str x,u=>∃t,u=Value.str x t
 | .byt b,u=>∃t,u=Value.bytes b t
 | .flt b,u=>∃t,u=Value.float b t
 | .ref a,u=>u=Value.ref a
 | .ty n,u=>u=Value.type n
abbrev aN:List V->List Value->Prop:=Paired aY
theorem aN.length {xs:List V}{us:List Value}(r:aN xs us):xs.length=us.length:=Paired.length r
theorem aN.get:∀{xs:List V} {us:List Value} {i:Nat} {x:V},aN xs us->xs[i]? = some x->∃u,us[i]? = some u/\aY x u
 | _,_,_,_,.nil,e=>by simp at e
 | _,_,0,_,.cons r _,e=>by simp at e;subst e;exact⟨_,rfl,r⟩
 | _,_,i+1,x,.cons _ t,e=>by
  obtain⟨u,h1,h2⟩:=aN.get (i:=i) (x:=x) t (by simpa using e);exact⟨u,by simpa using h1,h2⟩
theorem aN.set {x:V}{u:Value}(r:aY x u):∀{xs:List V} {us:List Value} (i:Nat),aN xs us->aN (xs.set i x) (us.set i u)
 | _,_,_,.nil=>.nil
 | _,_,0,.cons _ t=>.cons r t
 | _,_,i+1,.cons q t=>.cons q (aN.set r i t)
theorem aN.append:∀{xs ys:List V} {us ws:List Value},aN xs us->aN ys ws->aN (xs++ys) (us++ws)
 | _,_,_,_,.nil,s=>s
 | _,_,_,_,.cons r t,s=>.cons r (aN.append t s)
theorem aN.take:∀{xs:List V} {us:List Value} (n:Nat),aN xs us->aN (xs.take n) (us.take n)
 | _,_,0,_=>.nil
 | _,_,_+1,.nil=>.nil
 | _,_,n+1,.cons r t=>.cons r (aN.take n t)
theorem aN.drop:∀{xs:List V} {us:List Value} (n:Nat),aN xs us->aN (xs.drop n) (us.drop n)
 | _,_,0,r=>r
 | _,_,_+1,.nil=>.nil
 | _,_,n+1,.cons _ t=>aN.drop n t
def eU:Option V->Option Value->Prop
 | some v,some u=>aY v u
 | none,none=>True
 | _,_=>False
def KV {κ:Type}:List (κ×V)->List (κ×Value)->Prop:=Paired fun(p:κ×V) (q:κ×Value)=>p.1=q.1/\aY p.2 q.2
def kV:Key->V
 | .inl i=>.int i
 | .inr x=>.str x
inductive HO where
 | lst (xs:List V)
 | tup (xs:List V)
 | dK (kvs:List (Key×V)) | dT (kvs:List (List Key×V))
 | set (S:Int->Bool) (n:Nat)
 | ins (C dx:Addr) (fs:List (Str×V))
 | own (x:Addr)
 | xd (fs:List (Str×V))
 | met (f x:Addr)
 | rng (lo hi:Int)
 | frz (o:Obj) (u:HO)
 | tbl (ps:Array Value)
 | ext (φ:Heap->Prop)
abbrev Hp:=Addr->Option HO
def aL (H:Hp)(a:Addr)(o:HO):Hp:=fun b=>if b=a then some o else H b
theorem aa {H:Hp}{a:Addr}{o:HO}:aL H a o a=some o:=by unfold aL;rw[if_pos rfl]
theorem am {H:Hp}{a b:Addr}{o:HO}(h:b≠a):aL H a o b=H b:=by unfold aL;rw[if_neg h]
theorem vz {H:Hp}{a:Addr}{o u:HO}:aL (aL H a o) a u=aL H a u:=by
 funext b;unfold aL;split <;> rfl
theorem w5 {H:Hp}{a b:Addr}{o u:HO}(h:H a=some o)(h':H b=some u)(d:o≠u):a≠b:=by
 intro e;subst e;rw[h]at h';exact d (Option.some.inj h')
theorem a9 {H:Hp}{a b:Addr}{o:HO}(h:H a=some o)(h':H b=none):a≠b:=by
 intro e;subst e;rw[h]at h';cases h'
section
variable (P:Program)(w:World)
def bA (H:Hp)(h:Heap)(a:Addr):HO->Prop
 | .lst xs=>xs.length<=sizeLine/\∃(its:List Value) (n:Nat),aN xs its/\h.get? a=some { cls:=.type "list",data:=.seq its.toArray n }
 | .tup xs=>xs.length<=sizeLine/\∃its:List Value,aN xs its/\IsTup h a its.toArray
 | .dK kvs=>kvs.length<=sizeLine/\(a == sysModules)=false/\∃vs,KV kvs vs/\h.DictOf (bp P w) a vs
 | .dT kvs=>kvs.length<=sizeLine/\(a == sysModules)=false/\∃xs:List (List Key×Addr×Value),
  Paired (fun(p:List Key×V) (q:List Key×Addr×Value)=>p.1=q.1/\H q.2.1=some (.tup (p.1.map kV))/\aY p.2 q.2.2) kvs xs /\
  ∃o es ep,h.get? a=some o/\o.ExactDict/\o.data = .dict es ep/\es.toList=xs.map (entryOfKey (tupleKind (bp P w)))/\(xs.map (·.1)).Nodup
 | .set S n=>h.SetOf (intKind P w) a S n
 | .ins C dx fs=>H dx=some (.own a)/\fs.length<=1000/\dx≠a/\h.get? a=some (W.instObj C dx) /\
  ∃mA,h.Ns1 dx mA/\(∀f,eU (fs.lookup f) (mA f))/\PySem.Within mA (fs.map (·.1))
 | .own _=>∃o,h.get? a=some o
 | .xd fs=>∃mA,h.Ns1 a mA/\∀f,eU (fs.lookup f) (mA f)
 | .rng lo hi=>∃t u v,h.get? a=some { cls:=.type "range",data:=.fields #[.int lo t,.int hi u,.int 1 v] }
 | .frz o u=>h.get? a=some o/\bA H h a u
 | .tbl ps=>h.get? a=some { cls:=.none,data:=.fields ps }
 | .met f x=>h.get? a=some (W.methodObj (.ref f) (.ref x))
 | .ext φ=>φ h/\(∃o,h.get? a=some o)/\∀h1 h2:Heap,φ h1->(∀o,h1.get? a=some o->h2.get? a=some o)->φ h2
def eh (H:Hp)(h:Heap):Prop:=∀a o,H a=some o->bA P w H h a o
end
section
variable {P:Program}{w:World}{H H':Hp}{h h':Heap}{a:Addr}{o:HO}
theorem bA.lt (x:bA P w H h a o):a < h.objs.size:=by
 cases o with
 | lst xs=>obtain⟨_,_,_,_,e⟩:=x;exact Heap.lt_size e
 | tup xs=>obtain⟨_,_,_,p⟩:=x;exact p.lt
 | dK kvs=>obtain⟨_,_,_,_,o,_,_,e,_⟩:=x;exact Heap.lt_size e
 | dT kvs=>obtain⟨_,_,_,_,o,_,_,e,_⟩:=x;exact Heap.lt_size e
 | set S n=>obtain⟨o,_,_,_,e,_⟩:=x;exact Heap.lt_size e
 | ins C dx fs=>obtain⟨_,_,_,e,_⟩:=x;exact Heap.lt_size e
 | own y=>obtain⟨_,e⟩:=x;exact Heap.lt_size e
 | xd fs=>obtain⟨_,⟨_,_,_,e,_⟩,_⟩:=x;exact Heap.lt_size e
 | rng lo hi=>obtain⟨_,_,_,e⟩:=x;exact Heap.lt_size e
 | frz ob u=>obtain⟨e,_⟩:=x;exact Heap.lt_size e
 | tbl ps=>exact Heap.lt_size (show h.get? a=some _ from x)
 | met f y=>exact Heap.lt_size (show h.get? a=some _ from x)
 | ext φ=>obtain⟨_,⟨_,e⟩,_⟩:=x;exact Heap.lt_size e
theorem Paired.mapP {α β:Type}{F G:α->β->Prop}:∀{l₁:List α} {l₂:List β},Paired F l₁ l₂->(∀a b,F a b->G a b)->Paired G l₁ l₂
 | _,_,.nil,_=>.nil
 | _,_,.cons r t,f=>.cons (f _ _ r) (Paired.mapP t f)
theorem bA.stay (x:bA P w H h a o)(k:∀b u,(b=a\/H b=some (.own a))->h.get? b=some u->h'.get? b=some u)
 (ho:∀b,H b=some (.own a)->H' b=some (.own a)) (ht:∀b xs,H b=some (.tup xs)->H' b=some (.tup xs)):bA P w H' h' a o:=by
 induction o with
 | lst xs=>obtain⟨z,its,n,r,e⟩:=x;exact⟨z,its,n,r,k _ _ (.inl rfl) e⟩
 | tup xs=>obtain⟨z,its,r,ob,e,c⟩:=x;exact⟨z,its,r,ob,k _ _ (.inl rfl) e,c⟩
 | dK kvs=>obtain⟨z,y,vs,r,ob,es,ep,e,c⟩:=x;exact⟨z,y,vs,r,ob,es,ep,k _ _ (.inl rfl) e,c⟩
 | dT kvs =>
  obtain⟨z,y,xs,r,ob,es,ep,e,c⟩:=x;exact⟨z,y,xs,Paired.mapP r fun p q z=>⟨z.1,ht _ _ z.2.1,z.2.2⟩,ob,es,ep,k _ _ (.inl rfl) e,c⟩
 | set S n=>obtain⟨ob,es,ep,t,e,c⟩:=x;exact⟨ob,es,ep,t,k _ _ (.inl rfl) e,c⟩
 | ins C dx fs =>
  obtain⟨d,z,ne,e,mA,⟨od,es,ep,e2,c⟩,r⟩:=x;exact⟨ho _ d,z,ne,k _ _ (.inl rfl) e,mA,⟨od,es,ep,k _ _ (.inr d) e2,c⟩,r⟩
 | own y=>obtain⟨ob,e⟩:=x;exact⟨ob,k _ _ (.inl rfl) e⟩
 | xd fs=>obtain⟨mA,⟨od,es,ep,e,c⟩,r⟩:=x;exact⟨mA,⟨od,es,ep,k _ _ (.inl rfl) e,c⟩,r⟩
 | rng lo hi=>obtain⟨t,u,v,e⟩:=x;exact⟨t,u,v,k _ _ (.inl rfl) e⟩
 | frz ob u ih=>obtain⟨e,q⟩:=x;exact⟨k _ _ (.inl rfl) e,ih q⟩
 | tbl ps =>
  have e:h.get? a=some { cls:=.none,data:=.fields ps }:=x;show h'.get? a=some { cls:=.none,data:=.fields ps };exact k a _ (.inl rfl) e
 | met f y =>
  have e:h.get? a=some (W.methodObj (.ref f) (.ref y)):=x;show h'.get? a=some (W.methodObj (.ref f) (.ref y));exact k a _ (.inl rfl) e
 | ext φ=>obtain⟨p,⟨o,e⟩,st⟩:=x;exact⟨st _ _ p fun o q=>k _ _ (.inl rfl) q,⟨o,k _ _ (.inl rfl) e⟩,st⟩
theorem eh.lt (x:eh P w H h)(e:H a=some o):a < h.objs.size:=(x a o e).lt
theorem eh.fresh (x:eh P w H h)(e:h.objs.size<=a):H a=none:=by
 cases q:H a with
 | none=>rfl
 | some u=>exact absurd (Nat.lt_of_lt_of_le (x.lt q) e) (Nat.lt_irrefl _)
theorem eh.kept (x:eh P w H h)(k:∀b u,h.get? b=some u->h'.get? b=some u):eh P w H h':=fun a o e=>
 (x a o e).stay (fun b u Fc q=>k b u q) (fun Fc q=>q) fun Fc Fc q=>q
theorem eh.laid (x:eh P w H h)(k:∀b u,h.get? b=some u->h'.get? b=some u)(hp:h.objs.size<=a)(new:bA P w (aL H a o) h' a o):eh P w (aL H a o) h':=fun b u e=>by
 have hn:=x.fresh hp;by_cases hb:b=a
 . subst hb;rw[aa]at e;cases e;exact new
 . rw[am hb]at e;exact(x b u e).stay (fun c v Fc q=>k c v q) (fun c q=>by rw[am (a9 q hn)];exact q) fun c xs q=>by rw[am (a9 q hn)];exact q
end
def Rd (H:Hp)(a:Addr)(u:HO):Prop:=H a=some u\/∃o,H a=some (.frz o u)
theorem Rd.ok {P:Program}{w:World}{H:Hp}{h:Heap}{a:Addr}{u:HO}(r:Rd H a u)(x:eh P w H h):bA P w H h a u:=by
 rcases r with r|⟨o,r⟩
 . exact x a u r
 . obtain⟨_,q⟩:=x a _ r;exact q
def z9:Option HO->Prop
 | some (.lst _)=>True
 | some (.dK _)=>True
 | some (.dT _)=>True
 | some (.set _ _)=>True
 | some (.ins _ _ _)=>True
 | some (.ext _)=>True
 | _=>False
section
variable {P:Program}{w:World}{H:Hp}{h h':Heap}{x e:Addr}{o':HO}
theorem eh.write (ok:eh P w H h)(mu:z9 (H x))(he:e=x\/H e=some (.own x))(k:∀b u,b≠e->h.get? b=some u->h'.get? b=some u)(heo:∃u,h'.get? e=some u)
 (new:bA P w (aL H x o') h' x o'):eh P w (aL H x o') h':=fun b u q=>by
 have nown:∀c y,H c=some (.own y)->c≠x:=fun c y r z=>by subst z;rw[r]at mu;exact mu
 have ntup:∀c xs,H c=some (.tup xs)->c≠x:=fun c xs r z=>by subst z;rw[r]at mu;exact mu
 by_cases hb:b=x
 . subst hb;rw[aa]at q;cases q;exact new
 . rw[am hb]at q;by_cases hbe:b=e
   . have q':H b=some (.own x):=by
      rcases he with z|z
      . exact absurd (hbe.trans z) hb
      . rw[hbe];exact z
     rw[q]at q';cases q';obtain⟨v,hv⟩:=heo;exact⟨v,by rw[hbe];exact hv⟩
   . refine(ok b u q).stay (fun c v hc r=>k c v ?_ r) (fun c r=>by rw[am (nown c b r)];exact r) fun c xs r=>by rw[am (ntup c xs r)];exact r
     rcases hc with rfl|hc
     . exact hbe
     . rintro rfl;rcases he with z|z
       . exact nown c b hc z
       . rw[hc]at z;cases z;exact hb rfl
end
structure Un (fs ex:List Addr)(H H':Hp)(h h':Heap):Prop where
 keep:∀b o,h.get? b=some o->H b=none->b ∉ fs->b ∉ ex->h'.get? b=some o
 slot:∀b o,h.get? b=some o->H b=none->b∈fs->b ∉ ex->∃sl,h'.get? b=some { o with slots:=sl }
 free:∀b o,h.get? b=some o->H b=none->b ∉ ex->H' b=none
 there:∀b o,h.get? b=some o->b ∉ ex->∃o',h'.get? b=some o'
 tups:∀b xs,H b=some (.tup xs)->H' b=some (.tup xs)
 frzs:∀b o u,H b=some (.frz o u)->H' b=some (.frz o u)
 tbls:∀b ps,H b=some (.tbl ps)->∃more,H' b=some (.tbl (ps++more))
section
variable {fs fs' ex ex':List Addr}{H H1 H2:Hp}{h h1 h2 h':Heap}{a x e:Addr}{o:HO}
theorem Un.any (u:Un fs ex H H1 h h1){b:Addr}{ob:Obj}(q:h.get? b=some ob)(n:H b=none)(hx:b ∉ ex):∃sl,h1.get? b=some { ob with slots:=sl }:=by
 by_cases hb:b∈fs
 . exact u.slot b ob q n hb hx
 . exact⟨ob.slots,u.keep b ob q n hb hx⟩
theorem Un.kept (k:∀b u,h.get? b=some u->h'.get? b=some u):Un fs ex H H h h' :=
 ⟨fun b ob q Fc Fc Fc=>k b ob q,fun b ob q Fc Fc Fc=>⟨ob.slots,k b ob q⟩,fun Fc Fc Fc n Fc=>n,fun b ob q Fc=>⟨ob,k b ob q⟩,fun Fc Fc q=>q,fun Fc Fc Fc q=>q,fun Fc ps q=>⟨#[],by rw[q];simp⟩⟩
theorem Un.refl:Un fs ex H H h h:=Un.kept fun Fc Fc q=>q
theorem Un.laid (k:∀b u,h.get? b=some u->h'.get? b=some u)(hp:h.objs.size<=a)(hn:H a=none):Un fs ex H (aL H a o) h h' where
 keep:=fun b u q Fc Fc Fc=>k b u q
 slot:=fun b u q Fc Fc Fc=>⟨u.slots,k b u q⟩
 free:=fun b u q n Fc=>by rw[am (Nat.ne_of_lt (Nat.lt_of_lt_of_le (Heap.lt_size q) hp))];exact n
 there:=fun b u q Fc=>⟨u,k b u q⟩
 tups:=fun b xs q=>by rw[am (a9 q hn)];exact q
 frzs:=fun b u xs q=>by rw[am (a9 q hn)];exact q
 tbls:=fun b ps q=>⟨#[],by rw[am (a9 q hn),q];simp⟩
theorem Un.write (mu:z9 (H x))(he:e=x\/H e=some (.own x))(k:∀b u,b≠e->h.get? b=some u->h'.get? b=some u)(heo:∃u,h'.get? e=some u):Un fs ex H (aL H x o) h h':=by
 have hx:∀b,H b=none->b≠x:=fun b n z=>by subst z;rw[n]at mu;exact mu
 have hb:∀b,H b=none->b≠e:=fun b n z=>by
  subst z;rcases he with r|r
  . exact hx b n r
  . rw[n]at r;cases r
 have hm:∀b u,H b=some u->¬ z9 (some u)->b≠x:=fun b u q nm z=>by subst z;rw[q]at mu;exact nm mu
 refine⟨fun b u q n Fc Fc=>k b u (hb b n) q,fun b u q n Fc Fc=>⟨u.slots,k b u (hb b n) q⟩,fun b u q n Fc=>by rw[am (hx b n)];exact n,fun b u q Fc=>?_,
  fun b xs q=>by rw[am (hm b _ q fun z=>z)];exact q,fun b u xs q=>by rw[am (hm b _ q fun z=>z)];exact q,fun b ps q=>⟨#[],by rw[am (hm b _ q fun z=>z),q];simp⟩⟩
 by_cases hbe:b=e
 . subst hbe;exact heo
 . exact⟨u,k b u hbe q⟩
end
def Ce (h:Heap)(H:Hp):List Addr:=(List.range h.objs.size).filter fun a=>(H a).isSome
def i6 (h:Heap)(H:Hp):Heap:=W.hideAll h (Ce h H)
theorem qX (h:Heap)(H:Hp):(i6 h H).objs.size=h.objs.size:=W.hideAll_size _ _
theorem sV {h:Heap}{H:Hp}{b:Addr}{o:Obj}(e:h.get? b=some o)(n:H b=none):(i6 h H).get? b=some o :=
 W.hideAll_get _ e fun hm=>by
  have q:(H b).isSome=true:=(List.mem_filter.mp hm).2;rw[n]at q;simp at q
theorem vA {h:Heap}{H:Hp}{b:Addr}{o:Obj}(e:(i6 h H).get? b=some o):h.get? b=some o/\H b=none:=by
 have e':h.get? b=some o:=W.of_hideAll (Ce h H) e;refine⟨e',?_⟩;cases q:H b with
 | none=>rfl
 | some x =>
  have hm:b∈Ce h H:=List.mem_filter.mpr ⟨List.mem_range.mpr (Heap.lt_size e'),by simp[q]⟩;have z:(i6 h H).get? b=none:=W.hideAll_none (Ce h H) hm;rw[z]at e;cases e
def iL (g h:Heap)(L:Addr):List (Addr×Obj):=(List.range h.objs.size).filterMap fun a=>if a=L\/(g.get? a).isSome=true then none else(h.get? a).map fun o=>(a,o)
theorem ii {g h:Heap}{L a:Addr}{o:Obj}(h1:a≠L)(h2:g.get? a=none)(h3:h.get? a=some o):(a,o)∈iL g h L :=
 List.mem_filterMap.mpr ⟨a,List.mem_range.mpr (Heap.lt_size h3),by simp[h1,h2,h3]⟩
theorem i7 {g h:Heap}{L:Addr}{p:Addr×Obj}(hp:p∈iL g h L):p.1≠L/\g.get? p.1=none/\h.get? p.1=some p.2:=by
 obtain⟨b,_,e⟩:=List.mem_filterMap.mp hp;split at e
 . cases e
 . rename_i hn
   cases q:h.get? b with
   | none=>rw[q]at e;simp at e
   | some u =>
    rw[q]at e;simp only[Option.map_some,Option.some.injEq]at e;subst e;refine⟨fun z=>hn (.inl z),?_,q⟩;show g.get? b=none;cases r:g.get? b with
    | none=>rfl
    | some v=>exact(hn (.inr (by simp[r]))).elim
theorem sW {g h:Heap}{L:Addr}:News g L h (iL g h L):=fun p hp=>let ⟨a,b,c⟩:=i7 hp;⟨c,a,b⟩
structure Cf (K:W.Frag)(mg:Str->Option Value)(base:Heap):Prop where
 kin:K.In base
 glob:base.Ns mainGlobals mg
 blt:∃mb,base.Ns builtinsNs mb/\∀x:Str,x ≠ "__name__"->mb x=bootBuiltins x
 nolimit:base.NoLimit
structure Cx where
 prog:Program
 w:World
 K:W.Frag
 mg:Str->Option Value
 base:Heap
 A:Around
 N:List Str
 s₀:Shared
 H₀:Hp
 env:Env
 outer:List Env
 stack:List Env
 ex:List Addr
 fn:Str->Bool
 calm:Bool
 pn:List (Addr×Obj)
 xe:Value->Shared->Prop
def mH (l:List Env):List Addr:=l.filterMap (·.frame)
abbrev Cx.fs (X:Cx):List Addr:=mH X.outer
def Aa (sc:Scope)(x:Str):Prop:=sc.names.lookup x=some .local\/sc.names.lookup x=some .cell\/sc.names.lookup x=some .free
def Cg (sc:Scope)(x:Str):Prop:=sc.names.lookup x=some .local\/sc.names.lookup x=some .cell
def Cr (env:Env)(h:Heap)(m:Str->Option Value)(x:Str)(u:Value):Prop :=
 (env.kindOf x=some .local/\m x=some u)\/((env.kindOf x=some .cell\/env.kindOf x=some .free)/\∃c,env.cells.lookup x=some c/\h.IsCell c (some u))
structure Cx.Ok (X:Cx):Prop where
 mod:Cf X.K X.mg X.base
 kind:X.env.scope.kind = .function
 glob:X.env.globals=mainGlobals
 blt:X.env.builtins=builtinsNs
 above:X.s₀.heap.objs.size<=X.env.locals
 inj:∀x y c,X.env.cells.lookup x=some c->X.env.cells.lookup y=some c->x=y
 has:∀x,(X.env.kindOf x=some .cell\/X.env.kindOf x=some .free)->∃c,X.env.cells.lookup x=some c
 cab:∀x c,X.fn x=true->X.env.cells.lookup x=some c->X.s₀.heap.objs.size<=c
 hd:X.calm=true->X.A.handled=none
 frames:X.A.frames=some X.stack
 stk:X.stack=X.outer\/(X.stack=X.env :: X.outer/\X.env.frame=some X.env.locals)
 exf:∀b∈X.ex,b≠X.env.locals/\∀x c,X.env.cells.lookup x=some c->c≠b
 bs:∀b o,X.base.get? b=some o->X.s₀.heap.get? b=some o/\X.H₀ b=none
 bsz:X.base.objs.size<=X.s₀.heap.objs.size
 noex:∀b o,X.base.get? b=some o->b ∉ X.ex
 exfs:∀b∈X.ex,b ∉ X.fs
 funs:X.s₀.heap.FunFrames X.base X.outer
 frf:∀b∈X.fs,X.H₀ b=none
structure aG (X:Cx)(pins:List (Addr×Obj))(σ:List (Option V))(H:Hp)(s:Shared):Prop where
 ok:X.Ok
 os:s.os=X.s₀.os
 bare:AllBare s.gens
 base:Un X.fs X.ex X.H₀ H X.s₀.heap s.heap
 loc:∃m,s.heap.Ns X.env.locals m/\∀(i:Nat) (x:Str) (v:V),X.N[i]? = some x->σ[i]? = some (some v)->Aa X.env.scope x->∃u,aY v u/\Cr X.env s.heap m x u
 cell:∀x c,X.env.cells.lookup x=some c->∃v,s.heap.IsCell c v
 free:H X.env.locals=none
 freeC:∀x c,X.env.cells.lookup x=some c->H c=none
 pin:∀p∈X.pn++pins,s.heap.get? p.1=some p.2/\H p.1=none/\p.1≠X.env.locals/\p.1 ∉ X.fs/\∀v,p.2.data ≠ .cell v
 hok:eh X.prog X.w H s.heap
 len:σ.length=X.N.length
section
variable {X:Cx}{pins:List (Addr×Obj)}{σ:List (Option V)}{H H':Hp}{s:Shared}{h':Heap}
theorem Cx.Ok.nofr (ok:X.Ok){b:Addr}{o:Obj}(e:X.base.get? b=some o):b ∉ X.fs:=fun hb=>by
 have:=(ok.funs.mem hb).1;rw[e]at this;cases this
theorem aG.bs (I:aG X pins σ H s):∀b o,X.base.get? b=some o->s.heap.get? b=some o/\H b=none:=fun b o e=>
 ⟨I.base.keep b o (I.ok.bs b o e).1 (I.ok.bs b o e).2 (I.ok.nofr e) (I.ok.noex b o e),I.base.free b o (I.ok.bs b o e).1 (I.ok.bs b o e).2 (I.ok.noex b o e)⟩
theorem aG.bk (I:aG X pins σ H s):∀b o,X.base.get? b=some o->s.heap.get? b=some o:=fun b o e=>(I.bs b o e).1
theorem aG.mod (I:aG X pins σ H s):Cf X.K X.mg X.base:=I.ok.mod
theorem aG.kIn (I:aG X pins σ H s):X.K.In s.heap:=I.ok.mod.kin.keeps I.bk
theorem aG.nolimit (I:aG X pins σ H s):s.heap.NoLimit:=I.ok.mod.nolimit.keeps I.bk
theorem aG.fr (I:aG X pins σ H s):∃m,Fr X.base X.env.locals s.heap m :=
 let ⟨m,hn,_⟩:=I.loc
 ⟨m,hn,I.bk,Nat.le_trans I.ok.bsz I.ok.above⟩
theorem aG.lt (I:aG X pins σ H s):X.env.locals < s.heap.objs.size:=let ⟨_,hn,_⟩:=I.loc;hn.lt
theorem aG.sz (I:aG X pins σ H s):X.s₀.heap.objs.size<=s.heap.objs.size:=Nat.le_trans I.ok.above (Nat.le_of_lt I.lt)
theorem aG.nofs (I:aG X pins σ H s){a:Addr}(h:s.heap.objs.size<=a):a ∉ X.fs:=fun hb=>by
 obtain⟨_,o,ho,_⟩:=I.ok.funs.mem hb;exact absurd (Nat.lt_of_lt_of_le (Heap.lt_size ho) (Nat.le_trans I.sz h)) (Nat.lt_irrefl _)
theorem aG.cne (I:aG X pins σ H s):∀x c,X.env.cells.lookup x=some c->c≠X.env.locals:=fun x c e z=>by
 obtain⟨v,o,ho,hd⟩:=I.cell x c e;obtain⟨m,⟨o',es,ep,ho',hd',_⟩,_⟩:=I.loc;rw[z,ho']at ho;cases ho;rw[hd']at hd;cases hd
theorem aG.funs (I:aG X pins σ H s):s.heap.FunFrames X.base X.outer:=by
 have all:∀(l:List Env),(∀b∈mH l,b∈X.fs)->X.s₀.heap.FunFrames X.base l->s.heap.FunFrames X.base l:=by
  intro l
  induction l with
  | nil=>intro _ _;trivial
  | cons env r ih =>
   intro hs hl;obtain⟨hk,⟨L,o,hf,hn,ho,hd⟩,hr⟩:=hl;have hL:L∈X.fs:=hs L (by unfold mH;rw[List.filterMap_cons,hf];exact List.mem_cons_self);obtain⟨sl,e⟩:=I.base.slot L o ho (I.ok.frf L hL) hL fun z=>I.ok.exfs L z hL;exact⟨hk,⟨L,_,hf,hn,e,hd⟩,ih (fun b hb=>hs b (by unfold mH;rw[List.filterMap_cons,hf];exact List.mem_cons_of_mem _ hb)) hr⟩
 exact all X.outer (fun Fc hb=>hb) I.ok.funs
theorem aG.stack (I:aG X pins σ H s):s.heap.FunFrames X.base X.stack:=by
 rcases I.ok.stk with e|⟨e,hf⟩
 . rw[e];exact I.funs
 . rw[e];obtain⟨m,hn,_⟩:=I.loc;refine .cons (by rw[I.ok.kind];decide) hf hn ?_ I.funs;exact Heap.get?_none_of_le (Nat.le_trans I.ok.bsz I.ok.above)
theorem aG.stkSub (I:aG X pins σ H s):∀b∈mH X.stack,b∈X.env.locals :: X.fs:=fun b hb=>by
 rcases I.ok.stk with e|⟨e,hf⟩
 . rw[e]at hb;exact List.mem_cons_of_mem _ hb
 . rw[e]at hb;unfold mH at hb;rw[List.filterMap_cons,hf]at hb;exact hb
theorem aG.stkFree (I:aG X pins σ H s):∀b∈mH X.stack,H b=none:=fun b hb=>by
 rcases List.mem_cons.mp (I.stkSub b hb)with e|hb
 . rw[e];exact I.free
 . obtain⟨_,o,ho,_⟩:=I.ok.funs.mem hb;exact I.base.free b o ho (I.ok.frf b hb) fun z=>I.ok.exfs b z hb
theorem aG.step {g':Array GenState}{t':Nat}{d':Drawn}{ch:List Addr}(I:aG X pins σ H s)
 (hch:∀b∈ch,(b∈X.ex\/X.s₀.heap.objs.size<=b)/\b≠X.env.locals/\(∀x c,X.env.cells.lookup x=some c->c≠b)/\∀p∈X.pn++pins,p.1≠b)
 (keep:∀b o,b≠X.env.locals->b ∉ X.fs->b ∉ ch->s.heap.get? b=some o->H b=none->h'.get? b=some o)
 (slot:∀b o,b≠X.env.locals->b∈X.fs->b ∉ ch->s.heap.get? b=some o->H b=none->∃sl,h'.get? b=some { o with slots:=sl }) (free:∀b o,b ∉ ch->s.heap.get? b=some o->H b=none->H' b=none)
 (there:∀b o,b ∉ ch->s.heap.get? b=some o->∃o',h'.get? b=some o')
 (tups:∀b xs,H b=some (.tup xs)->H' b=some (.tup xs)) (frzs:∀b o u,H b=some (.frz o u)->H' b=some (.frz o u)) (tbls:∀b ps,H b=some (.tbl ps)->∃more,H' b=some (.tbl (ps++more)))
 (ns:∀m,s.heap.Ns X.env.locals m->h'.Ns X.env.locals m) (hok:eh X.prog X.w H' h') (hg:AllBare g') :
 aG X pins σ H' { s with heap:=h',gens:=g',drawn:=d',toks:=t' }:=by
 have neL:∀b o,X.s₀.heap.get? b=some o->b≠X.env.locals:=fun b o e=>Nat.ne_of_lt (Nat.lt_of_lt_of_le (Heap.lt_size e) I.ok.above);have neC:∀b o,X.s₀.heap.get? b=some o->b ∉ X.ex->b ∉ ch:=fun b o e hx hb=>by
  rcases(hch b hb).1 with z|z
  . exact hx z
  . exact absurd (Nat.lt_of_lt_of_le (Heap.lt_size e) z) (Nat.lt_irrefl _)
 have cellK:∀x c,X.env.cells.lookup x=some c->∀v,s.heap.IsCell c v->h'.IsCell c v:=fun x c e v ⟨o,ho,hd⟩=>by
  have nch:c ∉ ch:=fun z=>(hch c z).2.2.1 x c e rfl;by_cases hc:c∈X.fs
  . obtain⟨sl,q⟩:=slot c o (I.cne x c e) hc nch ho (I.freeC x c e);exact⟨_,q,hd⟩
  . exact⟨o,keep c o (I.cne x c e) hc nch ho (I.freeC x c e),hd⟩
 refine⟨I.ok,I.os,hg,⟨fun b o e n hb hx=>?_,fun b o e n hb hx=>?_,fun b o e n hx=>?_,fun b o e hx=>?_,fun b xs e=>tups b xs (I.base.tups b xs e),fun b o xs e=>frzs b o xs (I.base.frzs b o xs e),fun b ps e=>?_⟩,?_,fun x c e=>?_,?_,fun x c e=>?_,fun p hp=>?_,hok,I.len⟩
 . exact keep b o (neL b o e) hb (neC b o e hx) (I.base.keep b o e n hb hx) (I.base.free b o e n hx)
 . obtain⟨sl,e1⟩:=I.base.slot b o e n hb hx;obtain⟨sl',e2⟩:=slot b _ (neL b o e) hb (neC b o e hx) e1 (I.base.free b o e n hx);exact⟨sl',e2⟩
 . obtain⟨o',e1⟩:=I.base.there b o e hx;exact free b o' (neC b o e hx) e1 (I.base.free b o e n hx)
 . obtain⟨o',e1⟩:=I.base.there b o e hx;exact there b o' (neC b o e hx) e1
 . obtain⟨m1,e1⟩:=I.base.tbls b ps e;obtain⟨m2,e2⟩:=tbls b _ e1;exact⟨m1++m2,by rw[e2,Array.append_assoc]⟩
 . obtain⟨m,hn,hl⟩:=I.loc;refine⟨m,ns m hn,fun i x v e1 e2 e3=>?_⟩;obtain⟨u,r,l⟩:=hl i x v e1 e2 e3;refine⟨u,r,?_⟩;rcases l with l|⟨k,c,e,z⟩
   . exact .inl l
   . exact .inr ⟨k,c,e,cellK x c e _ z⟩
 . obtain⟨v,z⟩:=I.cell x c e;exact⟨v,cellK x c e v z⟩
 . obtain⟨m,⟨o,_,_,ho,_⟩,_⟩:=I.loc;exact free _ o (fun z=>(hch _ z).2.1 rfl) ho I.free
 . obtain⟨v,o,ho,hd⟩:=I.cell x c e;exact free c o (fun z=>(hch c z).2.2.1 x c e rfl) ho (I.freeC x c e)
 . obtain⟨e,n,ne,nf,d⟩:=I.pin p hp;have nch:p.1 ∉ ch:=fun z=>(hch p.1 z).2.2.2 p hp rfl;exact⟨keep p.1 p.2 ne nf nch e n,free p.1 p.2 nch e n,ne,nf,d⟩
theorem aG.un {t':Nat}(I:aG X pins σ H s)(u:Un X.fs [] H H' s.heap h')(hok:eh X.prog X.w H' h'):aG X pins σ H' { s with heap:=h',toks:=t' }:=by
 obtain⟨m,⟨o,es,ep,ho,r⟩,_⟩:=id I.loc;obtain⟨sl,hL⟩:=u.any ho I.free (by simp);exact I.step (g':=s.gens) (d':=s.drawn) (ch:=[]) (fun Fc z=>nomatch z) (fun b o Fc hb Fc e n=>u.keep b o e n hb (by simp)) (fun b o Fc hb Fc e n=>u.slot b o e n hb (by simp)) (fun b o Fc e n=>u.free b o e n (by simp)) (fun b o Fc e=>u.there b o e (by simp)) u.tups u.frzs u.tbls (fun m' hm=>by
  obtain⟨o',es',ep',ho',r'⟩:=hm;rw[ho]at ho';cases ho';exact⟨_,es',ep',hL,r'⟩) hok I.bare
theorem aG.call {g':Array GenState}{t':Nat}{d':Drawn}{ch:List Addr}(I:aG X pins σ H s)(u:Un (mH X.stack) ch H H' s.heap h')(hok:eh X.prog X.w H' h')(hg:AllBare g')
 (hch:∀b∈ch,(b∈X.ex\/X.s₀.heap.objs.size<=b)/\b≠X.env.locals/\(∀x c,X.env.cells.lookup x=some c->c≠b)/\∀p∈X.pn++pins,p.1≠b) :
 aG X pins σ H' { s with heap:=h',gens:=g',drawn:=d',toks:=t' }:=by
 obtain⟨m,⟨o,es,ep,ho,r⟩,_⟩:=id I.loc;obtain⟨sl,hL⟩:=u.any ho I.free fun z=>(hch _ z).2.1 rfl;exact I.step (ch:=ch) hch (fun b o hL hb hc e n=>u.keep b o e n (fun z=>(List.mem_cons.mp (I.stkSub b z)).elim hL hb) hc) (fun b o Fc Fc hc e n=>u.any e n hc) (fun b o hc e n=>u.free b o e n hc) (fun b o hc e=>u.there b o e hc) u.tups u.frzs u.tbls (fun m' hm=>by
  obtain⟨o',es',ep',ho',r'⟩:=hm;rw[ho]at ho';cases ho';exact⟨_,es',ep',hL,r'⟩) hok hg
theorem aG.turned {t':Nat}{it:Addr}(I:aG X pins σ H s)(k:∀b o,b≠it->s.heap.get? b=some o->h'.get? b=some o)(hn:H it=none)(hL:it≠X.env.locals)
 (h1:it∈X.ex\/X.s₀.heap.objs.size<=it) (h2:∀x c,X.env.cells.lookup x=some c->c≠it) (h3:∀p∈X.pn++pins,p.1≠it):aG X pins σ H { s with heap:=h',toks:=t' }:=by
 have nit:∀b u,H b=some u->b≠it:=fun b u e z=>by rw[z,hn]at e;cases e
 refine I.step (g':=s.gens) (d':=s.drawn) (ch:=[it]) (fun b hb=>?_) (fun b o Fc Fc hc e Fc=>k b o (fun z=>hc (by simp[z])) e) (fun b o Fc Fc hc e Fc=>⟨o.slots,k b o (fun z=>hc (by simp[z])) e⟩) (fun Fc Fc Fc Fc n=>n)
  (fun b o hc e=>⟨o,k b o (fun z=>hc (by simp[z])) e⟩) (fun Fc Fc e=>e) (fun Fc Fc Fc e=>e) (fun b ps e=>⟨#[],by rw[e];simp⟩) (fun m hm=>?_) (fun b u e=>?_) I.bare
 . have e:b=it:=by simpa using hb
   subst e;exact⟨h1,hL,h2,h3⟩
 . obtain⟨o,es,ep,ho,r⟩:=hm;exact⟨o,es,ep,k _ o (Ne.symm hL) ho,r⟩
 . refine(I.hok b u e).stay (fun c v hc q=>k c v ?_ q) (fun Fc q=>q) fun Fc Fc q=>q;rcases hc with z|z
   . rw[z];exact nit b u e
   . exact nit c _ z
theorem aG.tok (I:aG X pins σ H s)(t:Nat):aG X pins σ H { s with toks:=t }:=I.un (h':=s.heap) (t':=t) Un.refl I.hok
theorem aG.kept {t':Nat}(I:aG X pins σ H s)(k:∀b u,s.heap.get? b=some u->h'.get? b=some u):aG X pins σ H { s with heap:=h',toks:=t' }:=I.un (Un.kept k) (I.hok.kept k)
theorem aG.laid {a:Addr}{o:HO}{t':Nat}(I:aG X pins σ H s)(k:∀b u,s.heap.get? b=some u->h'.get? b=some u)(hp:s.heap.objs.size<=a)(new:bA X.prog X.w (aL H a o) h' a o) :
 aG X pins σ (aL H a o) { s with heap:=h',toks:=t' }:=I.un (Un.laid k hp (I.hok.fresh hp)) (I.hok.laid k hp new)
theorem aG.write {x e:Addr}{o:HO}{t':Nat}(I:aG X pins σ H s)(mu:z9 (H x))(he:e=x\/H e=some (.own x))(k:∀b u,b≠e->s.heap.get? b=some u->h'.get? b=some u)(heo:∃u,h'.get? e=some u)
 (new:bA X.prog X.w (aL H x o) h' x o):aG X pins σ (aL H x o) { s with heap:=h',toks:=t' }:=I.un (Un.write mu he k heo) (I.hok.write mu he k heo new)
theorem aG.pins_of {pins':List (Addr×Obj)}(I:aG X pins σ H s)(h:∀p∈pins',s.heap.get? p.1=some p.2/\H p.1=none/\p.1≠X.env.locals/\p.1 ∉ X.fs/\∀v,p.2.data ≠ .cell v):aG X pins' σ H s :=
 ⟨I.ok,I.os,I.bare,I.base,I.loc,I.cell,I.free,I.freeC,fun p hp=>(List.mem_append.mp hp).elim (fun z=>I.pin p (List.mem_append_left _ z)) (h p),I.hok,I.len⟩
theorem mI {N:List Str}(hN:N.Nodup){i j:Nat}{x:Str}(a:N[i]? = some x)(b:N[j]? = some x):i=j:=by
 obtain⟨h1,e1⟩:=List.getElem?_eq_some_iff.mp a;obtain⟨h2,e2⟩:=List.getElem?_eq_some_iff.mp b;exact(List.getElem_inj hN).mp (e1.trans e2.symm)
theorem jW {M:Model}{A:Around}{E:Value->Shared->Prop}{i:Nat}{x:Str}{v:V}{u:Value}{Q:Unit->Shared->Prop}(I:aG X pins σ H s)(hN:X.N.Nodup)(hi:X.N[i]? = some x)(hx:Cg X.env.scope x)(r:aY v u)
 (h:∀s',aG X pins (σ.set i (some v)) H s'->(∃a,Heap.SameBut a s.heap s'.heap/\(a=X.env.locals\/X.env.cells.lookup x=some a))->Q () s') (hf:X.fn x=true\/X.env.scope.names.lookup x=some .local:=by first | exact .inl rfl | exact .inr rfl | assumption):wpAny M A (storeName X.env x u) Q E s:=by
 obtain⟨m,hn,hl⟩:=id I.loc;have hcls:(X.env.scope.kind == .class || (X.env.scope.kind == .module && X.env.locals != X.env.globals))=false:=by rw[I.ok.kind];rfl
 have hiσ:i < σ.length:=by rw[I.len];exact(List.getElem?_eq_some_iff.mp hi).1
 have cne:=I.cne;have tracked:∀{a:Addr} {h':Heap},(∃o,s.heap.get? a=some o/\H a=none)->Heap.SameBut a s.heap h'->eh X.prog X.w H h':=fun {a h'} ha hs b ob e=>by
  obtain⟨_,_,hfree⟩:=ha;refine(I.hok b ob e).stay (fun c w' hc q=>(hs.2 c ?_).trans q) (fun Fc q=>q) fun Fc Fc q=>q;rintro rfl;rcases hc with rfl|hc
  . rw[hfree]at e;cases e
  . rw[hfree]at hc;cases hc
 rcases hx with hk|hk
 . refine wpAny_storeName_local hk hn (fun h' hn' hs=>?_) hcls;obtain⟨oL,_,_,hoL,_⟩:=id hn;refine h _ ⟨I.ok,I.os,I.bare,⟨fun b o e n hb hx=>?_,fun b o e n hb hx=>?_,I.base.free,fun b o e hx=>?_,I.base.tups,I.base.frzs,I.base.tbls⟩,⟨_,hn',fun j y v' e1 e2 e3=>?_⟩,fun y c e=>?_,I.free,I.freeC,fun p hp=>?_,tracked ⟨oL,hoL,I.free⟩ hs,by simpa using I.len⟩ ⟨_,hs,.inl rfl⟩
   . exact(hs.2 b (Nat.ne_of_lt (Nat.lt_of_lt_of_le (Heap.lt_size e) I.ok.above))).trans (I.base.keep b o e n hb hx)
   . obtain⟨sl,e1⟩:=I.base.slot b o e n hb hx;exact⟨sl,(hs.2 b (Nat.ne_of_lt (Nat.lt_of_lt_of_le (Heap.lt_size e) I.ok.above))).trans e1⟩
   . obtain⟨o',e1⟩:=I.base.there b o e hx;exact⟨o',(hs.2 b (Nat.ne_of_lt (Nat.lt_of_lt_of_le (Heap.lt_size e) I.ok.above))).trans e1⟩
   . by_cases hj:j=i
     . subst hj;rw[hi]at e1;cases e1;rw[List.getElem?_set_self hiσ]at e2;cases e2;exact⟨u,r,.inl ⟨hk,by simp⟩⟩
     . rw[List.getElem?_set_ne (Ne.symm hj)]at e2;obtain⟨u',r',q⟩:=hl j y v' e1 e2 e3;refine⟨u',r',?_⟩;rcases q with⟨k,e⟩|⟨k,c,e,z⟩
       . refine .inl ⟨k,?_⟩;have:y≠x:=fun e=>hj (mI hN e1 (e ▸ hi));simp[this,e]
       . exact .inr ⟨k,c,e,z.sameBut hs (cne y c e)⟩
   . obtain⟨w',z⟩:=I.cell y c e;exact⟨w',z.sameBut hs (cne y c e)⟩
   . obtain⟨e,n,ne,nf,d⟩:=I.pin p hp;exact⟨(hs.2 p.1 ne).trans e,n,ne,nf,d⟩
 . have hfn:X.fn x=true:=by
    rcases hf with z|z
    . exact z
    . rw[z]at hk;cases hk
   obtain⟨c,hc⟩:=I.ok.has x (.inl hk);obtain⟨w',z⟩:=I.cell x c hc;refine wpAny_storeName_cell I.ok.kind hk hc z (fun h' hc' hs=>?_);obtain⟨oc,hoc,hocd⟩:=id z;refine h { s with heap:=h' } ⟨I.ok,I.os,I.bare,⟨fun b o e n hb hx=>?_,fun b o e n hb hx=>?_,I.base.free,fun b o e hx=>?_,I.base.tups,I.base.frzs,I.base.tbls⟩,⟨m,hn.sameBut hs (Ne.symm (cne x c hc)),fun j y v' e1 e2 e3=>?_⟩,fun y c' e=>?_,I.free,I.freeC,fun p hp=>?_,tracked ⟨oc,hoc,I.freeC x c hc⟩ hs,by simpa using I.len⟩ ⟨c,hs,.inr hc⟩
   . exact(hs.2 b (Nat.ne_of_lt (Nat.lt_of_lt_of_le (Heap.lt_size e) (I.ok.cab x c hfn hc)))).trans (I.base.keep b o e n hb hx)
   . obtain⟨sl,e1⟩:=I.base.slot b o e n hb hx;exact⟨sl,(hs.2 b (Nat.ne_of_lt (Nat.lt_of_lt_of_le (Heap.lt_size e) (I.ok.cab x c hfn hc)))).trans e1⟩
   . obtain⟨o',e1⟩:=I.base.there b o e hx;exact⟨o',(hs.2 b (Nat.ne_of_lt (Nat.lt_of_lt_of_le (Heap.lt_size e) (I.ok.cab x c hfn hc)))).trans e1⟩
   . by_cases hj:j=i
     . subst hj;rw[hi]at e1;cases e1;rw[List.getElem?_set_self hiσ]at e2;cases e2;exact⟨u,r,.inr ⟨.inl hk,c,hc,hc'⟩⟩
     . rw[List.getElem?_set_ne (Ne.symm hj)]at e2;obtain⟨u',r',q⟩:=hl j y v' e1 e2 e3;refine⟨u',r',?_⟩;rcases q with q|⟨k,c',e,z'⟩
       . exact .inl q
       . refine .inr ⟨k,c',e,z'.sameBut hs ?_⟩;rintro rfl;exact hj (mI hN e1 (I.ok.inj _ _ _ e hc ▸ hi))
   . by_cases hcc:c'=c
     . subst hcc;exact⟨_,hc'⟩
     . obtain⟨w2,z2⟩:=I.cell y c' e;exact⟨w2,z2.sameBut hs hcc⟩
   . obtain⟨e,n,ne,nf,d⟩:=I.pin p hp;refine⟨(hs.2 p.1 ?_).trans e,n,ne,nf,d⟩;intro q;rw[q,hoc]at e;have q':oc=p.2:=Option.some.inj e;exact d w' (by rw[<- q'];exact hocd)
theorem mJ {M:Model}{A:Around}{E:Value->Shared->Prop}{i:Nat}{x:Str}{v:V}{u:Value}{Q:Unit->Shared->Prop}(I:aG X pins σ H s)(hN:X.N.Nodup)(hi:X.N[i]? = some x)(hx:Cg X.env.scope x)(r:aY v u)
 (h:∀s',aG X pins (σ.set i (some v)) H s'->Q () s') (hf:X.fn x=true\/X.env.scope.names.lookup x=some .local:=by first | exact .inl rfl | exact .inr rfl | assumption):wpAny M A (storeName X.env x u) Q E s :=
 jW I hN hi hx r (fun s' I' Fc=>h s' I') hf
end
abbrev XK:=Value->Option Addr->Hp->Prop
abbrev St:=List (Option V)
abbrev VK:=V->Hp->Prop
abbrev TE:=St->Hp->VK->Prop
abbrev TT:=St->Hp->(Bool->Hp->Prop)->Prop
abbrev TA:=St->Hp->(List V->Hp->Prop)->Prop
structure f8 where
 nx:St->Hp->Prop
 rt:VK
 bk:St->Hp->Prop:=fun Fc Fc=>False
 ct:St->Hp->Prop:=fun Fc Fc=>False
abbrev TS:=f8->St->Hp->Prop
def EP (X:Cx)(pins:List (Addr×Obj))(σ:St)(Q:VK)(u:Value)(s':Shared):Prop:=∃v H',aG X pins σ H' s'/\aY v u/\Q v H'
def TP (X:Cx)(pins:List (Addr×Obj))(σ:St)(Q:Bool->Hp->Prop)(b:Bool)(s':Shared):Prop:=∃H',aG X pins σ H' s'/\Q b H'
def AP (X:Cx)(pins:List (Addr×Obj))(σ:St)(Q:List V->Hp->Prop)(us:List Value)(s':Shared):Prop:=∃vs H',aG X pins σ H' s'/\aN vs us/\Q vs H'
def SP (X:Cx)(pins:List (Addr×Obj))(D:f8)(f:Flow)(s':Shared):Prop :=
 match f with
 | .next=>∃ σ' H',aG X pins σ' H' s'/\D.nx σ' H'
 | .brk=>∃ σ' H',aG X pins σ' H' s'/\D.bk σ' H'
 | .cont=>∃ σ' H',aG X pins σ' H' s'/\D.ct σ' H'
 | .ret u=>∃v σ' H',aG X pins σ' H' s'/\aY v u/\D.rt v H'
def PE (X:Cx)(e:Expr)(t:TE):Prop :=
 ∀(pins:List (Addr×Obj)) (s:Shared) (σ:St) (H:Hp) (Q:VK),aG X pins σ H s->t σ H Q->wpAny (model X.prog X.w) X.A (eval e X.env) (EP X pins σ Q) X.xe s
def PT (X:Cx)(e:Expr)(t:TT):Prop :=
 ∀(pins:List (Addr×Obj)) (s:Shared) (σ:St) (H:Hp) (Q:Bool->Hp->Prop),aG X pins σ H s->t σ H Q->wpAny (model X.prog X.w) X.A (isTrue e X.env (eval e X.env)) (TP X pins σ Q) X.xe s
def PW (X:Cx)(e:Expr)(t:TT):Prop :=
 ∀(whole:Sem Value) (pins:List (Addr×Obj)) (s:Shared) (σ:St) (H:Hp) (Q:Bool->Hp->Prop),aG X pins σ H s->t σ H Q->wpAny (model X.prog X.w) X.A (isTrue e X.env whole) (TP X pins σ Q) X.xe s
theorem PW.pt {X:Cx}{e:Expr}{t:TT}(h:PW X e t):PT X e t:=h _
def PA (X:Cx)(es:List Expr)(t:TA):Prop :=
 ∀(pos:Pos) (pins:List (Addr×Obj)) (s:Shared) (σ:St) (H:Hp) (Q:List V->Hp->Prop),aG X pins σ H s->t σ H Q->wpAny (model X.prog X.w) X.A (spliced (backTo pos (starEach es X.env))) (AP X pins σ Q) X.xe s
def PS (X:Cx)(st:Stmt)(t:TS):Prop :=
 ∀(pins:List (Addr×Obj)) (s:Shared) (σ:St) (H:Hp) (D:f8),aG X pins σ H s->t D σ H->wpAny (model X.prog X.w) X.A (exec st X.env) (SP X pins D) X.xe s
def qY (X:Cx)(st:List Stmt)(t:TS):Prop :=
 ∀(pins:List (Addr×Obj)) (s:Shared) (σ:St) (H:Hp) (D:f8),aG X pins σ H s->t D σ H->wpAny (model X.prog X.w) X.A (execs st X.env) (SP X pins D) X.xe s
theorem bj {α:Type}{t:Sem α}{Q Q':α->Shared->Prop}{M:Model}{A:Around}{E:Value->Shared->Prop}{s:Shared}(h:wpAny M A t Q E s)(hQ:∀a s,Q a s->Q' a s):wpAny M A t Q' E s:=wpAny_mono h hQ fun Fc Fc x=>x
section
variable {X:Cx}
theorem DA {a b:Expr}{ta tb:TE}(ha:PE X a ta)(hb:PE X b tb){pins:List (Addr×Obj)}{s:Shared}{σ:St}{H:Hp}{R:V->V->Hp->Prop}(I:aG X pins σ H s)(h:ta σ H fun x H1=>tb σ H1 fun y H2=>R x y H2)
 {α:Type} {Q:α->Shared->Prop} {f:Value->Value->Sem α}
 (hf:∀v u s2 x y H2,aG X pins σ H2 s2->aY x v->aY y u->R x y H2->wpAny (model X.prog X.w) X.A (f v u) Q X.xe s2) :
 wpAny (model X.prog X.w) X.A (eval a X.env) (fun v s₁=>wpAny (model X.prog X.w) X.A (eval b X.env) (fun u s₂=>wpAny (model X.prog X.w) X.A (f v u) Q X.xe s₂) X.xe s₁) X.xe s:=by
 refine bj (ha pins s σ H _ I h) fun v s1 ⟨x,H1,I1,r1,q1⟩=>?_;refine bj (hb pins s1 σ H1 _ I1 q1) fun u s2 ⟨y,H2,I2,r2,q2⟩=>?_;exact hf v u s2 x y H2 I2 r1 r2 q2
def k9 (i:Nat):TE:=fun σ H Q=>∃v,σ[i]? = some (some v)/\Q v H
def tC (v:V):TE:=fun Fc H Q=>Q v H
theorem xM {i:Nat}{x:Str}{pos:Pos}(hN:X.N[i]? = some x)(hv:Aa X.env.scope x)(hd:(x == ("__debug__":Str))=false:=by decide)(hcd:(x == ("__classdict__":Str))=false:=by decide):PE X (.Name x pos) (k9 i):=by
 intro pins s σ H Q I h;obtain⟨v,e,h⟩:=h;obtain⟨m,hn,hl⟩:=I.loc;obtain⟨u,r,l⟩:=hl i x v hN e hv;have fin:EP X pins σ Q u s:=⟨v,H,I,r,h⟩;rcases l with⟨hk,hm⟩|⟨hk,c,hc,hcell⟩
 . exact wpAny_Name (wpAny_loadName_local I.ok.kind hk hn hm fin) hd
 . rcases hk with hk|hk
   . exact wpAny_Name (wpAny_loadName_cell I.ok.kind hk hc hcell fin) hd
   . exact wpAny_Name (wpAny_loadName_free I.ok.kind hk hc hcell fin hcd) hd
theorem ae {i j pos}:PE X (.Constant (.int i) j pos) (tC (.int i)):=fun Fc Fc Fc H Fc I h=>wpAny_Constant_int ⟨.int i,H,I.tok _,⟨_,rfl⟩,h⟩
theorem fY {b j pos}:PE X (.Constant (.bool b) j pos) (tC (.bl b)):=fun Fc Fc Fc H Fc I h=>Constant_bool ⟨.bl b,H,I,rfl,h⟩
theorem ej {j pos}:PE X (.Constant .none j pos) (tC .non):=fun Fc Fc Fc H Fc I h=>Constant_none ⟨.non,H,I,rfl,h⟩
theorem a5 {x j pos}:PE X (.Constant (.str x) j pos) (tC (.str x)):=fun Fc Fc Fc H Fc I h=>Calls.Constant_str ⟨.str x,H,I.tok _,⟨_,rfl⟩,h⟩
def Gl (X:Cx)(x:Str):Prop:=X.env.kindOf x=some .globalImplicit
theorem iM {E:Value->Shared->Prop}{pins:List (Addr×Obj)}{s:Shared}{σ:St}{H:Hp}{x:Str}{u:Value}{pos:Pos}{Q:Value->Shared->Prop}(I:aG X pins σ H s)(hg:Gl X x)(hm:X.mg x=some u)(h:Q u s)
 (hd:(x == ("__debug__":Str))=false:=by decide):wpAny (model X.prog X.w) X.A (eval (.Name x pos) X.env) Q E s :=
 Calls.Name_function_global I.ok.kind hg (Calls.loadGlobal_global (by rw[I.ok.glob];exact I.mod.glob.keeps I.bk) hm h) hd
theorem eA {E:Value->Shared->Prop}{pins:List (Addr×Obj)}{s:Shared}{σ:St}{H:Hp}{x:Str}{u:Value}{pos:Pos}{Q:Value->Shared->Prop}(I:aG X pins σ H s)(hg:Gl X x)(hm:X.mg x=none)(hv:bootBuiltins x=some u)(h:Q u s)
 (hn:x ≠ "__name__":=by decide) (hd:(x == ("__debug__":Str))=false:=by decide):wpAny (model X.prog X.w) X.A (eval (.Name x pos) X.env) Q E s:=by
 obtain⟨mb,h1,h2⟩:=I.mod.blt;exact Calls.Name_function_global I.ok.kind hg (Calls.loadGlobal_builtin (by rw[I.ok.glob];exact I.mod.glob.keeps I.bk) hm (by rw[I.ok.blt];exact h1.keeps I.bk) ((h2 x hn).trans hv) h) hd
theorem aX {x:Str}{v:V}{u:Value}{pos:Pos}(hg:Gl X x)(hm:X.mg x=some u)(r:aY v u)(hd:(x == ("__debug__":Str))=false:=by decide):PE X (.Name x pos) (tC v) :=
 fun Fc Fc Fc H Fc I h=>iM I hg hm ⟨v,H,I,r,h⟩ hd
theorem gu {x:Str}{v:V}{u:Value}{pos:Pos}(hg:Gl X x)(hm:X.mg x=none)(hv:bootBuiltins x=some u)(r:aY v u)(hn:x ≠ "__name__":=by decide)(hd:(x == ("__debug__":Str))=false:=by decide):PE X (.Name x pos) (tC v) :=
 fun Fc Fc Fc H Fc I h=>eA I hg hm hv ⟨v,H,I,r,h⟩ hn hd
variable {a b:Expr}{ta tb:TE}{pos:Pos}
def PC (X:Cx)(op:CmpOp)(a b:Expr)(t:TE):Prop :=
 ∀(pins:List (Addr×Obj)) (s:Shared) (σ:St) (H:Hp) (Q:VK),aG X pins σ H s->t σ H Q ->
  wpAny (model X.prog X.w) X.A (eval a X.env) (fun v s₁=>wpAny (model X.prog X.w) X.A (eval b X.env) (fun u s₂=>wpAny (model X.prog X.w) X.A (compareOp op v u) (EP X pins σ Q) X.xe s₂) X.xe s₁) X.xe s
def tB (t:TE):TT:=fun σ H Q=>t σ H fun x H1=>∃c,x = .bl c/\Q c H1
theorem fg {op:CmpOp}{t:TE}(h:PC X op a b t)(h1:behindInMarks op b=false:=by first | exact nobehind _ (by decide) (by decide) | rfl):PT X (.Compare a [op] [b] pos) (tB t):=by
 intro pins s σ H Q I hw;refine wpAny_isTrue_Compare1 (bj (h pins s σ H _ I hw) fun v s1 h1=>bj h1 fun u s2 h2=>bj h2 fun c s3 ⟨x,H1,I1,r1,q1⟩=>?_) h1;obtain⟨d,rfl,q⟩:=q1;cases r1;exact wpAny_truthy_bool ⟨H1,I1,q⟩
theorem dM {e:Expr}{t:TE}(h:PE X e t)(he:∀whole,isTrue e X.env whole=(do let v <- whole;standAt e.pos;holding [v] (truthy v)):=by intro _;rfl):PT X e (tB t):=by
 intro pins s σ H Q I hw;refine isTrue_plain (bj (h pins s σ H _ I hw) fun v s1 ⟨x,H1,I1,r1,q1⟩=>?_) (he _);obtain⟨d,rfl,q⟩:=q1;cases r1;exact wpAny_truthy_bool ⟨H1,I1,q⟩
variable {tA tB':TT}{rest:List Expr}
def Cs (t u:TT):TT:=fun σ H Q=>t σ H fun c H1=>if c=true then u σ H1 Q else Q false H1
def Dr (t u:TT):TT:=fun σ H Q=>t σ H fun c H1=>if c=true then Q true H1 else u σ H1 Q
def Ct (t:TT):TT:=fun σ H Q=>t σ H fun c H1=>Q (!c) H1
theorem eB (ha:PT X a tA):PW X (.BoolOp .And [a] pos) tA:=by
 intro wh pins s σ H Q I h;refine isTrue_and (bj (ha pins s σ H Q I h) fun c s1 e=>?_);cases c with
 | true=>exact isTrue_and_nil e
 | false=>exact e
theorem cZ (ha:PT X a tA):PW X (.BoolOp .Or [a] pos) tA:=by
 intro wh pins s σ H Q I h;refine isTrue_or (bj (ha pins s σ H Q I h) fun c s1 e=>?_);cases c with
 | false=>exact isTrue_or_nil e
 | true=>exact e
theorem fh (ha:PT X a tA)(hb:PW X (.BoolOp .And (b :: rest) pos) tB'):PW X (.BoolOp .And (a :: b :: rest) pos) (Cs tA tB'):=by
 intro wh pins s σ H Q I h;refine isTrue_and (bj (ha pins s σ H _ I h) fun c s1 ⟨H1,I1,q1⟩=>?_);cases c with
 | true=>exact hb wh pins s1 σ H1 Q I1 q1
 | false=>exact⟨H1,I1,q1⟩
theorem dG (ha:PT X a tA)(hb:PW X (.BoolOp .Or (b :: rest) pos) tB'):PW X (.BoolOp .Or (a :: b :: rest) pos) (Dr tA tB'):=by
 intro wh pins s σ H Q I h;refine isTrue_or (bj (ha pins s σ H _ I h) fun c s1 ⟨H1,I1,q1⟩=>?_);cases c with
 | true=>exact⟨H1,I1,q1⟩
 | false=>exact hb wh pins s1 σ H1 Q I1 q1
theorem c0 (ha:PT X a tA):PT X (.UnaryOp .Not a pos) (Ct tA):=by
 intro pins s σ H Q I h;exact isTrue_not (ha pins s σ H (fun c H1=>Q (!c) H1) I h)
def Ab (ta tb:TE):TE:=fun σ H Q=>ta σ H fun x H1=>∃c,x = .bl c/\if c=true then tb σ H1 Q else Q (.bl false) H1
def Ac (ta:TE):TE:=fun σ H Q=>ta σ H fun x H1=>∃c,x = .bl c/\Q (.bl (!c)) H1
theorem oI {op}{t:TE}(h:PE X a t):PE X (.BoolOp op [a] pos) t:=fun pins s σ H Q I hw=>BoolOp_one (h pins s σ H Q I hw)
theorem oJ (ha:PE X a ta)(hb:PE X (.BoolOp .And (b :: rest) pos) tb):PE X (.BoolOp .And (a :: b :: rest) pos) (Ab ta tb):=by
 intro pins s σ H Q I h;refine BoolOp_and (bj (ha pins s σ H _ I h) fun v s1 ⟨x,H1,I1,r1,q1⟩=>?_);obtain⟨c,rfl,q1⟩:=q1;cases r1;refine wpAny_truthy_bool ?_;cases c with
 | true=>exact hb pins s1 σ H1 Q I1 q1
 | false=>exact⟨.bl false,H1,I1,rfl,q1⟩
theorem xN (ha:PE X a ta):PE X (.UnaryOp .Not a pos) (Ac ta):=by
 intro pins s σ H Q I h;refine UnaryOp_ (bj (ha pins s σ H _ I h) fun v s1 ⟨x,H1,I1,r1,q1⟩=>?_);obtain⟨c,rfl,q1⟩:=q1;cases r1;exact not_of (wpAny_truthy_bool ⟨.bl (!c),H1,I1,rfl,q1⟩)
end
def bh (K:W.Frag)(H:Hp)(a:Addr)(xs:List V):Prop :=
 Rd H a (.lst xs) \/
  ∃(o:Obj) (its:Array Value) (n:Nat),K.lookup a=some o/\o.cls = .type "list"/\o.dict=none/\o.data = .seq its n/\its.size<=sizeLine/\aN xs its.toList
def a8 (K:W.Frag)(H:Hp)(a:Addr)(xs:List V):Prop :=
 Rd H a (.tup xs) \/
  ∃(o:Obj) (its:Array Value) (n:Nat),K.lookup a=some o/\o.cls = .type "tuple"/\o.data = .seq its n/\its.size<=sizeLine/\aN xs its.toList
def Cu:Value->Option V
 | .none=>some .non
 | .bool b=>some (.bl b)
 | .int i _=>some (.int i)
 | .str x _=>some (.str x)
 | .bytes b _=>some (.byt b)
 | .float b _=>some (.flt b)
 | .ref a=>some (.ref a)
 | .type n=>some (.ty n)
 | _=>none
theorem aY.abs {x:V}{u:Value}(r:aY x u):Cu u=some x:=by
 cases x with
 | non=>cases r;rfl
 | bl _=>cases r;rfl
 | int _=>obtain⟨t,rfl⟩:=r;rfl
 | str _=>obtain⟨t,rfl⟩:=r;rfl
 | byt _=>obtain⟨t,rfl⟩:=r;rfl
 | flt _=>obtain⟨t,rfl⟩:=r;rfl
 | ref _=>cases r;rfl
 | ty _=>cases r;rfl
theorem aY.inj {x y:V}{u:Value}(r:aY x u)(q:aY y u):x=y:=Option.some.inj (r.abs.symm.trans q.abs)
theorem aN.inj:∀{xs ys:List V} {us:List Value},aN xs us->aN ys us->xs=ys
 | _,_,_,.nil,.nil=>rfl
 | _,_,_,.cons r t,.cons r' t'=>by rw[r.inj r',aN.inj t t']
section
variable {X:Cx}{pins:List (Addr×Obj)}{σ:St}{H:Hp}{s:Shared}{a:Addr}{xs ys:List V}
theorem bh.of {K:W.Frag}(h:H a=some (.lst xs)):bh K H a xs:=.inl (.inl h)
theorem a8.of {K:W.Frag}(h:H a=some (.tup xs)):a8 K H a xs:=.inl (.inl h)
theorem aG.list (I:aG X pins σ H s)(h:bh X.K H a xs):∃its:List Value,aN xs its/\PlainL s.heap a its.toArray/\xs.length<=sizeLine:=by
 rcases h with h|⟨o,its,n,hk,hc,hd,hs,hz,r⟩
 . obtain⟨z,its,n,r,e⟩:=h.ok I.hok;exact⟨its,r,⟨_,n,e,rfl,rfl,rfl⟩,z⟩
 . refine⟨its.toList,r,⟨o,n,I.kIn a o hk,hc,hd,by simpa using hs⟩,?_⟩;have e:=r.length;simp only[Array.length_toList]at e;omega
theorem aG.tuple (I:aG X pins σ H s)(h:a8 X.K H a xs):∃its:List Value,aN xs its/\IsTup s.heap a its.toArray/\xs.length<=sizeLine:=by
 rcases h with h|⟨o,its,n,hk,hc,hs,hz,r⟩
 . obtain⟨z,its,r,p⟩:=h.ok I.hok;exact⟨its,r,p,z⟩
 . refine⟨its.toList,r,⟨o,I.kIn a o hk,hc,n,by simpa using hs⟩,?_⟩;have e:=r.length;simp only[Array.length_toList]at e;omega
theorem aG.list_inj (I:aG X pins σ H s)(h:bh X.K H a xs)(h':bh X.K H a ys):xs=ys:=by
 obtain⟨its,r,⟨o,n,e,_,_,d⟩,_⟩:=I.list h;obtain⟨its',r',⟨o',n',e',_,_,d'⟩,_⟩:=I.list h';rw[e]at e';cases e';rw[d]at d';injection d' with d1 _;have:its=its':=by simpa using congrArg Array.toList d1
 subst this;exact r.inj r'
theorem aG.tuple_inj (I:aG X pins σ H s)(h:a8 X.K H a xs)(h':a8 X.K H a ys):xs=ys:=by
 obtain⟨its,r,⟨o,e,_,n,d⟩,_⟩:=I.tuple h;obtain⟨its',r',⟨o',e',_,n',d'⟩,_⟩:=I.tuple h';rw[e]at e';cases e';rw[d]at d';injection d' with d1 _;have:its=its':=by simpa using congrArg Array.toList d1
 subst this;exact r.inj r'
end
abbrev Cx.wish (X:Cx)(E:Value->Shared->Prop):Cx:={ X with xe:=E }
abbrev Cx.nox (X:Cx):Cx:=X.wish fun Fc Fc=>False
theorem Cx.Ok.wish {X:Cx}(ok:X.Ok)(E:Value->Shared->Prop):(X.wish E).Ok :=
 ⟨ok.mod,ok.kind,ok.glob,ok.blt,ok.above,ok.inj,ok.has,ok.cab,ok.hd,ok.frames,ok.stk,ok.exf,ok.bs,ok.bsz,ok.noex,ok.exfs,ok.funs,ok.frf⟩
theorem Cx.Ok.unwish {X:Cx}{E:Value->Shared->Prop}(ok:(X.wish E).Ok):X.Ok :=
 ⟨ok.mod,ok.kind,ok.glob,ok.blt,ok.above,ok.inj,ok.has,ok.cab,ok.hd,ok.frames,ok.stk,ok.exf,ok.bs,ok.bsz,ok.noex,ok.exfs,ok.funs,ok.frf⟩
section
variable {X:Cx}{pins:List (Addr×Obj)}{σ:St}{H:Hp}{s:Shared}{E:Value->Shared->Prop}
theorem aG.wish (I:aG X pins σ H s)(E:Value->Shared->Prop):aG (X.wish E) pins σ H s:=⟨I.ok.wish E,I.os,I.bare,I.base,I.loc,I.cell,I.free,I.freeC,I.pin,I.hok,I.len⟩
theorem aG.unwish (I:aG (X.wish E) pins σ H s):aG X pins σ H s:=⟨I.ok.unwish,I.os,I.bare,I.base,I.loc,I.cell,I.free,I.freeC,I.pin,I.hok,I.len⟩
theorem SP.unwish {D:f8}{f:Flow}{s':Shared}(h:SP (X.wish E) pins D f s'):SP X pins D f s':=by
 cases f with
 | next=>obtain⟨σ',H',I,q⟩:=h;exact⟨σ',H',I.unwish,q⟩
 | brk=>obtain⟨σ',H',I,q⟩:=h;exact⟨σ',H',I.unwish,q⟩
 | cont=>obtain⟨σ',H',I,q⟩:=h;exact⟨σ',H',I.unwish,q⟩
 | ret u=>obtain⟨v,σ',H',I,r,q⟩:=h;exact⟨v,σ',H',I.unwish,r,q⟩
theorem qY.nox {st:List Stmt}{t:TS}(h:qY X.nox st t):qY X st t:=fun pins s σ H D I hw =>
 wpAny_mono (h pins s σ H D (I.wish _) hw) (fun Fc Fc q=>q.unwish) fun Fc Fc z=>False.elim z
end
section
variable {X:Cx}{st:Stmt}{rest:List Stmt}{t u:TS}{e:Expr}{te:TE}{pos:Pos}
def tNext:TS:=fun D σ H=>D.nx σ H
def Ae (t u:TS):TS:=fun D σ H=>t { D with nx:=u D } σ H
theorem aM:qY X [] tNext:=fun _ _ σ H _ I h=>wpAny_execs_nil ⟨σ,H,I,h⟩
theorem ad (h1:PS X st t)(h2:qY X rest u):qY X (st :: rest) (Ae t u):=by
 intro pins s σ H D I h;refine wpAny_execs_cons (bj (h1 pins s σ H { D with nx:=u D } I h) fun f s1 q=>?_);cases f with
 | next =>
  obtain⟨σ',H',I',q⟩:=q;exact h2 pins s1 σ' H' D I' q
 | ret v=>exact q
 | brk=>exact q
 | cont=>exact q
theorem af (h1:PS X st t):qY X [st] t:=by
 intro pins s σ H D I h;refine wpAny_execs_cons (bj (h1 pins s σ H D I h) fun f s1 q=>?_);cases f with
 | next=>exact wpAny_execs_nil q
 | ret v=>exact q
 | brk=>exact q
 | cont=>exact q
theorem aG.quiet {pins:List (Addr×Obj)}{σ:St}{H:Hp}{s:Shared}(I:aG X pins σ H s):interactive X.env=false:=by simp[interactive,I.ok.kind]
def w6 (te:TE):TS:=fun D σ H=>te σ H fun Fc H1=>D.nx σ H1
theorem aS (he:PE X e te)(hs:swapsWith e none pos.line X.env=pure false:=by rfl):PS X (.Expr e pos) (w6 te):=by
 intro pins s σ H D I h;exact wpAny_Expr_any (bj (he pins s σ H _ I h) fun v s1 ⟨x,H1,I1,r1,q1⟩=>⟨σ,H1,I1,q1⟩) I.quiet hs
def Cv (te:TE):TS:=fun D σ H=>te σ H D.rt
theorem aw (he:PE X e te):PS X (.Return (some e) pos) (Cv te):=by
 intro pins s σ H D I h;exact wpAny_Return_some (bj (he pins s σ H _ I h) fun v s1 ⟨x,H1,I1,r1,q1⟩=>⟨x,σ,H1,I1,r1,q1⟩)
def xO (c:TT)(t u:TS):TS:=fun D σ H=>c σ H fun b H1=>if b=true then t D σ H1 else u D σ H1
theorem aZ {c:Expr}{a b:List Stmt}{tc:TT}(hc:PT X c tc)(ha:qY X a t)(hb:qY X b u):PS X (.If c a b pos) (xO tc t u):=by
 intro pins s σ H D I h;refine wpAny_If (bj (hc pins s σ H _ I h) fun d s1 ⟨H1,I1,q1⟩=>?_);cases d with
 | true=>exact ha pins s1 σ H1 D I1 q1
 | false=>exact hb pins s1 σ H1 D I1 q1
def tNever:TS:=fun Fc Fc Fc=>False
theorem bH:PS X st tNever:=fun Fc Fc Fc Fc Fc Fc h=>h.elim
end
abbrev TG:=V->St->Hp->(St->Hp->Prop)->Prop
abbrev TGs:=List V->St->Hp->(St->Hp->Prop)->Prop
def PG (X:Cx)(target:Expr)(t:TG):Prop :=
 ∀(pins:List (Addr×Obj)) (s:Shared) (σ:St) (H:Hp) (v:V) (u:Value) (Q:St->Hp->Prop),aG X pins σ H s->aY v u->t v σ H Q ->
  wpAny (model X.prog X.w) X.A (assign target X.env u) (fun Fc s'=>∃ σ' H',aG X pins σ' H' s'/\Q σ' H') X.xe s
def Ch (X:Cx)(ts:List Expr)(t:TGs):Prop :=
 ∀(pins:List (Addr×Obj)) (s:Shared) (σ:St) (H:Hp) (vs:List V) (us:List Value) (Q:St->Hp->Prop),aG X pins σ H s->aN vs us->t vs σ H Q ->
  wpAny (model X.prog X.w) X.A (assignInOrder ((assignEach ts X.env).map (·.2)) us) (fun Fc s'=>∃ σ' H',aG X pins σ' H' s'/\Q σ' H') X.xe s
abbrev TSet:=V->V->V->Hp->(Hp->Prop)->Prop
def Af (X:Cx)(t:TSet):Prop :=
 ∀(pins:List (Addr×Obj)) (s:Shared) (σ:St) (H:Hp) (o i v:V) (ov iv u:Value) (Q:Hp->Prop),aG X pins σ H s->aY o ov->aY i iv->aY v u->t o i v H Q ->
  wpAny (model X.prog X.w) X.A (setItem ov iv u) (fun Fc s'=>∃H',aG X pins σ H' s'/\Q H') X.xe s
section
variable {X:Cx}{pos:Pos}
def dH (i:Nat):TG:=fun v σ H Q=>Q (σ.set i (some v)) H
theorem aJ {i:Nat}{x:Str}(hN:X.N.Nodup)(hi:X.N[i]? = some x)(hx:Cg X.env.scope x)(hf:X.fn x=true\/X.env.scope.names.lookup x=some .local:=by first | exact .inl rfl | exact .inr rfl | assumption):PG X (.Name x pos) (dH i):=by
 intro pins s σ H v u Q I r h;exact wpAny_assign_Name (mJ I hN hi hx r (fun s' I'=>⟨_,H,I',h⟩) hf)
def gNil:TGs:=fun vs σ H Q=>vs=[]/\Q σ H
def ij (t:TG)(u:TGs):TGs:=fun vs σ H Q=>∃v r,vs=v :: r/\t v σ H fun σ' H'=>u r σ' H' Q
theorem cP:Ch X [] gNil:=by
 intro pins s σ H vs us Q I r h;obtain⟨e,h⟩:=h;subst e;cases r;exact assignInOrder_nil ⟨σ,H,I,h⟩
theorem aR {e:Expr}{es:List Expr}{t:TG}{u:TGs}(h1:PG X e t)(h2:Ch X es u)
 (hs:(assignEach (e :: es) X.env).map (·.2)=assign e X.env :: (assignEach es X.env).map (·.2):=by rfl):Ch X (e :: es) (ij t u):=by
 intro pins s σ H vs us Q I r h;obtain⟨v,vr,e1,h⟩:=h;subst e1;cases r with
 | cons r rr =>
  rw[hs];refine assignInOrder_cons (bj (h1 pins s σ H _ _ _ I r h) fun _ s1 ⟨σ1,H1,I1,q1⟩=>?_);exact h2 pins s1 σ1 H1 _ _ Q I1 rr q1
def xP (K:W.Frag)(n:Nat)(t:TGs):TG:=fun v σ H Q=>∃a xs,v = .ref a/\a8 K H a xs/\xs.length=n/\t xs σ H Q
theorem dN {es:List Expr}{k:Nat}{t:TGs}{n:Nat}(hc:X.calm=true)(h:Ch X es t)
 (hn:(assignEach es X.env).length=n:=by rfl) (hst:(assignEach es X.env).findIdx? (·.1)=none:=by rfl):PG X (.Tuple es k pos) (xP X.K n t):=by
 intro pins s σ H v u Q I r hw;obtain⟨a,xs,e1,hq,hl,hw⟩:=hw;subst e1;cases r;obtain⟨its,rv,ht,hz⟩:=I.tuple hq;refine assign_Tuple_tuple (I.ok.hd hc) ht (by simp[hn,<- hl,rv.length]) hst fun h' hx=>?_;have I1:aG X pins σ H { s with heap:=h' }:=I.kept (t':=s.toks) fun b o e=>hx b o (Nat.ne_of_lt (Heap.lt_size e)) e;exact h pins _ σ H xs _ Q I1 (by simpa using rv) hw
def Cw (to ti:TE)(t:TSet):TG:=fun v σ H Q=>to σ H fun o H1=>ti σ H1 fun i H2=>t o i v H2 fun H3=>Q σ H3
theorem sX {o i:Expr}{to ti:TE}{t:TSet}(ho:PE X o to)(hi:PE X i ti)(hs:Af X t)
 (ha:∀v,assign (.Subscript o i pos) X.env v=(do
  let ov <- holding [v] (eval o X.env)
  let iv <- holding [v,ov] (eval i X.env)
  standAt pos
  holding [v,ov,iv] (setItem ov iv v)
  release [v,ov,iv] []):=by intro _;rfl):PG X (.Subscript o i pos) (Cw to ti t):=by
 intro pins s σ H v u Q I r h;rw[ha];refine wpAny_bind (wpAny_holding (bj (ho pins s σ H _ I h) fun ov s1 ⟨x,H1,I1,r1,q1⟩=>?_));refine wpAny_bind (wpAny_holding (bj (hi pins s1 σ H1 _ I1 q1) fun iv s2 ⟨y,H2,I2,r2,q2⟩=>?_));refine wpAny_bind (wpAny_standAt (wpAny_bind (wpAny_holding (bj (hs pins s2 σ H2 x y v ov iv u _ I2 r1 r2 r q2) fun _ s3 ⟨H3,I3,q3⟩=>?_))));exact wpAny_release ⟨σ,H3,I3,q3⟩
def xQ (te:TE)(g:TG):TS:=fun D σ H=>te σ H fun x H1=>g x σ H1 D.nx
theorem ld {tg e:Expr}{te:TE}{g:TG}(he:PE X e te)(hg:PG X tg g)(hs:swapsWithSole [tg] e pos.line X.env=pure false:=by rfl)(hw:swappedStores [tg] e X.env=pure none:=by rfl)
 (h1:(assignEach [tg] X.env).map (·.2)=[assign tg X.env]:=by rfl):PS X (.Assign [tg] e pos) (xQ te g):=by
 intro pins s σ H D I h;refine wpAny_Assign_stores (bj (he pins s σ H _ I h) fun v s1 ⟨x,H1,I1,r1,q1⟩=>?_) hs hw;rw[h1];exact bj (hg pins s1 σ H1 x v _ I1 r1 q1) fun Fc s2 q=>q
theorem aA {i:Nat}{x:Str}{e:Expr}{te:TE}{pos':Pos}(hN:X.N.Nodup)(hi:X.N[i]? = some x)(hx:Cg X.env.scope x)(he:PE X e te)(hs:swapsWith e (some (.Name x pos')) pos.line X.env=pure false:=by rfl)(hf:X.fn x=true\/X.env.scope.names.lookup x=some .local:=by first | exact .inl rfl | exact .inr rfl | assumption) :
 PS X (.Assign [.Name x pos'] e pos) (xQ te (dH i)):=by
 intro pins s σ H D I h;refine wpAny_Assign_Name (bj (he pins s σ H _ I h) fun v s1 ⟨y,H1,I1,r1,q1⟩=>?_) hs;exact mJ I1 hN hi hx r1 (fun s2 I2=>⟨_,H1,I2,q1⟩) hf
end
structure It where
 go:Nat->Hp->Prop
 yld:Nat->Hp->V->Hp->Prop
 stop:Nat->Hp->Prop
def lh (X:Cx)(pins:List (Addr×Obj))(H:Hp)(b:Addr):Prop :=
 H b=none/\b≠X.env.locals/\b ∉ X.fs/\(b∈X.ex\/X.s₀.heap.objs.size<=b)/\(∀x c,X.env.cells.lookup x=some c->c≠b)/\∀p∈X.pn++pins,p.1≠b
theorem aG.fpOk {X:Cx}{pins:List (Addr×Obj)}{σ:St}{H H':Hp}{s:Shared}{b:Addr}(I:aG X pins σ H s)(hb:s.heap.objs.size<=b)(hn:H' b=none):lh X pins H' b:=by
 refine⟨hn,Nat.ne_of_gt (Nat.lt_of_lt_of_le I.lt hb),I.nofs hb,.inr (Nat.le_trans I.sz hb),fun x c e z=>?_,fun p hp z=>?_⟩
 . obtain⟨v,q⟩:=I.cell x c e;exact absurd (Nat.lt_of_lt_of_le q.lt (by rw[z];exact hb)) (Nat.lt_irrefl _)
 . exact absurd (Nat.lt_of_lt_of_le (Heap.lt_size (I.pin p hp).1) (by rw[z];exact hb)) (Nat.lt_irrefl _)
def sY (X:Cx)(s:Shared):Prop:=∃(ea:Addr) (o:Obj) (vs:Array Value),X.A.handled=some (.ref ea)/\s.heap.get? ea=some o/\o.data = .fields vs/\vs[2]? = some .none
def sZ (hb:Bool)(X:Cx)(s:Shared):Prop:=X.A.handled=none\/(hb=true/\sY X s)
theorem sZ.none {X:Cx}{s:Shared}(h:sZ false X s):X.A.handled=Option.none:=by
 rcases h with h|⟨z,_⟩
 . exact h
 . cases z
structure mK (P:Program)(w:World)(K:W.Frag)(tg:Expr)(J:It)(fp:List Addr)(it:Addr)(tn:Nat->Heap->Prop)(hb:Bool:=false):Prop where
 mem:it∈fp
 obj:∀i h,tn i h->∀b∈fp,∃o,h.get? b=some o/\∀v,o.data ≠ .cell v
 keep:∀i h h',tn i h->(∀b∈fp,∀o,h.get? b=some o->h'.get? b=some o)->tn i h'
 item:∀(X:Cx),X.prog=P->X.w=w->X.K=K->∀(s:Shared),sZ hb X s->∀(i:Nat) (pins:List (Addr×Obj)) (σ:St) (H:Hp) (E:Value->Shared->Prop),aG X pins σ H s->(∀b∈fp,lh X pins H b)->tn i s.heap->J.go i H ->
  wpAny (model P w) X.A (pyNext (.ref it)) (fun r s1=>∃u,r=some u /\
   wpAny (model P w) X.A (letOwnedTupleGo tg (.ref it) u) (fun Fc s2=>∃x H',aG X pins σ H' s2/\aY x u/\J.yld i H x H'/\tn (i+1) s2.heap/\∀b∈fp,H' b=none) E s1) E s
 done:∀(X:Cx),X.prog=P->X.w=w->X.K=K->∀(s:Shared),sZ hb X s->∀(i:Nat) (pins:List (Addr×Obj)) (σ:St) (H:Hp) (E:Value->Shared->Prop),aG X pins σ H s->(∀b∈fp,lh X pins H b)->tn i s.heap->J.stop i H ->
  wpAny (model P w) X.A (pyNext (.ref it)) (fun r s1=>r=none/\aG X pins σ H s1) E s
 self:∀(A:Around) (i:Nat) (s:Shared) (Q:Value->Shared->Prop) (E:Value->Shared->Prop),tn i s.heap->Q (.ref it) s->wpAny (model P w) A (pyIter (.ref it)) Q E s
abbrev TI:=St->Hp->(It->Hp->Prop)->Prop
def Ci (X:Cx)(pins:List (Addr×Obj))(σ:St)(tg:Expr)(R:It->Hp->Prop)(hb:Bool)(itv:Value)(s2:Shared):Prop :=
 ∃(it:Addr) (fp:List Addr) (tn:Nat->Heap->Prop) (J:It) (H':Hp),itv = .ref it/\aG X pins σ H' s2/\mK X.prog X.w X.K tg J fp it tn hb/\tn 0 s2.heap/\(∀b∈fp,lh X pins H' b)/\R J H'
def PI (X:Cx)(tg iter:Expr)(wi:TI)(hb:Bool:=false):Prop :=
 ∀(pins:List (Addr×Obj)) (s:Shared) (σ:St) (H:Hp) (R:It->Hp->Prop),aG X pins σ H s->wi σ H R ->
  wpAny (model X.prog X.w) X.A (eval iter X.env) (fun v s1=>wpAny (model X.prog X.w) X.A (pyIter v) (Ci X pins σ tg R hb) X.xe s1) X.xe s
theorem i8 {M:Model}{A:Around}{E:Value->Shared->Prop}{s:Shared}{tg:Expr}{it:Addr}{u:Value}{o:Obj}{n:String}{vs:Array Value}{Q:Unit->Shared->Prop}(ho:s.heap.get? it=some o)(hc:o.cls = .type n)(hd:o.data = .fields vs)
 (hn:["enumerate","zip","dict_itemiterator","dict_reverseitemiterator","odict_iterator","itertools.zip_longest","itertools.pairwise"].contains n=false) (hQ:Q () s):wpAny M A (letOwnedTupleGo tg (.ref it) u) Q E s:=by
 unfold letOwnedTupleGo;cases tg <;> first
  | exact wpAny_pure hQ
  | (cases u <;> first
   | exact wpAny_pure hQ
   | (refine wpAny_bind (wpAny_load ho ?_)
      rw[hc,hd];show wpAny M A (if(["enumerate","zip","dict_itemiterator","dict_reverseitemiterator","odict_iterator","itertools.zip_longest","itertools.pairwise"].contains n && vs[0]? == some (rawInt _))=true then _ else _) Q E s;rw[if_neg (by intro h;rw[hn,Bool.false_and]at h;cases h)];exact wpAny_pure hQ))
def xR (K:W.Frag)(a:Addr):It :=
 ⟨fun i H=>∃xs x,bh K H a xs/\xs[i]? = some x,fun i H x H'=>H'=H/\∀xs,bh K H a xs->xs[i]? = some x,fun i H=>∃xs,bh K H a xs/\xs.length<=i⟩
def Ag (K:W.Frag)(a:Addr):It :=
 ⟨fun i H=>∃xs x,a8 K H a xs/\xs[i]? = some x,fun i H x H'=>H'=H/\∀xs,a8 K H a xs->xs[i]? = some x,fun i H=>∃xs,a8 K H a xs/\xs.length<=i⟩
def xS (lo:Int)(n:Nat):It:=⟨fun i Fc=>i < n,fun i H x H'=>H'=H/\x = .int (lo+i),fun i Fc=>n<=i⟩
theorem jX {P:Program}{w:World}{K:W.Frag}{tg:Expr}(a it:Addr):mK P w K tg (xR K a) [it] it (fun i h=>h.IsListIter it a i) where
 mem:=by simp
 obj:=fun i h st b hb=>by
  have e:b=it:=by simpa using hb
  subst e;obtain⟨o,e,c,d⟩:=st;exact⟨o,e,fun v z=>by rw[d]at z;cases z⟩
 keep:=fun i h h' st k=>st.at fun o e=>k it (by simp) o e
 item:=by
  intro X hP hw hK s hc i pins σ H E I hf st hg;subst hP hw hK;obtain⟨xs,x,hq,hx⟩:=hg;obtain⟨its,rv,p,hz⟩:=I.list hq;obtain⟨u,hu,ru⟩:=rv.get hx;obtain⟨f0,f1,f2,f3,f4,f5⟩:=hf it (by simp);refine wpAny_pyNext_list_item st p.isList (x:=u) (by simpa using hu) fun h' st' sb=>?_;have I1:aG X pins σ H { s with heap:=h' }:=I.turned (t':=s.toks) (fun b o hb e=>(sb.2 b hb).trans e) f0 f1 f3 f4 f5;obtain⟨o,e,c,d⟩:=id st';exact⟨u,rfl,i8 (s:={ s with heap:=h' }) e c d (by decide) ⟨x,H,I1,ru,⟨rfl,fun ys hy=>by rw[I.list_inj hy hq];exact hx⟩,st',fun b hb=>(hf b hb).1⟩⟩
 done:=by
  intro X hP hw hK s hc i pins σ H E I hf st hg;subst hP hw hK;obtain⟨xs,hq,hx⟩:=hg;obtain⟨its,rv,p,hz⟩:=I.list hq;obtain⟨f0,f1,f2,f3,f4,f5⟩:=hf it (by simp);have hl:=rv.length;exact wpAny_pyNext_list_end hc.none st p.isList (by simp;omega) fun h' eb=>⟨rfl,I.turned (t':=s.toks) (fun b o hb e=>eb b o hb e) f0 f1 f3 f4 f5⟩
 self:=fun Fc Fc Fc Fc Fc st h=>wpAny_pyIter_listiter st h
theorem oK {P:Program}{w:World}{K:W.Frag}{tg:Expr}(a it:Addr):mK P w K tg (Ag K a) [it] it (fun i h=>h.IsTupleIter it a i) where
 mem:=by simp
 obj:=fun i h st b hb=>by
  have e:b=it:=by simpa using hb
  subst e;obtain⟨o,e,c,d⟩:=st;exact⟨o,e,fun v z=>by rw[d]at z;cases z⟩
 keep:=fun i h h' st k=>st.at fun o e=>k it (by simp) o e
 item:=by
  intro X hP hw hK s hc i pins σ H E I hf st hg;subst hP hw hK;obtain⟨xs,x,hq,hx⟩:=hg;obtain⟨its,rv,p,hz⟩:=I.tuple hq;obtain⟨u,hu,ru⟩:=rv.get hx;obtain⟨f0,f1,f2,f3,f4,f5⟩:=hf it (by simp);refine wpAny_pyNext_tuple_item st (show s.heap.IsTuple a its.toArray from p) (x:=u) (by simpa using hu) fun h' st' sb=>?_;have I1:aG X pins σ H { s with heap:=h' }:=I.turned (t':=s.toks) (fun b o hb e=>(sb.2 b hb).trans e) f0 f1 f3 f4 f5;obtain⟨o,e,c,d⟩:=id st';exact⟨u,rfl,i8 (s:={ s with heap:=h' }) e c d (by decide) ⟨x,H,I1,ru,⟨rfl,fun ys hy=>by rw[I.tuple_inj hy hq];exact hx⟩,st',fun b hb=>(hf b hb).1⟩⟩
 done:=by
  intro X hP hw hK s hc i pins σ H E I hf st hg;subst hP hw hK;obtain⟨xs,hq,hx⟩:=hg;obtain⟨its,rv,p,hz⟩:=I.tuple hq;obtain⟨f0,f1,f2,f3,f4,f5⟩:=hf it (by simp);have hl:=rv.length;exact wpAny_pyNext_tuple_end hc.none st (show s.heap.IsTuple a its.toArray from p) (by simp;omega) fun h' eb=>⟨rfl,I.turned (t':=s.toks) (fun b o hb e=>eb b o hb e) f0 f1 f3 f4 f5⟩
 self:=fun Fc Fc Fc Fc Fc st h=>wpAny_pyIter_tupleiter st h
section
variable {prog:Program}{w:World}{A:Around}{E:Value->Shared->Prop}{s:Shared}{e ea it:Addr}{o oe:Obj}{us vs:Array Value}
theorem mL:entryFor table "proto.unchain" = some Builtin.«proto.unchain»:=entryFor_of_tree (by kernel_rfl)
theorem oM {α:Type}{Q:α->Shared->Prop}(hh:A.handled=some (.ref ea))(hea:s.heap.get? ea=some oe)(hd:oe.data = .fields vs)(h2:vs[2]? = some .none)(he:s.heap.get? e=some o)(hde:o.data = .fields us)(hsz:2 < us.size)(hne:ea≠e)
 (hE:E (.ref e) { s with heap:=s.heap.update e (Obj.mapFields (·.setIfInBounds 2 (.ref ea))) }):wpAny (model prog w) A (raiseNew (.ref e):Sem α) Q E s:=by
 have n:(Value.ref ea != Value.ref e)=true:=by simp[hne]
 unfold raiseNew;refine wpAny_bind (wpAny_handled ?_);rw[hh];show wpAny _ _ (if(Value.ref ea != Value.ref e)=true then _ else _) _ _ _;rw[if_pos n];refine wpAny_bind (wpAny_holding (wpAny_runValue (codeAny_builtin mL ?_)));show wpAny _ _ (field (.ref ea) 2 >>= _) _ _ _;refine wpAny_bind (wpAny_field hea hd h2 ?_);show wpAny _ _ (if(Value.none == Value.none)=true then _ else _) _ _ _;rw[if_pos (show(Value.none == Value.none)=true from rfl)];refine wpAny_pure ?_;exact wpAny_bind (wpAny_setField he hde hsz (wpAny_throw hE))
theorem fj {x left step:Int}{Q:Option Value->Shared->Prop}(hh:A.handled=some (.ref ea))(hea:s.heap.get? ea=some oe)(hd:oe.data = .fields vs)(h2:vs[2]? = some .none)(hit:IsRangeIter s.heap it x left step)(hleft:left<=0)
 (hQ:∀h',Heap.ExtBut it s.heap h'->Q none { s with heap:=h' }):wpAny (model prog w) A (pyNext (.ref it)) Q E s:=by
 have hT:s.TypeIs (.ref it) "range_iterator":=⟨_,hit,rfl⟩;have lt:=Heap.lt_size hea;unfold pyNext;refine wpAny_bind (wpAny_attempt (wpAny_callSpecial?_slot (name:=Str.ofString "__next__") hT F.slot_range_iterator_next (wpAny_call_entry F.slot_range_iterator_next hT F.entry_range_iterator_next ?_ (F.args_range_iterator_next_1 _))));show wpAny _ _ (field (.ref it) 0 >>= _) _ _ s;refine wpAny_bind (wpAny_field hit rfl (x:=rawInt x) rfl ?_);show wpAny _ _ (field (.ref it) 1 >>= _) _ _ s;refine wpAny_bind (wpAny_field hit rfl (x:=rawInt left) rfl ?_);show wpAny _ _ (field (.ref it) 2 >>= _) _ _ s;refine wpAny_bind (wpAny_field hit rfl (x:=rawInt step) rfl ?_);show wpAny _ _ (if left<=0 then _ else _) _ _ s;rw[if_pos hleft];refine wpAny_bind (wpAny_rule (wpAny_bind ?_));show wpAny _ _ (newExc (.type "StopIteration") [] >>= _) _ _ _;refine wpAny_bind ?_;simp only[newExc,newTuple];refine wpAny_bind (wpAny_newObj_type ?_ (by size_fits));refine wpAny_bind (m:=firstArgMember _ _) (wpAny_of_eq (a:=Value.none) (by first | rfl | (simp only[firstArgMember];rfl)) ?_);refine wpAny_newObj_type ?_ (by size_fits);refine oM (oe:=oe) (vs:=vs) (by first | exact hh | exact(show A.in1.handled=_ from hh)) (Heap.get?_push_of_some _ (Heap.get?_push_of_some _ hea)) hd h2 (Heap.get?_push_size _ rfl) rfl (by simp;omega) (Nat.ne_of_lt (by rw[Heap.size_push];exact Nat.lt_succ_of_lt lt)) ?_;refine wpAny_bind (wpAny_isInstance (T:="StopIteration") (b:=true) ⟨_,Heap.get?_update_self _ (Heap.get?_push_size _ rfl) rfl,rfl⟩ isSubtype_stop ?_);refine wpAny_pure (hQ _ fun b ob hb q=>?_);rw[Heap.get?_update_other _ _ (Nat.ne_of_gt (by rw[Heap.size_push];exact Nat.lt_succ_of_lt (Heap.lt_size q)))];exact Heap.get?_push_of_some _ (Heap.get?_push_of_some _ q)
end
theorem oO {P:Program}{w:World}{K:W.Frag}{tg:Expr}(it:Addr)(lo:Int)(n:Nat){hb:Bool}:mK P w K tg (xS lo n) [it] it (fun i h=>IsRangeIter h it (lo+(i:Nat) * 1) ((n:Int) - (i:Nat)) 1) hb where
 mem:=by simp
 obj:=fun i h st b hb=>by
  have e:b=it:=by simpa using hb
  subst e;exact⟨_,st,fun v z=>by
   have z':Data.fields _=Data.cell v:=z;cases z'⟩
 keep:=fun i h h' st k=>k it (by simp) _ st
 item:=by
  intro X hP hw hK s hc i pins σ H E I hf st hg;subst hP hw hK;obtain⟨f0,f1,f2,f3,f4,f5⟩:=hf it (by simp);have hi:i < n:=hg;refine wpAny_pyNext_range_item st (by omega) fun h' st' sb=>?_;have I1:aG X pins σ H { s with heap:=h',toks:=s.toks+1 }:=I.turned (fun b o hb e=>(sb.2 b hb).trans e) f0 f1 f3 f4 f5;have e1:lo+((i:Nat):Int) * 1+1=lo+((i+1:Nat):Int) * 1:=by omega
  have e2:(n:Int) - ((i:Nat):Int) - 1=(n:Int) - ((i+1:Nat):Int):=by omega
  rw[e1,e2]at st';refine⟨_,rfl,i8 (s:={ s with heap:=h',toks:=s.toks+1 }) (n:="range_iterator") st' rfl rfl (by decide) ⟨.int (lo+i),H,I1,⟨s.toks,?_⟩,⟨rfl,rfl⟩,st',fun b hb=>(hf b hb).1⟩⟩;rw[Int.mul_one]
 done:=by
  intro X hP hw hK s hc i pins σ H E I hf st hg;subst hP hw hK;obtain⟨f0,f1,f2,f3,f4,f5⟩:=hf it (by simp);have hi:(n:Int) - ((i:Nat):Int)<=0:=by have:n<=i:=hg;omega
  rcases hc with hc|⟨_,ea,o,vs,h1,h2,h3,h4⟩
  . exact wpAny_pyNext_range_end hc st hi fun h' eb=>⟨rfl,I.turned (t':=s.toks) (fun b o hb e=>eb b o hb e) f0 f1 f3 f4 f5⟩
  . exact fj h1 h2 h3 h4 st hi fun h' eb=>⟨rfl,I.turned (t':=s.toks) (fun b o hb e=>eb b o hb e) f0 f1 f3 f4 f5⟩
 self:=fun Fc Fc Fc Fc Fc st h=>wpAny_pyIter_rangeiter st h
section
variable {X:Cx}{tg:Expr}
def Ah (K:W.Frag)(tl:TE):TI:=fun σ H R=>tl σ H fun x H1=>∃a,x = .ref a/\(∃xs,bh K H1 a xs)/\R (xR K a) H1
theorem eC {l:Expr}{tl:TE}(hl:PE X l tl):PI X tg l (Ah X.K tl):=by
 intro pins s σ H R I h;refine bj (hl pins s σ H _ I h) fun v s1 ⟨x,H1,I1,r1,q1⟩=>?_;obtain⟨a,e,⟨xs,hq⟩,q⟩:=q1;subst e;cases r1;obtain⟨its,rv,p,hz⟩:=I1.list hq;refine wpAny_pyIter_list p.isList ?_;refine⟨s1.heap.objs.size,[s1.heap.objs.size],_,_,H1,rfl,I1.kept (t':=s1.toks) fun b o e=>Heap.get?_push_of_some _ e,jX a _,⟨_,Heap.get?_push_size _ rfl,rfl,rfl⟩,fun b hb=>?_,q⟩;have e:b=s1.heap.objs.size:=by simpa using hb
 subst e;exact I1.fpOk (Nat.le_refl _) (I1.hok.fresh (Nat.le_refl _))
theorem tj {hb:Bool}{pins:List (Addr×Obj)}{σ:St}{H:Hp}{s:Shared}{R:It->Hp->Prop}{E:Value->Shared->Prop}{lo hi:Int}{t u v:Tok}{tk:Nat}(I:aG X pins σ H s)(h1:-(2 ^ 62)<=lo)(h2:lo < 2 ^ 62)(h3:-(2 ^ 62)<=hi)(h4:hi < 2 ^ 62)
 (q:R (xS lo (hi - lo).toNat) H):wpAny (model X.prog X.w) X.A (pyIter (.ref s.heap.objs.size)) (Ci X pins σ tg R hb) E { s with heap:=s.heap.push { cls:=.type "range",data:=.fields #[.int lo t,.int hi u,.int 1 v] },toks:=tk }:=by
 refine wpAny_pyIter_range (IsRange.new ..) (small_one h1 h2 h3 h4) ?_;have I1:aG X pins σ H { s with heap:=s.heap.push { cls:=.type "range",data:=.fields #[.int lo t,.int hi u,.int 1 v] },toks:=tk }:=I.kept fun b o e=>Heap.get?_push_of_some _ e;refine⟨(s.heap.push { cls:=.type "range",data:=.fields #[.int lo t,.int hi u,.int 1 v] }).objs.size,[(s.heap.push { cls:=.type "range",data:=.fields #[.int lo t,.int hi u,.int 1 v] }).objs.size],_,_,H,rfl,
  I1.kept (t':=tk) fun b o e=>Heap.get?_push_of_some _ e,oO _ lo (hi - lo).toNat,?_,fun b hb=>?_,q⟩
 . have e1:lo+((0:Nat):Int) * 1=lo:=by simp
   have e2:(((hi - lo).toNat:Nat):Int) - ((0:Nat):Int)=Builtin.Range.rangeSize lo hi 1:=by rw[rangeSize_one];split <;> omega
   show IsRangeIter _ _ (lo+((0:Nat):Int) * 1) ((((hi - lo).toNat:Nat):Int) - ((0:Nat):Int)) 1;rw[e1,e2];exact Heap.get?_push_size _ rfl
 . have e:b=(s.heap.push { cls:=.type "range",data:=.fields #[.int lo t,.int hi u,.int 1 v] }).objs.size:=by simpa using hb
   subst e;exact I1.fpOk (Nat.le_refl _) (I1.hok.fresh (Nat.le_refl _))
def Ai (ta:TA):TI:=fun σ H R=>ta σ H fun vs H1=>∃j:Int,vs=[.int j]/\-(2 ^ 62)<=j/\j < 2 ^ 62/\R (xS 0 j.toNat) H1
theorem dQ {hb:Bool}{a:Expr}{ta:TA}{p pos:Pos}(hg:Gl X "range")(hm:X.mg "range" = none)(ha:PA X [a] ta)(hs:starEach [a] X.env=[(false,eval a X.env)]:=by rfl):PI X tg (.Call (.Name "range" p) [a] [] pos) (Ai ta) hb:=by
 intro pins s σ H R I h;refine Call_ (eA I hg hm boot_range (PyProof.Rows.callWith_type1 (bj (ha pos pins s σ H _ I h) fun us s1 ⟨vs,H1,I1,r1,q1⟩=>?_) hs rfl));obtain⟨j,e,q1,q2,q⟩:=q1;subst e;cases r1 with
 | cons r rr =>
  cases rr;obtain⟨t,rfl⟩:=r;exact call_range_1 (tj I1 (by omega) (by omega) q1 q2 (by simpa using q))
def Cy (wi:TI)(g:TG)(tb:TS):TS:=fun D σ H=>wi σ H fun J H1=>∃W:Nat->Nat->St->Hp->Prop,(∃m,W 0 m σ H1)/\∀i m σ H,W i m σ H ->
 (J.stop i H/\D.nx σ H)\/(J.go i H/\∃N:St->Hp->Prop,(∀ σ' H',N σ' H'->∃m',m' < m/\W (i+1) m' σ' H')/\∀x H',J.yld i H x H'->g x σ H' fun σ2 H2=>tb { D with nx:=N,ct:=N,bk:=D.nx } σ2 H2)
def i9 (fp:List Addr)(h:Heap):List (Addr×Obj):=fp.filterMap fun b=>(h.get? b).map fun o=>(b,o)
theorem eE {fp:List Addr}{h:Heap}{b:Addr}{o:Obj}(hb:b∈fp)(e:h.get? b=some o):(b,o)∈i9 fp h:=List.mem_filterMap.mpr ⟨b,hb,by rw[e];rfl⟩
theorem qZ {fp:List Addr}{h:Heap}{p:Addr×Obj}(hp:p∈i9 fp h):p.1∈fp/\h.get? p.1=some p.2:=by
 obtain⟨b,hb,e⟩:=List.mem_filterMap.mp hp;cases q:h.get? b with
 | none=>rw[q]at e;cases e
 | some o =>
  rw[q]at e;have e':(b,o)=p:=Option.some.inj e;subst e';exact⟨hb,q⟩
theorem aG.pinned {pins:List (Addr×Obj)}{σ:St}{H:Hp}{s:Shared}{fp:List Addr}(I:aG X pins σ H s)(hf:∀b∈fp,lh X pins H b)(ho:∀b∈fp,∃o,s.heap.get? b=some o/\∀v,o.data ≠ .cell v):aG X (pins++i9 fp s.heap) σ H s :=
 I.pins_of fun p hp=>(List.mem_append.mp hp).elim (fun z=>I.pin p (List.mem_append_right _ z)) fun z=>by
  obtain⟨hb,e⟩:=qZ z;obtain⟨f0,f1,f2,_⟩:=hf p.1 hb;obtain⟨o,e',d⟩:=ho p.1 hb;rw[e]at e';cases e';exact⟨e,f0,f1,f2,d⟩
theorem aG.unpinned {pins pl:List (Addr×Obj)}{σ:St}{H:Hp}{s:Shared}(I:aG X (pins++pl) σ H s):aG X pins σ H s:=I.pins_of fun p hp=>I.pin p (List.mem_append_right _ (List.mem_append_left _ hp))
theorem ck {iter:Expr}{body:List Stmt}{wi:TI}{g:TG}{tb:TS}{pos:Pos}(hp:PassesOwn (model X.prog X.w) X.A X.env X.xe)(hc:X.calm=true)(hi:PI X tg iter wi)(hg:PG X tg g)(hb:qY X body tb)
 (hs:∀x,foldedSetIterable iter X.env x=pure x:=by intro _;rfl):PS X (.For tg iter body [] pos) (Cy wi g tb):=by
 intro pins s σ H D I h;refine wpAny_For (bj (hi pins s σ H _ I h) fun v s1 h1=>bj h1 fun itv s2 h2=>?_) hs;obtain⟨it,fp,tn,J,H2,e,I2,T,st2,f2,W,⟨m0,w0⟩,turn⟩:=h2;subst e;have stat:∀{H':Hp},(∀b∈fp,H' b=none)->∀b∈fp,lh X pins H' b:=fun hn b hb=>⟨hn b hb,(f2 b hb).2⟩;refine codeAny_forLoop_any (fun n s'=>∃i σ' H',aG X pins σ' H' s'/\tn i s'.heap/\(∀b∈fp,H' b=none)/\W i n σ' H') ?_ m0 ⟨0,σ,H2,I2,st2,fun b hb=>(f2 b hb).1,w0⟩;rintro n s3 ⟨i,σ3,H3,I3,st3,fr3,w3⟩;rcases turn i n σ3 H3 w3 with⟨stop,qn⟩|⟨go,N,hN,step⟩
 . refine wpAny_passesOwn hp (bj (T.done X rfl rfl rfl s3 (.inl (I3.ok.hd hc)) i pins σ3 H3 X.xe I3 (stat fr3) st3 stop) fun r s4 ⟨hr,I4⟩=>?_);subst hr;exact wpAny_execs_nil ⟨σ3,H3,I4,qn⟩
 . refine wpAny_passesOwn hp (bj (T.item X rfl rfl rfl s3 (.inl (I3.ok.hd hc)) i pins σ3 H3 X.xe I3 (stat fr3) st3 go) fun r s4 ⟨u,hr,h4⟩=>?_);subst hr;refine wpAny_passesOwn hp (bj h4 fun _ s5 ⟨x,H5,I5,r5,y5,st5,fr5⟩=>?_);have I5':=I5.pinned (stat fr5) (T.obj _ _ st5);refine wpAny_passesOwn hp (bj (hg _ s5 σ3 H5 x u _ I5' r5 (step x H5 y5)) fun _ s6 ⟨σ6,H6,I6,q6⟩=>?_);refine wpAny_passesOwn hp (bj (hb _ s6 σ6 H6 _ I6 q6) fun f s7 q7=>?_);have again:∀{σ7:St} {H7:Hp},aG X (pins++i9 fp s5.heap) σ7 H7 s7->N σ7 H7->∃m,m < n/\∃i σ' H',aG X pins σ' H' s7/\tn i s7.heap/\(∀b∈fp,H' b=none)/\W i m σ' H':=fun {σ7 H7} I7 n7=>by
    obtain⟨m',hm,w7⟩:=hN σ7 H7 n7;refine⟨m',hm,i+1,σ7,H7,I7.unpinned,T.keep _ _ _ st5 fun b hb o e=>(I7.pin (b,o) (List.mem_append_right _ (List.mem_append_right _ (eE hb e)))).1,fun b hb=>?_,w7⟩;obtain⟨o,e,d⟩:=T.obj _ _ st5 b hb;exact(I7.pin (b,o) (List.mem_append_right _ (List.mem_append_right _ (eE hb e)))).2.1
   cases f with
   | next=>obtain⟨σ7,H7,I7,n7⟩:=q7;exact again I7 n7
   | cont=>obtain⟨σ7,H7,I7,n7⟩:=q7;exact again I7 n7
   | brk=>obtain⟨σ7,H7,I7,q7⟩:=q7;exact⟨σ7,H7,I7.unpinned,q7⟩
   | ret v=>obtain⟨x7,σ7,H7,I7,r7,q7⟩:=q7;exact⟨x7,σ7,H7,I7.unpinned,r7,q7⟩
end
theorem fm {K:W.Frag}{a:Addr}{xs:List V}{g:TG}{tb:TS}{D:f8}{σ:St}{H:Hp}(Pv:Nat->St->Hp->Prop)(h0:Pv 0 σ H)(hl:∀i σ H,i<=xs.length->Pv i σ H->bh K H a xs)
 (hs:∀i x σ H,xs[i]? = some x->Pv i σ H->g x σ H fun σ2 H2=>tb { D with nx:=Pv (i+1),ct:=Pv (i+1),bk:=D.nx } σ2 H2) (hd:∀ σ H,Pv xs.length σ H->D.nx σ H) :
 ∃W:Nat->Nat->St->Hp->Prop,(∃m,W 0 m σ H)/\∀i m σ H,W i m σ H ->
  ((xR K a).stop i H/\D.nx σ H)\/((xR K a).go i H/\∃N:St->Hp->Prop,(∀ σ' H',N σ' H'->∃m',m' < m/\W (i+1) m' σ' H')/\∀x H',(xR K a).yld i H x H'->g x σ H' fun σ2 H2=>tb { D with nx:=N,ct:=N,bk:=D.nx } σ2 H2):=by
 refine⟨fun i m σ H=>m=xs.length - i/\i<=xs.length/\Pv i σ H,⟨xs.length,by simp,Nat.zero_le _,h0⟩,?_⟩;rintro i m σ H ⟨rfl,hi,p⟩;have q:=hl i σ H hi p;by_cases hlt:i < xs.length
 . refine .inr ⟨⟨xs,xs[i],q,by simp[hlt]⟩,Pv (i+1),fun σ' H' p'=>⟨xs.length - (i+1),by omega,rfl,hlt,p'⟩,fun x H' y=>?_⟩;obtain⟨e,y⟩:=y;subst e;exact hs i x σ _ (y xs q) p
 . have e:i=xs.length:=by omega
   subst e;exact .inl ⟨⟨xs,q,Nat.le_refl _⟩,hd σ H p⟩
theorem vB {K:W.Frag}{a:Addr}{xs:List V}{g:TG}{tb:TS}{D:f8}{σ:St}{H:Hp}(Pv:Nat->St->Hp->Prop)(h0:Pv 0 σ H)(hl:∀i σ H,i<=xs.length->Pv i σ H->a8 K H a xs)
 (hs:∀i x σ H,xs[i]? = some x->Pv i σ H->g x σ H fun σ2 H2=>tb { D with nx:=Pv (i+1),ct:=Pv (i+1),bk:=D.nx } σ2 H2) (hd:∀ σ H,Pv xs.length σ H->D.nx σ H) :
 ∃W:Nat->Nat->St->Hp->Prop,(∃m,W 0 m σ H)/\∀i m σ H,W i m σ H ->
  ((Ag K a).stop i H/\D.nx σ H)\/((Ag K a).go i H/\∃N:St->Hp->Prop,(∀ σ' H',N σ' H'->∃m',m' < m/\W (i+1) m' σ' H')/\∀x H',(Ag K a).yld i H x H'->g x σ H' fun σ2 H2=>tb { D with nx:=N,ct:=N,bk:=D.nx } σ2 H2):=by
 refine⟨fun i m σ H=>m=xs.length - i/\i<=xs.length/\Pv i σ H,⟨xs.length,by simp,Nat.zero_le _,h0⟩,?_⟩;rintro i m σ H ⟨rfl,hi,p⟩;have q:=hl i σ H hi p;by_cases hlt:i < xs.length
 . refine .inr ⟨⟨xs,xs[i],q,by simp[hlt]⟩,Pv (i+1),fun σ' H' p'=>⟨xs.length - (i+1),by omega,rfl,hlt,p'⟩,fun x H' y=>?_⟩;obtain⟨e,y⟩:=y;subst e;exact hs i x σ _ (y xs q) p
 . have e:i=xs.length:=by omega
   subst e;exact .inl ⟨⟨xs,q,Nat.le_refl _⟩,hd σ H p⟩
theorem gT {lo:Int}{n:Nat}{g:TG}{tb:TS}{D:f8}{σ:St}{H:Hp}(Pv:Nat->St->Hp->Prop)(h0:Pv 0 σ H)
 (hs:∀i σ H,i < n->Pv i σ H->g (.int (lo+i)) σ H fun σ2 H2=>tb { D with nx:=Pv (i+1),ct:=Pv (i+1),bk:=D.nx } σ2 H2) (hd:∀ σ H,Pv n σ H->D.nx σ H) :
 ∃W:Nat->Nat->St->Hp->Prop,(∃m,W 0 m σ H)/\∀i m σ H,W i m σ H ->
  ((xS lo n).stop i H/\D.nx σ H)\/((xS lo n).go i H/\∃N:St->Hp->Prop,(∀ σ' H',N σ' H'->∃m',m' < m/\W (i+1) m' σ' H')/\∀x H',(xS lo n).yld i H x H'->g x σ H' fun σ2 H2=>tb { D with nx:=N,ct:=N,bk:=D.nx } σ2 H2):=by
 refine⟨fun i m σ H=>m=n - i/\i<=n/\Pv i σ H,⟨n,by simp,Nat.zero_le _,h0⟩,?_⟩;rintro i m σ H ⟨rfl,hi,p⟩;by_cases hlt:i < n
 . refine .inr ⟨hlt,Pv (i+1),fun σ' H' p'=>⟨n - (i+1),by omega,rfl,hlt,p'⟩,fun x H' y=>?_⟩;obtain⟨e,y⟩:=y;subst e y;exact hs i σ _ hlt p
 . have e:i=n:=by omega
   subst e;exact .inl ⟨Nat.le_refl _,hd σ H p⟩
abbrev R2:=V->V->Hp->VK->Prop
def gp (X:Cx)(f:Value->Value->Sem Value)(r:R2):Prop :=
 ∀(pins:List (Addr×Obj)) (s:Shared) (σ:St) (H:Hp) (x y:V) (v u:Value) (Q:VK),aG X pins σ H s->aY x v->aY y u->r x y H Q ->
  wpAny (model X.prog X.w) X.A (f v u) (EP X pins σ Q) X.xe s
def Cz (X:Cx)(f:Value->Sem Value)(r:V->Hp->VK->Prop):Prop :=
 ∀(pins:List (Addr×Obj)) (s:Shared) (σ:St) (H:Hp) (x:V) (v:Value) (Q:VK),aG X pins σ H s->aY x v->r x H Q ->
  wpAny (model X.prog X.w) X.A (f v) (EP X pins σ Q) X.xe s
def cT (X:Cx)(f:Value)(r:List V->Hp->VK->Prop):Prop :=
 ∀(pins:List (Addr×Obj)) (s:Shared) (σ:St) (H:Hp) (xs:List V) (us:List Value) (Q:VK),aG X pins σ H s->aN xs us->r xs H Q ->
  wpAny (model X.prog X.w) X.A (call f us) (EP X pins σ Q) X.xe s
def CA (X:Cx)(r:V->Hp->(Bool->Hp->Prop)->Prop):Prop :=
 ∀(pins:List (Addr×Obj)) (s:Shared) (σ:St) (H:Hp) (x:V) (v:Value) (Q:Bool->Hp->Prop),aG X pins σ H s->aY x v->r x H Q ->
  wpAny (model X.prog X.w) X.A (truthy v) (TP X pins σ Q) X.xe s
def w8 (r:R2)(ta tb:TE):TE:=fun σ H Q=>ta σ H fun x H1=>tb σ H1 fun y H2=>r x y H2 Q
def Ds (r:V->Hp->VK->Prop)(ta:TE):TE:=fun σ H Q=>ta σ H fun x H1=>r x H1 Q
def rI (C:Int->Int->Prop)(g:Int->Int->V):R2:=fun x y H Q=>∃i j,x = .int i/\y = .int j/\C i j/\Q (g i j) H
def w9 (g:Int->Int->V):R2:=fun x y H Q=>∃i j,x = .int i/\y = .int j/\Q (g i j) H
def rU (g:Int->V):V->Hp->VK->Prop:=fun x H Q=>∃i,x = .int i/\Q (g i) H
section
variable {X:Cx}{a b c:Expr}{ta tb tc:TE}{pos:Pos}
theorem xT (ha:PE X a ta)(hb:PE X b tb){pins:List (Addr×Obj)}{s:Shared}{σ:St}{H:Hp}{R:V->V->Hp->Prop}(I:aG X pins σ H s)
 (h:ta σ H fun x H1=>tb σ H1 fun y H2=>R x y H2) {Q:Value->Shared->Prop} {f:Value->Value->Sem Value}
 (hf:∀v u s2 x y H2,aG X pins σ H2 s2->aY x v->aY y u->R x y H2->wpAny (model X.prog X.w) X.A (f v u) Q X.xe s2) :
 wpAny (model X.prog X.w) X.A (eval a X.env) (fun v s₁=>wpAny (model X.prog X.w) X.A (eval b X.env) (fun u s₂=>wpAny (model X.prog X.w) X.A (f v u) Q X.xe s₂) X.xe s₁) X.xe s:=by
 refine bj (ha pins s σ H _ I h) fun v s1 ⟨x,H1,I1,r1,q1⟩=>?_;refine bj (hb pins s1 σ H1 _ I1 q1) fun u s2 ⟨y,H2,I2,r2,q2⟩=>?_;exact hf v u s2 x y H2 I2 r1 r2 q2
theorem ax {op:Operator}{r:R2}(ho:gp X (binaryOp op) r)(ha:PE X a ta)(hb:PE X b tb):PE X (.BinOp a op b pos) (w8 r ta tb):=by
 intro pins s σ H Q I h;exact wpAny_BinOp (xT ha hb I h fun v u s2 x y H2 I2 rx ry q=>ho pins s2 σ H2 x y v u Q I2 rx ry q)
theorem ja {op:UnaryOp}{r:V->Hp->VK->Prop}(ho:Cz X (unaryOp op) r)(ha:PE X a ta):PE X (.UnaryOp op a pos) (Ds r ta):=by
 intro pins s σ H Q I h;exact UnaryOp_ (bj (ha pins s σ H _ I h) fun v s1 ⟨x,H1,I1,r1,q1⟩=>ho pins s1 σ H1 x v Q I1 r1 q1)
theorem CB {f:Value->Value->Sem Value}{C:Int->Int->Prop}{g:Int->Int->Int}
 (rule:∀(i j:Int) (t u:Tok) (s:Shared) (Q:Value->Shared->Prop) (E:Value->Shared->Prop),C i j->Q (.int (g i j) s.toks) { s with toks:=s.toks+1 }->wpAny (model X.prog X.w) X.A (f (.int i t) (.int j u)) Q E s) :
 gp X f (rI C fun i j=>.int (g i j)):=by
 intro pins s σ H x y v u Q I rx ry h;obtain⟨i,j,rfl,rfl,hc,q⟩:=h;obtain⟨t,rfl⟩:=rx;obtain⟨t',rfl⟩:=ry;exact rule i j t t' s _ _ hc ⟨.int (g i j),H,I.tok _,⟨_,rfl⟩,q⟩
theorem Aj {f:Value->Value->Sem Value}{g:Int->Int->Int}
 (rule:∀(i j:Int) (t u:Tok) (s:Shared) (Q:Value->Shared->Prop) (E:Value->Shared->Prop),Q (.int (g i j) s.toks) { s with toks:=s.toks+1 }->wpAny (model X.prog X.w) X.A (f (.int i t) (.int j u)) Q E s) :
 gp X f (w9 fun i j=>.int (g i j)):=by
 intro pins s σ H x y v u Q I rx ry h;obtain⟨i,j,rfl,rfl,q⟩:=h;obtain⟨t,rfl⟩:=rx;obtain⟨t',rfl⟩:=ry;exact rule i j t t' s _ _ ⟨.int (g i j),H,I.tok _,⟨_,rfl⟩,q⟩
theorem vC {f:Value->Value->Sem Value}{g:Int->Int->Bool}
 (rule:∀(i j:Int) (t u:Tok) (s:Shared) (Q:Value->Shared->Prop) (E:Value->Shared->Prop),Q (.bool (g i j)) s->wpAny (model X.prog X.w) X.A (f (.int i t) (.int j u)) Q E s) :
 gp X f (w9 fun i j=>.bl (g i j)):=by
 intro pins s σ H x y v u Q I rx ry h;obtain⟨i,j,rfl,rfl,q⟩:=h;obtain⟨t,rfl⟩:=rx;obtain⟨t',rfl⟩:=ry;exact rule i j t t' s _ _ ⟨.bl (g i j),H,I,rfl,q⟩
def CC (i j:Int):Prop:=0 < j/\j < 1073741824
def xU (i j:Int):Prop:=(-(2 ^ 64) < i/\i < 2 ^ 64)\/(-(2 ^ 64) < j/\j < 2 ^ 64)
theorem xU.ok {i j:Int}(h:xU i j):IntMulOk i j:=by
 rcases h with⟨h1,h2⟩|⟨h1,h2⟩
 . exact .of_left (intBits_le_64 h1 h2)
 . exact .of_right (intBits_le_64 h1 h2)
theorem a6:gp X (binaryOp .Add) (w9 fun i j=>.int (i+j)):=Aj fun Fc Fc Fc Fc Fc Fc Fc q=>add_int q
theorem c5:gp X (binaryOp .Sub) (w9 fun i j=>.int (i - j)):=Aj fun Fc Fc Fc Fc Fc Fc Fc q=>sub_int q
theorem gU:gp X (binaryOp .Mult) (rI xU fun i j=>.int (i * j)):=CB fun Fc Fc Fc Fc Fc Fc Fc hc q=>mul_int q hc.ok
theorem qi:gp X (binaryOp .FloorDiv) (rI CC fun i j=>.int (i / j)):=CB fun i j Fc Fc Fc Fc Fc hc q=>by
 have h1:(0:Int) < j:=hc.1;have h2:j < 1073741824:=hc.2;exact floordiv_int (by omega) (by rw[Int.fdiv_eq_ediv_of_nonneg i (by omega)];exact q) (.inl (PyProof.noPylong_small (by omega)))
theorem bt:gp X (binaryOp .Mod) (rI (fun Fc j=>0 < j) fun i j=>.int (i % j)):=CB fun i j Fc Fc Fc Fc Fc hc q=>by
 have h1:(0:Int) < j:=hc;exact mod_int' (by omega) (by rw[Int.fmod_eq_emod_of_nonneg i (by omega)];exact q)
theorem Dt {f:Value->Sem Value}{g:Int->Int}
 (rule:∀(i:Int) (t:Tok) (s:Shared) (Q:Value->Shared->Prop) (E:Value->Shared->Prop),Q (.int (g i) s.toks) { s with toks:=s.toks+1 }->wpAny (model X.prog X.w) X.A (f (.int i t)) Q E s) :
 Cz X f (rU fun i=>.int (g i)):=by
 intro pins s σ H x v Q I rx h;obtain⟨i,rfl,q⟩:=h;obtain⟨t,rfl⟩:=rx;exact rule i t s _ _ ⟨.int (g i),H,I.tok _,⟨_,rfl⟩,q⟩
theorem f9:Cz X (unaryOp .USub) (rU fun i=>.int (-i)):=Dt fun Fc Fc Fc Fc Fc q=>neg_int q
end
def Ak:V->V->Bool
 | .non,.non=>true | .non,.int _=>true | .int _,.non=>true | .non,.bl _=>true | .bl _,.non=>true | .non,.str _=>true | .str _,.non=>true
 | .int _,.int _=>true | .bl _,.bl _=>true | .str _,.str _=>true | .byt _,.byt _=>true
 | .int _,.str _=>true | .str _,.int _=>true | .bl _,.str _=>true | .str _,.bl _=>true
 | _,_=>false
def rEq:R2:=fun x y H Q=>Ak x y=true/\Q (.bl (decide (x=y))) H
def rNe:R2:=fun x y H Q=>Ak x y=true/\Q (.bl (!decide (x=y))) H
theorem fK {i j:Int}:decide (V.int i=V.int j)=(i == j):=by
 rw[Bool.eq_iff_iff];simp
theorem tm {i j:Bool}:decide (V.bl i=V.bl j)=(i == j):=by
 rw[Bool.eq_iff_iff];simp
theorem qj {i j:Str}:decide (V.str i=V.str j)=(i == j):=by
 rw[Bool.eq_iff_iff];simp
theorem qk {i j:Array UInt8}:decide (V.byt i=V.byt j)=(i.toList == j.toList):=by
 rw[Bool.eq_iff_iff];cases i;cases j;simp
section
variable {X:Cx}{a b c:Expr}{ta tb tc:TE}{pos:Pos}
theorem bc {pins:List (Addr×Obj)}{σ:St}{H:Hp}{s:Shared}{Q:VK}{k k':Bool}(I:aG X pins σ H s)(q:Q (.bl k) H)(e:k=k'):EP X pins σ Q (.bool k') s:=by
 subst e;exact⟨.bl k,H,I,rfl,q⟩
theorem bW:gp X (compareOp .Eq) rEq:=by
 intro pins s σ H x y v u Q I rx ry h;obtain⟨hs,q⟩:=h;cases x with
 | non =>
  cases rx;cases y with
  | non=>cases ry;exact PySem.EqNone.eq_none_none (bc I q (by simp))
  | bl j=>cases ry;exact PySem.EqNone.eq_none_bool (bc I q (by simp))
  | int j=>obtain⟨t',rfl⟩:=ry;exact PySem.EqNone.eq_none_int (bc I q (by simp))
  | str j=>obtain⟨t',rfl⟩:=ry;exact PySem.EqNone.eq_none_str (bc I q (by simp))
  | _=>exact absurd (show false=true from hs) Bool.false_ne_true
 | bl i =>
  cases rx;cases y with
  | non=>cases ry;exact PySem.EqNone.eq_bool_none (bc I q (by simp))
  | bl j=>cases ry;exact eq_bool (bc I q tm)
  | str j=>obtain⟨t',rfl⟩:=ry;exact PySem.EqMixed.eq_bool_str (bc I q (by simp))
  | _=>exact absurd (show false=true from hs) Bool.false_ne_true
 | int i =>
  obtain⟨t,rfl⟩:=rx;cases y with
  | non=>cases ry;exact PySem.EqNone.eq_int_none (bc I q (by simp))
  | int j=>obtain⟨t',rfl⟩:=ry;exact eq_int (bc I q fK)
  | str j=>obtain⟨t',rfl⟩:=ry;exact PySem.EqMixed.eq_int_str (bc I q (by simp))
  | _=>exact absurd (show false=true from hs) Bool.false_ne_true
 | str i =>
  obtain⟨t,rfl⟩:=rx;cases y with
  | non=>cases ry;exact PySem.EqNone.eq_str_none (bc I q (by simp))
  | bl j=>cases ry;exact PySem.EqMixed.eq_str_bool (bc I q (by simp))
  | int j=>obtain⟨t',rfl⟩:=ry;exact PySem.EqMixed.eq_str_int (bc I q (by simp))
  | str j=>obtain⟨t',rfl⟩:=ry;exact eq_str (bc I q qj)
  | _=>exact absurd (show false=true from hs) Bool.false_ne_true
 | byt i =>
  obtain⟨t,rfl⟩:=rx;cases y with
  | byt j=>obtain⟨t',rfl⟩:=ry;exact W.eq_bytes (bc I q qk)
  | _=>exact absurd (show false=true from hs) Bool.false_ne_true
 | _=>cases y <;> exact absurd (show false=true from hs) Bool.false_ne_true
theorem gx:gp X (compareOp .NotEq) rNe:=by
 intro pins s σ H x y v u Q I rx ry h;obtain⟨hs,q⟩:=h;cases x with
 | non =>
  cases rx;cases y with
  | non=>cases ry;exact PySem.EqNone.ne_none_none (bc I q (by simp))
  | bl j=>cases ry;exact PySem.EqNone.ne_none_bool (bc I q (by simp))
  | int j=>obtain⟨t',rfl⟩:=ry;exact PySem.EqNone.ne_none_int (bc I q (by simp))
  | str j=>obtain⟨t',rfl⟩:=ry;exact PySem.EqNone.ne_none_str (bc I q (by simp))
  | _=>exact absurd (show false=true from hs) Bool.false_ne_true
 | bl i =>
  cases rx;cases y with
  | non=>cases ry;exact PySem.EqNone.ne_bool_none (bc I q (by simp))
  | bl j=>cases ry;exact ne_bool (bc I q (congrArg not tm))
  | str j=>obtain⟨t',rfl⟩:=ry;exact PySem.EqMixed.ne_bool_str (bc I q (by simp))
  | _=>exact absurd (show false=true from hs) Bool.false_ne_true
 | int i =>
  obtain⟨t,rfl⟩:=rx;cases y with
  | non=>cases ry;exact PySem.EqNone.ne_int_none (bc I q (by simp))
  | int j=>obtain⟨t',rfl⟩:=ry;exact ne_int (bc I q (congrArg not fK))
  | str j=>obtain⟨t',rfl⟩:=ry;exact PySem.EqMixed.ne_int_str (bc I q (by simp))
  | _=>exact absurd (show false=true from hs) Bool.false_ne_true
 | str i =>
  obtain⟨t,rfl⟩:=rx;cases y with
  | non=>cases ry;exact PySem.EqNone.ne_str_none (bc I q (by simp))
  | bl j=>cases ry;exact PySem.EqMixed.ne_str_bool (bc I q (by simp))
  | int j=>obtain⟨t',rfl⟩:=ry;exact PySem.EqMixed.ne_str_int (bc I q (by simp))
  | str j=>obtain⟨t',rfl⟩:=ry;exact ne_str (bc I q (congrArg not qj))
  | _=>exact absurd (show false=true from hs) Bool.false_ne_true
 | byt i =>
  obtain⟨t,rfl⟩:=rx;cases y with
  | byt j=>obtain⟨t',rfl⟩:=ry;exact W.ne_bytes (bc I q (congrArg not qk))
  | _=>exact absurd (show false=true from hs) Bool.false_ne_true
 | _=>cases y <;> exact absurd (show false=true from hs) Bool.false_ne_true
theorem jY:gp X (compareOp .Lt) (w9 fun i j=>.bl (decide (i < j))):=vC fun Fc Fc Fc Fc Fc Fc Fc q=>lt_int q
theorem jZ:gp X (compareOp .LtE) (w9 fun i j=>.bl (decide (i<=j))):=vC fun Fc Fc Fc Fc Fc Fc Fc q=>le_int q
theorem mM:gp X (compareOp .Gt) (w9 fun i j=>.bl (decide (j < i))):=vC fun Fc Fc Fc Fc Fc Fc Fc q=>gt_int q
theorem Al:gp X (compareOp .GtE) (w9 fun i j=>.bl (decide (j<=i))):=vC fun Fc Fc Fc Fc Fc Fc Fc q=>ge_int q
theorem q9:gp X (compareOp .In) (fun x y H Q=>∃i j,x = .str i/\y = .str j/\Q (.bl (!(Builtin.Str.occurrences j i 0 j.length 1).isEmpty)) H):=by
 intro pins s σ H x y v u Q I rx ry h;obtain⟨i,j,rfl,rfl,q⟩:=h;obtain⟨t,rfl⟩:=rx;obtain⟨t',rfl⟩:=ry;exact in_str (bc I q rfl)
theorem oP:gp X (compareOp .Is) (fun x y H Q=>y = .non/\Q (.bl (decide (x = .non))) H):=by
 intro pins s σ H x y v u Q I rx ry h;obtain⟨rfl,q⟩:=h;cases ry;refine is_none_gen (bc I q ?_);cases x <;> first
  | (cases rx;rfl)
  | (obtain⟨t,rfl⟩:=rx;rfl)
theorem ql:gp X (compareOp .IsNot) (fun x y H Q=>y = .non/\Q (.bl (!decide (x = .non))) H):=by
 intro pins s σ H x y v u Q I rx ry h;obtain⟨rfl,q⟩:=h;cases ry;refine isnot_none_gen (bc I q ?_);cases x <;> first
  | (cases rx;rfl)
  | (obtain⟨t,rfl⟩:=rx;rfl)
theorem aH (b:Expr){op:CmpOp}(h:op ≠ .In:=by decide)(h2:op ≠ .NotIn:=by decide):behindInMarks op b=false:=by
 have e1:(op == CmpOp.In)=false:=by cases op <;> first | rfl | exact absurd rfl h
 have e2:(op == CmpOp.NotIn)=false:=by cases op <;> first | rfl | exact absurd rfl h2
 cases b <;> simp[behindInMarks,e1,e2]
theorem lq {op:CmpOp}{r:R2}(ho:gp X (compareOp op) r)(ha:PE X a ta)(hb:PE X b tb)(hm:behindInMarks op b=false):PE X (.Compare a [op] [b] pos) (w8 r ta tb):=by
 intro pins s σ H Q I h;exact wpAny_Compare1 (xT ha hb I h fun v u s2 x y H2 I2 rx ry q=>ho pins s2 σ H2 x y v u Q I2 rx ry q) hm
def qm (t:TE):TT:=fun σ H Q=>t σ H fun x H'=>∃k,x = .bl k/\Q k H'
theorem aB {op:CmpOp}{r:R2}(ho:gp X (compareOp op) r)(ha:PE X a ta)(hb:PE X b tb)(hm:behindInMarks op b=false):PT X (.Compare a [op] [b] pos) (qm (w8 r ta tb)):=by
 intro pins s σ H Q I h;refine wpAny_isTrue_Compare1 (bj (ha pins s σ H _ I h) fun v s1 ⟨x,H1,I1,r1,q1⟩=>bj (hb pins s1 σ H1 _ I1 q1) fun u s2 ⟨y,H2,I2,r2,q2⟩ =>
  bj (ho pins s2 σ H2 x y v u _ I2 r1 r2 q2) fun c s3 ⟨z,H3,I3,r3,k,e,q3⟩=>?_) hm
 subst e;cases r3;exact wpAny_truthy_bool ⟨H3,I3,q3⟩
def tq (r r':R2)(ta tb tc:TE):TE:=fun σ H Q=>ta σ H fun x H1=>tb σ H1 fun y H2=>r x y H2 fun z H3=>∃k,z = .bl k /\
 (if k=true then tc σ H3 fun w' H4=>r' y w' H4 Q else Q (.bl false) H3)
theorem tw {op op':CmpOp}{r r':R2}(ho:gp X (compareOp op) r)(ho':gp X (compareOp op') r')(ha:PE X a ta)(hb:PE X b tb)(hc:PE X c tc)
 (hm:lastMarks [op,op'] [b,c]=false:=by with_unfolding_all rfl):PE X (.Compare a [op,op'] [b,c] pos) (tq r r' ta tb tc):=by
 intro pins s σ H Q I h;refine Compare_chain (bj (ha pins s σ H _ I h) fun v s1 ⟨x,H1,I1,r1,q1⟩=>chain_link (bj (hb pins s1 σ H1 _ I1 q1) fun u s2 ⟨y,H2,I2,r2,q2⟩ =>
  bj (ho pins s2 σ H2 x y v u _ I2 r1 r2 q2) fun d s3 ⟨z,H3,I3,r3,k,e,q3⟩=>?_)) hm
 subst e;cases r3;refine wpAny_truthy_bool ?_;cases k with
 | false=>exact ite_ff ⟨.bl false,H3,I3,rfl,q3⟩
 | true=>exact ite_tt (chain_last (bj (hc pins s3 σ H3 _ I3 q3) fun w' s4 ⟨z',H4,I4,r4,q4⟩=>ho' pins s4 σ H4 y z' u w' Q I4 r2 r4 q4))
theorem mN {op op':CmpOp}{r r':R2}(ho:gp X (compareOp op) r)(ho':gp X (compareOp op') r')(ha:PE X a ta)(hb:PE X b tb)(hc:PE X c tc)
 (hm:lastMarks [op,op'] [b,c]=false:=by with_unfolding_all rfl):PT X (.Compare a [op,op'] [b,c] pos) (qm (tq r r' ta tb tc)):=by
 intro pins s σ H Q I h;refine isTrue_chain (bj (ha pins s σ H _ I h) fun v s1 ⟨x,H1,I1,r1,q1⟩=>test_link (bj (hb pins s1 σ H1 _ I1 q1) fun u s2 ⟨y,H2,I2,r2,q2⟩ =>
  bj (ho pins s2 σ H2 x y v u _ I2 r1 r2 q2) fun d s3 ⟨z,H3,I3,r3,k,e,q3⟩=>?_)) hm
 subst e;cases r3;refine wpAny_truthy_bool ?_;cases k with
 | false =>
  obtain⟨k',e',q'⟩:=q3;cases e';exact ite_ff ⟨H3,I3,q'⟩
 | true =>
  refine ite_tt (test_last (bj (hc pins s3 σ H3 _ I3 q3) fun w' s4 ⟨z',H4,I4,r4,q4⟩=>bj (ho' pins s4 σ H4 y z' u w' _ I4 r2 r4 q4) fun d' s5 ⟨z2,H5,I5,r5,k2,e2,q5⟩=>?_));subst e2;cases r5;exact wpAny_truthy_bool ⟨H5,I5,q5⟩
def Am (K:W.Frag)(x:V)(H:Hp)(k:Bool):Prop :=
 match x with
 | .non=>k=false
 | .bl b=>k=b
 | .int i=>k=(i != 0)
 | .str y=>y.length<=sizeLine/\k=((y.length:Int) != 0)
 | .byt y=>y.size<=sizeLine/\k=((y.size:Int) != 0)
 | .ref p=>(∃xs,bh K H p xs/\k = !xs.isEmpty)\/(∃xs,a8 K H p xs/\k = !xs.isEmpty)\/∃kvs,H p=some (.dK kvs)/\k = !kvs.isEmpty
 | _=>False
theorem oQ {κ:Type}{kvs:List (κ×V)}{vs:List (κ×Value)}(r:KV kvs vs):(!vs.isEmpty) = !kvs.isEmpty:=by
 cases r <;> rfl
theorem jb {xs:List V}{its:List Value}(r:aN xs its):(!its.toArray.isEmpty) = !xs.isEmpty:=by
 cases r <;> simp
theorem gb:(sizeLine:Nat) < 2 ^ 63:=by rw[sizeLine_eq];decide
theorem xV:CA X (fun x H Q=>∃k,Am X.K x H k/\Q k H):=by
 intro pins s σ H x v Q I rx h;obtain⟨k,e,q⟩:=h;have hl:=gb;have hs:sizeLine=16777216:=sizeLine_eq;cases x with
 | non =>
  cases rx;have e':k=false:=e;subst e';exact truthy_none ⟨H,I,q⟩
 | bl b =>
  cases rx;have e':k=b:=e;subst e';exact wpAny_truthy_bool ⟨H,I,q⟩
 | int i =>
  obtain⟨t,rfl⟩:=rx;have e':k=(i != 0):=e;subst e';exact PySem.P.truthy_int ⟨H,I,q⟩
 | str y =>
  obtain⟨t,rfl⟩:=rx;obtain⟨hy,e'⟩:y.length<=sizeLine/\k=((y.length:Int) != 0):=e;subst e';exact PySem.P.truthy_str (by omega) ⟨H,I.tok _,q⟩
 | byt y =>
  obtain⟨t,rfl⟩:=rx;obtain⟨hy,e'⟩:y.size<=sizeLine/\k=((y.size:Int) != 0):=e;subst e';exact W.truthy_bytes (by omega) ⟨H,I.tok _,q⟩
 | ref p =>
  cases rx;have e':(∃xs,bh X.K H p xs/\k = !xs.isEmpty)\/(∃xs,a8 X.K H p xs/\k = !xs.isEmpty)\/∃kvs,H p=some (.dK kvs)/\k = !kvs.isEmpty:=e;rcases e' with⟨xs,hx,e'⟩|⟨xs,hx,e'⟩|⟨kvs,hx,e'⟩
  . subst e';obtain⟨its,r,pl,hz⟩:=I.list hx;have hlen:=r.length;exact wpAny_truthy_list pl.isList (by simp only[List.size_toArray];omega) ⟨H,I.tok _,by rw[jb r];exact q⟩
  . subst e';obtain⟨its,r,pl,hz⟩:=I.tuple hx;have hlen:=r.length;exact truthy_tuple pl (by simp only[List.size_toArray];omega) ⟨H,I.tok _,by rw[jb r];exact q⟩
  . subst e';obtain⟨hz,hS,vs,r,m⟩:kvs.length<=sizeLine/\(p == sysModules)=false/\∃vs,KV kvs vs/\s.heap.DictOf (bp X.prog X.w) p vs:=I.hok p _ hx;have hlen:kvs.length=vs.length:=Paired.length r;exact wpAny_truthy_dict hS m (by omega) ⟨H,I.tok _,by rw[oQ r];exact q⟩
 | _=>exact(show False from e).elim
theorem mO (ha:PE X a ta)(he:∀whole,isTrue a X.env whole=(do let v <- whole;standAt a.pos;holding [v] (truthy v))) :
 PT X a (fun σ H Q=>ta σ H fun x H'=>∃k,Am X.K x H' k/\Q k H'):=by
 intro pins s σ H Q I h;exact isTrue_plain (bj (ha pins s σ H _ I h) fun v s1 ⟨x,H1,I1,r1,q1⟩=>xV pins s1 σ H1 x v Q I1 r1 q1) (he _)
theorem jc:gp X (binaryOp .Add) (fun x y H Q=>∃i j,x = .str i/\y = .str j/\i.length+j.length<=sizeLine/\Q (.str (i++j)) H):=by
 intro pins s σ H x y v u Q I rx ry h;obtain⟨i,j,rfl,rfl,hz,q⟩:=h;obtain⟨t,rfl⟩:=rx;obtain⟨t',rfl⟩:=ry;exact add_str (fun t' tk=>⟨.str (i++j),H,I.tok _,⟨_,rfl⟩,q⟩) hz
theorem gy {x:V}{us:List Value}(r:aN [x] us):∃u,us=[u]/\aY x u:=by
 cases r with
 | cons r1 r2=>cases r2;exact⟨_,rfl,r1⟩
theorem xa {x y:V}{us:List Value}(r:aN [x,y] us):∃u w',us=[u,w']/\aY x u/\aY y w':=by
 cases r with
 | cons r1 r2 =>
  cases r2 with
  | cons r3 r4=>cases r4;exact⟨_,_,rfl,r1,r3⟩
theorem j4 (hc:X.calm=true):cT X (.builtin "max") (fun xs H Q=>∃i j,xs=[.int i,.int j]/\Q (.int (if j > i then j else i)) H):=by
 intro pins s σ H xs us Q I r h;obtain⟨i,j,rfl,q⟩:=h;obtain⟨u,w',rfl,⟨t,rfl⟩,⟨t',rfl⟩⟩:=xa r;refine max_two_ints (I.ok.hd hc) fun h' tk k=>⟨_,H,I.kept k,?_,q⟩;by_cases hj:j > i
 . rw[if_pos hj,if_pos hj];exact⟨_,rfl⟩
 . rw[if_neg hj,if_neg hj];exact⟨_,rfl⟩
theorem fM (hc:X.calm=true):cT X (.builtin "min") (fun xs H Q=>∃i j,xs=[.int i,.int j]/\Q (.int (if j < i then j else i)) H):=by
 intro pins s σ H xs us Q I r h;obtain⟨i,j,rfl,q⟩:=h;obtain⟨u,w',rfl,⟨t,rfl⟩,⟨t',rfl⟩⟩:=xa r;refine min_two_ints (I.ok.hd hc) fun h' tk k=>⟨_,H,I.kept k,?_,q⟩;by_cases hj:j < i
 . rw[if_pos hj,if_pos hj];exact⟨_,rfl⟩
 . rw[if_neg hj,if_neg hj];exact⟨_,rfl⟩
end
structure oR (h:Heap)(x dx C:Addr)(mA:Str->Option Value):Prop where
 obj:h.get? x=some (W.instObj C dx)
 ns:h.Ns1 dx mA
 ne:dx≠x
theorem rb {h:Heap}{dx:Addr}{mA:Str->Option Value}(n:h.Ns1 dx mA):∃od,h.get? dx=some od/\∀name,W.lookIn name od=some (mA name):=by
 obtain⟨o,es,ep,ho,hd,hk,_,hm⟩:=n;refine⟨o,ho,fun name=>?_⟩;have e:=hm name;unfold nsFind findBy at e;rw[<- Array.find?_toList]at e;unfold W.lookIn;rw[hd];dsimp only;split
 . rename_i y q
   rw[q]at e;exact congrArg some e
 . rename_i q
   rw[q]at e;have a:es.toList.any (·.refKey)=false:=by
    rw[List.any_eq_false];intro y hy;obtain⟨z,t,hkey⟩:=hk y (Array.mem_toList_iff.mp hy);simp[DictEntry.refKey,hkey]
   have a':¬ es.toList.any (·.refKey)=true:=by rw[a];exact Bool.false_ne_true
   rw[if_neg a'];exact congrArg some e
theorem oR.look {h:Heap}{x dx C:Addr}{mA:Str->Option Value}(I:oR h x dx C mA):∃od,W.InstAt h x (W.instObj C dx) C (some od)/\∀name,W.lookIn name od=some (mA name) :=
 let ⟨od,ho,hl⟩:=rb I.ns
 ⟨od,⟨I.obj,rfl,rfl,ho⟩,hl⟩
section
variable {prog:Program}{w:World}{A:Around}{E:Value->Shared->Prop}{s:Shared}{K:W.Frag}{x dx C f:Addr}{mA:Str->Option Value}{name:Str}{v:Value}
theorem vD {expr:Bool}{Q:Value->Shared->Prop}(X:K.In s.heap)(I:oR s.heap x dx C mA)(hg:W.plainGet K C name=true)(hh:W.hasDictIn K C=true)
 (ha:W.findIn K (.ref C) name=some none) (hv:mA name=some v) (hv':W.handedIn v=true) (h:Q v { s with toks:=s.toks+1 }) :
 wpAny (model prog w) A (getAttr (.ref x) name expr) Q E s:=by
 obtain⟨od,J,hl⟩:=I.look;exact W.get_value X J (W.plainGet_of hg).1 (W.findObj_own hh ha rfl (by rw[hl,hv])) hv' h
theorem tE {pl:Sem Bool}{Q:Value×List Value->Shared->Prop}(X:K.In s.heap)(I:oR s.heap x dx C mA)(hg:W.plainGet K C name=true)
 (hf:W.findIn K (.ref C) name=some (some (.ref f))) (ht:W.isFn K (.ref f)=true) (hv:mA name=none) (h:Q (.ref f,[.ref x]) s) :
 wpAny (model prog w) A (getMethod (.ref x) name pl) Q E s:=by
 obtain⟨od,J,hl⟩:=I.look;exact W.method_fn X J (W.plainGet_of hg).1 (W.plainGet_of hg).2 hf (beq_iff_eq.mp ht) (by show(W.lookIn name od).map (·.isSome)=some false;rw[hl,hv];rfl) h
theorem vE {ns:List Str}{Q:Unit->Shared->Prop}(X:K.In s.heap)(I:oR s.heap x dx C mA)
 (hs:W.findIn K (.ref C) "__setattr__" = some (some (.builtin "object.__setattr__"))) (hp:W.plainOver K C=true) (ht:W.takerIn K C name=some none) (hh:W.hasDictIn K C=true)
 (hw:PySem.Within mA ns) (hsz:ns.length<=sizeLine)
 (h:∀h',oR h' x dx C (fun y=>if y=name then some v else mA y)->Heap.SameBut dx s.heap h'->Q () { s with heap:=h',toks:=s.toks+2 }) :
 wpAny (model prog w) A (setAttr (.ref x) name v) Q E s:=by
 obtain⟨od,J,hl⟩:=I.look;refine W.set_plain X J hs (W.osa_open (s:={ s with toks:=s.toks+1 }) (r:=none) X J hp ht fun b=>?_);obtain⟨cd,hc,hd'⟩:=W.any_some hh;have hx:s.heap.get? x=some ⟨.ref C,some dx,.plain,#[]⟩:=I.obj;refine wpAny_bind (wpAny_pure (wpAny_bind (wpAny_bind (wpAny_loadPart hx (wpAny_bind (W.Looks.here (s:={ s with toks:=s.toks+1 }) (W.looks_clsIn X hc) ?_))))));rw[hd'];refine wpAny_pure (a:=some dx) (wpAny_bind (wpAny_pure (wpAny_bind ?_)));refine wpAny_nsSet1 (s:={ s with toks:=s.toks+1 }) I.ns fun h' hn2 hs2=>?_;obtain⟨oD,esD,epD,hoD,hdD,hcD⟩:=hn2.count (PySem.Within.cons name v hw);refine wpAny_bind (wpAny_lookBehind hoD (by rw[hdD];exact pastItsLine_dict (Nat.le_trans hcD (by rw[List.length_cons];omega))) ?_);exact wpAny_pure (h _ ⟨(hs2.2 _ (Ne.symm I.ne)).trans I.obj,hn2,I.ne⟩ hs2)
theorem tF {R:Result->Shared->Prop}{vs:List Value}{kw:List (Str×Value)}(X:K.In s.heap)(hm:W.makesIn K C=true)
 (hi:W.findIn K (.ref C) "__init__" = some (some (.ref f))) (hf:W.typeIn K (.ref f)=some (.type "function"))
 (h:codeAny (model prog w) (A.under (.builtin "type.__call__" ⟨.ref C :: vs,kw⟩)) (.call (.ref f) ⟨.ref (s.heap.objs.size+1) :: vs,kw⟩) (W.InitBack (s.heap.objs.size+1) R)
  { s with heap:=(s.heap.push W.emptyDict).push (W.instObj C s.heap.objs.size) }) :
 codeAny (model prog w) A (.call (.ref C) ⟨vs,kw⟩) R s:=by
 obtain⟨hh,g,d,t,os⟩:=s;exact W.make_core (W.makes_of X hm) (W.looks_findIn X hi) (fun self=>W.bind_fn X self hf) (.inl rfl) h
end
def fV (f:Str)(v:V):List (Str×V)->List (Str×V)
 | []=>[(f,v)]
 | (g,x) :: r=>if g=f then(g,v) :: r else(g,x) :: fV f v r
theorem ik (f g:Str)(v:V):∀fs:List (Str×V),(fV f v fs).lookup g=if g=f then some v else fs.lookup g
 | []=>by
  show List.lookup g [(f,v)]=_;by_cases h:g=f
  . have hb:(g == f)=true:=beq_iff_eq.mpr h;simp only[List.lookup,hb,if_pos h]
  . have hb:(g == f)=false:=beq_eq_false_iff_ne.mpr h;simp only[List.lookup,hb,if_neg h]
 | (k,x) :: r=>by
  have ih:=ik f g v r;rw[show fV f v ((k,x) :: r)=(if k=f then(k,v) :: r else(k,x) :: fV f v r)from rfl];by_cases hk:k=f
  . rw[if_pos hk];by_cases h:g=k
    . have hb:(g == k)=true:=beq_iff_eq.mpr h;simp only[List.lookup,hb,if_pos (h.trans hk)]
    . have hb:(g == k)=false:=beq_eq_false_iff_ne.mpr h;simp only[List.lookup,hb,if_neg (fun e:g=f=>h (e.trans hk.symm))]
  . rw[if_neg hk];by_cases h:g=k
    . have hb:(g == k)=true:=beq_iff_eq.mpr h;simp only[List.lookup,hb,if_neg (fun e:g=f=>hk (h.symm.trans e))]
    . have hb:(g == k)=false:=beq_eq_false_iff_ne.mpr h;simp only[List.lookup,hb];exact ih
theorem gW (f:Str)(v:V):∀fs:List (Str×V),f∈(fV f v fs).map (·.1)/\∀g,g∈fs.map (·.1)->g∈(fV f v fs).map (·.1)
 | []=>⟨by simp[fV],fun g h=>by simp at h⟩
 | (k,x) :: r=>by
  obtain⟨i1,i2⟩:=gW f v r;rw[show fV f v ((k,x) :: r)=(if k=f then(k,v) :: r else(k,x) :: fV f v r)from rfl];by_cases hk:k=f
  . rw[if_pos hk];subst hk;exact⟨by simp,fun g h=>by simpa using h⟩
  . rw[if_neg hk];refine⟨?_,fun g h=>?_⟩
    . rw[List.map_cons];exact List.mem_cons_of_mem _ i1
    . rw[List.map_cons]at h ⊢;rcases List.mem_cons.mp h with e|e
      . exact List.mem_cons.mpr (.inl e)
      . exact List.mem_cons_of_mem _ (i2 g e)
theorem il (f:Str)(v:V):∀fs:List (Str×V),(fV f v fs).length<=fs.length+1
 | []=>by simp[fV]
 | (k,x) :: r=>by
  have ih:=il f v r;rw[show fV f v ((k,x) :: r)=(if k=f then(k,v) :: r else(k,x) :: fV f v r)from rfl];by_cases hk:k=f
  . rw[if_pos hk,List.length_cons,List.length_cons];omega
  . rw[if_neg hk,List.length_cons,List.length_cons];omega
theorem eU.some_of {v:V}{o:Option Value}(r:eU (some v) o):∃u,o=some u/\aY v u:=by
 cases o with
 | none=>exact(show False from r).elim
 | some u=>exact⟨u,rfl,r⟩
theorem eU.none_of {o:Option Value}(r:eU none o):o=none:=by
 cases o with
 | none=>rfl
 | some u=>exact(show False from r).elim
theorem rc {v:V}{u:Value}(r:aY v u):W.handedIn u=true:=by
 cases v with
 | non=>cases (show u=Value.none from r);rfl
 | bl b=>cases (show u=Value.bool b from r);rfl
 | int i=>obtain⟨t,e⟩:=(show ∃t,u=Value.int i t from r);cases e;rfl
 | str x=>obtain⟨t,e⟩:=(show ∃t,u=Value.str x t from r);cases e;rfl
 | byt b=>obtain⟨t,e⟩:=(show ∃t,u=Value.bytes b t from r);cases e;rfl
 | flt b=>obtain⟨t,e⟩:=(show ∃t,u=Value.float b t from r);cases e;rfl
 | ref a=>cases (show u=Value.ref a from r);rfl
 | ty n=>cases (show u=Value.type n from r);rfl
section
variable {P:Program}{w:World}{H H':Hp}{h h':Heap}{a C dx:Addr}{fs fs':List (Str×V)}
theorem iN (hok:eh P w H h)(e:H a=some (.ins C dx fs)):∃mA,oR h a dx C mA/\(∀f,eU (fs.lookup f) (mA f))/\PySem.Within mA (fs.map (·.1))/\fs.length<=1000/\H dx=some (.own a):=by
 obtain⟨d,z,ne,ob,mA,n,r,q⟩:=(show bA P w H h a (.ins C dx fs)from hok a _ e);exact⟨mA,⟨ob,n,ne⟩,r,q,z,d⟩
end
structure iO (K:W.Frag)(C:Addr):Prop where
 pg:W.plainGet K C Str.empty=true
 hd:W.hasDictIn K C=true
 po:W.plainOver K C=true
 sa:W.findIn K (.ref C) "__setattr__" = some (some (.builtin "object.__setattr__"))
theorem iO.get {K:W.Frag}{C:Addr}(c:iO K C)(f:Str):W.plainGet K C f=true:=c.pg
def be (K:W.Frag)(C:Addr)(f:Str):Prop:=W.findIn K (.ref C) f=some none
theorem be.taker {K:W.Frag}{C:Addr}{f:Str}(n:be K C f):W.takerIn K C f=some none:=by
 unfold W.takerIn;rw[show W.findIn K (.ref C) f=some none from n];rfl
structure oT (K:W.Frag)(C:Addr)(m:Str)(f:Addr):Prop where
 at_:W.findIn K (.ref C) m=some (some (.ref f))
 fn:W.isFn K (.ref f)=true
 kp:W.keepIn K (.ref f)=true
section
variable {X:Cx}{pins:List (Addr×Obj)}{σ:St}{H:Hp}{s:Shared}{a C dx:Addr}{fs:List (Str×V)}{f:Str}{v:V}{A:Around}{E:Value->Shared->Prop}
theorem oU {b:Bool}{Q:Value->Shared->Prop}(I:aG X pins σ H s)(e:H a=some (.ins C dx fs))(c:iO X.K C)(n:be X.K C f)(l:fs.lookup f=some v)
 (h:∀u s',aG X pins σ H s'->aY v u->Q u s'):wpAny (model X.prog X.w) A (getAttr (.ref a) f b) Q E s:=by
 obtain⟨mA,O,r,_,_,_⟩:=iN I.hok e;obtain⟨u,hu,ru⟩:=eU.some_of (v:=v) (o:=mA f) (by rw[<- l];exact r f);exact vD I.kIn O (c.get f) c.hd n hu (rc ru) (h u _ (I.tok _) ru)
theorem eF {m:Str}{g:Addr}{pl:Sem Bool}{Q:Value×List Value->Shared->Prop}(I:aG X pins σ H s)(e:H a=some (.ins C dx fs))(c:iO X.K C)(k:oT X.K C m g)(l:fs.lookup m=none)
 (h:Q (.ref g,[.ref a]) s):wpAny (model X.prog X.w) A (getMethod (.ref a) m pl) Q E s:=by
 obtain⟨mA,O,r,_,_,_⟩:=iN I.hok e;have hn:mA m=none:=eU.none_of (by rw[<- l];exact r m);exact tE I.kIn O (c.get m) k.at_ k.fn hn h
theorem oV {y:V}{u:Value}{Q:Unit->Shared->Prop}(I:aG X pins σ H s)(e:H a=some (.ins C dx fs))(c:iO X.K C)(n:be X.K C f)(hl:fs.length < 1000)(ry:aY y u)
 (h:∀s',aG X pins σ (aL H a (.ins C dx (fV f y fs))) s'->Q () s'):wpAny (model X.prog X.w) A (setAttr (.ref a) f u) Q E s:=by
 obtain⟨mA,O,r,wi,_,ho⟩:=iN I.hok e;have hz:(fs.map (·.1)).length<=sizeLine:=by rw[List.length_map,sizeLine_eq];omega
 refine vE I.kIn O c.sa c.po n.taker c.hd wi hz fun h' O' sb=>h _ ?_;have hd:∃o,h'.get? dx=some o:=let ⟨o,_,_,e',_⟩:=O'.ns;⟨o,e'⟩
 refine I.write (x:=a) (e:=dx) (by rw[e];exact True.intro) (.inr ho) (fun b q hb z=>(sb.2 b hb).trans z) hd ?_;refine⟨by rw[am O.ne];exact ho,?_,O.ne,O'.obj,_,O'.ns,fun g=>?_,fun g hg=>?_⟩
 . have:=il f y fs;omega
 . show eU ((fV f y fs).lookup g) (if g=f then some u else mA g);rw[ik];by_cases q:g=f
   . rw[if_pos q,if_pos q];exact ry
   . rw[if_neg q,if_neg q];exact r g
 . by_cases q:g=f
   . rw[q];exact(gW f y fs).1
   . refine(gW f y fs).2 g (wi g fun z=>hg ?_);show(if g=f then some u else mA g)=none;rw[if_neg q];exact z
theorem aG.made (I:aG X pins σ H s):aG X pins σ (aL (aL H s.heap.objs.size (.own (s.heap.objs.size+1))) (s.heap.objs.size+1) (.ins C s.heap.objs.size []))
 { s with heap:=(s.heap.push W.emptyDict).push (W.instObj C s.heap.objs.size) }:=by
 have e1:(s.heap.push W.emptyDict).get? s.heap.objs.size=some W.emptyDict:=Heap.get?_push_size s.heap rfl;have e2:((s.heap.push W.emptyDict).push (W.instObj C s.heap.objs.size)).get? (s.heap.objs.size+1)=some (W.instObj C s.heap.objs.size):=by
  have:=Heap.get?_push_size (s.heap.push W.emptyDict) (o:=W.instObj C s.heap.objs.size) rfl
  rwa [Heap.size_push]at this
 have e3:(s.heap.push W.emptyDict).Ns s.heap.objs.size (fun Fc=>none):=⟨W.emptyDict,#[],_,e1,rfl,(fun e he=>absurd he (by simp)),fun Fc=>rfl⟩;have I1:=I.laid (a:=s.heap.objs.size) (o:=.own (s.heap.objs.size+1)) (h':=s.heap.push W.emptyDict) (t':=s.toks) (fun b u q=>Heap.get?_push_of_some _ q) (Nat.le_refl _) ⟨_,e1⟩;refine I1.laid (a:=s.heap.objs.size+1) (o:=.ins C s.heap.objs.size []) (t':=s.toks) (fun b u q=>Heap.get?_push_of_some _ q) (Nat.le_of_eq (Heap.size_push _ _)) ?_;have ne:s.heap.objs.size≠s.heap.objs.size+1:=Nat.ne_of_lt (Nat.lt_succ_self _);refine⟨by rw[am ne,aa],Nat.zero_le _,ne,e2,fun Fc=>none,(Heap.Ns1.of_empty e3).at fun o q=>Heap.get?_push_of_some _ q,fun Fc=>True.intro,fun y hy=>absurd rfl hy⟩
theorem vF {prog:Program}{w:World}{env:Env}{e:Expr}{f:Str}{pos:Pos}{s:Shared}{Q:Value->Shared->Prop}(hb:attributeBase e f env (eval e env)=eval e env)
 (h:wpAny (model prog w) A (eval e env) (fun o s₁=>wpAny (model prog w) A (getAttr o f true) Q E s₁) E s):wpAny (model prog w) A (eval (.Attribute e f pos) env) Q E s :=
 Attribute_any_ h (by rw[arm_eval_Attribute,hb])
end
def CD (K:W.Frag)(ta:TE)(f:Str):TE:=fun σ H Q=>ta σ H fun x H1=>∃a C dx fs v,x = .ref a/\H1 a=some (.ins C dx fs)/\iO K C/\be K C f/\fs.lookup f=some v/\Q v H1
def CG (K:W.Frag)(ta tv:TE)(f:Str):TS:=fun D σ H=>tv σ H fun y H1=>ta σ H1 fun x H2=>∃a C dx fs,x = .ref a/\H2 a=some (.ins C dx fs)/\iO K C/\be K C f/\fs.length < 1000 /\
 D.nx σ (aL H2 a (.ins C dx (fV f y fs)))
section
variable {X:Cx}{o e value:Expr}{f:Str}{pos pos' tpos:Pos}{ta tv:TE}
theorem a7 (he:PE X e ta)(hb:attributeBase e f X.env (eval e X.env)=eval e X.env):PE X (.Attribute e f pos) (CD X.K ta f):=by
 intro pins s σ H Q I h;refine vF hb (bj (he pins s σ H _ I h) fun u s1 ⟨x,H1,I1,rx,a,C,dx,fs,v,ex,ea,c,n,l,q⟩=>?_);subst ex;obtain rfl:u=Value.ref a:=rx;exact oU I1 ea c n l fun u' s2 I2 ru=>⟨v,H1,I2,ru,q⟩
theorem dz (ha:PE X o ta)(hv:PE X value tv)(hs:swapsWith value (some (.Attribute o f pos')) pos.line X.env=pure false):PS X (.Assign [.Attribute o f pos'] value pos) (CG X.K ta tv f):=by
 intro pins s σ H D I h;refine plainObj_wpAny_Assign_Attribute (bj (hv pins s σ H _ I h) fun u s1 ⟨y,H1,I1,ry,q⟩=>bj (ha pins s1 σ H1 _ I1 q) fun ov s2 ⟨x,H2,I2,rx,a,C,dx,fs,ex,ea,c,n,l,q2⟩=>?_) hs;subst ex;obtain rfl:ov=Value.ref a:=rx;exact oV I2 ea c n l ry fun s3 I3=>⟨σ,_,I3,q2⟩
theorem xb {pl:Sem Bool}{m:Str}{apos:Pos}{args:List Expr}{pins:List (Addr×Obj)}{s:Shared}{σ:St}{H:Hp}{Q:Value->Shared->Prop}{te:TE}(he:PE X e te)(I:aG X pins σ H s)
 (h:te σ H fun x H1=>∃a C dx fs g,x = .ref a/\H1 a=some (.ins C dx fs)/\iO X.K C/\oT X.K C m g/\fs.lookup m=none /\
  ∀s1,aG X pins σ H1 s1->wpAny (model X.prog X.w) X.A (callWith pos (.ref g) [.ref a] (backTo pos (starEach args X.env)) (backToKw pos (keywordEach [] X.env))) Q X.xe s1)
 (ht:eval (.Call (.Attribute e m apos) args [] pos) X.env=(do
  let ov <- eval e X.env
  standAt apos.atName
  let (f,first) <- holding [ov] (getMethod ov m pl)
  callWith pos f first (backTo pos (starEach args X.env)) (backToKw pos (keywordEach [] X.env)))) :
 wpAny (model X.prog X.w) X.A (eval (.Call (.Attribute e m apos) args [] pos) X.env) Q X.xe s:=by
 refine W.methodCall_KW (pl:=pl) (bj (he pins s σ H _ I h) fun u s1 ⟨x,H1,I1,rx,a,C,dx,fs,g,ex,ea,c,k,l,q⟩=>?_) ht;subst ex;obtain rfl:u=Value.ref a:=rx;exact eF I1 ea c k l (q s1 I1)
end
section
variable {X:Cx}{pins:List (Addr×Obj)}{σ:St}{H:Hp}{s:Shared}{A:Around}{E:Value->Shared->Prop}{Q:Value->Shared->Prop}{c:Value}{b:Bool}
inductive gc (K:W.Frag) (H:Hp):V->Value->Prop where
 | non:gc K H .non (.type "NoneType")
 | bl (x:Bool):gc K H (.bl x) (.type "bool")
 | int (i:Int):gc K H (.int i) (.type "int")
 | str (x:Str):gc K H (.str x) (.type "str")
 | flt (x:UInt64):gc K H (.flt x) (.type "float")
 | lst {a:Addr} {xs:List V} (e:H a=some (.lst xs)):gc K H (.ref a) (.type "list")
 | frz {a:Addr} {o:Obj} {xs:List V} (e:H a=some (.frz o (.lst xs))):gc K H (.ref a) (.type "list")
 | tup {a:Addr} {xs:List V} (e:H a=some (.tup xs)):gc K H (.ref a) (.type "tuple")
 | dK {a:Addr} {kvs:List (Key×V)} (e:H a=some (.dK kvs)):gc K H (.ref a) (.type "dict")
 | dT {a:Addr} {kvs:List (List Key×V)} (e:H a=some (.dT kvs)):gc K H (.ref a) (.type "dict")
 | ins {a C dx:Addr} {fs:List (Str×V)} (e:H a=some (.ins C dx fs)) (cl:iO K C) (ha:W.findIn K (.ref C) "__class__" = some (some (.builtin "object.__class__")))
  (hn:W.specialIn K (.builtin "object.__class__") "__get__" = some (some (.builtin "getset_descriptor.__get__"))) (htk:W.takesIn K (.builtin "object.__class__")=some true)
  (hm:W.mroIn K C (.type "object")=some true):gc K H (.ref a) (.ref C)
theorem re {x:V}{u t:Value}(I:aG X pins σ H s)(rx:aY x u)(ty:gc X.K H x t)(e:W.kitOne X.K t c=some b)(h:∀tk,Q (.bool b) { s with toks:=tk }) :
 wpAny (model X.prog X.w) A (call (.builtin "isinstance") [u,c]) Q E s:=by
 cases ty with
 | non=>cases (show u=Value.none from rx);exact W.kia_one W.kitx_none I.kIn True.intro e (fun z=>nomatch z) h
 | bl y=>cases (show u=Value.bool y from rx);exact W.kia_one W.kitx_bool I.kIn True.intro e (fun z=>nomatch z) h
 | int i=>obtain⟨t,q⟩:=(show ∃t,u=Value.int i t from rx);cases q;exact W.kia_one W.kitx_int I.kIn True.intro e (fun z=>nomatch z) h
 | str y=>obtain⟨t,q⟩:=(show ∃t,u=Value.str y t from rx);cases q;exact W.kia_one W.kitx_str I.kIn True.intro e (fun z=>nomatch z) h
 | flt y=>obtain⟨t,q⟩:=(show ∃t,u=Value.float y t from rx);cases q;exact W.kia_one W.kitx_float I.kIn True.intro e (fun z=>nomatch z) h
 | @lst a xs ea =>
  cases (show u=Value.ref a from rx);obtain⟨_,_,n,_,h1⟩:=(show bA X.prog X.w H s.heap a (.lst xs)from I.hok a _ ea);exact W.kia_one W.kitx_list I.kIn ⟨_,h1,rfl⟩ e (fun z=>nomatch z) h
 | @frz a ob xs ea =>
  cases (show u=Value.ref a from rx);obtain⟨_,_,_,n,_,h1⟩:=(show bA X.prog X.w H s.heap a (.frz ob (.lst xs))from I.hok a _ ea);exact W.kia_one W.kitx_list I.kIn ⟨_,h1,rfl⟩ e (fun z=>nomatch z) h
 | @tup a xs ea =>
  cases (show u=Value.ref a from rx);obtain⟨_,_,_,p⟩:=(show bA X.prog X.w H s.heap a (.tup xs)from I.hok a _ ea);obtain⟨o,h1,h2,_⟩:=p;exact W.kia_one W.kitx_tuple I.kIn ⟨o,h1,h2⟩ e (fun z=>nomatch z) h
 | @dK a kvs ea =>
  cases (show u=Value.ref a from rx);obtain⟨_,_,vs,_,p⟩:=(show bA X.prog X.w H s.heap a (.dK kvs)from I.hok a _ ea);obtain⟨o,es,ep,h1,h2,_⟩:=p;exact W.kia_one W.kitx_dict I.kIn ⟨o,h1,h2.1⟩ e (fun z=>nomatch z) h
 | @dT a kvs ea =>
  cases (show u=Value.ref a from rx);obtain⟨_,_,xs,_,o,es,ep,h1,h2,_⟩:=(show bA X.prog X.w H s.heap a (.dT kvs)from I.hok a _ ea);exact W.kia_one W.kitx_dict I.kIn ⟨o,h1,h2.1⟩ e (fun z=>nomatch z) h
 | @ins a C dx fs ea cl ha hn htk hm =>
  cases (show u=Value.ref a from rx);obtain⟨mA,O,_⟩:=iN I.hok ea;obtain⟨od,J,_⟩:=O.look;exact W.kia_one (W.kitx_own (cl.get _) cl.hd ha hn htk hm) I.kIn J e (fun z=>nomatch z) h
end
structure bI (k:Nat)(A:Around)(c:Bool:=true):Prop where
 hc:c=true->A.handled=none
 dp:A.depth+3 * k+5 < recursionLimit
 un:A.units+16 * k+200 < cLine
theorem bI.hd {k:Nat}{A:Around}(r:bI k A):A.handled=none:=r.hc rfl
theorem bI.mono {j k:Nat}{A:Around}{c:Bool}(r:bI k A c)(h:j<=k):bI j A c:=⟨r.hc,by have:=r.dp;omega,by have:=r.un;omega⟩
theorem bI.deeper {k:Nat}{A:Around}{c:Bool}(r:bI (k+1) A c)(env:Env):bI k (A.deeper env) c :=
 ⟨r.hc,by have:=r.dp;show A.depth+1+3 * k+5 < _;omega,by have:=r.un;show A.units+3+16 * k+200 < _;omega⟩
theorem oW {A:Around}{C:Addr}{us:List Value}{kw:List (Str×Value)}:(A.under (.builtin "type.__call__" ⟨.ref C :: us,kw⟩)).depth=A.depth+1:=by
 first | rfl | simp[Around.under,Code.weight,Code.isCreation,Code.isGuard,Code.isCaller,Code.frames,Code.isFrame,guardIds]
theorem oX {A:Around}{C:Addr}{us:List Value}{kw:List (Str×Value)}:(A.under (.builtin "type.__call__" ⟨.ref C :: us,kw⟩)).units=A.units+1:=by
 first | rfl | simp[Around.under,Code.cUnits,Code.frames,Code.isFrame]
theorem bI.make {k:Nat}{A:Around}{c:Bool}(r:bI (k+1) A c)(C:Addr)(us:List Value)(kw:List (Str×Value)):bI k (A.under (.builtin "type.__call__" ⟨.ref C :: us,kw⟩)) c :=
 ⟨r.hc,by have:=r.dp;rw[oW];omega,by have:=r.un;rw[oX];omega⟩
theorem bI.depth {k:Nat}{A:Around}{c:Bool}(r:bI k A c):A.depth < recursionLimit:=by have:=r.dp;omega
theorem bI.units {k:Nat}{A:Around}{c:Bool}(r:bI k A c):A.units+64 < cLine:=by have:=r.un;omega
def tNil:TA:=fun Fc H Q=>Q [] H
def tG (ta:TE)(tr:TA):TA:=fun σ H Q=>ta σ H fun x H1=>tr σ H1 fun xs H2=>Q (x :: xs) H2
section
variable {X:Cx}{e:Expr}{es:List Expr}{te:TE}{t:TA}{pos:Pos}
theorem ac:PA X [] tNil:=fun Fc Fc Fc Fc H Q I h=>Calls.spliced_nil ⟨[],H,I,.nil,h⟩
theorem qo (ha:PE X e te)(hr:PA X es t)(hs:starEach (e :: es) X.env=(false,eval e X.env) :: starEach es X.env:=by rfl):PA X (e :: es) (tG te t):=by
 intro pos pins s σ H Q I h;rw[hs];show wpAny _ _ (spliced ((false,eval e X.env) :: backTo pos (starEach es X.env))) _ _ s;refine Calls.spliced_cons (bj (ha pins s σ H _ I h) fun u s1 ⟨x,H1,I1,r1,q1⟩=>?_);exact bj (hr pos pins s1 σ H1 _ I1 q1) fun us s2 ⟨xs,H2,I2,r2,q2⟩=>⟨x :: xs,H2,I2,.cons r1 r2,q2⟩
def CH (t:TA):TE:=fun σ H Q=>t σ H fun xs H1=>xs.length<=sizeLine/\∀p,H1 p=none->Q (.ref p) (aL H1 p (.tup xs))
def CI (t:TA):TE:=fun σ H Q=>t σ H fun xs H1=>xs.length<=sizeLine/\∀p,H1 p=none->Q (.ref p) (aL H1 p (.lst xs))
theorem bq {x1}(h:PA X es t):PE X (.Tuple es x1 pos) (CH t):=by
 intro pins s σ H Q I hq;refine wpAny_Tuple_spliced (bj (h pos pins s σ H _ I hq) fun us s1 ⟨xs,H1,I1,r,z,q⟩=>⟨by rw[<- r.length];exact z,?_⟩);have hf:H1 s1.heap.objs.size=none:=I1.hok.fresh (Nat.le_refl _);refine⟨.ref s1.heap.objs.size,aL H1 s1.heap.objs.size (.tup xs),I1.laid (t':=s1.toks) (fun b u e=>Heap.get?_push_of_some _ e) (Nat.le_refl _) ?_,rfl,q _ hf⟩;exact⟨z,us,r,⟨_,Heap.get?_push_size _ rfl,rfl,_,rfl⟩⟩
theorem bR (h:PA X es t):PE X (.List es pos) (CI t):=by
 intro pins s σ H Q I hq;refine wpAny_List_spliced (bj (h pos pins s σ H _ I hq) fun us s1 ⟨xs,H1,I1,r,z,q⟩=>⟨by rw[<- r.length];exact z,?_⟩);have hf:H1 s1.heap.objs.size=none:=I1.hok.fresh (Nat.le_refl _);refine⟨.ref s1.heap.objs.size,aL H1 s1.heap.objs.size (.lst xs),I1.laid (t':=s1.toks) (fun b u e=>Heap.get?_push_of_some _ e) (Nat.le_refl _) ?_,rfl,q _ hf⟩;exact⟨z,us,0,r,Heap.get?_push_size _ rfl⟩
end
abbrev Sp:=List V->Hp->VK->XK->Prop
abbrev CXT:=List Env->Hp->Shared->XK->Value->Shared->Prop
structure lB (P:Program)(w:World)(K:W.Frag)(mg:Str->Option Value)(base:Heap)(A:Around)(outer:List Env)(s:Shared)(H:Hp):Prop where
 frames:A.frames=some outer
 mod:Cf K mg base
 bs:∀b o,base.get? b=some o->s.heap.get? b=some o/\H b=none
 bsz:base.objs.size<=s.heap.objs.size
 funs:s.heap.FunFrames base outer
 frf:∀b∈mH outer,H b=none
 hok:eh P w H s.heap
 bare:AllBare s.gens
def CE (outer:List Env)(P:Program)(w:World)(H:Hp)(s:Shared)(Q:VK)(u:Value)(s':Shared):Prop :=
 ∃v H',s'.os=s.os/\AllBare s'.gens/\Un (mH outer) [] H H' s.heap s'.heap/\eh P w H' s'.heap/\aY v u/\Q v H'
def CR (CX:CXT)(outer:List Env)(P:Program)(w:World)(H:Hp)(s:Shared)(Q:VK)(E:XK)(r:Result)(s':Shared):Prop :=
 match r with
 | .ok (.ret u)=>CE outer P w H s Q u s'
 | .ok _=>False
 | .error e=>CX outer H s E e s'
structure aj (P:Program)(w:World)(K:W.Frag)(mg:Str->Option Value)(base:Heap)(CX:CXT)(k:Nat)(f:Addr)(fd:FuncData)(ps:List Str)(sp:Sp)(c:Bool:=true):Prop where
 len:∀vs H Q E,sp vs H Q E->vs.length=ps.length
 run:∀(A:Around) (outer:List Env) (s:Shared) (H:Hp) (args:Args) (us:List Value) (vs:List V) (Q:VK) (E:XK),bI k A c->lB P w K mg base A outer s H->BindsTo s fd args (ps.zip us)->aN vs us->sp vs H Q E ->
  codeAny (model P w) A (.call (.ref f) args) (CR CX outer P w H s Q E) s
theorem aj.mono {P:Program}{w:World}{K:W.Frag}{mg:Str->Option Value}{base:Heap}{CX:CXT}{j k:Nat}{f:Addr}{fd:FuncData}{ps:List Str}{sp:Sp}{c:Bool}(F:aj P w K mg base CX j f fd ps sp c)(h:j<=k) :
 aj P w K mg base CX k f fd ps sp c:=⟨F.len,fun A outer s H args us vs Q E hr=>F.run A outer s H args us vs Q E (hr.mono h)⟩
theorem aj.imp {P:Program}{w:World}{K:W.Frag}{mg:Str->Option Value}{base:Heap}{CX:CXT}{k:Nat}{f:Addr}{fd:FuncData}{ps:List Str}{sp sp':Sp}{c:Bool}(F:aj P w K mg base CX k f fd ps sp c)
 (h:∀vs H Q E,sp' vs H Q E->sp vs H Q E):aj P w K mg base CX k f fd ps sp' c :=
 ⟨fun vs H Q E q=>F.len vs H Q E (h _ _ _ _ q),fun A outer s H args us vs Q E hr he hb hv hs=>F.run A outer s H args us vs Q E hr he hb hv (h _ _ _ _ hs)⟩
theorem lB.make {P:Program}{w:World}{K:W.Frag}{mg:Str->Option Value}{base:Heap}{A:Around}{outer:List Env}{s:Shared}{H:Hp}(e:lB P w K mg base A outer s H)(C:Addr)(us:List Value)(kw:List (Str×Value)) :
 lB P w K mg base (A.under (.builtin "type.__call__" ⟨.ref C :: us,kw⟩)) outer s H:=⟨by first | exact e.frames | (simpa[Around.under,Code.envs,Code.isFrame,pushEnvs]using e.frames),e.mod,e.bs,e.bsz,e.funs,e.frf,e.hok,e.bare⟩
section
variable {X:Cx}{pins:List (Addr×Obj)}{σ:St}{H:Hp}{s s':Shared}
theorem aG.env0 (I:aG X pins σ H s):lB X.prog X.w X.K X.mg X.base X.A X.stack s H :=
 ⟨I.ok.frames,I.ok.mod,I.bs,Nat.le_trans I.ok.bsz I.sz,I.stack,I.stkFree,I.hok,I.bare⟩
theorem aG.after {Q:VK}{u:Value}(I:aG X pins σ H s)(h:CE X.stack X.prog X.w H s Q u s'):EP X pins σ Q u s':=by
 obtain⟨v,H',os,bare,un,hok,r,q⟩:=h;obtain⟨hh,g,d,t,os'⟩:=s';obtain rfl:os'=s.os:=os;exact⟨v,H',I.call (h':=hh) (g':=g) (d':=d) (t':=t) (ch:=[]) un hok bare (fun b z=>absurd z (by simp)),r,q⟩
end
def An (sp:Sp)(dvs:List V)(E:XK)(t:TA):TE:=fun σ H Q=>t σ H fun vs H1=>sp (vs++dvs) H1 Q E
def xc (C:Addr)(m:Str)(sp:Sp)(dvs:List V)(E:XK)(ta:TE)(t:TA):TE:=fun σ H Q=>ta σ H fun x H1=>∃a dx fs,x = .ref a/\H1 a=some (.ins C dx fs)/\fs.lookup m=none /\
 t σ H1 fun vs H2=>sp (x :: (vs++dvs)) H2 Q E
def Ao (C:Addr)(sp:Sp)(dvs:List V)(E:XK)(t:TA):TE:=fun σ H Q=>t σ H fun vs H1=>∀x dx,H1 x=none->H1 dx=none->dx≠x ->
 sp (.ref x :: (vs++dvs)) (aL (aL H1 dx (.own x)) x (.ins C dx [])) (fun v H2=>v = .non/\Q (.ref x) H2) E
def bE (K:W.Frag)(fd:FuncData)(ps:List Str)(ds:List Value):Prop :=
 ∀(s:Shared) (us:List Value),K.In s.heap->(us++ds).length=ps.length->BindsTo s fd ⟨us,[]⟩ (ps.zip (us++ds))
theorem bE.all {K:W.Frag}{fd:FuncData}{ps:List Str}(h:∀us:List Value,us.length=ps.length->bindArgs fd ⟨us,[]⟩=pure (ps.zip us)):bE K fd ps []:=fun s us Fc hl=>by
 rw[List.append_nil]at hl ⊢;exact .of_eq (h us hl)
def fq (CX:CXT)(X:Cx)(E:XK):Prop:=∀(pins:List (Addr×Obj)) (σ:St) (H:Hp) (s:Shared) (e:Value) (s':Shared),aG X pins σ H s->CX X.stack H s E e s'->X.xe e s'
section
variable {X:Cx}{CX:CXT}{k:Nat}{f C:Addr}{fd:FuncData}{ps:List Str}{sp:Sp}{dvs:List V}{ds:List Value}{E:XK}{x m:Str}{p pos apos:Pos}{e o:Expr}{es:List Expr}{ta:TE}{t:TA}
theorem lC {pins:List (Addr×Obj)}{σ:St}{H:Hp}{s:Shared}{Q:VK}{us:List Value}{vs:List V}{cc:Bool}(F:aj X.prog X.w X.K X.mg X.base CX k f fd ps sp cc)(hr:bI k X.A cc)(hb:bE X.K fd ps ds)(hd:aN dvs ds)(hx:fq CX X E)
 (I:aG X pins σ H s) (r:aN vs us) (h:sp (vs++dvs) H Q E):wpAny (model X.prog X.w) X.A (call (.ref f) us) (EP X pins σ Q) X.xe s:=by
 have r2:aN (vs++dvs) (us++ds):=r.append hd;have hl:(us++ds).length=ps.length:=by rw[<- r2.length];exact F.len _ _ _ _ h
 refine wpAny_call (codeAny_mono (F.run X.A X.stack s H ⟨us,[]⟩ (us++ds) (vs++dvs) Q E hr I.env0 (hb s us I.kIn hl) r2 h) fun r s' hq=>?_);cases r with
 | error e=>exact hx pins σ H s e s' I hq
 | ok fl =>
  cases fl with
  | ret u=>exact I.after hq
  | next=>exact False.elim hq
  | brk=>exact False.elim hq
  | cont=>exact False.elim hq
theorem ar {cc:Bool}(F:aj X.prog X.w X.K X.mg X.base CX k f fd ps sp cc)(hr:bI k X.A cc)(hg:Gl X x)(hm:X.mg x=some (.ref f))(hk:W.keepIn X.K (.ref f)=true)(hb:bE X.K fd ps ds)(hd:aN dvs ds)(hx:fq CX X E)
 (ha:PA X (e :: es) t) (hdb:(x == ("__debug__":Str))=false:=by decide) (he:starEach (e :: es) X.env=(false,eval e X.env) :: starEach es X.env:=by rfl) (hpl:(backTo pos (starEach es X.env)).any (·.1)=false:=by rfl) :
 PE X (.Call (.Name x p) (e :: es) [] pos) (An sp dvs E t):=by
 intro pins s σ H Q I h;refine wpAny_Call_Name_kw (iM I hg hm ?_ hdb);refine W.callWith_K (h₀:=X.base) I.ok.mod.kin hk (bj (ha pos pins s σ H _ I h) fun us s1 ⟨vs,H1,I1,r,q⟩=>⟨I1.kIn,?_⟩) he hpl;exact lC F hr hb hd hx I1 r q
theorem aD {pl:Sem Bool}(he:PE X o ta)(c:iO X.K C)(hm:oT X.K C m f){cc:Bool}(F:aj X.prog X.w X.K X.mg X.base CX k f fd ps sp cc)(hr:bI k X.A cc)(hb:bE X.K fd ps ds)(hd:aN dvs ds)(hx:fq CX X E)(ha:PA X (e :: es) t)
 (hst:starEach (e :: es) X.env=(false,eval e X.env) :: starEach es X.env:=by rfl) (hpl:(backTo pos (starEach es X.env)).any (·.1)=false:=by rfl)
 (ht:eval (.Call (.Attribute o m apos) (e :: es) [] pos) X.env=(do
  let ov <- eval o X.env
  standAt apos.atName
  let (f,first) <- holding [ov] (getMethod ov m pl)
  callWith pos f first (backTo pos (starEach (e :: es) X.env)) (backToKw pos (keywordEach [] X.env))):=by rfl) :
 PE X (.Call (.Attribute o m apos) (e :: es) [] pos) (xc C m sp dvs E ta t):=by
 intro pins s σ H Q I h;refine W.methodCall_KW (pl:=pl) (bj (he pins s σ H _ I h) fun u s1 ⟨x,H1,I1,rx,a,dx,fs,ex,ea,l,q⟩=>?_) ht;subst ex;obtain rfl:u=Value.ref a:=rx;refine eF I1 ea c hm l ?_;refine W.callWith_K (first:=[.ref a]) (h₀:=X.base) I.ok.mod.kin hm.kp (bj (ha pos pins s1 σ H1 _ I1 q) fun us s2 ⟨vs,H2,I2,r,q2⟩=>⟨I2.kIn,?_⟩) hst hpl;exact lC (us:=.ref a :: us) (vs:=.ref a :: vs) F hr hb hd hx I2 (.cons rfl r) q2
theorem cw {pl:Sem Bool}(he:PE X o ta)(c:iO X.K C)(hm:oT X.K C m f){cc:Bool}(F:aj X.prog X.w X.K X.mg X.base CX k f fd ps sp cc)(hr:bI k X.A cc)(hb:bE X.K fd ps ds)(hd:aN dvs ds)(hx:fq CX X E)
 (ht:eval (.Call (.Attribute o m apos) [] [] pos) X.env=(do
  let ov <- eval o X.env
  standAt apos.atName
  let (f,first) <- holding [ov] (getMethod ov m pl)
  callWith pos f first (backTo pos (starEach [] X.env)) (backToKw pos (keywordEach [] X.env))):=by rfl) :
 PE X (.Call (.Attribute o m apos) [] [] pos) (xc C m sp dvs E ta tNil):=by
 intro pins s σ H Q I h;refine W.methodCall_KW (pl:=pl) (bj (he pins s σ H _ I h) fun u s1 ⟨x,H1,I1,rx,a,dx,fs,ex,ea,l,q⟩=>?_) ht;subst ex;obtain rfl:u=Value.ref a:=rx;refine eF I1 ea c hm l ?_;exact W.callWith_K0 (first:=[.ref a]) I1.kIn hm.kp (lC (us:=[.ref a]) (vs:=[.ref a]) F hr hb hd hx I1 (.cons rfl .nil) q)
structure Mk (K:W.Frag)(C f:Addr):Prop where
 makes:W.makesIn K C=true
 init:W.findIn K (.ref C) "__init__" = some (some (.ref f))
 fn:W.isFn K (.ref f)=true
 kp:W.keepIn K (.ref C)=true
theorem tH {pins:List (Addr×Obj)}{σ:St}{H:Hp}{s:Shared}{Q:VK}{us:List Value}{vs:List V}(M:Mk X.K C f){cc:Bool}(F:aj X.prog X.w X.K X.mg X.base CX k f fd ps sp cc)(hr:bI (k+1) X.A cc)(hb:bE X.K fd ps ds)(hd:aN dvs ds)
 (hx:fq CX X E) (I:aG X pins σ H s) (r:aN vs us)
 (h:∀x dx,H x=none->H dx=none->dx≠x->sp (.ref x :: (vs++dvs)) (aL (aL H dx (.own x)) x (.ins C dx [])) (fun v H2=>v = .non/\Q (.ref x) H2) E) :
 wpAny (model X.prog X.w) X.A (call (.ref C) us) (EP X pins σ Q) X.xe s:=by
 have hq:=h (s.heap.objs.size+1) s.heap.objs.size (I.hok.fresh (Nat.le_succ _)) (I.hok.fresh (Nat.le_refl _)) (Nat.ne_of_lt (Nat.lt_succ_self _));have I2:=aG.made (C:=C) I;have r2:aN (V.ref (s.heap.objs.size+1) :: (vs++dvs)) (Value.ref (s.heap.objs.size+1) :: (us++ds)):=.cons rfl (r.append hd);have hl:(Value.ref (s.heap.objs.size+1) :: us++ds).length=ps.length:=by
  have e:=r2.length;rw[F.len _ _ _ _ hq]at e;exact e.symm
 refine wpAny_call (tF (f:=f) I.kIn M.makes M.init (beq_iff_eq.mp M.fn) (codeAny_mono (F.run _ X.stack _ _ ⟨Value.ref (s.heap.objs.size+1) :: us,[]⟩ (Value.ref (s.heap.objs.size+1) :: (us++ds)) _ _ E (hr.make C us [])
  (I2.env0.make C us []) (hb _ (Value.ref (s.heap.objs.size+1) :: us) I2.kIn hl) r2 hq) fun r s' hq'=>?_))
 cases r with
 | error e=>exact hx pins σ _ _ e s' I2 hq'
 | ok fl =>
  cases fl with
  | ret u =>
   obtain⟨v,H',I3,rv,ev,q3⟩:=I2.after hq';subst ev;exact⟨rv,⟨V.ref (s.heap.objs.size+1),H',I3,rfl,q3⟩⟩
  | next=>exact False.elim hq'
  | brk=>exact False.elim hq'
  | cont=>exact False.elim hq'
theorem di (M:Mk X.K C f){cc:Bool}(F:aj X.prog X.w X.K X.mg X.base CX k f fd ps sp cc)(hr:bI (k+1) X.A cc)(hg:Gl X x)(hm:X.mg x=some (.ref C))(hb:bE X.K fd ps ds)(hd:aN dvs ds)(hx:fq CX X E)
 (ha:PA X (e :: es) t) (hdb:(x == ("__debug__":Str))=false:=by decide) (he:starEach (e :: es) X.env=(false,eval e X.env) :: starEach es X.env:=by rfl) (hpl:(backTo pos (starEach es X.env)).any (·.1)=false:=by rfl) :
 PE X (.Call (.Name x p) (e :: es) [] pos) (Ao C sp dvs E t):=by
 intro pins s σ H Q I h;refine wpAny_Call_Name_kw (iM I hg hm ?_ hdb);refine W.callWith_K (h₀:=X.base) I.ok.mod.kin M.kp (bj (ha pos pins s σ H _ I h) fun us s1 ⟨vs,H1,I1,r,q⟩=>⟨I1.kIn,?_⟩) he hpl;exact tH M F hr hb hd hx I1 r q
end
structure aq (N P:List Str)(sc:Scope):Prop where
 kind:sc.kind = .function
 co:sc.isCoroutine=false
 gen:sc.isGenerator=false
 nd:N.Nodup
 pre:N.take P.length=P
 par:∀x∈P,sc.names.lookup x=some .local\/sc.names.lookup x=some .cell
 nofree:∀y∈sc.names,y.2 ≠ .free
theorem j6 {kindOf:Str->Option NameKind}{x:Str}:∀{binds:List (Str×Value)} {m:Str->Option Value},(∀v,(x,v) ∉ binds)->bindL kindOf binds m x=m x
 | [],_,_=>rfl
 | (n,v) :: r,m,h=>by
  unfold bindL;rw[j6 fun w hw=>h w (List.mem_cons_of_mem _ hw)];split
  . have:x≠n:=by rintro rfl;exact h v List.mem_cons_self
    simp[this]
  . rfl
theorem j7 {kindOf:Str->Option NameKind}{x:Str}:∀{binds:List (Str×Value)} {m:Str->Option Value},(∀v,(x,v) ∉ binds)->bindC kindOf binds m x=m x
 | [],_,_=>rfl
 | (n,v) :: r,m,h=>by
  unfold bindC;rw[j7 fun w hw=>h w (List.mem_cons_of_mem _ hw)];split
  . rfl
  . have:x≠n:=by rintro rfl;exact h v List.mem_cons_self
    simp[this]
theorem j8 {kindOf:Str->Option NameKind}{x:Str}{v:Value}:∀{P:List Str} {vs:List Value} {i:Nat} {m:Str->Option Value},P.Nodup->P[i]? = some x->vs[i]? = some v->kindOf x=some .local ->
 bindL kindOf (P.zip vs) m x=some v
 | [],_,_,_,_,h,_,_=>by simp at h
 | _ :: _,[],_,_,_,_,h,_=>by simp at h
 | p :: P,w :: vs,0,m,nd,h1,h2,hk=>by
  simp at h1 h2;subst h1;subst h2;show bindL kindOf ((p,w) :: P.zip vs) m p=_;unfold bindL;rw[j6 fun v hv=>(List.nodup_cons.mp nd).1 (List.of_mem_zip hv).1,if_pos hk];simp
 | p :: P,w :: vs,i+1,m,nd,h1,h2,hk=>by
  show bindL kindOf ((p,w) :: P.zip vs) m x=_;unfold bindL;exact j8 (i:=i) (List.nodup_cons.mp nd).2 (by simpa using h1) (by simpa using h2) hk
theorem j9 {kindOf:Str->Option NameKind}{x:Str}{v:Value}:∀{P:List Str} {vs:List Value} {i:Nat} {m:Str->Option Value},P.Nodup->P[i]? = some x->vs[i]? = some v->kindOf x≠some .local ->
 bindC kindOf (P.zip vs) m x=some v
 | [],_,_,_,_,h,_,_=>by simp at h
 | _ :: _,[],_,_,_,_,h,_=>by simp at h
 | p :: P,w :: vs,0,m,nd,h1,h2,hk=>by
  simp at h1 h2;subst h1;subst h2;show bindC kindOf ((p,w) :: P.zip vs) m p=_;unfold bindC;rw[j7 fun v hv=>(List.nodup_cons.mp nd).1 (List.of_mem_zip hv).1,if_neg hk];simp
 | p :: P,w :: vs,i+1,m,nd,h1,h2,hk=>by
  show bindC kindOf ((p,w) :: P.zip vs) m x=_;unfold bindC;exact j9 (i:=i) (List.nodup_cons.mp nd).2 (by simpa using h1) (by simpa using h2) hk
def gz (N:List Str)(vs:List V):St:=vs.map some++List.replicate (N.length - vs.length) none
def jd (CX:CXT)(P:Program)(w:World)(K:W.Frag)(mg:Str->Option Value)(base:Heap)(N:List Str)(qual:Str)(scope:Scope)(f:Addr)(cd:Value)(A:Around)(outer:List Env)(s:Shared)(H:Hp)(E:XK)(c:Bool:=true):Cx where
 prog:=P
 w:=w
 K:=K
 mg:=mg
 base:=base
 A:=A.deeper (envOfC qual scope s.heap.objs.size f cd)
 N:=N
 s₀:=s
 H₀:=H
 env:=envOfC qual scope s.heap.objs.size f cd
 outer:=outer
 stack:=envOfC qual scope s.heap.objs.size f cd :: outer
 ex:=[]
 calm:=c
 fn:=fun Fc=>true
 pn:=[]
 xe:=fun e s'=>wpAny (model P w) (A.deeper (envOfC qual scope s.heap.objs.size f cd)) (leaving (envOfC qual scope s.heap.objs.size f cd) e) (fun Fc s''=>CX outer H s E e s'') (fun e' s''=>CX outer H s E e' s'') s'
theorem mP {sc:Scope}{n:Nat}{x:Str}(h:sc.names.lookup x=some .cell):∃c,(cellsFrom n sc.names []).lookup x=some c:=by
 have q:=W.cellsFrom_some sc.names n [] (.inl h);exact Option.isSome_iff_exists.mp q
theorem rf {CX:CXT}{P:Program}{w:World}{K:W.Frag}{mg:Str->Option Value}{base:Heap}{N ps:List Str}{qual:Str}{scope:Scope}{f:Addr}{cd:Value}{A:Around}{outer:List Env}{s s1:Shared}{H:Hp}{E:XK}{us:List Value}{vs:List V}{c:Bool}
 (S:aq N ps scope) (hd:c=true->A.handled=none) (e0:lB P w K mg base A outer s H) (hl:vs.length=ps.length) (r:aN vs us)
 (x:InCallC s s.heap.objs.size (bindL (envOfC qual scope s.heap.objs.size f cd).kindOf (ps.zip us) fun Fc=>none) (cellsFrom (s.heap.objs.size+1) scope.names []) (bindC (envOfC qual scope s.heap.objs.size f cd).kindOf (ps.zip us) fun Fc=>none) s1) :
 aG (jd CX P w K mg base N qual scope f cd A outer s H E c) [] (gz N vs) H s1:=by
 have hpl:ps.length<=N.length:=by have:=congrArg List.length S.pre;rw[List.length_take]at this;omega
 obtain⟨h1,tk,rfl,hk⟩:=x.done;have noA:∀b:Addr,b ∉ (jd CX P w K mg base N qual scope f cd A outer s H E c).ex:=fun b z=>absurd (show b∈([]:List Addr)from z) (by simp);refine⟨⟨e0.mod,S.kind,rfl,rfl,Nat.le_refl _,fun y z c' h1 h2=>?_,fun y hy=>?_,fun y c Fc h=>?_,hd,Around.frames_deeper e0.frames,.inr ⟨rfl,rfl⟩,fun b z=>absurd z (noA b),e0.bs,e0.bsz,fun b Fc Fc=>noA b,fun b z=>absurd z (noA b),e0.funs,e0.frf⟩,
  rfl,e0.bare,Un.kept hk,⟨_,x.toInCall.ns,fun i y v h1 h2 h3=>?_⟩,fun y c h=>⟨_,x.cell y c h⟩,e0.hok.fresh (Nat.le_refl _),fun y c h=>?_,fun p hp=>absurd (show p∈([]:List (Addr×Obj))from hp) (by simp),e0.hok.kept hk,?_⟩
 . exact name_of_addr x.apart (PySem.mem_of_lookup h1) (PySem.mem_of_lookup h2)
 . have hy:scope.names.lookup y=some .cell\/scope.names.lookup y=some .free:=hy;rcases hy with hy|hy
   . exact mP hy
   . exact absurd rfl (S.nofree _ (PySem.mem_of_lookup hy))
 . exact Nat.le_of_lt (x.above y c (PySem.mem_of_lookup h))
 . have hi:i < vs.length:=by
    unfold gz at h2;by_cases hi:i < vs.length
    . exact hi
    . rw[List.getElem?_append_right (by simpa using hi)]at h2;rw[List.getElem?_replicate]at h2;split at h2 <;> cases h2
   have ha:vs[i]? = some v:=by
    unfold gz at h2;rw[List.getElem?_append_left (by simpa using hi),List.getElem?_map]at h2;cases e:vs[i]? with
    | none=>rw[e]at h2;cases h2
    | some a=>rw[e]at h2;cases h2;rfl
   obtain⟨u,hu,rv⟩:=r.get ha;have hp:ps[i]? = some y:=by
    rw[<- S.pre,List.getElem?_take_of_lt (by omega)];exact h1
   have ndP:ps.Nodup:=by rw[<- S.pre];exact S.nd.sublist (List.take_sublist _ _)
   refine⟨u,rv,?_⟩;rcases S.par y (List.mem_of_getElem? hp)with k|k
   . exact .inl ⟨k,j8 ndP hp hu k⟩
   . obtain⟨c,e⟩:=mP (n:=s.heap.objs.size+1) k;refine .inr ⟨.inl k,c,e,?_⟩;have q:=x.cell y c e;rw[j9 ndP hp hu (by show scope.names.lookup y≠_;rw[k];decide)]at q;exact q
 . exact e0.hok.fresh (Nat.le_of_lt (x.above y c (PySem.mem_of_lookup h)))
 . unfold gz;show _=N.length;rw[List.length_append,List.length_map,List.length_replicate];omega
theorem xf {CX:CXT}{P:Program}{w:World}{K:W.Frag}{mg:Str->Option Value}{base:Heap}{k:Nat}{f:Addr}{name qual:Str}{params:Arguments}{body:List Stmt}{scope:Scope}{dV kV doc pm cdv ct oc:Value}{an od:Option Addr}
 {osl:Array (Option Value)} {N ps:List Str} {sp:Sp} {c:Bool} (lk:K.lookup f=some ⟨oc,od,.func (W.fnOf name qual params body scope dV kV doc pm an cdv ct),osl⟩) (hcd:W.codeIn K cdv qual=true) (S:aq N ps scope)
 (len:∀vs H Q E,sp vs H Q E->vs.length=ps.length)
 (hbody:∀(A:Around) (outer:List Env) (s:Shared) (H:Hp) (vs:List V) (Q:VK) (E:XK),bI k (A.deeper (envOfC qual scope s.heap.objs.size f cdv)) c->sp vs H Q E ->
  ∃t,qY (jd CX P w K mg base N qual scope f cdv A outer s H E c) body t/\t { nx:=fun Fc H'=>Q .non H',rt:=Q } (gz N vs) H) :
 aj P w K mg base CX (k+1) f (W.fnOf name qual params body scope dV kV doc pm an cdv ct) ps sp c:=by
 refine⟨len,fun A outer s H args us vs Q E hr e0 hb r hsp=>?_⟩;have hl:=len _ _ _ _ hsp;have KX:K.In s.heap:=e0.mod.kin.keeps fun b o e=>(e0.bs b o e).1;have lim:s.heap.NoLimit:=e0.mod.nolimit.keeps fun b o e=>(e0.bs b o e).1;have hkind:∀y∈ps.zip us,scope.names.lookup y.1=some .local\/(scope.names.lookup y.1=some .cell/\((cellsFrom (s.heap.objs.size+1) scope.names []).lookup y.1).isSome=true):=fun⟨n,v⟩ hy=>by
  rcases S.par n (List.of_mem_zip hy).1 with q|q
  . exact .inl q
  . exact .inr ⟨q,W.cellsFrom_some _ _ _ (.inl q)⟩
 refine codeAny_call_function hr.depth (KX _ _ lk) rfl S.co S.gen rfl (W.codeRec_of KX hcd) (hb _ _ _ _ ?_);refine wpAny_newFunctionEnv_cells S.kind hkind fun env he s1 x=>?_;subst he;refine⟨lim.keeps x.toInCall.keep,codeAny_func ?_⟩;obtain⟨t,ht,hq⟩:=hbody A outer s H vs Q E (hr.deeper _) hsp;have I:aG (jd CX P w K mg base N qual scope f cdv A outer s H E c) [] (gz N vs) H s1:=rf S hr.hc e0 hl r x;refine wpAny_mono (ht [] s1 (gz N vs) H _ I hq) (fun fl s' hs=>?_) fun e s' hs=>hs;have fin:∀{σ':St} {H':Hp} {v:V} {u:Value},aG (jd CX P w K mg base N qual scope f cdv A outer s H E c) [] σ' H' s'->aY v u->Q v H'->CE outer P w H s Q u s' :=
  fun {σ' H' v u} J rv q=>⟨v,H',J.os,J.bare,J.base,J.hok,rv,q⟩
 cases fl with
 | ret u =>
  obtain⟨v,σ',H',J,rv,q⟩:=hs;exact fin J rv q
 | next =>
  obtain⟨σ',H',J,q⟩:=hs;exact fin (v:=V.non) (u:=Value.none) J rfl q
 | brk =>
  obtain⟨_,_,_,q⟩:=hs;exact False.elim q
 | cont =>
  obtain⟨_,_,_,q⟩:=hs;exact False.elim q
section
variable {X:Cx}{x:Str}{p pos:Pos}{e:Expr}{es:List Expr}{t:TA}{id T:String}{r:List V->Hp->VK->Prop}
def Dg (r:List V->Hp->VK->Prop)(t:TA):TE:=fun σ H Q=>t σ H fun vs H1=>r vs H1 Q
theorem aF (hc:cT X (.builtin id) r)(hg:Gl X x)(hm:X.mg x=none)(hv:bootBuiltins x=some (.builtin id))(ha:PA X (e :: es) t)(hn:x ≠ "__name__":=by decide)(hdb:(x == ("__debug__":Str))=false:=by decide)
 (he:starEach (e :: es) X.env=(false,eval e X.env) :: starEach es X.env:=by rfl) (hpl:(backTo pos (starEach es X.env)).any (·.1)=false:=by rfl):PE X (.Call (.Name x p) (e :: es) [] pos) (Dg r t):=by
 intro pins s σ H Q I h;refine wpAny_Call_Name_kw (eA I hg hm hv ?_ hn hdb);exact PyProof.Rows.callWith_builtin1 (bj (ha pos pins s σ H _ I h) fun us s1 ⟨vs,H1,I1,r1,q1⟩=>hc pins s1 σ H1 vs us Q I1 r1 q1) he hpl
theorem cn (hc:cT X (.type T) r)(hg:Gl X x)(hm:X.mg x=none)(hv:bootBuiltins x=some (.type T))(ha:PA X (e :: es) t)(hn:x ≠ "__name__":=by decide)(hdb:(x == ("__debug__":Str))=false:=by decide)
 (he:starEach (e :: es) X.env=(false,eval e X.env) :: starEach es X.env:=by rfl) (hpl:(backTo pos (starEach es X.env)).any (·.1)=false:=by rfl):PE X (.Call (.Name x p) (e :: es) [] pos) (Dg r t):=by
 intro pins s σ H Q I h;refine wpAny_Call_Name_kw (eA I hg hm hv ?_ hn hdb);exact PyProof.Rows.callWith_type1 (bj (ha pos pins s σ H _ I h) fun us s1 ⟨vs,H1,I1,r1,q1⟩=>hc pins s1 σ H1 vs us Q I1 r1 q1) he hpl
end
end L2
namespace HT
open PySem PyProof.Rows
section
variable {prog:Program}{w:World}{A:Around}{E:Value->Shared->Prop}{s:Shared}
def mQ (n d:Nat):Option Int->Nat
 | none=>d
 | some v=>if v < 0 then(v+(n:Int)).toNat else min v.toNat n
theorem mR (n d:Nat):mQ n d none=d:=rfl
theorem dI (n d k:Nat):mQ n d (some (k:Int))=min k n:=by
 show(if(k:Int) < 0 then((k:Int)+(n:Int)).toNat else min (k:Int).toNat n)=min k n;rw[if_neg (by omega),Int.toNat_natCast]
end
end HT
namespace L2
open PySem PySem.Spec PyProof.Rows
abbrev TO:=St->Hp->(Option Int->Hp->Prop)->Prop
def PO (X:Cx)(e:Option Expr)(t:TO):Prop :=
 ∀(pins:List (Addr×Obj)) (s:Shared) (σ:St) (H:Hp) (Q:Option Int->Hp->Prop),aG X pins σ H s->t σ H Q ->
  wpAny (model X.prog X.w) X.A (evalPart e X.env) (fun u s'=>∃o H',aG X pins σ H' s'/\IsPart u o/\Q o H') X.xe s
def tNoPart:TO:=fun Fc H Q=>Q none H
def Ap (t:TE):TO:=fun σ H Q=>t σ H fun x H1=>∃i,x = .int i/\Q (some i) H1
section
variable {X:Cx}{e:Expr}{te:TE}{lo hi:Option Expr}{tl th:TO}{pos p2:Pos}
theorem eG:PO X none tNoPart:=by
 intro pins s σ H Q I h;rw[evalPart_none];exact wpAny_pure ⟨none,H,I,.none,h⟩
theorem bJ (h:PE X e te):PO X (some e) (Ap te):=by
 intro pins s σ H Q I hw;rw[evalPart_some];refine bj (h pins s σ H _ I hw) fun u s1 ⟨x,H1,I1,r1,q1⟩=>?_;obtain⟨i,rfl,q⟩:=q1;obtain⟨t,rfl⟩:=r1;exact⟨some i,H1,I1,.int i t,q⟩
def CJ (X:Cx)(r:V->Option Int->Option Int->Hp->VK->Prop):Prop :=
 ∀(pins:List (Addr×Obj)) (s:Shared) (σ:St) (H:Hp) (x:V) (v vl vu:Value) (lo hi:Option Int) (sl:Addr) (Q:VK),aG X pins σ H s->aY x v->s.heap.IsSliceOf sl vl vu .none->IsPart vl lo->IsPart vu hi->r x lo hi H Q ->
  ∃T id,typeLookup (.type T) "__getitem__" = pure (some (.builtin id))/\s.TypeIs v T/\wpAny (model X.prog X.w) X.A (getItem v (.ref sl)) (EP X pins σ Q) X.xe s
def Du (r:V->Option Int->Option Int->Hp->VK->Prop)(te:TE)(tl th:TO):TE:=fun σ H Q=>te σ H fun x H1=>tl σ H1 fun l H2=>th σ H2 fun u H3=>r x l u H3 Q
theorem bX {r:V->Option Int->Option Int->Hp->VK->Prop}(hr:CJ X r)(he:PE X e te)(hl:PO X lo tl)(hu:PO X hi th):PE X (.Subscript e (.Slice lo hi none p2) pos) (Du r te tl th):=by
 intro pins s σ H Q I h;refine Subscript_ (bj (he pins s σ H _ I h) fun v s1 ⟨x,H1,I1,r1,q1⟩=>?_);refine wpAny_Slice (bj (hl pins s1 σ H1 _ I1 q1) fun vl s2 ⟨l,H2,I2,pl,q2⟩=>bj (hu pins s2 σ H2 _ I2 q2) fun vu s3 ⟨u,H3,I3,pu,q3⟩=>?_);rw[evalPart_none];refine wpAny_pure ?_;have I4:aG X pins σ H3 { s3 with heap:=s3.heap.push { cls:=.type "slice",data:=.fields #[vl,vu,.none] } }:=I3.kept (t':=s3.toks) fun b ob q=>Heap.get?_push_of_some _ q;obtain⟨T,id,hT,ht,hg⟩:=hr pins { s3 with heap:=s3.heap.push { cls:=.type "slice",data:=.fields #[vl,vu,.none] } } σ H3 x v vl vu l u s3.heap.objs.size Q I4 r1 (Heap.IsSliceOf.new ..) pl pu q3;show wpAny (model X.prog X.w) X.A (subscriptTail e (.Slice lo hi none p2) v (.ref s3.heap.objs.size)) (EP X pins σ Q) X.xe { s3 with heap:=s3.heap.push { cls:=.type "slice",data:=.fields #[vl,vu,.none] } };exact tail_any (ops:=[.ref s3.heap.objs.size,v]) ht hT hg (by with_unfolding_all rfl)
def dR (xs:List V)(lo hi:Option Int):List V:=(xs.drop (HT.mQ xs.length 0 lo)).take (HT.mQ xs.length xs.length hi - HT.mQ xs.length 0 lo)
theorem mS (xs:List V)(lo hi:Option Int):(dR xs lo hi).length<=xs.length:=by
 unfold dR;rw[List.length_take,List.length_drop];omega
end
def rg (n:Nat)(i:Int):Option Nat:=if 0<=i then(if i < n then some i.toNat else none)else if -(n:Int)<=i then some (i+n).toNat else none
def qp {α:Type}(xs:List α)(i:Int):Option α:=(rg xs.length i).bind fun j=>xs[j]?
theorem qr {n:Nat}{i:Int}{j:Nat}(h:rg n i=some j):seqIndex? i n=some j/\j < n/\-(n:Int)<=i/\i < n:=by
 unfold rg at h;by_cases h0:0<=i
 . rw[if_pos h0]at h;by_cases h1:i < n
   . rw[if_pos h1]at h;have e:i.toNat=j:=Option.some.inj h;exact⟨by rw[seqIndex_of h0 h1,e],by omega,by omega,h1⟩
   . rw[if_neg h1]at h;cases h
 . rw[if_neg h0]at h;by_cases h1:-(n:Int)<=i
   . rw[if_pos h1]at h;have e:(i+n).toNat=j:=Option.some.inj h;exact⟨by rw[seqIndex_neg (by omega) h1,e],by omega,h1,by omega⟩
   . rw[if_neg h1]at h;cases h
theorem lE {α:Type}{xs:List α}{i:Int}{v:α}(h:qp xs i=some v):∃j,seqIndex? i xs.length=some j/\xs[j]? = some v/\j < xs.length/\-(xs.length:Int)<=i/\i < xs.length:=by
 unfold qp at h;cases e:rg xs.length i with
 | none=>rw[e]at h;cases h
 | some j =>
  rw[e]at h;obtain⟨h1,h2,h3,h4⟩:=qr e;exact⟨j,h1,h,h2,h3,h4⟩
theorem aP {α:Type}{xs:List α}{j:Nat}{v:α}(h:xs[j]? = some v):qp xs (j:Int)=some v:=by
 have hj:j < xs.length:=(List.getElem?_eq_some_iff.mp h).1;have e:rg xs.length (j:Int)=some j:=by
  unfold rg;rw[if_pos (by omega),if_pos (by omega)];simp
 unfold qp;rw[e];exact h
theorem mT {α:Type}(xs:List α)(v:α):qp (xs++[v]) (-1)=some v:=by
 have hl:(xs++[v]).length=xs.length+1:=by simp
 have e:rg (xs++[v]).length (-1)=some xs.length:=by
  unfold rg;rw[hl,if_neg (by decide),if_pos (by omega)]
  congr 1
  omega
 unfold qp;rw[e];show(xs++[v])[xs.length]? = some v;simp
def vG (b:Expr):Prop:=∀o i,subscripted b false o i=operate [o,i] (getItem o i)
def z4 (X:Cx)(r:R2):Prop :=
 ∀(value slice:Expr) (pins:List (Addr×Obj)) (s:Shared) (σ:St) (H:Hp) (x y:V) (v u:Value) (Q:VK),aG X pins σ H s->aY x v->aY y u->r x y H Q ->
  subscripted slice false v u=operate [v,u] (getItem v u)->wpAny (model X.prog X.w) X.A (subscriptTail value slice v u) (EP X pins σ Q) X.xe s
def Cj (X:Cx)(id:String)(r:V->List V->Hp->VK->Prop):Prop :=
 ∀(pins:List (Addr×Obj)) (s:Shared) (σ:St) (H:Hp) (x:V) (xs:List V) (v:Value) (us:List Value) (Q:VK),aG X pins σ H s->aY x v->aN xs us->r x xs H Q ->
  wpAny (model X.prog X.w) X.A (call (.builtin id) (v :: us)) (EP X pins σ Q) X.xe s
section
variable {X:Cx}{a b:Expr}{ta tb:TE}{pos:Pos}
theorem au {r:R2}(hr:z4 X r)(ha:PE X a ta)(hb:PE X b tb)(hs:vG b):PE X (.Subscript a b pos) (w8 r ta tb):=by
 intro pins s σ H Q I h;exact Subscript_ (xT ha hb I h fun v u s2 x y H2 I2 rx ry q=>hr a b pins s2 σ H2 x y v u Q I2 rx ry q (hs _ _))
def Aq (K:W.Frag):R2:=fun x y H Q=>∃p xs i v,x = .ref p/\y = .int i/\bh K H p xs/\qp xs i=some v/\Q v H
def vH (K:W.Frag):R2:=fun x y H Q=>∃p xs i v,x = .ref p/\y = .int i/\a8 K H p xs/\qp xs i=some v/\Q v H
def rIxS:R2:=fun x y H Q=>∃z i c,x = .str z/\y = .int i/\z.length<=sizeLine/\qp z.cps.toList i=some c/\Q (.str ⟨#[c]⟩) H
theorem cQ:z4 X (Aq X.K):=by
 intro value slice pins s σ H x y v u Q I rx ry h hs;obtain⟨p,xs,i,z,rfl,rfl,hq,he,q⟩:=h;cases rx;obtain⟨t,rfl⟩:=ry;obtain⟨its,r,pl,hz⟩:=I.list hq;obtain⟨j,h1,h2,h3,h4,h5⟩:=lE he;obtain⟨w,ew,rw'⟩:=r.get h2;have hl:=r.length;have hn:=gb;have fin:EP X pins σ Q w s:=⟨z,H,I,rw',q⟩;by_cases h0:0<=i
 . have hj:i.toNat=j:=by
    rw[seqIndex_of h0 h5]at h1;exact Option.some.inj h1
   exact item_listR pl.isList h0 (by omega) (by rw[hj];simpa using ew) fin hs
 . have hj:(i+(its.toArray.size:Int)).toNat=j:=by
    rw[seqIndex_neg (by omega) h4]at h1;rw[List.size_toArray,<- hl];exact Option.some.inj h1
   exact subscriptTail_builtinR (x:=w) pl.isList.typeIs slot_list_getitem.lookup
    (wpAny_getItem_list_neg (Q:=fun r s'=>r=w/\EP X pins σ Q r s') pl.isList (by omega) (by rw[List.size_toArray] <;> omega) (by omega) (by rw[hj];simpa using ew) ⟨rfl,fin⟩) hs
theorem ap:z4 X (vH X.K):=by
 intro value slice pins s σ H x y v u Q I rx ry h hs;obtain⟨p,xs,i,z,rfl,rfl,hq,he,q⟩:=h;cases rx;obtain⟨t,rfl⟩:=ry;obtain⟨its,r,pl,hz⟩:=I.tuple hq;obtain⟨j,h1,h2,h3,h4,h5⟩:=lE he;obtain⟨w,ew,rw'⟩:=r.get h2;have hl:=r.length;have hn:=gb;have fin:EP X pins σ Q w s:=⟨z,H,I,rw',q⟩;exact subscriptTail_builtinR (x:=w) pl.typeIs slot_tuple_getitem.lookup
  (getItem_tuple (j:=j) (Q:=fun r s'=>r=w/\EP X pins σ Q r s') pl (by omega) (by omega) (by rw[List.size_toArray,<- hl];exact h1) (by simpa using ew) ⟨rfl,fin⟩) hs
theorem tI:z4 X rIxS:=by
 intro value slice pins s σ H x y v u Q I rx ry h hs;obtain⟨z,i,c,rfl,rfl,hz,he,q⟩:=h;obtain⟨t,rfl⟩:=rx;obtain⟨t',rfl⟩:=ry;obtain⟨j,h1,h2,h3,h4,h5⟩:=lE he;have hl:z.cps.toList.length=z.length:=by simp[Str.length]
 rw[hl]at h1 h4 h5;have hn:=gb;exact tail_any (typeIs_str s z t) slot_str_getitem.lookup (getItem_str (c:=c) (by
  have e1:decide (i < -(2 ^ 63:Int))=false:=decide_eq_false (by omega);have e2:decide (i >= 2 ^ 63)=false:=decide_eq_false (by omega);rw[e1,e2,Bool.or_false]) (by rw[h1];simpa using h2) ⟨.str ⟨#[c]⟩,H,I.tok _,⟨_,rfl⟩,q⟩) hs
theorem oY (its:List Value)(n j:Nat)(u:Value):Obj.mapSeq (·.setIfInBounds j u) { cls:=.type "list",data:=.seq its.toArray n } = { cls:=.type "list",data:=.seq (its.set j u).toArray n }:=by
 simp[Obj.mapSeq]
theorem aG.lst {pins:List (Addr×Obj)}{σ:St}{H:Hp}{s:Shared}{p:Addr}{xs:List V}(I:aG X pins σ H s)(h:H p=some (.lst xs)) :
 ∃(its:List Value) (n:Nat),aN xs its/\s.heap.get? p=some { cls:=.type "list",data:=.seq its.toArray n }/\xs.length<=sizeLine:=by
 obtain⟨z,its,n,r,e⟩:=I.hok p _ h;exact⟨its,n,r,e,z⟩
theorem aG.lstUpd {pins:List (Addr×Obj)}{σ:St}{H:Hp}{s:Shared}{p:Addr}{xs ys:List V}{its its':List Value}{n n':Nat}{f:Obj->Obj}(I:aG X pins σ H s)(h:H p=some (.lst xs))
 (ho:s.heap.get? p=some { cls:=.type "list",data:=.seq its.toArray n }) (hf:f { cls:=.type "list",data:=.seq its.toArray n } = { cls:=.type "list",data:=.seq its'.toArray n' }) (r:aN ys its') (hz:ys.length<=sizeLine) (t:Nat) :
 aG X pins σ (aL H p (.lst ys)) { s with heap:=s.heap.update p f,toks:=t }:=by
 have e:(s.heap.update p f).get? p=some { cls:=.type "list",data:=.seq its'.toArray n' }:=by
  rw[Heap.get?_update_self f ho (by rw[hf] <;> rfl),hf]
 refine I.write (x:=p) (e:=p) (by rw[h];trivial) (.inl rfl) (fun b u hb q=>(Heap.get?_update_other _ _ (Ne.symm hb)).trans q) ⟨_,e⟩ ?_;exact⟨hz,its',n',r,e⟩
def rSetL:V->V->V->Hp->(Hp->Prop)->Prop:=fun o i v H Q=>∃p xs k j,o = .ref p/\i = .int k/\H p=some (.lst xs)/\rg xs.length k=some j/\Q (aL H p (.lst (xs.set j v)))
theorem mU:Af X rSetL:=by
 intro pins s σ H o i v ov iv u Q I ro ri rv h;obtain⟨p,xs,k,j,rfl,rfl,hp,hj,q⟩:=h;cases ro;obtain⟨t,rfl⟩:=ri;obtain⟨its,n,r,ho,hz⟩:=I.lst hp;obtain⟨h1,h2,h3,h4⟩:=qr hj;have hl:=r.length;have hn:=gb;have I':aG X pins σ (aL H p (.lst (xs.set j v))) { s with heap:=s.heap.update p (Obj.mapSeq (·.setIfInBounds j u)) } :=
  I.lstUpd hp ho (oY its n j u) (r.set rv j) (by rw[List.length_set];exact hz) s.toks
 by_cases h0:0<=k
 . have hk:k.toNat=j:=by
    rw[seqIndex_of h0 h4]at h1;exact Option.some.inj h1
   exact W.ki_setAt ho h0 (by omega) (by rw[List.size_toArray,<- hl];exact h4) (by rw[hk];exact⟨_,I',q⟩)
 . have hk:(k+(its.toArray.size:Int)).toNat=j:=by
    rw[seqIndex_neg (by omega) h3]at h1;rw[List.size_toArray,<- hl];exact Option.some.inj h1
   exact W.ki_setBack ho (by omega) (by rw[List.size_toArray,<- hl];exact h3) (by omega) (by rw[hk];exact⟨_,I',q⟩)
theorem lG (lo hi:Option Int)(n:Nat):(sliceBounds lo hi none n).1=((HT.mQ n 0 lo:Nat):Int)/\(sliceBounds lo hi none n).2.1=((HT.mQ n n hi:Nat):Int)/\(sliceBounds lo hi none n).2.2=1:=by
 refine⟨?_,?_,rfl⟩
 . cases lo with
   | none=>simp[sliceBounds,HT.mQ]
   | some i =>
    simp only[sliceBounds,HT.mQ,Option.getD_none,show(1:Int) > 0 by decide,if_true];by_cases h:i < 0
    . simp only[h,if_true] <;> omega
    . simp only[h,if_false] <;> omega
 . cases hi with
   | none=>simp[sliceBounds,HT.mQ]
   | some i =>
    simp only[sliceBounds,HT.mQ,Option.getD_none,show(1:Int) > 0 by decide,if_true];by_cases h:i < 0
    . simp only[h,if_true] <;> omega
    . simp only[h,if_false] <;> omega
theorem jK (its:List Value)(lo hi:Option Int):slicePick its.toArray lo hi none=((its.drop (HT.mQ its.length 0 lo)).take (HT.mQ its.length its.length hi - HT.mQ its.length 0 lo)).toArray:=by
 obtain⟨h1,h2,h3⟩:=lG lo hi its.toArray.size;unfold slicePick;rw[h1,h2,h3];simp only[sliceRange_one,pick_run,List.size_toArray] <;> rfl
def Ar (K:W.Frag):V->Option Int->Option Int->Hp->VK->Prop:=fun x lo hi H Q=>∃a xs,x = .ref a/\bh K H a xs/\∀p,H p=none->Q (.ref p) (aL H p (.lst (dR xs lo hi)))
theorem cA:CJ X (Ar X.K):=by
 intro pins s σ H x v vl vu lo hi sl Q I rx hs pl pu h;obtain⟨a,xs,rfl,hx,q⟩:=h;cases rx;obtain⟨its,r,ht,hz⟩:=I.list hx;have hlen:=r.length;refine⟨"list",_,slot_list_getitem.lookup,ht.isList.typeIs,?_⟩;refine wpAny_getItem_list_slice ht.isList hs pl pu .none (by simp) ?_ (by rw[List.size_toArray] <;> omega);rw[jK,<- hlen];refine⟨.ref s.heap.objs.size,_,I.laid (t':=s.toks) (o:=.lst (dR xs lo hi)) (fun b ob q=>Heap.get?_push_of_some _ q) (Nat.le_refl _) ?_,rfl,q _ (I.hok.fresh (Nat.le_refl _))⟩;exact⟨Nat.le_trans (mS xs lo hi) hz,_,0,(r.drop (HT.mQ xs.length 0 lo)).take (HT.mQ xs.length xs.length hi - HT.mQ xs.length 0 lo),Heap.get?_push_size _ rfl⟩
def im:V->Bool
 | .non=>true
 | .bl _=>true
 | .int _=>true
 | .str _=>true
 | _=>false
def vI:V->V->Bool
 | .non,.non=>true
 | .bl a,.bl b=>a == b
 | .bl a,.int b=>(if a then 1 else 0) == b
 | .int a,.bl b=>a == (if b then 1 else 0)
 | .int a,.int b=>a == b
 | .str a,.str b=>a == b
 | _,_=>false
theorem xW {A:Around}{s:Shared}{y x:V}{u v:Value}(ry:aY y u)(rx:aY x v)(fy:im y=true)(fx:im x=true):SeqAt.EqAt A s u v (vI y x):=by
 cases y with
 | non =>
  cases ry;cases x with
  | non=>cases rx;exact SeqAt.EqAt.same _
  | bl b=>cases rx;exact SeqAt.EqAt.none_bool b
  | int b=>obtain⟨t,rfl⟩:=rx;exact SeqAt.EqAt.none_int b t
  | str b=>obtain⟨t,rfl⟩:=rx;exact SeqAt.EqAt.none_str b t
  | _=>exact absurd (show false=true from fx) Bool.false_ne_true
 | bl a =>
  cases ry;cases x with
  | non=>cases rx;exact SeqAt.EqAt.bool_none a
  | bl b=>cases rx;exact SeqAt.EqAt.bool_bool a b
  | int b=>obtain⟨t,rfl⟩:=rx;exact SeqAt.EqAt.bool_int a b t
  | str b=>obtain⟨t,rfl⟩:=rx;exact SeqAt.EqAt.bool_str a b t
  | _=>exact absurd (show false=true from fx) Bool.false_ne_true
 | int a =>
  obtain⟨t',rfl⟩:=ry;cases x with
  | non=>cases rx;exact SeqAt.EqAt.int_none a t'
  | bl b=>cases rx;exact SeqAt.EqAt.int_bool a t' b
  | int b=>obtain⟨t,rfl⟩:=rx;exact SeqAt.EqAt.int_int a t' b t
  | str b=>obtain⟨t,rfl⟩:=rx;exact SeqAt.EqAt.int_str a t' b t
  | _=>exact absurd (show false=true from fx) Bool.false_ne_true
 | str a =>
  obtain⟨t',rfl⟩:=ry;cases x with
  | non=>cases rx;exact SeqAt.EqAt.str_none a t'
  | bl b=>cases rx;exact SeqAt.EqAt.str_bool a t' b
  | int b=>obtain⟨t,rfl⟩:=rx;exact SeqAt.EqAt.str_int a t' b t
  | str b=>obtain⟨t,rfl⟩:=rx;exact SeqAt.EqAt.str_str a t' b t
  | _=>exact absurd (show false=true from fx) Bool.false_ne_true
 | _=>exact absurd (show false=true from fy) Bool.false_ne_true
theorem aO:cT X (.builtin "len") (fun xs H Q=>∃p ys,xs=[.ref p]/\(bh X.K H p ys\/a8 X.K H p ys)/\Q (.int ys.length) H):=by
 intro pins s σ H xs us Q I r h;obtain⟨p,ys,rfl,hq,q⟩:=h;obtain⟨u,rfl,rx⟩:=gy r;cases rx;have hn:=gb;rcases hq with hq|hq
 . obtain⟨its,r',pl,hz⟩:=I.list hq;have hlen:=r'.length;exact Calls.call_len_list pl.isList (by simp only[List.size_toArray] <;> omega) ⟨.int ys.length,H,I.tok _,⟨s.toks+1,by rw[List.size_toArray,hlen]⟩,q⟩
 . obtain⟨its,r',pl,hz⟩:=I.tuple hq;have hlen:=r'.length;exact len_tuple pl (by simp only[List.size_toArray] <;> omega) ⟨.int ys.length,H,I.tok _,⟨s.toks+1,by rw[List.size_toArray,hlen]⟩,q⟩
theorem lH:cT X (.builtin "len") (fun xs H Q=>∃z,xs=[.str z]/\z.length<=sizeLine/\Q (.int z.length) H):=by
 intro pins s σ H xs us Q I r h;obtain⟨z,rfl,hz,q⟩:=h;obtain⟨u,rfl,t,rfl⟩:=gy r;have hn:=gb;exact len_str (by omega) ⟨.int z.length,H,I.tok _,⟨_,rfl⟩,q⟩
theorem eI:cT X (.type "list") (fun xs H Q=>∃p ys,xs=[.ref p]/\(bh X.K H p ys\/a8 X.K H p ys)/\∀l,H l=none->Q (.ref l) (aL H l (.lst ys))):=by
 intro pins s σ H xs us Q I r h;obtain⟨p,ys,rfl,hq,q⟩:=h;obtain⟨u,rfl,rx⟩:=gy r;cases rx;have fin:∀(its:List Value),aN ys its->ys.length<=sizeLine->∀(h':Heap) (c':Nat),(∀b o',s.heap.get? b=some o'->h'.get? b=some o') ->
  h'.get? s.heap.objs.size=some { cls:=.type "list",dict:=none,data:=.seq its.toArray c',slots:=#[] }->EP X pins σ Q (.ref s.heap.objs.size) { s with heap:=h' }:=fun its r' hz h' c' kp e=>
  ⟨.ref s.heap.objs.size,_,I.laid (t':=s.toks) kp (Nat.le_refl _) (show bA X.prog X.w _ h' _ (.lst ys)from⟨hz,its,c',r',e⟩),rfl,q _ (I.hok.fresh (Nat.le_refl _))⟩
 rcases hq with hq|hq
 . obtain⟨its,r',pl,hz⟩:=I.list hq;have hlen:=r'.length;obtain⟨o,ho,hc,n,hd⟩:=pl.isList;exact call_list_seq p (.inl rfl) ho hc hd (fun h' c' kp e=>fin its r' hz h' c' kp e) (by simp only[List.size_toArray] <;> omega)
 . obtain⟨its,r',pl,hz⟩:=I.tuple hq;have hlen:=r'.length;obtain⟨o,ho,hc,n,hd⟩:=pl;exact call_list_seq p (.inr rfl) ho hc hd (fun h' c' kp e=>fin its r' hz h' c' kp e) (by simp only[List.size_toArray] <;> omega)
theorem cR:cT X (.type "tuple") (fun xs H Q=>∃p ys,xs=[.ref p]/\((bh X.K H p ys/\∀l,H l=none->Q (.ref l) (aL H l (.tup ys)))\/(a8 X.K H p ys/\Q (.ref p) H))):=by
 intro pins s σ H xs us Q I r h;obtain⟨p,ys,rfl,h⟩:=h;obtain⟨u,rfl,rx⟩:=gy r;cases rx;rcases h with⟨hq,q⟩|⟨hq,q⟩
 . obtain⟨its,r',pl,hz⟩:=I.list hq;have hlen:=r'.length;refine call_tuple_list pl.isList (fun h' kp=>?_) (by simp only[List.size_toArray] <;> omega);have I1:aG X pins σ H { s with heap:=h' }:=I.kept (t':=s.toks) kp;have I2:aG X pins σ (aL H h'.objs.size (.tup ys)) { s with heap:=h'.push { cls:=.type "tuple",data:=.seq its.toArray } } :=
    I1.laid (t':=s.toks) (fun b o e=>Heap.get?_push_of_some _ e) (Nat.le_refl _) (show bA X.prog X.w _ _ _ (.tup ys)from⟨hz,its,r',IsTup.new _ _⟩)
   exact⟨.ref h'.objs.size,_,I2,rfl,q _ (I1.hok.fresh (Nat.le_refl _))⟩
 . obtain⟨its,r',pl,hz⟩:=I.tuple hq;exact call_tuple_same pl ⟨.ref p,H,I,rfl,q⟩
def CK (K:W.Frag)(T:String)(x:V)(H:Hp):Prop:=match x with
 | .str _=>T = "str"
 | .int _=>T = "int"
 | .ref p=>(T = "list"/\∃xs,bh K H p xs)\/(T = "tuple"/\∃o,K.lookup p=some o/\o.cls = .type "tuple"/\o.dict=none) \/
  (T = "dict"/\((∃kvs,H p=some (.dK kvs))\/∃kvs,H p=some (.dT kvs)))\/(T = "set"/\∃S n,H p=some (.set S n))
 | _=>False
theorem tJ {pins:List (Addr×Obj)}{σ:St}{H:Hp}{s:Shared}{T:String}{x:V}{v:Value}(I:aG X pins σ H s)(r:aY x v)(ty:CK X.K T x H) :
 s.TypeIs v T/\∀a,v = .ref a->∃ob,s.heap.get? a=some ob/\ob.dict=none:=by
 cases x with
 | str z =>
  obtain⟨t,rfl⟩:=r;cases (show T = "str" from ty);exact⟨typeIs_str s z t,fun Fc e=>nomatch e⟩
 | int i =>
  obtain⟨t,rfl⟩:=r;cases (show T = "int" from ty);exact⟨typeIs_int s i t,fun Fc e=>nomatch e⟩
 | ref p =>
  cases r;rcases ty with⟨rfl,xs,hq⟩|⟨rfl,o,hk,hc,hd⟩|⟨rfl,hk⟩|⟨rfl,S,n,hk⟩
  . obtain⟨its,_,pl,_⟩:=I.list hq;refine⟨pl.isList.typeIs,fun a e=>?_⟩;cases e;obtain⟨o,n,e,c,hd,_⟩:=pl;exact⟨o,e,hd⟩
  . refine⟨⟨o,I.kIn p o hk,hc⟩,fun a e=>?_⟩;cases e;exact⟨o,I.kIn _ o hk,hd⟩
  . have z:∃o,s.heap.get? p=some o/\o.ExactDict:=by
     rcases hk with⟨kvs,hk⟩|⟨kvs,hk⟩
     . obtain⟨_,_,_,_,o,_,_,e,ex,_⟩:=I.hok p _ hk;exact⟨o,e,ex⟩
     . obtain⟨_,_,_,_,o,_,_,e,ex,_⟩:=I.hok p _ hk;exact⟨o,e,ex⟩
    obtain⟨o,e,ex⟩:=z;refine⟨⟨o,e,ex.1⟩,fun a e2=>?_⟩;cases e2;exact⟨o,e,ex.2.1⟩
  . obtain⟨o,_,_,_,e,ex,_⟩:=I.hok p _ hk;refine⟨⟨o,e,ex.1⟩,fun a e2=>?_⟩;cases e2;exact⟨o,e,ex.2.1⟩
 | _=>exact False.elim ty
def CL (K:W.Frag)(T:String)(r:V->List V->Hp->VK->Prop)(to:TE):TE:=fun σ H Q=>to σ H fun x H1=>CK K T x H1/\r x [] H1 Q
def Dh (K:W.Frag)(T:String)(r:V->List V->Hp->VK->Prop)(to:TE)(t:TA):TE:=fun σ H Q=>to σ H fun x H1=>CK K T x H1/\t σ H1 fun xs H2=>r x xs H2 Q
variable {o e:Expr}{es:List Expr}{to:TE}{t:TA}{name:Str}{apos cpos:Pos}{T id:String}{r:V->List V->Hp->VK->Prop}
theorem xX (pa:PlainAttrs T)(slot:Slot T name id)(hty:typeOf (.builtin id)=pure (.type "method_descriptor"))(hm:Cj X id r)(ho:PE X o to)
 (hbase:attributeBase o name X.env (eval o X.env)=eval o X.env:=by rfl) (hline:(apos.endLine == cpos.line)=true:=by rfl):PE X (.Call (.Attribute o name apos) [] [] cpos) (CL X.K T r to):=by
 intro pins s σ H Q I h;refine wpAny_Call_method0_late hbase hline (bj (ho pins s σ H _ I h) fun v s1 ⟨x,H1,I1,r1,ty,q1⟩=>?_);obtain⟨h1,h2⟩:=tJ I1 r1 ty;exact⟨T,id,pa,slot,hty,h1,h2,Calls.callWith_builtin rfl (PySem.evalArgs_none (hm pins s1 σ H1 x [] v [] Q I1 r1 .nil q1))⟩
theorem io (pa:PlainAttrs T)(slot:Slot T name id)(hty:typeOf (.builtin id)=pure (.type "method_descriptor"))(hm:Cj X id r)(ho:PE X o to)(ha:PA X (e :: es) t)
 (hbase:attributeBase o name X.env (eval o X.env)=eval o X.env:=by rfl)
 (hfew:((backTo cpos (starEach (e :: es) X.env)).all (fun x=>!x.1) && (backToKw cpos (keywordEach [] X.env)).all (fun x=>x.1.isSome)
  && decide ((e :: es).length+([]:List Keyword).length+(if([]:List Keyword).isEmpty then 0 else 1) < 30))=true:=by rfl)
 (hline:(apos.endLine == cpos.line)=true:=by rfl) (hs:starEach (e :: es) X.env=(false,eval e X.env) :: starEach es X.env:=by rfl) (hplain:(backTo cpos (starEach es X.env)).any (·.1)=false:=by rfl) :
 PE X (.Call (.Attribute o name apos) (e :: es) [] cpos) (Dh X.K T r to t):=by
 intro pins s σ H Q I h;refine wpAny_Call_method_late hbase hfew hline rfl (bj (ho pins s σ H _ I h) fun v s1 ⟨x,H1,I1,r1,ty,q1⟩=>?_);obtain⟨h1,h2⟩:=tJ I1 r1 ty;refine⟨T,id,pa,slot,hty,h1,h2,?_⟩;have hA:=ha cpos pins s1 σ H1 _ I1 q1;rw[hs]at hA ⊢;refine Calls.callWith_builtin (by show(false || (backTo cpos (starEach es X.env)).any (·.1))=false;rw[hplain] <;> rfl) (Calls.evalArgs_plain ?_);exact bj hA fun us s2 ⟨vs,H2,I2,r2,q2⟩=>hm pins s2 σ H2 x vs v us Q I2 r1 r2 q2
end
def Ck (X:Cx)(id:String)(r:V->List V->Hp->VK->Prop):Prop :=
 ∀(pins:List (Addr×Obj)) (s:Shared) (σ:St) (H:Hp) (x:V) (xs:List V) (v:Value) (us:List Value) (Q:VK),aG X pins σ H s->aY x v->aN xs us->r x xs H Q ->
  wpAny (model X.prog X.w) X.A (call (.builtin id) (v :: us)) (EP X pins σ Q) X.xe s
theorem aN.one:∀{x:V} {us:List Value},aN [x] us->∃u,us=[u]/\aY x u
 | _,_,.cons r .nil=>⟨_,rfl,r⟩
theorem aN.two:∀{x y:V} {us:List Value},aN [x,y] us->∃u v,us=[u,v]/\aY x u/\aY y v
 | _,_,_,.cons r (.cons q .nil)=>⟨_,_,rfl,r,q⟩
theorem aN.zero:∀{us:List Value},aN [] us->us=[]
 | _,.nil=>rfl
theorem aN.dropLast {xs:List V}{us:List Value}(h:aN xs us):aN xs.dropLast us.dropLast:=by
 induction h with
 | nil=>exact .nil
 | cons r t ih =>
  cases t with
  | nil=>exact .nil
  | cons q t'=>exact .cons r ih
theorem aN.rep {xs:List V}{us:List Value}(h:aN xs us):∀k:Nat,aN (List.replicate k xs).flatten (List.replicate k us).flatten
 | 0=>.nil
 | k+1=>by
  rw[List.replicate_succ,List.replicate_succ,List.flatten_cons,List.flatten_cons];exact aN.append h (aN.rep h k)
theorem oZ {α:Type}(l:List α):l.eraseIdx (l.length - 1)=l.dropLast:=by
 induction l with
 | nil=>rfl
 | cons a r ih =>
  cases r with
  | nil=>rfl
  | cons b r =>
   have e:(a :: b :: r).length - 1=((b :: r).length - 1)+1:=by
    have h1:(a :: b :: r).length=r.length+2:=rfl;have h2:(b :: r).length=r.length+1:=rfl;omega
   rw[e,List.eraseIdx_cons_succ,ih]
   all_goals rfl
theorem kj (its:List Value):∀(k:Nat) (acc:List Value),
 List.foldl (fun x1 x2=>x1++x2) acc.toArray (List.replicate k its.toArray)=(acc++(List.replicate k its).flatten).toArray
 | 0,acc=>by simp
 | k+1,acc=>by
  have e:acc.toArray++its.toArray=(acc++its).toArray:=by simp
  have e2:(acc++its)++(List.replicate k its).flatten=acc++(List.replicate (k+1) its).flatten:=by
   rw[List.replicate_succ,List.flatten_cons,List.append_assoc]
  rw[<- e2,<- kj its k (acc++its),<- e,List.replicate_succ,List.foldl_cons]
section
variable {X:Cx}{pins:List (Addr×Obj)}{σ:St}{H:Hp}{s:Shared}{l b:Addr}{xs ys zs:List V}
theorem aG.lset {its its':List Value}{n:Nat}{f:Array Value->Array Value}{t':Nat}(I:aG X pins σ H s)(hH:H l=some (.lst xs))
 (e:s.heap.get? l=some { cls:=.type "list",data:=.seq its.toArray n }) (hf:f its.toArray=its'.toArray) (hv:aN ys its') (hz:ys.length<=sizeLine) :
 aG X pins σ (aL H l (.lst ys)) { s with heap:=s.heap.update l (Obj.mapSeq f),toks:=t' }:=by
 have q:=PySem.IsL.update e f;rw[hf]at q;refine I.write (x:=l) (e:=l) (by rw[hH];exact trivial) (.inl rfl) (fun b' u hb hu=>(Heap.get?_update_other s.heap (Obj.mapSeq f) (Ne.symm hb)).trans hu) ⟨_,q⟩ ?_;exact⟨hz,its',_,hv,q⟩
theorem aG.lnew {its:List Value}{t':Nat}(I:aG X pins σ H s)(hv:aN ys its)(hz:ys.length<=sizeLine) :
 aG X pins σ (aL H s.heap.objs.size (.lst ys)) { s with heap:=s.heap.push { cls:=.type "list",data:=.seq its.toArray },toks:=t' } :=
 I.laid (fun Fc Fc q=>Heap.get?_push_of_some _ q) (Nat.le_refl _) ⟨hz,its,0,hv,Heap.get?_push_size _ rfl⟩
theorem aG.fresh (I:aG X pins σ H s):H s.heap.objs.size=none:=I.hok.fresh (Nat.le_refl _)
theorem aG.lstM (I:aG X pins σ H s)(hH:H l=some (.lst xs)):xs.length<=sizeLine/\∃(its:List Value) (n:Nat),aN xs its/\xs.length=its.length/\s.heap.get? l=some { cls:=.type "list",data:=.seq its.toArray n }:=by
 obtain⟨z,its,n,r,e⟩:=I.hok l _ hH;exact⟨z,its,n,r,r.length,e⟩
theorem mV {n:Nat}(h:n<=sizeLine):Builtin.List.listTooLong n=false:=by
 unfold Builtin.List.listTooLong;exact decide_eq_false (by omega)
end
section
variable {X:Cx}
def rAppend:V->List V->Hp->VK->Prop:=fun x vs H Q=>∃l xs y,x = .ref l/\vs=[y]/\H l=some (.lst xs)/\xs.length < sizeLine/\Q .non (aL H l (.lst (xs++[y])))
theorem dS:Ck X "list.append" rAppend:=by
 intro pins s σ H x vs v us Q I rx rv h;obtain⟨l,xs,y,rfl,rfl,hH,hz,q⟩:=h;cases rx;obtain⟨u,rfl,ru⟩:=rv.one;obtain⟨z,its,n,r,hl,e⟩:=I.lstM hH;refine call_meets F.slot_list_append ⟨_,e,rfl⟩ F.entry_list_append (F.args_list_append_2 _ _) (PySem.list_append l its.toArray n u (by rw[List.size_toArray];omega)) ⟨e,?_⟩;refine⟨.non,_,I.lset (its':=its++[u]) hH e (by simp) (r.append (.cons ru .nil)) ?_,rfl,q⟩;rw[List.length_append,List.length_singleton];omega
def rExtend:V->List V->Hp->VK->Prop:=fun x vs H Q=>∃l b xs zs,x = .ref l/\vs=[.ref b]/\H l=some (.lst xs)/\H b=some (.lst zs)/\xs.length+zs.length<=sizeLine/\Q .non (aL H l (.lst (xs++zs)))
theorem z5:Ck X "list.extend" rExtend:=by
 intro pins s σ H x vs v us Q I rx rv h;obtain⟨l,b,xs,zs,rfl,rfl,hH,hB,hz,q⟩:=h;cases rx;obtain⟨u,rfl,ru⟩:=rv.one;cases ru;obtain⟨z,its,n,r,hl,e⟩:=I.lstM hH;obtain⟨z2,its2,n2,r2,hl2,e2⟩:=I.lstM hB;have hsz:its.toArray.size+its2.toArray.size<=sizeLine:=by rw[List.size_toArray,List.size_toArray];omega
 have hlong:¬ (!its.toArray.isEmpty && Builtin.List.listTooLong (its.toArray.size+its2.toArray.size))=true:=by
  rw[mV hsz,Bool.and_false];exact Bool.false_ne_true
 refine call_meets F.slot_list_extend ⟨_,e,rfl⟩ F.entry_list_extend (F.args_list_extend_2 _ _)
  (AutoSeq1.list_extend_list_list_0 l its.toArray n b its2.toArray n2 hlong (by rw[List.size_toArray];omega) (by omega)) ⟨e,e2,?_⟩
 refine⟨.non,_,I.lset (its':=its++its2) hH e (by simp) (r.append r2) ?_,rfl,q⟩;rw[List.length_append];omega
def rPop:V->List V->Hp->VK->Prop:=fun x vs H Q=>∃l xs y,x = .ref l/\vs=[]/\H l=some (.lst xs)/\xs[xs.length - 1]? = some y/\Q y (aL H l (.lst xs.dropLast))
theorem CM:Ck X "list.pop" rPop:=by
 intro pins s σ H x vs v us Q I rx rv h;obtain⟨l,xs,y,rfl,rfl,hH,hy,q⟩:=h;cases rx;have hus:=rv.zero;subst hus;obtain⟨z,its,n,r,hl,e⟩:=I.lstM hH;obtain⟨u,hu,ru⟩:=r.get hy;have hy':its.toArray[its.toArray.size - 1]? = some u:=by
  show its.toArray[its.length - 1]? = some u;rw[<- Array.getElem?_toList,<- hl];exact hu
 refine call_meets F.slot_list_pop ⟨_,e,rfl⟩ F.entry_list_pop (F.args_list_pop_1 _) (MeetsSeq.list_pop_last l its.toArray n u hy' (by rw[List.size_toArray];omega)) ⟨e,?_⟩;refine⟨y,_,I.lset (its':=its.dropLast) hH e ?_ r.dropLast ?_,ru,q⟩
 . show its.toArray.eraseIdxIfInBounds (its.toArray.size - 1)=its.dropLast.toArray;rw[List.size_toArray,List.eraseIdxIfInBounds_toArray,oZ]
 . rw[List.length_dropLast];omega
def rClear:V->List V->Hp->VK->Prop:=fun x vs H Q=>∃l xs,x = .ref l/\vs=[]/\H l=some (.lst xs)/\Q .non (aL H l (.lst []))
theorem tK:Ck X "list.clear" rClear:=by
 intro pins s σ H x vs v us Q I rx rv h;obtain⟨l,xs,rfl,rfl,hH,q⟩:=h;cases rx;have hus:=rv.zero;subst hus;obtain⟨z,its,n,r,hl,e⟩:=I.lstM hH;refine call_meets F.slot_list_clear ⟨_,e,rfl⟩ F.entry_list_clear (F.args_list_clear_1 _) (AutoSeq1.list_clear_list_0 l its.toArray n (by rw[List.size_toArray];omega)) ⟨e,?_⟩;exact⟨.non,_,I.lset (its':=[]) (ys:=[]) hH e rfl .nil (Nat.zero_le _),rfl,q⟩
def rCat:R2:=fun x y H Q=>∃l b xs zs,x = .ref l/\y = .ref b/\H l=some (.lst xs)/\H b=some (.lst zs)/\xs.length+zs.length<=sizeLine/\∀p,H p=none->Q (.ref p) (aL H p (.lst (xs++zs)))
theorem gf:gp X (binaryOp .Add) rCat:=by
 intro pins s σ H x y v u Q I rx ry h;obtain⟨l,b,xs,zs,rfl,rfl,hH,hB,hz,q⟩:=h;cases rx;cases ry;obtain⟨z,its,n,r,hl,e⟩:=I.lstM hH;obtain⟨z2,its2,n2,r2,hl2,e2⟩:=I.lstM hB;refine PySem.P.add_list e e2 ?_ (by rw[List.size_toArray,List.size_toArray];omega);have ea:its.toArray++its2.toArray=(its++its2).toArray:=by simp
 rw[ea];exact⟨.ref _,_,I.lnew (t':=s.toks) (r.append r2) (by rw[List.length_append];omega),rfl,q _ I.fresh⟩
def rRep:R2:=fun x y H Q=>∃l k xs,x = .ref l/\y = .int k/\H l=some (.lst xs)/\-(2 ^ 63)<=k/\k < 2 ^ 63/\xs.length * k.toNat<=sizeLine /\
 ∀p,H p=none->Q (.ref p) (aL H p (.lst (List.replicate k.toNat xs).flatten))
theorem vJ {α:Type}(xs:List α)(k:Nat):(List.replicate k xs).flatten.length=k * xs.length:=by
 induction k with
 | zero=>simp
 | succ k ih=>rw[List.replicate_succ,List.flatten_cons,List.length_append,ih,Nat.succ_mul,Nat.add_comm]
theorem lI:gp X (binaryOp .Mult) rRep:=by
 intro pins s σ H x y v u Q I rx ry h;obtain⟨l,k,xs,rfl,rfl,hH,h1,h2,hz,q⟩:=h;cases rx;obtain⟨t,rfl⟩:=ry;obtain⟨z,its,n,r,hl,e⟩:=I.lstM hH;have hlen:its.toArray.size * k.toNat<=sizeLine:=by rw[List.size_toArray,<- hl];exact hz
 have hcap:¬ its.toArray.size * k.toNat > (2 ^ 63 - 1) / 8:=by
  have:(sizeLine:Nat)<=(2 ^ 63 - 1) / 8:=by decide
  omega
 have hfit:¬ (!Builtin.List.listFitsIndex k)=true:=by
  rw[fitsIndex_both h1 h2];exact Bool.false_ne_true
 have hlong:¬ Builtin.List.listTooLong (its.toArray.size * k.toNat)=true:=by
  rw[mV hlen];exact Bool.false_ne_true
 have hnew:List.foldl (fun x1 x2=>x1++x2) #[] (List.replicate (if its.toArray.isEmpty=true then 0 else k.toNat) its.toArray)=(List.replicate k.toNat its).flatten.toArray:=by
  have f0:∀m:Nat,List.foldl (fun x1 x2=>x1++x2) #[] (List.replicate m its.toArray)=(List.replicate m its).flatten.toArray:=fun m=>by
   have:=kj its m [];rw[List.nil_append]at this;exact this
  rw[f0];cases its with
  | nil=>simp
  | cons a r'=>rw[if_neg (by simp)]
 refine wpAny_binaryOp_repeat_ref (T:="list") (U:="int") (by decide) ⟨_,e,rfl⟩ (fun s'=>typeIs_int s' k t) noFill_list_mul F.fills_int_mul F.slot_int_rmul repeat_list F.slot_int_index.lookup
  (call_meets F.slot_int_rmul (typeIs_int s k t) F.entry_int_rmul (F.args_int_rmul_2 _ _) (int___rmul___int_list k t l its.toArray n)
   ⟨e,rfl,⟨_,e,rfl⟩,call_meets F.slot_list_mul ⟨_,e,rfl⟩ F.entry_list_mul (F.args_list_mul_2 _ _) (AutoListH.list___mul___list_int_3 l its.toArray n k t hfit hcap hlong) ⟨e,?_⟩⟩)
 rw[hnew];exact⟨.ref _,_,I.lnew (t':=s.toks) (r.rep k.toNat) (by rw[vJ,Nat.mul_comm];exact hz),rfl,q _ I.fresh⟩
end
end L2
namespace Att
open PySem PySem.W PySem.Calls PyProof.Rows
theorem iH {P:Params}{h:Heap}:∀(ns:List Int) (vs:List Value),WellAll P h vs (ns.map WData.int)->IntsAre vs ns:=by
 intro ns
 induction ns with
 | nil =>
  intro vs w;rw[List.map_nil]at w;cases w;exact .nil
 | cons n ns ih =>
  intro vs w;rw[List.map_cons]at w;cases w with
  | cons a b =>
   cases a;exact .cons _ _ (ih _ b)
theorem rh {l:OpenLaw}{n:Nat}(hn:l.most=some n){P:Params}{h:Heap}{args:List WData}{vals:List Value}
 (hpre:l.row.toRowW.claim.pre args=true) (hwl:WellAll P h vals args) :
 ∃a vs ns,vals=[Value.ref a]/\args=[WData.list (ns.map WData.int)]/\h.get? a=some { cls:=.type "list",data:=.seq vs.toArray }/\IntsAre vs ns/\ns.length<=n:=by
 have hsh:WShape.hasAll [] args [.list .int]=true:=(pre_splitW hpre).1;have hc:l.pre.holds [] { args:=args } = true:=(pre_splitW hpre).2;obtain⟨d,r,rfl,h1,h2⟩:=hasAllW_cons hsh;obtain rfl:=hasAllW_nil h2;obtain⟨xs,rfl,h3⟩:=hasW_list h1;obtain⟨ns,rfl⟩:=items_int h3;have hlen:ns.length<=n:=by
  unfold OpenLaw.pre at hc;have h4:(WTm.not (.lt (.lit (.int (n:Int))) (.len (.arg 0)))).holds [] { args:=[.list (ns.map .int)] } = true:=by
   have h4:=(holds_andW hc).1;rw[hn]at h4;exact h4
  have h5:=condW_of h4 (w_not (w_lt w_lit (w_len_list (w_arg rfl))));rw[List.length_map]at h5;refine Nat.le_of_not_lt fun q=>?_;have q':(n:Int) < ((ns.length:Nat):Int):=by omega
  first
   | (rw[decide_eq_true q']at h5;exact absurd h5 (by decide))
   | (simp at h5;omega)
 cases hwl with
 | cons w1 w2 =>
  cases w2;cases w1 with
  | list ho hall=>exact⟨_,_,ns,rfl,rfl,ho,iH ns _ hall,hlen⟩
theorem rl (l:OpenLaw)(args:List WData):l.row.toRowW.claim.post args (.bool true) args=true :=
 postW_of (r:=l.row.toRowW) (X:=(true == true))
  (show WShape.has [] (.bool true) .bool=true by first | rfl | decide | simp[WShape.has,WShape.arms,WShape.armsAll])
  (show(WTm.eq .res (.lit (.bool true))).value [] { args:=args,res:=some (.bool true),after:=args } = some (.bool (true == true))from w_eq_bool (w_res rfl) w_lit) rfl
theorem mW {l:OpenLaw}{n:Nat}{q:Program}{loose:List Str}{XP:(Str->Option Value)->Heap->Prop}{YP:World->Heap->Prop}{d:DefRec}
 (hn:l.most=some n) (hdf:d.params.defaults=[])
 (call:∀(w:World) (s₀ s₁:Shared) (mg mb:Str->Option Value) (fa:Addr) (o:Obj) (pm cd doc:Value) (a:Addr) (vs:List Value) (ns:List Int),
  Ground q loose [] XP w s₀ mg mb s₁.heap->YP w s₁.heap ->
  s₁.heap.get? fa=some o->o.data = .func (docDef d.name d.params d.body d.scope pm cd doc)->s₁.heap.CodeRec cd d.name->mg d.name=some (.ref fa) ->
  s₁.heap.get? a=some { cls:=.type "list",data:=.seq vs.toArray }->IntsAre vs ns->ns.length<=n->s₁.gens = #[] ->
  codeAny (model l.prog w) callerA (.call (.ref fa) ⟨[.ref a],[]⟩) (fun r s'=>r = .ok (.ret (.bool true))/\OldK s₁.heap s'.heap/\s'.os=s₁.os/\AllBare s'.gens) s₁) :
 WalkO q loose XP YP l.row.toRowW d [] (fun f vs=>PySem.call f vs):=by
 intro w s₀ s₁ mg mb G Y fa o pm cd doc dV kV ho hd hcd hD hmg hg args vals as hpre hlay hrd hwl hlo;obtain rfl:dV = .none:=Dflts.none hD hdf;obtain rfl:kV = .none:=Dflts.noKw hD;obtain⟨a,vs,ns,rfl,rfl,hobj,hints,hlen⟩:=rh hn hpre hwl;refine enter_call (codeAny_mono (call w s₀ s₁ mg mb fa o pm cd doc a vs ns G Y ho (fd_plain hd) hcd hmg hobj hints hlen hg) fun r s' hq=>?_);obtain⟨rfl,h2,h3,h4⟩:=hq;exact⟨.inl ⟨.bool true,.bool true,[],rfl,fun Fc=>rfl,.bool true,rl l _,fun Fc=>⟨List.Pairwise.nil,fun Fc hm=>(nomatch hm)⟩⟩,h2,h3,h4⟩
end Att
namespace L2
open PySem PySem.Spec PyProof.Rows
theorem km:∀{vs:List Value} {ns:List Int},IntsAre vs ns->aN (ns.map V.int) vs
 | _,_,.nil=>.nil
 | _,_,.cons n t h=>.cons ⟨t,rfl⟩ (km h)
def aV (s:Stmt)(j:Nat):Stmt:=match s with
 | .ClassDef _ _ _ body _ _ _ _ _ _ _=>body.getD j (.Pass ⟨0,0,0,0⟩)
 | _=>.Pass ⟨0,0,0,0⟩
def dj (s:Stmt):Arguments:=match s with
 | .FunctionDef _ a _ _ _ _ _ _ _ _=>a
 | _=>{ posonlyargs:=[],args:=[],vararg:=none,kwonlyargs:=[],kw_defaults:=[],kwarg:=none,defaults:=[] }
def cB (s:Stmt):List Stmt:=match s with
 | .FunctionDef _ _ b _ _ _ _ _ _ _=>b
 | _=>[]
def ai (s:Stmt):Scope:=match s with
 | .FunctionDef _ _ _ _ _ _ sc _ _ _=>sc
 | _=>{ kind:=.function,names:=[],isGenerator:=false,isCoroutine:=false }
abbrev ay:CXT:=fun Fc Fc Fc Fc Fc Fc=>False
abbrev E0:XK:=fun Fc Fc Fc=>False
theorem ao {X:Cx}:fq ay X E0:=fun Fc Fc Fc Fc Fc Fc Fc h=>h.elim
structure bN (K:W.Frag)(x qual:Str)(st:Stmt)(f:Addr)(fd:FuncData):Prop where
 ex:∃(oc:Value) (od:Option Addr) (kV doc pm:Value) (an:Option Addr) (cdv ct:Value) (osl:Array (Option Value)),
  fd=W.fnOf x qual (dj st) (cB st) (ai st) .none kV doc pm an cdv ct/\K.lookup f=some ⟨oc,od,.func fd,osl⟩/\W.codeIn K cdv qual=true
 kp:W.keepIn K (.ref f)=true
section
variable {P:Program}{w:World}{K:W.Frag}{mg:Str->Option Value}{base:Heap}
theorem bN.ok {x qual:Str}{st:Stmt}{f:Addr}{fd:FuncData}{N ps:List Str}{k:Nat}{sp:Sp}{c:Bool}(F:bN K x qual st f fd)(S:aq N ps (ai st))(len:∀vs H Q E,sp vs H Q E->vs.length=ps.length)
 (hbody:∀(cdv:Value) (A:Around) (outer:List Env) (s:Shared) (H:Hp) (vs:List V) (Q:VK) (E:XK),bI k (A.deeper (envOfC qual (ai st) s.heap.objs.size f cdv)) c->sp vs H Q E ->
  ∃t,qY (jd ay P w K mg base N qual (ai st) f cdv A outer s H E c).nox (cB st) t/\t { nx:=fun Fc H'=>Q .non H',rt:=Q } (gz N vs) H):aj P w K mg base ay (k+1) f fd ps sp c:=by
 obtain⟨oc,od,kV,doc,pm,an,cdv,ct,osl,rfl,lk,hcd⟩:=F.ex;refine xf lk hcd S len fun A outer s H vs Q E hr hsp=>?_;obtain⟨t,h,q⟩:=hbody cdv A outer s H vs Q E hr hsp;exact⟨t,h.nox,q⟩
theorem bN.binds {x qual:Str}{st:Stmt}{f:Addr}{fd:FuncData}{ps:List Str}(F:bN K x qual st f fd)
 (h:∀(kV doc pm:Value) (an:Option Addr) (cdv ct:Value) (us:List Value),us.length=ps.length->bindArgs (W.fnOf x qual (dj st) (cB st) (ai st) .none kV doc pm an cdv ct) ⟨us,[]⟩=pure (ps.zip us)):bE K fd ps []:=by
 obtain⟨oc,od,kV,doc,pm,an,cdv,ct,osl,rfl,lk,hcd⟩:=F.ex;exact .all (h kV doc pm an cdv ct)
theorem gX {x qual:Str}{st:Stmt}{f:Addr}{oc:Value}{od an:Option Addr}{osl:Array (Option Value)}{kV doc pm cdv ct:Value}(l:K.lookup f=some ⟨oc,od,.func (W.fnOf x qual (dj st) (cB st) (ai st) .none kV doc pm an cdv ct),osl⟩)
 (c:W.codeIn K cdv qual=true) (k:W.keepIn K (.ref f)=true):bN K x qual st f (W.fnOf x qual (dj st) (cB st) (ai st) .none kV doc pm an cdv ct):=⟨⟨oc,od,kV,doc,pm,an,cdv,ct,osl,rfl,l,c⟩,k⟩
end
theorem dU {A:Around}{k:Nat}{c:Bool}(hr:bI k A c):A.units+1 < cLine:=Nat.lt_of_le_of_lt (Nat.add_le_add_left (by decide:1<=64) _) hr.units
section
variable {X:Cx}
theorem pv (i:Nat){x:Str}{pos:Pos}(hN:X.N[i]? = some x:=by rfl)(hv:Aa X.env.scope x:=by first | exact Or.inl rfl | exact Or.inr (Or.inl rfl) | exact Or.inr (Or.inr rfl))(hd:(x == ("__debug__":Str))=false:=by decide)
 (hcd:(x == ("__classdict__":Str))=false:=by decide):PE X (.Name x pos) (k9 i):=xM hN hv hd hcd
end
theorem br {A B:Prop}(h:B):if false=true then A else B:=by
 rw[if_neg Bool.false_ne_true];exact h
theorem c6 {A B:Prop}(h:A):if true=true then A else B:=by
 rw[if_pos rfl];exact h
theorem dl {c A B:Prop}[Decidable c](h1:c->A)(h2:¬ c->B):if c then A else B:=by
 by_cases h:c
 . rw[if_pos h];exact h1 h
 . rw[if_neg h];exact h2 h
def aE (H H':Hp):Prop:=∀b o,H b=some o->H' b=some o
theorem aE.refl (H:Hp):aE H H:=fun Fc Fc h=>h
theorem aE.trans {H H1 H2:Hp}(a:aE H H1)(b:aE H1 H2):aE H H2:=fun c o h=>b c o (a c o h)
theorem aE.free {H H':Hp}(e:aE H H'){l:Addr}(h:H' l=Option.none):H l=Option.none:=by
 cases q:H l with
 | none=>rfl
 | some o =>
  rw[e l o q]at h;cases h
theorem aE.seq {K:W.Frag}{H H':Hp}{a:Addr}{xs:List V}(e:aE H H')(h:bh K H a xs):bh K H' a xs:=by
 rcases h with(h|⟨o,h⟩)|h
 . exact .inl (.inl (e _ _ h))
 . exact .inl (.inr ⟨o,e _ _ h⟩)
 . exact .inr h
abbrev vK:Value->Shared->Prop:=fun Fc Fc=>False
theorem z6 {α:Type}{M:Model}{A:Around}{t:Sem α}{Q:α->Shared->Prop}{E:Value->Shared->Prop}{s:Shared}(h:wpAny M A t Q vK s):wpAny M A t Q E s:=wpAny_mono h (fun Fc Fc q=>q) fun Fc Fc z=>z.elim
abbrev tL (ifs:List Expr)(env:Env):Sem Bool:=forIn ifs true fun c r=>if r=true then do let ok <- isTrue c env (eval c env);pure (ForInStep.yield ok)else pure (ForInStep.yield r)
section
variable {prog:Program}{w:World}{A:Around}{R:Result->Shared->Prop}{s:Shared}
theorem rm {elt tg iter:Expr}{ifs:List Expr}{sc:Scope}{pos:Pos}{it acc:Value}{env:Env}(I:Nat->Shared->Prop)
 (turn:∀n s,I n s->wpAny (model prog w) A (pyNext it) (fun r s1=>match r with
  | none=>R (.ok .next) s1
  | some v=>wpAny (model prog w) A (letOwnedTupleGo tg it v) (fun Fc s2=>wpAny (model prog w) A (assign tg env v) (fun Fc s3=>wpAny (model prog w) A (tL ifs env) (fun ok s4=>
   if ok=true then wpAny (model prog w) A (eval elt env) (fun x s5=>wpAny (model prog w) A (call (.builtin "list.append") [acc,x]) (fun Fc s6=>∃m,m < n/\I m s6) vK s5) vK s4
   else ∃m,m < n/\I m s4) vK s3) vK s2) vK s1) vK s)
 (n:Nat) (h:I n s):codeAny (model prog w) A (.compLoop (.ListComp elt [⟨tg,iter,ifs,0⟩] sc pos) 0 it acc env) R s:=by
 refine codeAny_loop rfl I (fun n s hI=>?_) n h;show wpAny _ A ((compTurn (.ListComp elt [⟨tg,iter,ifs,0⟩] sc pos) 0 it acc env).onRaise (fun x=>do noteFrame x env;theTreesLotGoes x)) _ _ s;refine wpAny_noted ?_;rw[compTurn_list];refine wpAny_bind (wpAny_standAt (wpAny_bind (z6 (bj (turn n s hI) fun r s1 h1=>?_))));cases r with
 | none=>exact wpAny_pure h1
 | some v =>
  refine wpAny_bind (z6 (bj h1 fun Fc s2 h2=>wpAny_bind (z6 (bj h2 fun Fc s3 h3=>wpAny_bind (z6 (bj h3 fun ok s4 h4=>?_))))));cases ok with
  | false=>exact wpAny_pure ⟨rfl,h4⟩
  | true=>exact wpAny_bind (wpAny_bind (z6 (bj h4 fun x s5 h5=>wpAny_bind (z6 (bj h5 fun Fc s6 h6=>wpAny_pure (wpAny_pure ⟨rfl,h6⟩))))))
end
theorem gg {env:Env}:∀(l:List (Str×NameKind)) (acc:List (Str×Addr)),(∀y∈l,y.2 = .free->∃c,env.cells.lookup y.1=some c)->(∀y c,acc.lookup y=some c->env.cells.lookup y=some c) ->
 ∃cl,(forIn l acc fun x r=>if(x.2 == NameKind.free)=true then(do let c <- cellOf env x.1;pure (ForInStep.yield ((x.1,c) :: r)))else pure (ForInStep.yield r))=(pure cl:Sem (List (Str×Addr))) /\
  (∀y c,cl.lookup y=some c->env.cells.lookup y=some c)/\(∀y∈l,y.2 = .free->∃c,cl.lookup y.1=some c)/\(∀y c,acc.lookup y=some c->∃c',cl.lookup y=some c')
 | [],acc,_,h2=>⟨acc,rfl,h2,(fun Fc z=>nomatch z),(fun Fc c e=>⟨c,e⟩)⟩
 | (n,k) :: r,acc,h1,h2=>by
  rw[List.forIn_cons];by_cases hk:k = .free
  . subst hk;obtain⟨c,hc⟩:=h1 (n,.free) List.mem_cons_self rfl;have e:cellOf env n=pure c:=by
     have hc':env.cells.lookup n=some c:=hc;unfold cellOf;rw[hc']
    obtain⟨cl,q1,q2,q3,q4⟩:=gg r ((n,c) :: acc) (fun y hy=>h1 y (List.mem_cons_of_mem _ hy)) (fun y c' e'=>by
     rw[List.lookup_cons]at e';by_cases hy:(y == n)=true
     . rw[hy]at e';have hn:y=n:=eq_of_beq hy;subst hn;cases e';exact hc
     . rw[Bool.not_eq_true]at hy;rw[hy]at e';exact h2 y c' e')
    refine⟨cl,?_,q2,fun y hy hf=>?_,fun y c' e'=>?_⟩
    . simp only[beq_self_eq_true,if_true,e,pure_bind];exact q1
    . rcases List.mem_cons.mp hy with rfl|hy
      . exact q4 n c (by simp)
      . exact q3 y hy hf
    . by_cases hy:(y == n)=true
      . have hn:y=n:=eq_of_beq hy;subst hn;exact q4 y c (by simp)
      . rw[Bool.not_eq_true]at hy;exact q4 y c' (by rw[List.lookup_cons,hy];exact e')
  . have hb:(k == NameKind.free)=false:=by simpa using hk
    obtain⟨cl,q1,q2,q3,q4⟩:=gg r acc (fun y hy=>h1 y (List.mem_cons_of_mem _ hy)) h2;refine⟨cl,?_,q2,fun y hy hf=>?_,q4⟩
    . simp only[hb,Bool.false_eq_true,if_false,pure_bind];exact q1
    . rcases List.mem_cons.mp hy with rfl|hy
      . exact absurd hf hk
      . exact q3 y hy hf
theorem o0 {env:Env}{sc:Scope}(h:∀y∈sc.names,y.2 = .free->∃c,env.cells.lookup y.1=some c) :
 ∃cl,closureFor sc env=pure cl/\(∀y c,cl.lookup y=some c->env.cells.lookup y=some c)/\∀y∈sc.names,y.2 = .free->∃c,cl.lookup y.1=some c:=by
 obtain⟨cl,q1,q2,q3,_⟩:=gg sc.names [] h (fun Fc Fc z=>nomatch z);refine⟨cl,?_,q2,q3⟩;unfold closureFor;rw[bind_pure];exact q1
theorem lJ {env:Env}{y:Str}{k:NameKind}{sc:Scope}(h:(relabel sc env).names.lookup y=some k):∃k0,sc.names.lookup y=some k0/\(k=k0\/(k0 = .free/\k = .cell)):=by
 have go:∀l:List (Str×NameKind),(l.map fun(n,k)=>if(k == .free && env.scope.kind == .function && env.kindOf n == some .cell)then(n,NameKind.cell)else(n,k)).lookup y=some k->∃k0,l.lookup y=some k0/\(k=k0\/(k0 = .free/\k = .cell)):=by
  intro l
  induction l with
  | nil=>intro z;cases z
  | cons a r ih =>
   obtain⟨n,k1⟩:=a;intro z;rw[List.map_cons]at z;by_cases hc:(k1 == NameKind.free && env.scope.kind == .function && env.kindOf n == some .cell)=true
   . have hf:k1 = .free:=by
      rw[Bool.and_eq_true,Bool.and_eq_true]at hc;simpa using hc.1.1
     simp only[hc,if_true]at z;rw[List.lookup_cons]at z ⊢;by_cases hy:(y == n)=true
     . rw[hy]at z ⊢;cases z;exact⟨k1,rfl,.inr ⟨hf,rfl⟩⟩
     . rw[Bool.not_eq_true]at hy;rw[hy]at z ⊢;exact ih z
   . simp only[hc,Bool.false_eq_true,if_false]at z;rw[List.lookup_cons]at z ⊢;by_cases hy:(y == n)=true
     . rw[hy]at z ⊢;cases z;exact⟨_,rfl,.inl rfl⟩
     . rw[Bool.not_eq_true]at hy;rw[hy]at z ⊢;exact ih z
 exact go sc.names h
theorem lK {env:Env}{y:Str}{sc:Scope}(h:sc.names.lookup y=some .free):(relabel sc env).names.lookup y=some .cell\/(relabel sc env).names.lookup y=some .free:=by
 have go:∀l:List (Str×NameKind),l.lookup y=some .free->(l.map fun(n,k)=>if(k == .free && env.scope.kind == .function && env.kindOf n == some .cell)then(n,NameKind.cell)else(n,k)).lookup y=some .cell \/
  (l.map fun(n,k)=>if(k == .free && env.scope.kind == .function && env.kindOf n == some .cell)then(n,NameKind.cell)else(n,k)).lookup y=some .free:=by
  intro l
  induction l with
  | nil=>intro z;cases z
  | cons a r ih =>
   obtain⟨n,k1⟩:=a;intro z;rw[List.lookup_cons]at z;rw[List.map_cons];by_cases hy:(y == n)=true
   . rw[hy]at z;cases z;by_cases hc:(NameKind.free == NameKind.free && env.scope.kind == .function && env.kindOf n == some .cell)=true
     . simp only[hc,if_true];exact .inl (by rw[List.lookup_cons,hy])
     . simp only[hc,Bool.false_eq_true,if_false];exact .inr (by rw[List.lookup_cons,hy])
   . rw[Bool.not_eq_true]at hy;rw[hy]at z;by_cases hc:(k1 == NameKind.free && env.scope.kind == .function && env.kindOf n == some .cell)=true
     . simp only[hc,if_true];rw[List.lookup_cons,hy];exact ih z
     . simp only[hc,Bool.false_eq_true,if_false];rw[List.lookup_cons,hy];exact ih z
 exact go sc.names h
abbrev bx (X:Cx)(N:List Str)(sc:Scope)(cl:List (Str×Addr))(C:Addr)(s:Shared)(H:Hp)(ex:List Addr)(pn:List (Addr×Obj)):Cx :=
 { prog:=X.prog,w:=X.w,K:=X.K,mg:=X.mg,base:=X.base,A:=X.A,N:=N,s₀:=s,H₀:=H,env:=compEnvC sc cl C X.env,outer:=X.stack,stack:=X.stack,ex:=ex,fn:=fun Fc=>false,calm:=X.calm,pn:=pn,xe:=fun Fc Fc=>False }
def xY (X:Cx)(ifs:List Expr)(t:TT):Prop :=
 ∀(pins:List (Addr×Obj)) (s:Shared) (σ:St) (H:Hp) (Q:Bool->Hp->Prop),aG X pins σ H s->t σ H Q->wpAny (model X.prog X.w) X.A (tL ifs X.env) (TP X pins σ Q) X.xe s
def tTrue:TT:=fun Fc H Q=>Q true H
theorem tM {σ:St}{H:Hp}{A B:Hp->Prop}(h:A H):tTrue σ H (fun b H4=>if b=true then A H4 else B H4):=by
 show if true=true then A H else B H
 rw[if_pos rfl];exact h
theorem cD {X:Cx}:xY X [] tTrue:=fun Fc Fc Fc H Fc I h=>wpAny_tests_nil ⟨H,I,h⟩
theorem qt {X:Cx}{c:Expr}{t:TT}(hc:PT X c t):xY X [c] t:=fun pins s σ H Q I h=>wpAny_tests_one (hc pins s σ H Q I h)
def gY (σ:St)(caps:List Nat):St:=caps.map fun i=>(σ[i]?).getD none
def ft (J:It)(p:Addr)(tt:TT)(te:TE)(cs:St)(Q:VK)(H1:Hp):Prop:=∃W:Nat->Nat->List V->Hp->Prop,(∃m,W 0 m [] (aL H1 p (.lst [])))/\∀i m ys H2,W i m ys H2 ->
 (J.stop i H2/\Q (.ref p) H2)\/(J.go i H2/\∃N:List V->Hp->Prop,(∀ys' H',N ys' H'->∃m',m' < m/\W (i+1) m' ys' H') /\
  ∀v H3,J.yld i H2 v H3->tt (some v :: cs) H3 fun b H4=>if b=true then te (some v :: cs) H4 fun y H5=>H5 p=some (.lst ys)/\ys.length < sizeLine/\N (ys++[y]) (aL H5 p (.lst (ys++[y])))else N ys H4)
def tN (CW:It->Addr->St->VK->Hp->Prop)(wi:TI)(caps:List Nat):TE:=fun σ H Q=>wi σ H fun J H1=>∀p,H1 p=none->CW J p (gY σ caps) Q H1
def xg (wi:TI)(tt:TT)(te:TE)(caps:List Nat):TE:=fun σ H Q=>wi σ H fun J H1=>∀p,H1 p=none->ft J p tt te (gY σ caps) Q H1
theorem fN {J:It}{p:Addr}{tt:TT}{te:TE}{cs:St}{Q:VK}{H1:Hp}(n:Nat)(Pv:Nat->List V->Hp->Prop)(h0:Pv 0 [] (aL H1 p (.lst [])))
 (hs:∀i ys H,i < n->Pv i ys H->J.go i H/\∀v H3,J.yld i H v H3->tt (some v :: cs) H3 fun b H4=>if b=true then te (some v :: cs) H4 fun y H5=>H5 p=some (.lst ys)/\ys.length < sizeLine/\Pv (i+1) (ys++[y]) (aL H5 p (.lst (ys++[y])))else Pv (i+1) ys H4)
 (hd:∀ys H,Pv n ys H->J.stop n H/\Q (.ref p) H):ft J p tt te cs Q H1:=by
 refine⟨fun i m ys H=>m=n - i/\i<=n/\Pv i ys H,⟨n,by simp,Nat.zero_le _,h0⟩,?_⟩;rintro i m ys H ⟨rfl,hi,pv⟩;by_cases hlt:i < n
 . obtain⟨g,st⟩:=hs i ys H hlt pv;exact .inr ⟨g,Pv (i+1),fun ys' H' p'=>⟨n - (i+1),by omega,rfl,hlt,p'⟩,st⟩
 . have e:i=n:=by omega
   subst e;exact .inl (hd ys H pv)
def As (z:Str):It:=⟨fun i Fc=>i < z.length,fun i H x H'=>H'=H/\∃c,z.cps[i]? = some c/\x = .str ⟨#[c]⟩,fun i Fc=>z.length<=i⟩
theorem pb {P:Program}{w:World}{K:W.Frag}{tg:Expr}(z:Str)(t:Tok)(it:Addr):mK P w K tg (As z) [it] it (fun i h=>h.IsStrIter it "str_ascii_iterator" z t i) where
 mem:=by simp
 obj:=fun i h st b hb=>by
  have e:b=it:=by simpa using hb
  subst e;obtain⟨o,e,c,d⟩:=st;exact⟨o,e,fun v z=>by rw[d]at z;cases z⟩
 keep:=fun i h h' st k=>by
  obtain⟨o,e,r⟩:=st;exact⟨o,k it (by simp) o e,r⟩
 item:=by
  intro X hP hw hK s hc i pins σ H E I hf st hg;subst hP hw hK;obtain⟨f0,f1,f2,f3,f4,f5⟩:=hf it (by simp);have hi:i < z.cps.size:=hg;refine wpAny_pyNext_ascii_item st (c:=z.cps[i]) (by simp[hi]) fun h' st' sb=>?_;have I1:aG X pins σ H { s with heap:=h',toks:=s.toks+1 }:=I.turned (fun b o hb e=>(sb.2 b hb).trans e) f0 f1 f3 f4 f5;obtain⟨o,e,c,d⟩:=id st';exact⟨_,rfl,i8 (s:={ s with heap:=h',toks:=s.toks+1 }) e c d (by decide) ⟨.str ⟨#[z.cps[i]]⟩,H,I1,⟨_,rfl⟩,⟨rfl,_,by simp[hi],rfl⟩,st',fun b hb=>(hf b hb).1⟩⟩
 done:=by
  intro X hP hw hK s hc i pins σ H E I hf st hg;subst hP hw hK;obtain⟨f0,f1,f2,f3,f4,f5⟩:=hf it (by simp);have hi:z.cps.size<=i:=hg;exact wpAny_pyNext_ascii_end hc.none st (by simp[hi]) fun h' eb=>⟨rfl,I.turned (t':=s.toks) (fun b o hb e=>eb b o hb e) f0 f1 f3 f4 f5⟩
 self:=fun Fc Fc Fc Fc Fc st h=>wpAny_pyIter_striter_ascii st h
theorem rn {P:Program}{w:World}{K:W.Frag}{tg:Expr}(z:Str)(t:Tok)(it:Addr):mK P w K tg (As z) [it] it (fun i h=>h.IsStrIter it "str_iterator" z t i) where
 mem:=by simp
 obj:=fun i h st b hb=>by
  have e:b=it:=by simpa using hb
  subst e;obtain⟨o,e,c,d⟩:=st;exact⟨o,e,fun v z=>by rw[d]at z;cases z⟩
 keep:=fun i h h' st k=>by
  obtain⟨o,e,r⟩:=st;exact⟨o,k it (by simp) o e,r⟩
 item:=by
  intro X hP hw hK s hc i pins σ H E I hf st hg;subst hP hw hK;obtain⟨f0,f1,f2,f3,f4,f5⟩:=hf it (by simp);have hi:i < z.cps.size:=hg;refine wpAny_pyNext_wide_item st (c:=z.cps[i]) (by simp[hi]) fun h' st' sb=>?_;have I1:aG X pins σ H { s with heap:=h',toks:=s.toks+1 }:=I.turned (fun b o hb e=>(sb.2 b hb).trans e) f0 f1 f3 f4 f5;obtain⟨o,e,c,d⟩:=id st';exact⟨_,rfl,i8 (s:={ s with heap:=h',toks:=s.toks+1 }) e c d (by decide) ⟨.str ⟨#[z.cps[i]]⟩,H,I1,⟨_,rfl⟩,⟨rfl,_,by simp[hi],rfl⟩,st',fun b hb=>(hf b hb).1⟩⟩
 done:=by
  intro X hP hw hK s hc i pins σ H E I hf st hg;subst hP hw hK;obtain⟨f0,f1,f2,f3,f4,f5⟩:=hf it (by simp);have hi:z.cps.size<=i:=hg;exact wpAny_pyNext_wide_end hc.none st (by simp[hi]) fun h' eb=>⟨rfl,I.turned (t':=s.toks) (fun b o hb e=>eb b o hb e) f0 f1 f3 f4 f5⟩
 self:=fun Fc Fc Fc Fc Fc st h=>wpAny_pyIter_striter_wide st h
def CN (tl:TE):TI:=fun σ H R=>tl σ H fun x H1=>∃z,x = .str z/\R (As z) H1
theorem xZ {X:Cx}{tg l:Expr}{tl:TE}(hl:PE X l tl):PI X tg l (CN tl):=by
 intro pins s σ H R I h;refine bj (hl pins s σ H _ I h) fun v s1 ⟨x,H1,I1,r1,q1⟩=>?_;obtain⟨z,e,q⟩:=q1;subst e;obtain⟨t,rfl⟩:=r1;have hf:H1 s1.heap.objs.size=none:=I1.hok.fresh (Nat.le_refl _);cases ha:z.cps.all (· < 128)
 . refine wpAny_pyIter_wide ha ?_;exact⟨s1.heap.objs.size,[s1.heap.objs.size],_,As z,H1,rfl,I1.kept (t':=s1.toks) fun b u e=>Heap.get?_push_of_some _ e,rn z t _,⟨_,Heap.get?_push_size _ rfl,rfl,rfl⟩,fun b hb=>by
    have e:b=s1.heap.objs.size:=by simpa using hb
    subst e;exact I1.fpOk (Nat.le_refl _) hf,q⟩
 . refine wpAny_pyIter_ascii ha ?_;exact⟨s1.heap.objs.size,[s1.heap.objs.size],_,As z,H1,rfl,I1.kept (t':=s1.toks) fun b u e=>Heap.get?_push_of_some _ e,pb z t _,⟨_,Heap.get?_push_size _ rfl,rfl,rfl⟩,fun b hb=>by
    have e:b=s1.heap.objs.size:=by simpa using hb
    subst e;exact I1.fpOk (Nat.le_refl _) hf,q⟩
section
variable {X:Cx}
theorem cU:cT X (.builtin "isinstance") (fun vs H Q=>∃x T t b,vs=[x,.ty T]/\gc X.K H x t/\W.kitOne X.K t (.type T)=some b/\Q (.bl b) H):=by
 intro pins s σ H xs us Q I r h;obtain⟨x,T,t,b,rfl,ty,e,q⟩:=h;obtain⟨u,v,rfl,rx,rv⟩:=r.two;cases (show v=Value.type T from rv);exact re I rx ty e fun tk=>⟨.bl b,H,I.tok tk,rfl,q⟩
theorem je {ys:List Str}:∀{us:List Value},aN (ys.map V.str) us->StrsAre us ys:=by
 induction ys with
 | nil=>intro us r;rw[List.map_nil]at r;cases r;exact .nil
 | cons y ys ih =>
  intro us r;rw[List.map_cons]at r;cases r with
  | cons r1 r2 =>
   obtain⟨t,e⟩:=r1;subst e;exact .cons y t (ih r2)
def Au (K:W.Frag):V->List V->Hp->VK->Prop:=fun x xs H Q=>∃z p ys,x = .str z/\xs=[.ref p]/\bh K H p (ys.map V.str)/\(ys.map (·.length)).sum+ys.length * z.length<=16777216/\Q (.str (Txt.join z ys)) H
theorem lM:Cj X "str.join" (Au X.K):=by
 intro pins s σ H x xs v us Q I rx rs h;obtain⟨z,p,ys,rfl,rfl,hq,hz,q⟩:=h;obtain⟨t,rfl⟩:=rx;obtain⟨u,rfl,ru⟩:=rs.one;cases ru;obtain⟨its,r,pl,_⟩:=I.list hq;exact join_list pl.isList (je (by simpa using r)) hz fun t' k=>⟨.str _,H,I.tok k,⟨_,rfl⟩,q⟩
def jL:List V->List V->Bool
 | [],[]=>true
 | x :: xs,y :: ys=>vI x y && jL xs ys
 | _,_=>false
theorem jf:∀{xs ys:List V},xs.length≠ys.length->jL xs ys=false
 | [],[],h=>absurd rfl h
 | [],_ :: _,_=>rfl
 | _ :: _,[],_=>rfl
 | x :: xs,y :: ys,h=>by
  have h':xs.length≠ys.length:=fun e=>h (by rw[List.length_cons,List.length_cons,e]);show(vI x y && jL xs ys)=false;rw[jf h',Bool.and_false]
def gA (xs ys:List V)(j:Nat):Bool:=match xs[j]?,ys[j]? with
 | some a,some b=>vI a b
 | _,_=>false
theorem gZ:∀{xs ys:List V},xs.length=ys.length->(List.range xs.length).all (gA xs ys)=jL xs ys
 | [],[],_=>rfl
 | [],_ :: _,h=>by simp at h
 | _ :: _,[],h=>by simp at h
 | x :: xs,y :: ys,h=>by
  have h':xs.length=ys.length:=by simpa using h
  rw[List.length_cons,List.range_succ_eq_map,List.all_cons,List.all_map];have e:((gA (x :: xs) (y :: ys)) ∘ Nat.succ)=gA xs ys:=by
   funext j
   simp[gA]
  rw[e,gZ h'];rfl
theorem jg {A:Around}{s:Shared}{xs ys:List V}{us vs:List Value}(r:aN xs us)(q:aN ys vs)(fx:xs.all im=true)(fy:ys.all im=true)(j:Nat)(h1:j < us.toArray.size)(h2:j < vs.toArray.size) :
 SeqAt.EqAt A s us.toArray[j] vs.toArray[j] (gA xs ys j):=by
 have l1:=r.length;have l2:=q.length;have h1':j < xs.length:=by rw[l1];simpa using h1
 have h2':j < ys.length:=by rw[l2];simpa using h2
 obtain⟨u,eu,ru⟩:=r.get (i:=j) (x:=xs[j]) (by simp[h1']);obtain⟨v,ev,rv⟩:=q.get (i:=j) (x:=ys[j]) (by simp[h2']);have e1:us.toArray[j]=u:=by
  obtain⟨_,e⟩:=List.getElem?_eq_some_iff.mp eu;simpa using e
 have e2:vs.toArray[j]=v:=by
  obtain⟨_,e⟩:=List.getElem?_eq_some_iff.mp ev;simpa using e
 have e3:gA xs ys j=vI xs[j] ys[j]:=by simp[gA,h1',h2']
 rw[e1,e2,e3];exact xW ru rv (List.all_eq_true.mp fx _ (List.getElem_mem h1')) (List.all_eq_true.mp fy _ (List.getElem_mem h2'))
def Av (K:W.Frag)(neg:Bool):R2:=fun x y H Q=>∃a b xs ys,x = .ref a/\y = .ref b/\bh K H a xs/\bh K H b ys/\xs.all im=true/\ys.all im=true/\Q (.bl (if neg then !jL xs ys else jL xs ys)) H
theorem x8 (hu:X.A.units < cLine):gp X (compareOp .Eq) (Av X.K false):=by
 intro pins s σ H x y v u Q I rx ry h;obtain⟨a,b,xs,ys,rfl,rfl,ha,hb,fx,fy,q⟩:=h;cases rx;cases ry;obtain⟨its,r1,p1,_⟩:=I.list ha;obtain⟨its2,r2,p2,_⟩:=I.list hb;have l1:=r1.length;have l2:=r2.length;by_cases hl:xs.length=ys.length
 . refine SeqAt.eq_listAt (e:=gA xs ys) p1.isList p2.isList (by simp;omega) hu (fun j h1 h2=>jg r1 r2 fx fy j h1 h2) ⟨.bl _,H,I,rfl,?_⟩;rw[List.size_toArray,<- l1,gZ hl];exact q
 . refine SeqAt.eq_list_lengthsAt p1.isList p2.isList (by simp;omega) hu ⟨.bl false,H,I,rfl,?_⟩;have e:=jf hl;simp only[e]at q;exact q
theorem pe (hu:X.A.units < cLine):gp X (compareOp .NotEq) (Av X.K true):=by
 intro pins s σ H x y v u Q I rx ry h;obtain⟨a,b,xs,ys,rfl,rfl,ha,hb,fx,fy,q⟩:=h;cases rx;cases ry;obtain⟨its,r1,p1,_⟩:=I.list ha;obtain⟨its2,r2,p2,_⟩:=I.list hb;have l1:=r1.length;have l2:=r2.length;by_cases hl:xs.length=ys.length
 . refine SeqAt.RcNeAt.lists (e:=gA xs ys) p1.isList p2.isList (by simp;omega) hu (fun j h1 h2=>jg r1 r2 fx fy j h1 h2) _ _ _ _ ⟨.bl _,H,I,rfl,?_⟩;rw[List.size_toArray,<- l1,gZ hl];exact q
 . refine SeqAt.RcNeAt.lists_lengths p1.isList p2.isList (by simp;omega) hu _ _ _ _ ⟨.bl true,H,I,rfl,?_⟩;have e:=jf hl;simp only[e]at q;exact q
end
end L2
namespace L2
open PySem PySem.Spec PyProof.Rows PySem.W
section
variable {prog:Program}{w:World}{A:Around}{E:Value->Shared->Prop}{h:Heap}{g:Array GenState}{d:Drawn}{t:Nat}{os:OsState}{nm q:Str}{C N fI:Addr}{bs bm bmB rest:List Value}{hdct:Bool}{sn:List Str}{sub:List Value}
 {ab:Bool} {col:Option Bool} {dd:Option Addr} {k0 k1 k2 k3 k5:Option Value} {B newId initId:String}
end
section
variable {M:Model}{A:Around}{E:Value->Shared->Prop}{h:Heap}{g:Array GenState}{d:Drawn}{t:Nat}{os:OsState}{nm q:Str}{C N:Addr}{bs bm:List Value}{hdct:Bool}{sn:List Str}{sub:List Value}
 {ab:Bool} {col:Option Bool} {dd:Option Addr} {k0 k1 k2 k3 k5:Option Value} {newId:String} {env:Env}
variable {nm2 q2:Str}{D N2:Addr}{bs2 bm2:List Value}{hdct2:Bool}{sn2:List Str}{sub2:List Value}{ab2:Bool}{col2:Option Bool}{dd2:Option Addr}{j0 j1 j2 j3 j5:Option Value}{newId2:String}
end
end L2
namespace L2
open PySem PySem.Spec PyProof.Rows
section
variable {X:Cx}
def rSplit:V->List V->Hp->VK->Prop:=fun x xs H Q=>∃z y,x = .str z/\xs=[.str y]/\(y.length == 0)=false/\z.length+2<=sizeLine/\∀p,H p=none->Q (.ref p) (aL H p (.lst ((Txt.split z y).map V.str)))
theorem ko:∀(l:List (Str×Tok)),aN ((l.map (·.1)).map V.str) (strValues l)
 | []=>.nil
 | p :: l=>.cons ⟨p.2,rfl⟩ (ko l)
theorem rp (z y:Str):(Txt.split z y).length<=z.length+2:=by
 unfold Txt.split;split
 . simp
 . split
   . simp
   . rw[length_partsBetween];have:=StrLaws.occ_length_le z y 0 z.length (z.length+1);omega
theorem tO:Cj X "str.split" rSplit:=by
 intro pins s σ H x xs v us Q I rx rs h;obtain⟨z,y,rfl,rfl,hy,hz,q⟩:=h;obtain⟨t,rfl⟩:=rx;obtain⟨u,rfl,ru⟩:=rs.one;obtain⟨t',rfl⟩:=ru;have hn:=rp z y;have hn2:(Builtin.Str.partsBetween z (Builtin.Str.occurrences z y 0 z.length (z.length+1)) y.length).length<=sizeLine:=by
  rw[length_partsBetween];have:=StrLaws.occ_length_le z y 0 z.length (z.length+1);omega
 have fin:∀(l:List (Str×Tok)) (k:Nat),l.map (·.1)=Txt.split z y->EP X pins σ Q (.ref s.heap.objs.size) { s with heap:=s.heap.push { cls:=.type "list",data:=.seq (strValues l).toArray },toks:=k }:=fun l k e=>
  ⟨.ref s.heap.objs.size,_,I.lnew (its:=strValues l) (ys:=(Txt.split z y).map V.str) (t':=k) (by rw[<- e];exact ko l) (by rw[List.length_map];omega),rfl,q _ I.fresh⟩
 have tz:=typeIs_str s z t;have ag:=F.args_str_split_2 (.str z t) (.str y t');cases c1:(decide (z.length < y.length) || decide (Builtin.Str.strKind z < Builtin.Str.strKind y))with
 | true=>exact call_meets F.slot_str_split tz F.entry_str_split ag (meets_str_split_cannot_occur z y t t' c1) (fin [(z,t)] s.toks (by unfold Txt.split;rw[if_pos c1];rfl))
 | false =>
  cases c2:(Builtin.Str.occurrences z y 0 z.length (z.length+1)).isEmpty with
  | true=>exact call_meets F.slot_str_split tz F.entry_str_split ag (meets_str_split_not_found z y t t' c1 hy c2) (fin [(z,t)] s.toks (by unfold Txt.split;rw[if_neg (by rw[c1];decide),if_pos c2];rfl))
  | false =>
   refine call_meets F.slot_str_split tz F.entry_str_split ag (meets_str_split_sep z y t t' c1 hy c2 (by omega) hn2) ?_;have e:=fin (numbered s.toks (Builtin.Str.partsBetween z (Builtin.Str.occurrences z y 0 z.length (z.length+1)) y.length)) (s.toks+(Builtin.Str.partsBetween z (Builtin.Str.occurrences z y 0 z.length (z.length+1)) y.length).length)
    (by rw[numbered_texts];unfold Txt.split;rw[if_neg (by rw[c1];decide),if_neg (by rw[c2];decide)])
   rw[<- strsFrom_eq]at e;exact e
theorem ph (z y:Str):Txt.join y (Txt.split z y)=z:=by
 unfold Txt.split;split
 . rfl
 . split
   . rfl
   . exact StrLaws.glued_between_self z y (z.length+1)
theorem ip:∀{bs:List Bool} {us:List Value},aN (bs.map V.bl) us->us=bs.map Value.bool
 | [],us,r=>by
  rw[List.map_nil]at r;cases r;rfl
 | b :: bs,us,r=>by
  rw[List.map_cons]at r;cases r with
  | cons r1 r2 =>
   cases (show _=Value.bool b from r1);rw[ip r2,List.map_cons]
theorem jh (hh:X.A.handled=none):cT X (.builtin "all") (fun vs H Q=>∃(p:Addr) (bs:List Bool),vs=[.ref p]/\bh X.K H p (bs.map V.bl)/\Q (.bl (bs.all id)) H):=by
 intro pins s σ H xs us Q I r h;obtain⟨p,bs,rfl,hq,q⟩:=h;obtain⟨u,rfl,ru⟩:=r.one;cases ru;obtain⟨its,r1,p1,_⟩:=I.list hq;cases ip r1;have hl:s.heap.IsList p (bs.map Value.bool).toArray:=p1.isList;have hlt:p < s.heap.objs.size:=by obtain⟨_,e,_⟩:=hl;exact Heap.lt_size e
 refine call_all_walk (wpAny_pyIter_list hl ?_);refine⟨_,_,_,_,_,_,fun i=>bs.getD i true,rfl,Walks.list (A:=X.A.in1) hh _ p (Nat.ne_of_lt hlt) (bs.map Value.bool).toArray,⟨⟨_,Heap.get?_push_size _ rfl,rfl,rfl⟩,hl.push _⟩,?_,fun h' tk hk=>?_⟩
 . intro i v s' Q' E' hi hq';have hi':(bs.map Value.bool)[i]? = some v:=by simpa using hi
   rw[List.getElem?_map]at hi';cases e:bs[i]? with
   | none=>rw[e]at hi';cases hi'
   | some b =>
    rw[e]at hi';cases hi';have eb:bs.getD i true=b:=by simp[List.getD,e]
    have hq2:Q' b s':=by rw[<- eb];exact hq'
    exact wpAny_truthy_bool hq2
 . have ea:(List.range (bs.map Value.bool).toArray.size).all (fun i=>bs.getD i true)=bs.all id:=by
    have:(List.range bs.length).map (fun i=>bs.getD i true)=bs:=by
     apply List.ext_getElem
     . simp
     . intro n h1 h2;simp[List.getD,List.getElem?_eq_getElem h2]
    calc _=((List.range bs.length).map (fun i=>bs.getD i true)).all id:=by rw[List.all_map];simp
     _=bs.all id:=by rw[this]
   rw[ea];exact⟨.bl _,H,I.kept (h':=h') (t':=tk) (fun b o e=>hk b o (by simp;exact Nat.ne_of_lt (Heap.lt_size e)) (Heap.get?_push_of_some _ e)),rfl,q⟩
end
section
variable {P:Program}{w:World}{K:W.Frag}{mg:Str->Option Value}{base:Heap}
theorem ah {H:Hp}{p:Addr}(h:H p=none)(o:HO):aE H (aL H p o):=fun b u q=>by rw[am (a9 q h)];exact q
theorem ba {H H':Hp}{p:Addr}(s:aE H H')(h:H p=none)(o:HO):aE H (aL H' p o):=fun b u q=>by rw[am (a9 q h)];exact s b u q
theorem bg {n:Nat}(h:n<=100000):n < sizeLine:=Nat.lt_of_le_of_lt h (by decide)
theorem g7 {α β:Type}(f:α->β){l:List α}{i:Nat}{c:α}(h:l[i]? = some c):(l.take (i+1)).map f=(l.take i).map f++[f c]:=by
 rw[List.take_add_one,h,List.map_append];rfl
theorem tP {x:Str}{i c:Nat}(h:x.cps[i]? = some c):x.cps.toList[i]? = some c:=by simpa using h
theorem g8 (x:Str):x.cps.toList.length=x.length:=by simp[Str.length]
theorem kq {a p:Addr}{xs:List V}{tt:TT}{te:TE}{cs:St}{Q:VK}{H1:Hp}(Pv:Nat->List V->Hp->Prop)(h0:Pv 0 [] (aL H1 p (.lst [])))(hl:∀i ys H,i<=xs.length->Pv i ys H->bh K H a xs)
 (hs:∀i x ys H,xs[i]? = some x->Pv i ys H->tt (some x :: cs) H fun b H4=>if b=true then te (some x :: cs) H4 fun y H5=>H5 p=some (.lst ys)/\ys.length < sizeLine/\Pv (i+1) (ys++[y]) (aL H5 p (.lst (ys++[y])))else Pv (i+1) ys H4)
 (hd:∀ys H,Pv xs.length ys H->Q (.ref p) H):ft (xR K a) p tt te cs Q H1 :=
 fN xs.length Pv h0 (fun i ys H hi pv=>⟨⟨xs,xs[i],hl i ys H (Nat.le_of_lt hi) pv,by simp[hi]⟩,fun v H3 ⟨e,y⟩=>by
  subst e;exact hs i v ys _ (y xs (hl i ys _ (Nat.le_of_lt hi) pv)) pv⟩) fun ys H pv=>⟨⟨xs,hl _ ys H (Nat.le_refl _) pv,Nat.le_refl _⟩,hd ys H pv⟩
theorem gB {H:Hp}{p q:Addr}{o:HO}(h:aL H p o q=none):q≠p/\H q=none:=by
 have n:q≠p:=fun z=>by rw[z,aa]at h;cases h
 rw[am n]at h;exact⟨n,h⟩
structure bG (K:W.Frag)(mg:Str->Option Value)(x:Str)(st:Stmt)(ps:List Str)(f:Addr)(fd:FuncData):Prop where
 fn:bN K x x st f fd
 bd:bE K fd ps []
 nm:mg x=some (.ref f)
end
end L2
namespace L2
open PySem PyProof.Rows
theorem lN {i:Nat}{v:V}{σ:St}{H:Hp}{k:St->Hp->Prop}(h:k (σ.set i (some v)) H):dH i v σ H k:=h
theorem vL {ns:List Int}{lo hi:Option Int}{i:Nat}{x:V}(h:(dR (ns.map V.int) lo hi)[i]? = some x):∃c,x = .int c:=by
 have m:=List.mem_of_getElem? h;unfold dR at m;obtain⟨c,_,e⟩:=List.mem_map.mp (List.mem_of_mem_drop (List.mem_of_mem_take m));exact⟨c,e.symm⟩
end L2
namespace L2
open PySem PySem.Spec PyProof.Rows
section
variable {κ:Type}[DecidableEq κ]
def bB (kvs:List (κ×V))(k:κ):Option V:=(kvs.find? fun kv=>decide (kv.1=k)).map (·.2)
def c7 (kvs:List (κ×V))(k:κ)(v:V):List (κ×V) :=
 if(kvs.any fun kv=>decide (kv.1=k))=true then kvs.map (fun kv=>if kv.1=k then(kv.1,v)else kv)else kvs++[(k,v)]
theorem bY {p:κ×V}{r:List (κ×V)}{k:κ}(e:p.1=k):bB (p :: r) k=some p.2:=by simp[bB,List.find?_cons,e]
theorem bZ {p:κ×V}{r:List (κ×V)}{k:κ}(e:¬ p.1=k):bB (p :: r) k=bB r k:=by simp[bB,List.find?_cons,e]
theorem dX (k:κ):∀kvs:List (κ×V),(kvs.any fun kv=>decide (kv.1=k))=(bB kvs k).isSome
 | []=>rfl
 | p :: r=>by
  rw[List.any_cons];by_cases e:p.1=k
  . simp only[bY e,decide_eq_true e,Bool.true_or,Option.isSome_some]
  . rw[bZ e,decide_eq_false e,Bool.false_or];exact dX k r
theorem mX (k j:κ)(y:V):∀kvs:List (κ×V),bB (kvs.map fun kv=>if kv.1=k then(kv.1,y)else kv) j=(bB kvs j).map fun x=>if j=k then y else x
 | []=>rfl
 | p :: r=>by
  have ih:=mX k j y r;rw[List.map_cons];by_cases h:p.1=k
  . rw[if_pos h];by_cases e:p.1=j
    . rw[bY (p:=(p.1,y)) e,bY e,Option.map_some,if_pos (e.symm.trans h)]
    . rw[bZ (p:=(p.1,y)) e,bZ e,ih]
  . rw[if_neg h];by_cases e:p.1=j
    . rw[bY (p:=p) e,bY e,Option.map_some,if_neg (fun z=>h (e.trans z))]
    . rw[bZ (p:=p) e,bZ e,ih]
theorem kr (k j:κ)(y:V):∀kvs:List (κ×V),bB kvs k=none->bB (kvs++[(k,y)]) j=if j=k then some y else bB kvs j
 | [],_=>by
  by_cases e:k=j
  . rw[if_pos e.symm];exact bY (p:=(k,y)) e
  . rw[if_neg (fun z=>e z.symm)];exact bZ (p:=(k,y)) e
 | p :: r,hn=>by
  rw[List.cons_append];have hk:¬ p.1=k:=fun z=>by rw[bY z]at hn;cases hn
  rw[bZ hk]at hn;have ih:=kr k j y r hn;by_cases e:p.1=j
  . rw[bY e,bY e,if_neg (fun z=>hk (e.trans z))]
  . rw[bZ e,bZ e,ih]
theorem tQ (kvs:List (κ×V))(k j:κ)(y:V):bB (c7 kvs k y) j=if j=k then some y else bB kvs j:=by
 unfold c7;by_cases a:(kvs.any fun kv=>decide (kv.1=k))=true
 . rw[if_pos a,mX];rw[dX]at a;by_cases e:j=k
   . obtain⟨x,hx⟩:=Option.isSome_iff_exists.mp a;rw[if_pos e,e,hx,Option.map_some,if_pos rfl]
   . rw[if_neg e];cases bB kvs j with
     | none=>rfl
     | some x=>rw[Option.map_some,if_neg e]
 . rw[if_neg a];refine kr k j y kvs ?_;rw[dX]at a;cases q:bB kvs k with
   | none=>rfl
   | some x=>rw[q]at a;exact(a rfl).elim
theorem iq (kvs:List (κ×V))(k:κ)(v:V):(c7 kvs k v).length<=kvs.length+1:=by
 unfold c7;split
 . rw[List.length_map];omega
 . rw[List.length_append,List.length_cons,List.length_nil];omega
theorem eU.isSome_eq {o:Option V}{u:Option Value}(r:eU o u):o.isSome=u.isSome:=by
 cases o with
 | none=>cases u with
  | none=>rfl
  | some _=>exact(show False from r).elim
 | some _=>cases u with
  | none=>exact(show False from r).elim
  | some _=>rfl
theorem eU.getD {o:Option V}{u:Option Value}{d:V}{d':Value}(r:eU o u)(rd:aY d d'):aY (o.getD d) (u.getD d'):=by
 cases o with
 | none=>cases u with
  | none=>exact rd
  | some _=>exact(show False from r).elim
 | some _=>cases u with
  | none=>exact(show False from r).elim
  | some _=>exact r
theorem KV.val {kvs:List (κ×V)}{vs:List (κ×Value)}(r:KV kvs vs)(k:κ):eU (bB kvs k) (valueAt vs k):=by
 unfold KV at r
 induction r with
 | nil=>exact True.intro
 | @cons p q ps qs h t ih =>
  obtain⟨h1,h2⟩:=h;by_cases e:p.1=k
  . have e':q.1=k:=h1.symm.trans e;have b:valueAt (q :: qs) k=some q.2:=by simp[valueAt,List.find?_cons,e']
    rw[bY e,b];exact h2
  . have e':¬ q.1=k:=fun z=>e (h1.trans z);have b:valueAt (q :: qs) k=valueAt qs k:=by simp[valueAt,List.find?_cons,e']
    rw[bZ e,b];exact ih
theorem KV.any {kvs:List (κ×V)}{vs:List (κ×Value)}(r:KV kvs vs)(k:κ):(kvs.any fun kv=>decide (kv.1=k))=vs.any fun kv=>decide (kv.1=k):=by
 unfold KV at r
 induction r with
 | nil=>rfl
 | cons h t ih=>rw[List.any_cons,List.any_cons,ih,h.1]
theorem KV.repl {kvs:List (κ×V)}{vs:List (κ×Value)}(r:KV kvs vs)(k:κ){y:V}{u:Value}(ry:aY y u) :
 KV (kvs.map fun kv=>if kv.1=k then(kv.1,y)else kv) (vs.map fun kv=>if kv.1=k then(kv.1,u)else kv):=by
 unfold KV at r ⊢
 induction r with
 | nil=>exact .nil
 | @cons p q ps qs h t ih =>
  rw[List.map_cons,List.map_cons];refine .cons ?_ ih;obtain⟨h1,h2⟩:=h;by_cases e:p.1=k
  . rw[if_pos e,if_pos (h1.symm.trans e)];exact⟨h1,ry⟩
  . rw[if_neg e,if_neg (fun z=>e (h1.trans z))];exact⟨h1,h2⟩
theorem KV.put {kvs:List (κ×V)}{vs:List (κ×Value)}(r:KV kvs vs)(k:κ){y:V}{u:Value}(ry:aY y u):KV (c7 kvs k y) (stored vs k u):=by
 unfold c7 stored;rw[r.any k];by_cases e:(vs.any fun kv=>decide (kv.1=k))=true
 . rw[if_pos e,if_pos e];exact r.repl k ry
 . rw[if_neg e,if_neg e];exact Paired.snoc r ⟨rfl,ry⟩
theorem KV.keys {kvs:List (κ×V)}{vs:List (κ×Value)}(r:KV kvs vs):kvs.map (·.1)=vs.map (·.1):=by
 unfold KV at r
 induction r with
 | nil=>rfl
 | cons h t ih=>rw[List.map_cons,List.map_cons,ih,h.1]
theorem KV.length {kvs:List (κ×V)}{vs:List (κ×Value)}(r:KV kvs vs):kvs.length=vs.length:=Paired.length r
end
theorem ku {P:Program}{w:World}{k:Key}{u:Value}(r:aY (kV k) u):(bp P w).is k u=true:=by
 cases k with
 | inl i=>obtain⟨t,e⟩:=(show ∃t,u=Value.int i t from r);subst e;exact mF P w i t
 | inr x=>obtain⟨t,e⟩:=(show ∃t,u=Value.str x t from r);subst e;exact mG P w x t
theorem ky {P:Program}{w:World}:∀{ks:List Key} {us:List Value},aN (ks.map kV) us->ItemsAre (bp P w) ks us
 | [],_,r=>by rw[List.map_nil]at r;cases r;exact .nil
 | k :: ks,_,r=>by
  rw[List.map_cons]at r;cases r with
  | cons h t=>exact .cons (ku h) (ky t)
abbrev KT (H:Hp):List (List Key×V)->List (List Key×Addr×Value)->Prop:=Paired fun p q=>p.1=q.1/\H q.2.1=some (.tup (p.1.map kV))/\aY p.2 q.2.2
theorem KT.val {H:Hp}{kvs:List (List Key×V)}{xs:List (List Key×Addr×Value)}(r:KT H kvs xs)(k:List Key):eU (bB kvs k) ((atKey xs k).map (·.2)):=by
 induction r with
 | nil=>exact True.intro
 | @cons p q ps qs h t ih =>
  obtain⟨h1,_,h2⟩:=h;by_cases e:p.1=k
  . have e':q.1=k:=h1.symm.trans e;have b:atKey (q :: qs) k=some q.2:=by simp[atKey,List.find?_cons,e']
    rw[bY e,b];exact h2
  . have e':¬ q.1=k:=fun z=>e (h1.trans z);have b:atKey (q :: qs) k=atKey qs k:=by simp[atKey,List.find?_cons,e']
    rw[bZ e,b];exact ih
theorem KT.repl {H:Hp}{kvs:List (List Key×V)}{xs:List (List Key×Addr×Value)}(r:KT H kvs xs)(k:List Key){y:V}{u:Value}(ry:aY y u) :
 KT H (kvs.map fun kv=>if kv.1=k then(kv.1,y)else kv) (xs.map (putAt k u)):=by
 induction r with
 | nil=>exact .nil
 | @cons p q ps qs h t ih =>
  rw[List.map_cons,List.map_cons];refine .cons ?_ ih;obtain⟨h1,h2,h3⟩:=h;unfold putAt;by_cases e:p.1=k
  . rw[if_pos e,if_pos (h1.symm.trans e)];exact⟨h1,h2,ry⟩
  . rw[if_neg e,if_neg (fun z=>e (h1.trans z))];exact⟨h1,h2,h3⟩
theorem KT.put {H:Hp}{kvs:List (List Key×V)}{xs:List (List Key×Addr×Value)}(r:KT H kvs xs)(k:List Key){b:Addr}{y:V}{u:Value}(hb:H b=some (.tup (k.map kV)))(ry:aY y u) :
 KT H (c7 kvs k y) (storedH xs k b u):=by
 have e:(kvs.any fun kv=>decide (kv.1=k))=(atKey xs k).isSome:=by
  rw[dX,(r.val k).isSome_eq,Option.isSome_map]
 unfold c7 storedH;rw[e];by_cases q:(atKey xs k).isSome=true
 . rw[if_pos q,if_pos q];exact r.repl k ry
 . rw[if_neg q,if_neg q];exact Paired.snoc r ⟨rfl,hb,ry⟩
theorem KT.keeps {H H':Hp}{kvs:List (List Key×V)}{xs:List (List Key×Addr×Value)}(r:KT H kvs xs)(ht:∀b ys,H b=some (.tup ys)->H' b=some (.tup ys)):KT H' kvs xs :=
 Paired.mapP r fun Fc Fc z=>⟨z.1,ht _ _ z.2.1,z.2.2⟩
section
variable {P:Program}{w:World}{H:Hp}{h:Heap}{a:Addr}
theorem xh {u:HO}(ok:eh P w H h)(e:Rd H a u):bA P w H h a u:=e.ok ok
theorem ir {kvs:List (Key×V)}(ok:eh P w H h)(e:Rd H a (.dK kvs)):kvs.length<=sizeLine/\(a == sysModules)=false/\∃vs,KV kvs vs/\h.DictOf (bp P w) a vs :=
 show bA P w H h a (.dK kvs)from xh ok e
theorem qu {kvs:List (Key×V)}(ok:eh P w H h)(e:H a=some (.dK kvs)):kvs.length<=sizeLine/\(a == sysModules)=false/\∃vs,KV kvs vs/\h.DictOf (bp P w) a vs:=ir ok (.inl e)
theorem g9 {ks:List Key}(ok:eh P w H h)(e:H a=some (.tup (ks.map kV))):(tupleKind (bp P w)).is h ks a:=by
 obtain⟨_,its,r,o,h1,h2,n,h3⟩:=(show bA P w H h a (.tup (ks.map kV))from ok a _ e);exact⟨o,its.toArray,n,h1,h2,h3,by simpa using ky r⟩
theorem ji {kvs:List (List Key×V)}(ok:eh P w H h)(e:Rd H a (.dT kvs)):kvs.length<=sizeLine/\(a == sysModules)=false /\
 ∃xs,KT H kvs xs/\h.DictOfH (tupleKind (bp P w)) a xs:=by
 obtain⟨z,y,xs,r,o,es,ep,h1,h2,h3,h4,h5⟩:=(show bA P w H h a (.dT kvs)from xh ok e);refine⟨z,y,xs,r,o,es,ep,h1,h2,h3,h4,fun x hx=>?_,h5⟩;have all:∀{l:List (List Key×V)} {m:List (List Key×Addr×Value)},KT H l m->∀x∈m,(tupleKind (bp P w)).is h x.1 x.2.1:=by
  intro l m q
  induction q with
  | nil=>intro x hx;exact nomatch hx
  | @cons p q ps qs hq t ih =>
   intro x hx;rcases List.mem_cons.mp hx with e|hx
   . subst e;exact g9 ok (by rw[<- hq.1];exact hq.2.1)
   . exact ih x hx
 exact all r x hx
theorem Aw {kvs:List (List Key×V)}(ok:eh P w H h)(e:H a=some (.dT kvs)):kvs.length<=sizeLine/\(a == sysModules)=false /\
 ∃xs,KT H kvs xs/\h.DictOfH (tupleKind (bp P w)) a xs:=ji ok (.inl e)
end
def cK (H:Hp)(a:Addr)(y:V)(r:Option V):Prop :=
 (∃kvs k,Rd H a (.dK kvs)/\y=kV k/\r=bB kvs k)\/∃kvs k b,Rd H a (.dT kvs)/\y = .ref b/\H b=some (.tup (k.map kV))/\r=bB kvs k
def lO (H:Hp)(a:Addr)(y v:V)(H':Hp):Prop :=
 (∃kvs k,H a=some (.dK kvs)/\y=kV k/\kvs.length < sizeLine/\H'=aL H a (.dK (c7 kvs k v))) \/
 ∃kvs k b,H a=some (.dT kvs)/\y = .ref b/\H b=some (.tup (k.map kV))/\kvs.length < sizeLine/\H'=aL H a (.dT (c7 kvs k v))
theorem cK.k {H:Hp}{a:Addr}{kvs:List (Key×V)}{k:Key}(e:H a=some (.dK kvs)):cK H a (kV k) (bB kvs k):=.inl ⟨kvs,k,.inl e,rfl,rfl⟩
theorem lO.k {H:Hp}{a:Addr}{kvs:List (Key×V)}{k:Key}{v:V}(e:H a=some (.dK kvs))(hl:kvs.length < sizeLine):lO H a (kV k) v (aL H a (.dK (c7 kvs k v))):=.inl ⟨kvs,k,e,rfl,hl,rfl⟩
section
variable {X:Cx}{pins:List (Addr×Obj)}{σ:St}{H:Hp}{s:Shared}{a:Addr}{y v:V}{u r:Value}{o:Option V}{A:Around}{E:Value->Shared->Prop}
theorem aG.big (I:aG X pins σ H s):sysModules < s.heap.objs.size:=by
 have h:mainGlobals < s.heap.objs.size:=(I.mod.glob.keeps I.bk).lt;exact Nat.lt_trans (by decide) h
theorem rq {Q:Value->Shared->Prop}(hu:A.units+1 < cLine)(I:aG X pins σ H s)(g:cK H a y (some v))(ry:aY y u)(h:∀w' s',aG X pins σ H s'->aY v w'->Q w' s') :
 wpAny (model X.prog X.w) A (getItem (.ref a) u) Q E s:=by
 rcases g with⟨kvs,k,e,ey,l⟩|⟨kvs,k,b,e,ey,eb,l⟩
 . subst ey;obtain⟨z,hd,vs,rel,dd⟩:=ir I.hok e;obtain⟨w',hw,rw'⟩:=eU.some_of (v:=v) (o:=valueAt vs k) (by rw[l];exact rel.val k);exact wpAny_getItem_of (ku ry) dd.mapOf hw (h w' _ (I.tok _) rw')
 . subst ey;cases (show u=Value.ref b from ry);obtain⟨z,hd,xs,rel,dd⟩:=ji I.hok e;obtain⟨w',hw,rw'⟩:=eU.some_of (v:=v) (o:=(atKey xs k).map (·.2)) (by rw[l];exact rel.val k);obtain⟨p,hp,hp2⟩:=Option.map_eq_some_iff.mp hw;refine wpAny_getItem_heap (tupleKind_room_in1 hu) (g9 I.hok eb) dd hp ?_;rw[hp2];exact h w' _ (I.tok _) rw'
theorem CO {Q:Value->Shared->Prop}(hu:A.units+1 < cLine)(I:aG X pins σ H s)(g:cK H a y o)(ry:aY y u)(h:∀s',aG X pins σ H s'->Q (.bool o.isSome) s') :
 wpAny (model X.prog X.w) A (compareOp .In u (.ref a)) Q E s:=by
 rcases g with⟨kvs,k,e,ey,l⟩|⟨kvs,k,b,e,ey,eb,l⟩
 . subst ey;obtain⟨z,hd,vs,rel,dd⟩:=ir I.hok e;refine wpAny_in_of (ku ry) hd dd.mapOf ?_;rw[<- (rel.val k).isSome_eq,<- l];exact h _ (I.tok _)
 . subst ey;cases (show u=Value.ref b from ry);obtain⟨z,hd,xs,rel,dd⟩:=ji I.hok e;refine wpAny_in_heap (tupleKind_room_in1 hu) (g9 I.hok eb) hd dd ?_;have q:=(rel.val k).isSome_eq;rw[Option.isSome_map]at q;rw[<- q,<- l];exact h _ (I.tok _)
theorem vM {Q:Value->Shared->Prop}(hu:A.units+1 < cLine)(I:aG X pins σ H s)(g:cK H a y o)(ry:aY y u)(h:∀s',aG X pins σ H s'->Q (.bool (!o.isSome)) s') :
 wpAny (model X.prog X.w) A (compareOp .NotIn u (.ref a)) Q E s:=by
 rcases g with⟨kvs,k,e,ey,l⟩|⟨kvs,k,b,e,ey,eb,l⟩
 . subst ey;obtain⟨z,hd,vs,rel,dd⟩:=ir I.hok e;refine wpAny_notIn_of (ku ry) hd dd.mapOf ?_;rw[<- (rel.val k).isSome_eq,<- l];exact h _ (I.tok _)
 . subst ey;cases (show u=Value.ref b from ry);obtain⟨z,hd,xs,rel,dd⟩:=ji I.hok e;refine wpAny_notIn_heap (tupleKind_room_in1 hu) (g9 I.hok eb) hd dd ?_;have q:=(rel.val k).isSome_eq;rw[Option.isSome_map]at q;rw[<- q,<- l];exact h _ (I.tok _)
theorem lP {h':Heap}{t':Nat}{ob:HO}(I:aG X pins σ H s)(mu:z9 (H a))(hs:Heap.SameBut a s.heap h')(he:∃q,h'.get? a=some q)(new:bA X.prog X.w (aL H a ob) h' a ob) :
 aG X pins σ (aL H a ob) { s with heap:=h',toks:=t' } :=
 I.write (x:=a) (e:=a) mu (.inl rfl) (fun b q hb z=>(hs.2 b hb).trans z) he new
theorem tR {P:Program}{w:World}{H':Hp}{h':Heap}{kvs:List (Key×V)}{vs:List (Key×Value)}(z:kvs.length<=sizeLine)(hd:(a == sysModules)=false)(rel:KV kvs vs)(dd:h'.DictOf (bp P w) a vs) :
 bA P w H' h' a (.dK kvs):=⟨z,hd,vs,rel,dd⟩
theorem rA {H':Hp}{Q:Unit->Shared->Prop}(hu:A.units+1 < cLine)(I:aG X pins σ H s)(g:lO H a y v H')(ry:aY y u)(rv:aY v r)(h:∀s',aG X pins σ H' s'->Q () s') :
 wpAny (model X.prog X.w) A (setItem (.ref a) u r) Q E s:=by
 rcases g with⟨kvs,k,e,ey,l,eH⟩|⟨kvs,k,b,e,ey,eb,l,eH⟩
 . subst ey eH;obtain⟨z,hd,vs,rel,dd⟩:=qu I.hok e;have hz:vs.length<=sizeLine:=by rw[<- rel.length];exact z
   have hl:(c7 kvs k v).length<=sizeLine:=by have:=iq kvs k v;omega
   refine wpAny_setItem_pairs (hsz:=hz) (ku ry) dd fun h' dd' hs=>h _ ?_;have he:∃q,h'.get? a=some q:=let ⟨q,_,_,hq,_⟩:=dd';⟨q,hq⟩
   exact lP I (by rw[e];exact True.intro) hs he (tR hl hd (rel.put k rv) dd')
 . subst ey eH;cases (show u=Value.ref b from ry);obtain⟨z,hd,xs,rel,dd⟩:=Aw I.hok e;have hz:xs.length<=sizeLine:=by rw[<- Paired.length rel];exact z
   have hl:(c7 kvs k v).length<=sizeLine:=by have:=iq kvs k v;omega
   refine wpAny_setItem_heap (hsz:=hz) (tupleKind_room_in1 hu) (g9 I.hok eb) dd fun h' dd' hs=>h _ ?_;obtain⟨q,es,ep,hq,h2,h3,h4,_,h5⟩:=dd';refine lP I (by rw[e];exact True.intro) hs ⟨q,hq⟩ ⟨hl,hd,_,(rel.put k eb rv).keeps fun c ys ec=>?_,q,es,ep,hq,h2,h3,h4,h5⟩;rw[am (w5 ec e (fun z=>nomatch z))];exact ec
end
def Ax (i:Expr):Prop:=∀ov iv,subscripted i false ov iv=operate [ov,iv] (getItem ov iv)
theorem vN {prog:Program}{w:World}{A:Around}{E:Value->Shared->Prop}{s:Shared}{env:Env}{value slice:Expr}{pos:Pos}{T id:String}{Q:Value->Shared->Prop}
 (hl:typeLookup (.type T) "__getitem__" = pure (some (.builtin id))) (hs:Ax slice)
 (h:wpAny (model prog w) A (eval value env) (fun o s₁=>wpAny (model prog w) A (eval slice env) (fun i s₂=>s₂.TypeIs o T/\wpAny (model prog w) A (getItem o i) Q E s₂) E s₁) E s) :
 wpAny (model prog w) A (eval (.Subscript value slice pos) env) Q E s:=by
 refine Subscript_ (wpAny_mono h (fun o s₁ h₁=>wpAny_mono h₁ (fun i s₂ h₂=>?_) fun Fc Fc x=>x) fun Fc Fc x=>x);obtain⟨hT,h₂⟩:=h₂;unfold subscriptTail;refine wpAny_bind ?_;rw[getitemInPython_of_ne hT.not_modules];refine wpAny_bind (wpAny_specialOf hT hl ?_);have fin:wpAny (model prog w) A (subscripted slice false o i) (fun r s₃=>wpAny (model prog w) A (letTemporaryGo value o r >>= fun Fc=>pure r) Q E s₃) E s₂:=by
  rw[hs o i];exact wpAny_operating (wpAny_mono h₂ (fun r s₃ h₃=>wpAny_bind (wpAny_letTemporaryGo (wpAny_pure h₃))) fun Fc Fc x=>x)
 first
  | exact wpAny_pure (wpAny_bind fin)
  | exact wpAny_bind (wpAny_pure (wpAny_bind fin))
  | exact wpAny_bind fin
theorem mY {X:Cx}{pins:List (Addr×Obj)}{σ:St}{H:Hp}{s:Shared}{a:Addr}{y:V}{o:Option V}(I:aG X pins σ H s)(g:cK H a y o):s.TypeIs (.ref a) "dict":=by
 rcases g with⟨kvs,k,e,_,_⟩|⟨kvs,k,b,e,_,_,_⟩
 . obtain⟨_,_,vs,_,dd⟩:=ir I.hok e;exact dd.typeIs
 . obtain⟨_,_,xs,_,dd⟩:=ji I.hok e;exact dd.typeIs
def Ay (td ty:TE):TE:=fun σ H Q=>td σ H fun x H1=>ty σ H1 fun y H2=>∃a v,x = .ref a/\cK H2 a y (some v)/\Q v H2
def CP (ty td:TE):TE:=fun σ H Q=>ty σ H fun y H1=>td σ H1 fun x H2=>∃a o,x = .ref a/\cK H2 a y o/\Q (.bl o.isSome) H2
def vO (ty td:TE):TE:=fun σ H Q=>ty σ H fun y H1=>td σ H1 fun x H2=>∃a o,x = .ref a/\cK H2 a y o/\Q (.bl (!o.isSome)) H2
def Az (td ty tv:TE):TS:=fun D σ H=>tv σ H fun v H1=>td σ H1 fun x H2=>ty σ H2 fun y H3=>∃a H4,x = .ref a/\lO H3 a y v H4/\D.nx σ H4
section
variable {X:Cx}{o i e value:Expr}{pos pos' tpos:Pos}{td ty tv:TE}
theorem dJ (hu:X.A.units+1 < cLine)(ho:PE X o td)(hi:PE X i ty)(hs:Ax i):PE X (.Subscript o i pos) (Ay td ty):=by
 intro pins s σ H Q I h;refine vN PySem.F.slot_dict_getitem.lookup hs (bj (ho pins s σ H _ I h) fun u s1 ⟨x,H1,I1,rx,q1⟩=>bj (hi pins s1 σ H1 _ I1 q1) fun iv s2 ⟨y,H2,I2,ry,a,v,ex,g,q2⟩=>?_);subst ex;obtain rfl:u=Value.ref a:=rx;exact⟨mY I2 g,rq hu I2 g ry fun w' s3 I3 rw'=>⟨v,H2,I3,rw',q2⟩⟩
theorem pi (hu:X.A.units+1 < cLine)(hi:PE X i ty)(ho:PE X o td):PC X .In i o (CP ty td):=by
 intro pins s σ H Q I h;refine bj (hi pins s σ H _ I h) fun iv s1 ⟨y,H1,I1,ry,q1⟩=>bj (ho pins s1 σ H1 _ I1 q1) fun u s2 ⟨x,H2,I2,rx,a,ov,ex,g,q2⟩=>?_;subst ex;obtain rfl:u=Value.ref a:=rx;exact CO hu I2 g ry fun s3 I3=>⟨.bl ov.isSome,H2,I3,rfl,q2⟩
theorem dY (hu:X.A.units+1 < cLine)(hi:PE X i ty)(ho:PE X o td):PC X .NotIn i o (vO ty td):=by
 intro pins s σ H Q I h;refine bj (hi pins s σ H _ I h) fun iv s1 ⟨y,H1,I1,ry,q1⟩=>bj (ho pins s1 σ H1 _ I1 q1) fun u s2 ⟨x,H2,I2,rx,a,ov,ex,g,q2⟩=>?_;subst ex;obtain rfl:u=Value.ref a:=rx;exact vM hu I2 g ry fun s3 I3=>⟨.bl (!ov.isSome),H2,I3,rfl,q2⟩
theorem cS (hu:X.A.units+1 < cLine)(ho:PE X o td)(hi:PE X i ty)(hv:PE X value tv)(hs:swapsWith value (some (.Subscript o i pos')) pos.line X.env=pure false) :
 PS X (.Assign [.Subscript o i pos'] value pos) (Az td ty tv):=by
 intro pins s σ H D I h;refine wpAny_Assign_Subscript (bj (hv pins s σ H _ I h) fun r s1 ⟨v,H1,I1,rv,q1⟩=>bj (ho pins s1 σ H1 _ I1 q1) fun u s2 ⟨x,H2,I2,rx,q2⟩=>bj (hi pins s2 σ H2 _ I2 q2) fun iv s3 ⟨y,H3,I3,ry,a,H4,ex,g,q3⟩=>?_) hs;subst ex;obtain rfl:u=Value.ref a:=rx;exact rA hu I3 g ry rv fun s4 I4=>⟨σ,H4,I4,q3⟩
end
theorem tS {P:Program}{w:World}{H:Hp}(h:Heap)(hb:sysModules < h.objs.size):bA P w H (h.push { cls:=.type "dict",data:=.dict #[] }) h.objs.size (.dK []) :=
 ⟨Nat.zero_le _,beq_eq_false_iff_ne.mpr (Ne.symm (Nat.ne_of_lt hb)),[],.nil,Heap.DictOf.new h⟩
def tDNewK:TE:=fun Fc H Q=>∀p,H p=none->Q (.ref p) (aL H p (.dK []))
section
variable {X:Cx}{pos:Pos}
theorem fu:PE X (.Dict [] [] pos) tDNewK:=fun pins s σ H Q I h =>
 wpAny_Dict_empty ⟨.ref s.heap.objs.size,_,I.laid (a:=s.heap.objs.size) (o:=.dK []) (t':=s.toks) (fun Fc Fc q=>Heap.get?_push_of_some _ q) (Nat.le_refl _) (tS s.heap I.big),rfl,h _ (I.hok.fresh (Nat.le_refl _))⟩
end
structure M2 (X:Cx)(o:Expr)(m:Str)(apos:Pos)(e f:Expr)(cpos:Pos):Prop where
 base:attributeBase o m X.env (eval o X.env)=eval o X.env
 few:((backTo cpos (starEach [e,f] X.env)).all (fun x=>!x.1) && (backToKw cpos (keywordEach [] X.env)).all (fun x=>x.1.isSome)
  && decide (([e,f]:List Expr).length+([]:List Keyword).length+(if([]:List Keyword).isEmpty then 0 else 1) < 30))=true
 line:(apos.endLine == cpos.line)=true
 trees:backTo cpos (starEach [e,f] X.env)=[(false,eval e X.env),(false,eval f X.env)]
def Di (H:Hp)(a:Addr):Prop:=(∃kvs,Rd H a (.dK kvs))\/∃kvs,Rd H a (.dT kvs)
theorem x9 {X:Cx}{pins:List (Addr×Obj)}{σ:St}{H:Hp}{s:Shared}{a:Addr}(I:aG X pins σ H s)(d:Di H a) :
 s.TypeIs (.ref a) "dict"/\(∀b,Value.ref a = .ref b->∃ob,s.heap.get? b=some ob/\ob.dict=none)/\(a == sysModules)=false:=by
 rcases d with⟨kvs,e⟩|⟨kvs,e⟩
 . obtain⟨_,hd,vs,_,dd⟩:=ir I.hok e;refine⟨dd.typeIs,fun b q=>?_,hd⟩;cases q;obtain⟨ob,_,_,h1,h2,_⟩:=dd;exact⟨ob,h1,h2.2.1⟩
 . obtain⟨_,hd,xs,_,dd⟩:=ji I.hok e;refine⟨dd.typeIs,fun b q=>?_,hd⟩;cases q;obtain⟨ob,_,_,h1,h2,_⟩:=dd;exact⟨ob,h1,h2.2.1⟩
section
variable {X:Cx}{pins:List (Addr×Obj)}{σ:St}{H:Hp}{s:Shared}{a:Addr}{y d:V}{u r:Value}{o:Option V}{A:Around}{E:Value->Shared->Prop}
theorem ya {Q:Value->Shared->Prop}(hu:A.units+1 < cLine)(I:aG X pins σ H s)(g:cK H a y o)(ry:aY y u)(rd:aY d r)(h:∀w' s',aG X pins σ H s'->aY (o.getD d) w'->Q w' s') :
 wpAny (model X.prog X.w) A (call (.builtin "dict.get") [.ref a,u,r]) Q E s:=by
 rcases g with⟨kvs,k,e,ey,l⟩|⟨kvs,k,b,e,ey,eb,l⟩
 . subst ey;obtain⟨z,hd,vs,rel,dd⟩:=ir I.hok e;refine call_meetsIn PySem.F.slot_dict_get dd.typeIs PySem.F.entry_dict_get (PySem.F.args_dict_get_3 _ _ _) (meets_dict_get_default (bp X.prog X.w) a (ku ry) hd r) ⟨_,dd.mapOf,h _ _ (I.tok _) ?_⟩;rw[l];exact(rel.val k).getD rd
 . subst ey;cases (show u=Value.ref b from ry);obtain⟨z,hd,xs,rel,dd⟩:=ji I.hok e;refine call_meetsIn PySem.F.slot_dict_get dd.typeIs PySem.F.entry_dict_get (PySem.F.args_dict_get_3 _ _ _) (meetsH_dict_get_default (tupleKind (bp X.prog X.w)) a b hd r) ⟨tupleKind_room_in1 hu,k,xs,g9 I.hok eb,dd,h _ _ (I.tok _) ?_⟩;rw[l];exact(rel.val k).getD rd
end
def yb (td ty tx:TE):TE:=fun σ H Q=>td σ H fun x H1=>∃a,x = .ref a/\Di H1 a/\ty σ H1 fun y H2=>tx σ H2 fun z H3=>∃o,cK H3 a y o/\Q (o.getD z) H3
section
variable {X:Cx}{o e f:Expr}{apos cpos:Pos}{td ty tx:TE}
theorem mZ (hu:X.A.units+1 < cLine)(ho:PE X o td)(he:PE X e ty)(hf:PE X f tx)(m:M2 X o "get" apos e f cpos):PE X (.Call (.Attribute o "get" apos) [e,f] [] cpos) (yb td ty tx):=by
 intro pins s σ H Q I h;refine wpAny_Call_method m.base m.few m.line PySem.F.plainAttrs_dict PySem.F.slot_dict_get PySem.F.type_dict_get (bj (ho pins s σ H _ I h) fun u s1 ⟨x,H1,I1,rx,a,ex,d,q1⟩=>?_);subst ex;obtain rfl:u=Value.ref a:=rx;obtain⟨t1,t2,_⟩:=x9 I1 d;refine⟨t1,t2,?_⟩;rw[m.trees];refine Calls.callWith_builtin rfl (Calls.evalArgs_plain (Calls.spliced_cons (bj (he pins s1 σ H1 _ I1 q1) fun iv s2 ⟨y,H2,I2,ry,q2⟩ =>
  Calls.spliced_cons (bj (hf pins s2 σ H2 _ I2 q2) fun fv s3 ⟨z,H3,I3,rz,ov,g,q3⟩=>Calls.spliced_nil ?_))))
 exact ya hu I3 g ry rz fun w' s4 I4 rw'=>⟨_,H3,I4,rw',q3⟩
end
section
variable {κ:Type}[DecidableEq κ]
theorem iP {kvs:List (κ×V)}{k:κ}{v:V}(h:bB kvs k=some v):k∈kvs.map (·.1):=by
 have q:(kvs.any fun kv=>decide (kv.1=k))=true:=by
  rw[dX,h]
  all_goals rfl
 obtain⟨p,hp,e⟩:=List.any_eq_true.mp q;exact List.mem_map.mpr ⟨p,hp,of_decide_eq_true e⟩
end
def AA (H:Hp)(x:V):Prop:=(∃n,x = .int n)\/(∃z,x = .str z)\/(∃b,x = .bl b)\/x = .non\/(∃a xs,x = .ref a/\H a=some (.lst xs))\/(∃a xs,x = .ref a/\H a=some (.tup xs))\/(∃a kvs,x = .ref a/\H a=some (.dK kvs))
def yc:V->Bool
 | .int _=>true
 | .bl _=>true
 | _=>false
def yd:V->Bool
 | .bl _=>true
 | _=>false
section
variable (K:W.Frag)
theorem AB:W.kitOne K (.type "int") (.type "int")=some true:=by kernel_rfl
theorem AC:W.kitOne K (.type "int") (.type "bool")=some false:=by kernel_rfl
theorem AE:W.kitOne K (.type "str") (.type "int")=some false:=by kernel_rfl
theorem AF:W.kitOne K (.type "str") (.type "bool")=some false:=by kernel_rfl
theorem AG:W.kitOne K (.type "bool") (.type "int")=some true:=by kernel_rfl
theorem AH:W.kitOne K (.type "bool") (.type "bool")=some true:=by kernel_rfl
theorem AI:W.kitOne K (.type "NoneType") (.type "int")=some false:=by kernel_rfl
theorem AJ:W.kitOne K (.type "NoneType") (.type "bool")=some false:=by kernel_rfl
theorem AK:W.kitOne K (.type "list") (.type "int")=some false:=by kernel_rfl
theorem AL:W.kitOne K (.type "list") (.type "bool")=some false:=by kernel_rfl
theorem AM:W.kitOne K (.type "tuple") (.type "int")=some false:=by kernel_rfl
theorem AN:W.kitOne K (.type "tuple") (.type "bool")=some false:=by kernel_rfl
theorem AO:W.kitOne K (.type "dict") (.type "int")=some false:=by kernel_rfl
theorem AQ:W.kitOne K (.type "dict") (.type "bool")=some false:=by kernel_rfl
end
theorem AA.ty {K:W.Frag}{H:Hp}{x:V}(h:AA H x):∃t,gc K H x t/\W.kitOne K t (.type "int")=some (yc x)/\W.kitOne K t (.type "bool")=some (yd x):=by
 rcases h with⟨n,rfl⟩|⟨z,rfl⟩|⟨b,rfl⟩|rfl|⟨a,z,rfl,q⟩|⟨a,z,rfl,q⟩|⟨a,z,rfl,q⟩
 . exact⟨_,.int n,AB K,AC K⟩
 . exact⟨_,.str z,AE K,AF K⟩
 . exact⟨_,.bl b,AG K,AH K⟩
 . exact⟨_,.non,AI K,AJ K⟩
 . exact⟨_,.lst q,AK K,AL K⟩
 . exact⟨_,.tup q,AM K,AN K⟩
 . exact⟨_,.dK q,AO K,AQ K⟩
def AR (x:V):Bool:=yc x && !yd x
def AS (x:V)(l h:Int):Bool:=match x with
 | .int n=>decide (l<=n) && decide (n<=h)
 | _=>false
def spWho0:Sp:=fun vs H Q Fc=>∃x,vs=[x]/\AA H x/\Q (.bl (AR x)) H
def spWth0:Sp:=fun vs H Q Fc=>∃x l h,vs=[x,.int l,.int h]/\AA H x/\Q (.bl (AS x l h)) H
structure aU (K:W.Frag)(C:Addr)(m qual:Str)(st:Stmt)(ps:List Str)(f:Addr)(fd:FuncData):Prop where
 fn:bN K m qual st f fd
 bd:bE K fd ps []
 me:oT K C m f
end L2
namespace FL
open PySem L2 PyProof.Rows
structure FS where
 n:Int
 kp:List (Key×V)
 ks:List (Key×V)
 ws:List V
 d:Bool
 l:V
structure Cl where
 F:Addr
 W:Addr
 PG:Addr
 NF:Addr
 NP:Addr
 NI:Addr
 SO:Addr
end FL
namespace FL
open PySem L2 PyProof.Rows
structure LS where
 bn:List (Key×V)
 bd:List (Key×V)
 dn:List V
 lf:Int
 dk:Bool
section
variable {st:FS}{ls:LS}{m:Nat}{i:Int}{v:V}
structure AD where
 p:Addr
 pc:Addr
 sp:Addr
 wr:Addr
 q:Addr
 b:Addr
 a:Addr
 d:Addr
end
end FL
namespace L2
open PySem PySem.Spec PyProof.Rows
def fw (Gs:Hp->Prop)(g:TG)(k:Nat)(J:It)(p:Addr)(tt:TT)(te:TE)(cs:St)(Q:VK)(H1:Hp):Prop:=∃W:Nat->Nat->List V->Hp->Prop,(∃m,W 0 m [] (aL H1 p (.lst [])))/\∀i m ys H2,W i m ys H2 ->
 (J.stop i H2/\Gs H2/\Q (.ref p) H2)\/(J.go i H2/\Gs H2/\∃N:List V->Hp->Prop,(∀ys' H',N ys' H'->∃m',m' < m/\W (i+1) m' ys' H') /\
  ∀v H3,J.yld i H2 v H3->∀vs0:St,vs0.length=k->g v (vs0++cs) H3 fun σ' H'=>(∃vs':St,σ'=vs'++cs/\vs'.length=k)/\tt σ' H' fun b H4=>if b=true then te σ' H4 fun y H5=>H5 p=some (.lst ys)/\ys.length < sizeLine/\N (ys++[y]) (aL H5 p (.lst (ys++[y])))else N ys H4)
theorem m4 {X:Cx}{use:Option (Value->Sem Unit)}{Post:Value->Shared->Prop}{pins:List (Addr×Obj)}{s:Shared}{σ:St}{H:Hp}{Q:VK}{Gs:Hp->Prop}{hb:Bool}{CW:It->Addr->St->VK->Hp->Prop}{elt iter:Expr}{ifs:List Expr}{tg:Expr}{xs:List Str}{g:TG}{pos:Pos}{sc:Scope}{wi:TI}{tt:TT}{te:TE}(caps:List Nat)(capsN:List Str)
 (hi:PI X tg iter wi hb)
 (hg:∀cl C s H ex pn,PG (bx X (xs++capsN) sc cl C s H ex pn) tg g)
 (ht:∀cl C s H ex pn,xY (bx X (xs++capsN) sc cl C s H ex pn) ifs tt)
 (he:∀cl C s H ex pn,PE (bx X (xs++capsN) sc cl C s H ex pn) elt te)
 (hkind:sc.kind = .function) (hcell:∀y∈sc.names,y.2 ≠ .cell) (hnames:∀y∈sc.names,y.2 = .local->sc.names.lookup y.1=some .local)
 (hfr:∀y∈sc.names,y.2 = .free->y.1∈capsN)
 (hcap:∀(j:Nat) (y:Str),capsN[j]? = some y->∃i:Nat,caps[j]? = some i/\X.N[i]? = some y/\sc.names.lookup y=some .free/\(X.env.kindOf y=some .cell\/X.env.kindOf y=some .free)) (hlen:caps.length=capsN.length)
 (hc:X.calm=true\/(hb=true/\∀s H,eh X.prog X.w H s.heap->Gs H->sY X s)) (kW:∀J p cs Q H1,CW J p cs Q H1->fw Gs g xs.length J p tt te cs Q H1)
 (hs:∀x,foldedSetIterable iter X.env x=pure x) (I:aG X pins σ H s) (h:tN CW wi caps σ H Q)
 (fin:∀(C p:Addr) (H5:Hp) (s5:Shared),(∃m,s5.heap.Ns C m)->aG X pins σ H5 s5->lh X pins H5 C->Q (.ref p) H5->compPost (model X.prog X.w) X.A X.xe use Post (.ref p) C (.ok .next) s5) :
 wpAny (model X.prog X.w) X.A (comprehension (.ListComp elt [⟨tg,iter,ifs,0⟩] sc pos) sc X.env (firstIterPos [⟨tg,iter,ifs,0⟩] pos) (newList []) (firstAsync [⟨tg,iter,ifs,0⟩]) (firstIter [⟨tg,iter,ifs,0⟩] X.env) use) Post X.xe s:=by
 have hEnd:∀s H,eh X.prog X.w H s.heap->Gs H->sZ hb X s:=by
  rcases hc with hc|⟨e,k⟩
  . exact fun Fc Fc Fc Fc=>.inl (I.ok.hd hc)
  . exact fun s H o g=>.inr ⟨e,k s H o g⟩
 obtain⟨cl,hclos,hq2,hq3⟩:=o0 (env:=X.env) (sc:=sc) (fun y hy hf=>by
  obtain⟨j,hj⟩:=List.mem_iff_getElem?.mp (hfr y hy hf);obtain⟨_,_,_,_,k⟩:=hcap j y.1 hj;exact I.ok.has y.1 k)
 refine wpAny_comprehension_free (use:=use) rfl hs hclos hkind hnames (bj (hi pins s σ H _ I h) fun v s1 h1=>bj h1 fun itv s2 h2=>?_);obtain⟨it,fp,tn,J,H2,e,I2,T,st2,f2,q⟩:=h2;subst e;refine wpAny_newObj_type (wpAny_newFunctionEnv hcell (by intro y hy;simp at hy) (fun h1 hns hsb=>?_) hkind);dsimp only at hns hsb ⊢;obtain⟨W,⟨m0,w0⟩,turn⟩:=kW _ _ _ _ _ (q s2.heap.objs.size (I2.hok.fresh (Nat.le_refl _)));have I3:aG X pins σ (aL H2 s2.heap.objs.size (.lst [])) { s2 with heap:=s2.heap.push { cls:=.type "list",dict:=none,data:=.seq ([]:List Value).toArray },toks:=s2.toks }:=I2.lnew (its:=[]) (ys:=[]) (t':=s2.toks) .nil (Nat.zero_le _);generalize hH3:s2.heap.push { cls:=.type "list",dict:=none,data:=.seq ([]:List Value).toArray } = g3 at hns hsb I3 ⊢;have hsz3:g3.objs.size=s2.heap.objs.size+1:=by rw[<- hH3,Heap.size_push]
 generalize hHp:aL H2 s2.heap.objs.size (.lst [])=Hp3 at w0 I3;have hlt:∀b o,g3.get? b=some o->b≠g3.objs.size:=fun b o e=>Nat.ne_of_lt (Heap.lt_size e);have old:∀b o,g3.get? b=some o->h1.get? b=some o:=fun b o e=>hsb.extBut b o (hlt b o e) (Heap.get?_push_of_some _ e);have fpo:∀b∈fp,∃o,g3.get? b=some o:=fun b hb=>by
  obtain⟨o,e,_⟩:=T.obj 0 s2.heap st2 b hb;exact⟨o,by rw[<- hH3];exact Heap.get?_push_of_some _ e⟩
 have fpC:∀b∈fp,b≠g3.objs.size:=fun b hb=>by obtain⟨o,e⟩:=fpo b hb;exact hlt b o e
 have fpH:∀b∈fp,Hp3 b=none:=fun b hb=>by
  obtain⟨o,e,_⟩:=T.obj 0 s2.heap st2 b hb;rw[<- hHp,am (Nat.ne_of_lt (Heap.lt_size e))];exact(f2 b hb).1
 have fsSub:∀b,b≠X.env.locals->b ∉ X.fs->b ∉ mH X.stack:=fun b h1 h2 z=>by
  rcases List.mem_cons.mp (I2.stkSub b z)with z|z
  . exact h1 z
  . exact h2 z
 have okc:(bx X (xs++capsN) sc cl g3.objs.size { s2 with heap:=g3,toks:=s2.toks } Hp3 fp (X.pn++pins)).Ok:=by
  refine⟨I3.ok.mod,hkind,I3.ok.glob,I3.ok.blt,Nat.le_refl _,fun y z c e1 e2=>I3.ok.inj y z c (hq2 y c e1) (hq2 z c e2),fun y hy=>?_,fun y c z=>absurd z Bool.false_ne_true,I3.ok.hd,I3.ok.frames,.inl rfl,fun b hb=>⟨fpC b hb,fun y c e=>(f2 b hb).2.2.2.2.1 y c (hq2 y c e)⟩,
   I3.bs,Nat.le_trans I3.ok.bsz I3.sz,fun b o e hb=>?_,fun b hb=>fsSub b (f2 b hb).2.1 (f2 b hb).2.2.1,I3.stack,I3.stkFree⟩
  . have hy':∃k,(relabel sc X.env).names.lookup y=some k/\(k = .cell\/k = .free):=by
     rcases hy with hy|hy
     . exact⟨_,hy,.inl rfl⟩
     . exact⟨_,hy,.inr rfl⟩
    obtain⟨k,e,hk⟩:=hy';obtain⟨k0,e0,hk0⟩:=lJ e;have em:=PySem.mem_of_lookup e0;rcases hk0 with rfl|⟨rfl,_⟩
    . rcases hk with rfl|rfl
      . exact absurd rfl (hcell _ em)
      . exact hq3 _ em rfl
    . exact hq3 _ em rfl
  . rcases(f2 b hb).2.2.2.1 with z|z
    . exact I3.ok.noex b o e z
    . have h1:b < X.base.objs.size:=Heap.lt_size e;have h2:=I3.ok.bsz;exact absurd (Nat.lt_of_lt_of_le h1 (Nat.le_trans h2 z)) (Nat.lt_irrefl _)
 have Ic:aG (bx X (xs++capsN) sc cl g3.objs.size { s2 with heap:=g3,toks:=s2.toks } Hp3 fp (X.pn++pins)) [] (List.replicate xs.length none++gY σ caps) Hp3 { s2 with heap:=h1,toks:=s2.toks+([]:List (Str×Value)).length }:=by
  refine⟨okc,rfl,I3.bare,Un.kept old,⟨_,hns,fun i y v e1 e2 e3=>?_⟩,fun y c e=>?_,I3.hok.fresh (Nat.le_refl _),fun y c e=>I3.freeC y c (hq2 y c e),fun p hp=>?_,I3.hok.kept old,?_⟩
  . by_cases hlt0:i < xs.length
    . have e2:(List.replicate xs.length (none:Option V)++gY σ caps)[i]? = some (some v):=e2;rw[List.getElem?_append_left (by rw[List.length_replicate];exact hlt0),List.getElem?_replicate,if_pos hlt0]at e2;cases e2
    . have e1:(xs++capsN)[i]? = some y:=e1;have e2:(List.replicate xs.length (none:Option V)++gY σ caps)[i]? = some (some v):=e2;rw[List.getElem?_append_right (Nat.le_of_not_lt hlt0)]at e1;rw[List.getElem?_append_right (by rw[List.length_replicate];exact Nat.le_of_not_lt hlt0),List.length_replicate]at e2;generalize i - xs.length=j at e1 e2;have e1':capsN[j]? = some y:=e1;obtain⟨i,c1,c2,c3,c4⟩:=hcap j y e1';have e2':(gY σ caps)[j]? = some (some v):=e2;have hv:σ[i]? = some (some v):=by
       unfold gY at e2';rw[List.getElem?_map,c1]at e2';have e4:(σ[i]?).getD none=some v:=Option.some.inj e2';cases e5:σ[i]? with
       | none=>rw[e5]at e4;cases e4
       | some w=>rw[e5]at e4;exact congrArg some e4
      obtain⟨m,_,hl⟩:=I3.loc;have vis:Aa X.env.scope y:=by
       rcases c4 with z|z
       . exact .inr (.inl z)
       . exact .inr (.inr z)
      obtain⟨u,r,l⟩:=hl i y v c2 hv vis;refine⟨u,r,.inr ⟨lK c3,?_⟩⟩;rcases l with⟨lk,_⟩|⟨_,c,ec,o,ho,hd⟩
      . rcases c4 with z|z <;> (rw[lk]at z;cases z)
      . obtain⟨c',e'⟩:=hq3 _ (PySem.mem_of_lookup c3) rfl;have e'':=hq2 _ _ e';have e3':(some c':Option Addr)=some c:=e''.symm.trans ec;cases e3';exact⟨c,e',o,old _ _ ho,hd⟩
  . obtain⟨v,o,ho,hd⟩:=I3.cell y c (hq2 y c e);exact⟨v,o,old _ _ ho,hd⟩
  . have hp':p∈X.pn++pins:=by simpa using hp
    obtain⟨e1,e2,e3,e4,e5⟩:=I3.pin p hp';exact⟨old _ _ e1,e2,hlt _ _ e1,fsSub _ e3 e4,e5⟩
  . show(List.replicate xs.length (none:Option V)++gY σ caps).length=(xs++capsN).length;unfold gY;rw[List.length_append,List.length_append,List.length_replicate,List.length_map,hlen]
 have stat:∀{H':Hp},(∀b∈fp,H' b=none)->∀b∈fp,lh (bx X (xs++capsN) sc cl g3.objs.size { s2 with heap:=g3,toks:=s2.toks } Hp3 fp (X.pn++pins)) [] H' b:=fun hn b hb=>
  ⟨hn b hb,fpC b hb,fsSub b (f2 b hb).2.1 (f2 b hb).2.2.1,.inl hb,fun y c e=>(f2 b hb).2.2.2.2.1 y c (hq2 y c e),fun p hp=>(f2 b hb).2.2.2.2.2 p (by simpa using hp)⟩
 have back:∀{pins5:List (Addr×Obj)} {σ5:St} {H5:Hp} {s5:Shared} {h':Heap},aG (bx X (xs++capsN) sc cl g3.objs.size { s2 with heap:=g3,toks:=s2.toks } Hp3 fp (X.pn++pins)) pins5 σ5 H5 s5->Heap.SameBut g3.objs.size s5.heap h'->aG X pins σ H5 { s5 with heap:=h' }:=by
  intro pins5 σ5 H5 s5 h' I5 sb;have un:Un (mH X.stack) fp Hp3 H5 g3 s5.heap:=I5.base;have fr:H5 g3.objs.size=none:=I5.free;have un':Un (mH X.stack) fp Hp3 H5 g3 h':=⟨fun b o e n hb hx=>(sb.2 b (hlt b o e)).trans (un.keep b o e n hb hx),
   fun b o e n hb hx=>by obtain⟨sl,z⟩:=un.slot b o e n hb hx;exact⟨sl,(sb.2 b (hlt b o e)).trans z⟩,un.free,
   fun b o e hx=>by obtain⟨o',z⟩:=un.there b o e hx;exact⟨o',(sb.2 b (hlt b o e)).trans z⟩,un.tups,un.frzs,un.tbls⟩
  have hok:eh X.prog X.w H5 h':=fun b u e=>(I5.hok b u e).stay (fun c v hc' z=>(sb.2 c (by
   rintro rfl;rcases hc' with hc' | hc'
   . rw[hc',e]at fr;cases fr
   . rw[fr]at hc';cases hc')).trans z) (fun Fc z=>z) (fun Fc Fc z=>z)
  obtain⟨hh,g,d,t,os⟩:=s5;have eo:os=s2.os:=I5.os;subst eo;have z:=I3.call (h':=h') (g':=g) (d':=d) (t':=t) (ch:=fp) un' hok I5.bare fun b hb=>⟨(f2 b hb).2.2.2.1,(f2 b hb).2.1,(f2 b hb).2.2.2.2.1,(f2 b hb).2.2.2.2.2⟩;exact z
 have st4:tn 0 h1:=T.keep 0 s2.heap h1 st2 fun b hb o e=>old b o (by rw[<- hH3];exact Heap.get?_push_of_some _ e);have loop:codeAny (model X.prog X.w) X.A (.compLoop (.ListComp elt [⟨tg,iter,ifs,0⟩] sc pos) 0 (.ref it) (.ref s2.heap.objs.size) (compEnvC sc cl g3.objs.size X.env))
  (compPost (model X.prog X.w) X.A X.xe use Post (.ref s2.heap.objs.size) g3.objs.size) { s2 with heap:=h1,toks:=s2.toks+([]:List (Str×Value)).length }:=by
  refine rm (fun n s'=>∃i ys v0 H',v0.length=xs.length/\aG (bx X (xs++capsN) sc cl g3.objs.size { s2 with heap:=g3,toks:=s2.toks } Hp3 fp (X.pn++pins)) [] (v0++gY σ caps) H' s'/\tn i s'.heap/\(∀b∈fp,H' b=none)/\W i n ys H') ?_ m0 ⟨0,[],List.replicate xs.length none,Hp3,List.length_replicate,Ic,st4,fpH,w0⟩;rintro n s' ⟨i,ys,v0,H',hv0,I',st',fr',w'⟩;rcases turn i n ys H' w' with⟨stop,gs,qn⟩|⟨go,gs,N,hN,step⟩
  . refine bj (T.done (bx X (xs++capsN) sc cl g3.objs.size { s2 with heap:=g3,toks:=s2.toks } Hp3 fp (X.pn++pins)) rfl rfl rfl s' (hEnd s' H' I'.hok gs) i [] _ H' vK I' (stat fr') st' stop) fun r s5 ⟨hr,I5⟩=>?_;subst hr;obtain⟨m,hn,_⟩:=id I5.loc;exact fin g3.objs.size s2.heap.objs.size H' s5 ⟨m,hn⟩ (back (h':=s5.heap) I5 ⟨rfl,fun Fc Fc=>rfl⟩) (I3.fpOk (Nat.le_refl _) I5.free) qn
  . refine bj (T.item (bx X (xs++capsN) sc cl g3.objs.size { s2 with heap:=g3,toks:=s2.toks } Hp3 fp (X.pn++pins)) rfl rfl rfl s' (hEnd s' H' I'.hok gs) i [] _ H' vK I' (stat fr') st' go) fun r s5 ⟨u,hr,h5⟩=>?_;subst hr;refine bj h5 fun _ s6 ⟨v,H6,I6,r6,y6,st6,fr6⟩=>?_;have I6':=I6.pinned (stat fr6) (T.obj _ _ st6);have again:∀{σ7 v7:St} {H7:Hp} {s7:Shared} {ys':List V},σ7=v7++gY σ caps->v7.length=xs.length->aG (bx X (xs++capsN) sc cl g3.objs.size { s2 with heap:=g3,toks:=s2.toks } Hp3 fp (X.pn++pins)) ([]++i9 fp s6.heap) σ7 H7 s7->N ys' H7 ->
     ∃m,m < n/\∃i ys v0 H',v0.length=xs.length/\aG (bx X (xs++capsN) sc cl g3.objs.size { s2 with heap:=g3,toks:=s2.toks } Hp3 fp (X.pn++pins)) [] (v0++gY σ caps) H' s7/\tn i s7.heap/\(∀b∈fp,H' b=none)/\W i m ys H':=by
     intro σ7 v7 H7 s7 ys' eσ hv7 I7 n7;subst eσ;obtain⟨m',hm,w7⟩:=hN ys' H7 n7;refine⟨m',hm,i+1,ys',v7,H7,hv7,I7.unpinned,T.keep _ _ _ st6 fun b hb o e=>(I7.pin (b,o) (List.mem_append_right _ (List.mem_append_right _ (eE hb e)))).1,fun b hb=>?_,w7⟩;obtain⟨o,e,d⟩:=T.obj _ _ st6 b hb;exact(I7.pin (b,o) (List.mem_append_right _ (List.mem_append_right _ (eE hb e)))).2.1
    refine bj (hg _ _ _ _ _ _ _ s6 _ H6 v u _ I6' r6 (step v H6 y6 v0 hv0)) fun _ s7 ⟨σ7,H7,I7,⟨v7,e7,hv7⟩,q7⟩=>?_;refine bj (ht _ _ _ _ _ _ _ s7 _ H7 _ I7 q7) fun ok s8 ⟨H8,I8,q8⟩=>?_;cases ok with
    | false=>exact again e7 hv7 I8 q8
    | true =>
     refine bj (he _ _ _ _ _ _ _ s8 _ H8 _ I8 q8) fun y s9 ⟨yv,H9,I9,r9,hp9,hz9,n9⟩=>?_;refine bj (dS (X:=bx X (xs++capsN) sc cl g3.objs.size { s2 with heap:=g3,toks:=s2.toks } Hp3 fp (X.pn++pins)) _ s9 _ H9 (.ref s2.heap.objs.size) [yv] (.ref s2.heap.objs.size) [y] (fun Fc H'=>H'=aL H9 s2.heap.objs.size (.lst (ys++[yv]))) I9 rfl (.cons r9 .nil)
      ⟨s2.heap.objs.size,ys,yv,rfl,rfl,hp9,hz9,rfl⟩) fun _ s10 ⟨_,H10,I10,_,e10⟩=>?_
     subst e10;exact again e7 hv7 I10 n9
 exact codeAny_compStart_list loop (T.self X.A 0 _ _ _ st4 loop)
theorem m5 {X:Cx}{Gs:Hp->Prop}{hb:Bool}{CW:It->Addr->St->VK->Hp->Prop}{elt iter:Expr}{ifs:List Expr}{tg:Expr}{xs:List Str}{g:TG}{pos:Pos}{sc:Scope}{wi:TI}{tt:TT}{te:TE}(caps:List Nat)(capsN:List Str)
 (hi:PI X tg iter wi hb)
 (hg:∀cl C s H ex pn,PG (bx X (xs++capsN) sc cl C s H ex pn) tg g)
 (ht:∀cl C s H ex pn,xY (bx X (xs++capsN) sc cl C s H ex pn) ifs tt)
 (he:∀cl C s H ex pn,PE (bx X (xs++capsN) sc cl C s H ex pn) elt te)
 (hkind:sc.kind = .function) (hcell:∀y∈sc.names,y.2 ≠ .cell) (hnames:∀y∈sc.names,y.2 = .local->sc.names.lookup y.1=some .local)
 (hfr:∀y∈sc.names,y.2 = .free->y.1∈capsN)
 (hcap:∀(j:Nat) (y:Str),capsN[j]? = some y->∃i:Nat,caps[j]? = some i/\X.N[i]? = some y/\sc.names.lookup y=some .free/\(X.env.kindOf y=some .cell\/X.env.kindOf y=some .free)) (hlen:caps.length=capsN.length)
 (hc:X.calm=true\/(hb=true/\∀s H,eh X.prog X.w H s.heap->Gs H->sY X s)) (kW:∀J p cs Q H1,CW J p cs Q H1->fw Gs g xs.length J p tt te cs Q H1)
 (hs:∀x,foldedSetIterable iter X.env x=pure x:=by intro _;rfl) :
 PE X (.ListComp elt [⟨tg,iter,ifs,0⟩] sc pos) (tN CW wi caps):=by
 intro pins s σ H Q I h;rw[eval_ListComp];exact m4 (use:=none) caps capsN hi hg ht he hkind hcell hnames hfr hcap hlen hc kW hs I h fun C p H5 s5 ⟨m,hn⟩ I5 f q=>⟨m,hn,fun h' sb=>⟨.ref p,H5,I5.turned (t':=s5.toks) (fun b o hb e=>(sb.2 b hb).trans e) f.1 f.2.1 f.2.2.2.1 f.2.2.2.2.1 f.2.2.2.2.2,rfl,q⟩⟩
theorem iQ:∀{ns:List Int} {us:List Value},aN (ns.map V.int) us->IntsAre us ns
 | [],_,.nil=>.nil
 | _ :: _,_,.cons ⟨t,e⟩ r=>by
  subst e;exact .cons _ t (iQ r)
theorem lQ:∀{ns:List Int} {us:List Value},IntsAre us ns->aN (ns.map V.int) us
 | _,_,.nil=>.nil
 | _,_,.cons n t r=>.cons ⟨t,rfl⟩ (lQ r)
section
variable {X:Cx}
theorem gE:cT X (.builtin "sorted") (fun xs H Q=>∃(p:Addr) (ns:List Int),xs=[V.ref p]/\bh X.K H p (ns.map V.int)/\ns.length < 64/\∀(l:Addr) (ms:List Int),ms.Perm ns->ms.Pairwise (· <= ·)->H l=none->Q (.ref l) (aL H l (.lst (ms.map V.int)))):=by
 intro pins s σ H xs us Q I r h;obtain⟨p,ns,rfl,hS,h64,q⟩:=h;obtain⟨u,rfl,ru⟩:=gy r;cases ru;obtain⟨its,rv,pl,_⟩:=I.list hS;have hl:its.length=ns.length:=by
  have:=rv.length;rw[List.length_map]at this;exact this.symm
 refine sorted_ints pl.isList (iQ rv) (by rw[hl];exact h64) fun out ms a1 a2 a3=>?_;obtain⟨e,he⟩:=sortedAll_at s.heap its out;have hn:=I.hok.fresh (Nat.le_succ s.heap.objs.size);refine⟨.ref (s.heap.objs.size+1),_,I.laid (a:=s.heap.objs.size+1) (o:=.lst (ms.map V.int)) (t':=s.toks) (fun Fc Fc z=>sortedAll_old z) (Nat.le_succ _) ?_,rfl,q _ ms a2 a3 hn⟩;refine⟨?_,out.toList,e,lQ a1,?_⟩
 . rw[List.length_map,a2.length_eq];exact Nat.le_of_lt (bg (by omega))
 . rw[he]
end
end L2
namespace L2
open PySem PySem.Spec PyProof.Rows PySem.W
theorem xi {P:Program}{w:World}{k:Key}{u:Value}(h:(bp P w).is k u=true):aY (kV k) u:=by
 rcases bv (k:=k) (v:=u) h with⟨i,t,rfl,rfl⟩|⟨x,t,rfl,rfl⟩
 . exact⟨t,rfl⟩
 . exact⟨t,rfl⟩
theorem kB {P:Program}{w:World}{kvs:List (Key×V)}{vs:List (Key×Value)}{us:List Value}(rel:KV kvs vs)(hl:us.length=vs.length)
 (h:∀(j:Nat) (v:Value),us[j]? = some v->∃k x,vs[j]? = some (k,x)/\(bp P w).is k v=true):aN (kvs.map fun p=>kV p.1) us:=by
 unfold KV at rel
 induction rel generalizing us with
 | nil =>
  cases us with
  | nil=>exact .nil
  | cons a r=>cases hl
 | @cons p q ps qs hr r ih =>
  cases us with
  | nil=>cases hl
  | cons u us =>
   obtain⟨kk,x,e,hk⟩:=h 0 u rfl;have e':q=(kk,x):=Option.some.inj e;refine .cons ?_ (ih (Nat.succ.inj hl) fun j v hj=>h (j+1) v hj);show aY (kV p.1) u;rw[hr.1,e'];exact xi hk
section
variable {X:Cx}
theorem pj (hc:X.calm=true):cT X (.type "list") (fun xs H Q=>∃a kvs,xs=[V.ref a]/\H a=some (.dK kvs)/\∀l,H l=none->Q (.ref l) (aL H l (.lst (kvs.map fun p=>kV p.1)))):=by
 intro pins s σ H xs us Q I r h;obtain⟨a,kvs,rfl,ha,q⟩:=h;obtain⟨u,rfl,ru⟩:=gy r;cases ru;obtain⟨z,hd,vs,rel,dd⟩:=qu I.hok ha;obtain⟨ep,da⟩:∃ep,s.heap.DictAt (bp X.prog X.w) a vs ep:=by
  obtain⟨o,es,ep,h1,h2,h3,h4⟩:=dd;exact⟨ep,o,es,h1,h2,h3,h4⟩
 have hz:vs.length<=sizeLine:=by rw[<- rel.length];exact z
 refine kdl_call (kdl_dict hd) (I.ok.hd hc) da hz fun h' tk acc c kp hS it=>?_;have nn:=I.hok.fresh (Nat.le_refl s.heap.objs.size);refine⟨.ref s.heap.objs.size,_,I.laid (a:=s.heap.objs.size) (o:=.lst (kvs.map fun p=>kV p.1)) (t':=tk) kp (Nat.le_refl _) ?_,rfl,q _ nn⟩;refine⟨by rw[List.length_map];exact z,acc.toList,c,kB (P:=X.prog) (w:=X.w) rel (by rw[<- it.1];simp) (fun j v hj=>?_),hS⟩;exact it.2 j v (by simpa using hj)
theorem tT {prog:Program}{w:World}{A:Around}{E:Value->Shared->Prop}{s:Shared}{T:String}{r d:Addr}{n:Nat}{P:Nat->Value->Prop}{OK:Heap->Prop}{Q:List Value->Shared->Prop}(K:KdlSrc prog w T r d n P OK)(hh:A.handled=none)(ok:OK s.heap)(hn:n<=sizeLine)
 (h:∀h' tk acc,(∀b o,s.heap.get? b=some o->h'.get? b=some o)->s.heap.objs.size < h'.objs.size->ItemsOf P acc n->Q acc.toList { s with heap:=h',toks:=tk }):wpAny (model prog w) A (collect (.ref r)) Q E s:=by
 have lt:=K.there _ ok;unfold collect;refine wpAny_bind (wpAny_runValue (codeAny_builtin PySem.F.entry_proto_collect ?_));rw[Around.under_plainId PySem.F.plain_proto_collect _];have new:(s.heap.push { cls:=.type "list",data:=.seq ([]:List Value).toArray }).get? s.heap.objs.size=some { cls:=.type "list",data:=.seq #[] 0 }:=Heap.get?_push_size _ rfl;have ok1:=K.keep s.heap (s.heap.push { cls:=.type "list",data:=.seq ([]:List Value).toArray }) ok fun b Fc o e=>Heap.get?_push_of_some _ e;have key:∀R:Result->Shared->Prop,(∀h' tk acc c,(∀b o,b≠s.heap.objs.size->(s.heap.push { cls:=.type "list",data:=.seq ([]:List Value).toArray }).get? b=some o->h'.get? b=some o)->h'.get? s.heap.objs.size=some { cls:=.type "list",dict:=none,data:=.seq acc c,slots:=#[] }->ItemsOf P acc n->R (.ok (.ret (.ref s.heap.objs.size))) { s with heap:=h',toks:=tk }) ->
  codeAny (model prog w) A (.builtin "list.__iadd__" ⟨[.ref s.heap.objs.size,.ref r],[]⟩) R { s with heap:=s.heap.push { cls:=.type "list",data:=.seq ([]:List Value).toArray } }:=by
  intro R hR;refine codeAny_builtin PySem.F.entry_list_iadd ?_;rw[Around.under_plainId PySem.F.plain_list_iadd _];exact kdl_extend (s:={ s with heap:=s.heap.push { cls:=.type "list",data:=.seq ([]:List Value).toArray } }) K hh ok1 s.heap.objs.size (Nat.ne_of_gt lt.1) (Nat.ne_of_gt lt.2) (.ref s.heap.objs.size) 0 new (fun h' tk acc c kp hS it=>hR h' tk acc c kp hS it) hn
 show wpAny (model prog w) A.in1 (newList [] >>= fun x=>again (.builtin "list.__iadd__" ⟨[x,.ref r],[]⟩)) _ _ s;refine wpAny_bind (wpAny_newObj_type (wpAny_pure ⟨plainId_quiet PySem.F.plain_list_iadd _,key _ fun h' tk acc c kp hS it=>?_⟩));show wpAny (model prog w) A (load s.heap.objs.size >>= _) Q E { s with heap:=h',toks:=tk };refine wpAny_bind (wpAny_load hS (wpAny_pure ?_));refine h h' tk acc (fun b o e=>?_) (Heap.lt_size hS) it;exact kp b o (Nat.ne_of_lt (Heap.lt_size e)) (Heap.get?_push_of_some _ e)
end
end L2
namespace L2
open PySem
def iI (xs:Array Nat):Prop:=∀(i j:Nat) (a b:Nat),i < j->xs[i]? = some a->xs[j]? = some b->a < b
theorem tU {xs:Array Nat}{j:Nat}(r:iI xs):∀(f lo hi:Nat),hi<=xs.size->lo<=hi->hi - lo<=f->(∀(i a:Nat),i < lo->xs[i]? = some a->a < j)->(∀(i a:Nat),hi<=i->xs[i]? = some a->j<=a) ->
 SetTable.below.go xs j f lo hi<=xs.size/\(∀(i a:Nat),i < SetTable.below.go xs j f lo hi->xs[i]? = some a->a < j)/\∀(i a:Nat),SetTable.below.go xs j f lo hi<=i->xs[i]? = some a->j<=a:=by
 intro f
 induction f with
 | zero =>
  intro lo hi h1 h2 h3 hl hr;have e:lo=hi:=by omega
  subst e;exact⟨h1,hl,hr⟩
 | succ f ih =>
  intro lo hi h1 h2 h3 hl hr;unfold SetTable.below.go;by_cases lt:lo < hi
  . rw[if_pos lt];have hm:(lo+hi) / 2 < xs.size:=by omega
    have em:xs[(lo+hi) / 2]? = some (xs[(lo+hi) / 2]):=Array.getElem?_eq_getElem hm;have ed:xs.getD ((lo+hi) / 2) j=xs[(lo+hi) / 2]:=by simp[Array.getD,hm]
    dsimp only;rw[ed];by_cases c:xs[(lo+hi) / 2] < j
    . rw[if_pos c];refine ih _ _ h1 (by omega) (by omega) (fun i a hi' ea=>?_) hr;rcases Nat.lt_or_ge i ((lo+hi) / 2)with q|q
      . exact Nat.lt_trans (r i _ a _ q ea em) c
      . have e:i=(lo+hi) / 2:=by omega
        subst e;rw[em]at ea;cases ea;exact c
    . rw[if_neg c];refine ih _ _ (by omega) (by omega) (by omega) hl (fun i a hi' ea=>?_);rcases Nat.lt_or_ge ((lo+hi) / 2) i with q|q
      . have:=r _ i _ a q em ea;omega
      . have e:i=(lo+hi) / 2:=by omega
        subst e;rw[em]at ea;cases ea;omega
  . rw[if_neg lt];have e:lo=hi:=by omega
    subst e;exact⟨h1,hl,hr⟩
theorem gG {xs:Array Nat}{j:Nat}(r:iI xs):SetTable.below xs j<=xs.size/\(∀(i a:Nat),i < SetTable.below xs j->xs[i]? = some a->a < j)/\∀(i a:Nat),SetTable.below xs j<=i->xs[i]? = some a->j<=a :=
 tU r _ _ _ (Nat.le_refl _) (Nat.zero_le _) (Nat.le_refl _) (fun i a h=>absurd h (Nat.not_lt_zero _)) fun i a h e=>by
  have:=(Array.getElem?_eq_some_iff.mp e).1;omega
theorem iJ {α:Type}(xs:Array α)(p:Nat)(x:α):(SetTable.insertAt xs p x).toList=xs.toList.take p++x :: xs.toList.drop p:=by
 unfold SetTable.insertAt;have:(xs.toList.drop p).take (xs.size - p)=xs.toList.drop p:=List.take_of_length_le (by simp);simp[this]
theorem jj (xs:Array Nat):iI xs↔xs.toList.Pairwise (· < ·):=by
 rw[List.pairwise_iff_getElem];constructor
 . intro r i j hi hj h;exact r i j _ _ h (by simp) (by simp)
 . intro r i j a b h ha hb;obtain⟨h1,e1⟩:=Array.getElem?_eq_some_iff.mp ha;obtain⟨h2,e2⟩:=Array.getElem?_eq_some_iff.mp hb;have:=r i j (by simpa using h1) (by simpa using h2) h;simpa[e1,e2]using this
theorem m6 {xs:Array Nat}{j:Nat}(r:iI xs)(hn:j ∉ xs.toList):iI (SetTable.insertAt xs (SetTable.below xs j) j):=by
 obtain⟨hp,hl,hr⟩:=gG (j:=j) r;rw[jj]at r ⊢;rw[iJ];generalize SetTable.below xs j=p at hp hl hr;rw[List.pairwise_append];refine⟨r.sublist (List.take_sublist _ _),List.pairwise_cons.mpr ⟨fun b hb=>?_,r.sublist (List.drop_sublist _ _)⟩,fun a ha b hb=>?_⟩
 . obtain⟨i,hi,e⟩:=List.getElem_of_mem hb;rw[List.getElem_drop]at e;have e2:xs[p+i]? = some b:=by rw[<- e,<- Array.getElem?_toList];exact List.getElem?_eq_getElem _
   have:=hr (p+i) b (by omega) e2;have:b≠j:=fun z=>hn (z ▸ List.mem_of_mem_drop hb);omega
 . obtain⟨i,hi,e⟩:=List.getElem_of_mem ha;rw[List.getElem_take]at e;have hi':i < p:=by simp at hi;omega
   have e2:xs[i]? = some a:=by rw[<- e,<- Array.getElem?_toList];exact List.getElem?_eq_getElem _
   have lt:=hl i a hi' e2;rcases List.mem_cons.mp hb with z|z
   . rw[z];exact lt
   . obtain⟨k,hk,e'⟩:=List.getElem_of_mem z;rw[List.getElem_drop]at e';have e3:xs[p+k]? = some b:=by rw[<- e',<- Array.getElem?_toList];exact List.getElem?_eq_getElem _
     have:=hr (p+k) b (by omega) e3;omega
theorem m7 {xs:Array Nat}{i a:Nat}(r:iI xs)(h:xs[i]? = some a):SetTable.below xs (a+1)=i+1:=by
 obtain⟨hp,hl,hr⟩:=gG (j:=a+1) r;have hi:=(Array.getElem?_eq_some_iff.mp h).1;rcases Nat.lt_trichotomy (SetTable.below xs (a+1)) (i+1)with q|q|q
 . have:=hr i a (by omega) h;omega
 . exact q
 . have lt:i+1 < xs.size:=by omega
   have e:=Array.getElem?_eq_getElem lt;have h1:=hl (i+1) _ q e;have h2:=r i (i+1) a _ (Nat.lt_succ_self _) h e;omega
theorem pq {xs:Array Nat}(r:iI xs):SetTable.below xs 0=0:=by
 obtain⟨hp,hl,hr⟩:=gG (j:=0) r;rcases Nat.eq_zero_or_pos (SetTable.below xs 0)with q|q
 . exact q
 . have lt:0 < xs.size:=by omega
   have:=hl 0 _ q (Array.getElem?_eq_getElem lt);omega
structure dA (L:Bool)(t:SetTable):Prop where
 rise:iI t.place
 bare:t.dummies = #[]
 led:t.led=L
theorem rB {xs:Array Nat}{j:Nat}(r:iI xs)(h:j∈xs.toList):xs[SetTable.below xs j]? = some j:=by
 obtain⟨hp,hl,hr⟩:=gG (j:=j) r;obtain⟨i,hi,e⟩:=List.getElem_of_mem h;have e2:xs[i]? = some j:=by rw[<- e,<- Array.getElem?_toList];exact List.getElem?_eq_getElem _
 rcases Nat.lt_trichotomy i (SetTable.below xs j)with q|q|q
 . have:=hl i j q e2;omega
 . rw[<- q];exact e2
 . have hi':=(Array.getElem?_eq_some_iff.mp e2).1;have lt:SetTable.below xs j < xs.size:=by omega
   have e3:=Array.getElem?_eq_getElem lt;have h1:=hr _ _ (Nat.le_refl _) e3;have h2:=r _ i _ j q e3 e2;omega
theorem rC {t:SetTable}{j:Nat}(hb:t.dummies = #[]):t.slot j ≠ .dummy:=by
 unfold SetTable.slot;have:SetTable.has t.dummies j=false:=by rw[hb];rfl
 dsimp only;split
 . intro z;cases z
 . rw[this];intro z;simp at z
theorem pA {t:SetTable}{j:Nat}(r:iI t.place)(h:t.slot j = .empty):j ∉ t.place.toList:=fun m=>by
 unfold SetTable.slot at h;have:=rB r m;simp[this]at h
theorem pB {t:SetTable}{ha:Nat->Int}{h:Int}(hb:t.dummies = #[]):∀(f:Nat) (p:SetTable.Probe) (j:Nat) (d:Option Nat),p.dummy=none->SetTable.probe.go t ha h f p=some (.empty j d)->d=none/\t.slot j = .empty:=by
 intro f
 induction f with
 | zero=>intro p j d _ e;cases e
 | succ f ih =>
  intro p j d hp e;have adv:(t.advance p).dummy=none:=by
   unfold SetTable.advance;split
   . exact hp
   . exact hp
  unfold SetTable.probe.go at e;split at e
  . rename_i q
    cases e;exact⟨hp,q⟩
  . rename_i q
    exact absurd q (rC hb)
  . split at e
    . cases e
    . exact ih _ j d adv e
theorem pC (n:Nat):iI (Array.range n):=by
 rw[jj,Array.toList_range];exact List.pairwise_lt_range
theorem eJ {L:Bool}{t:SetTable}(o:dA L t)(n:Nat):dA L (t.standIn n):=⟨pC n,rfl,o.led⟩
theorem ye {L:Bool}{t:SetTable}{j:Nat}(o:dA L t)(h:j ∉ t.place.toList):dA L (t.put j).1:=by
 refine⟨m6 o.rise h,?_,o.led⟩;have:SetTable.has t.dummies j=false:=by rw[o.bare];rfl
 show(if SetTable.has t.dummies j=true then _ else t.dummies) = #[];rw[this,o.bare];rfl
theorem yf {L:Bool}{t:SetTable}{es:Array (Int×Value)}{h:Int}{x:Value}(o:dA L t):dA L (layNew t es h x).2.1:=by
 unfold layNew;cases e:t.freeSlot h with
 | none=>exact eJ o _
 | some r =>
  obtain⟨j,d⟩:=r;have hj:j ∉ t.place.toList:=by
   unfold SetTable.freeSlot at e;split at e
   . rename_i j' d' q
     obtain⟨hd,hs⟩:=pB o.bare _ _ j' d' rfl q;subst hd;cases e;exact pA o.rise hs
   . cases e
  have k:=ye o hj;dsimp only;unfold SetTable.orStandIn;split
  . exact k
  . exact eJ k _
theorem rD {f:Nat->Option Nat}(n:Nat):iI (((List.range n).filterMap fun j=>(f j).map (j,·)).map (·.1)).toArray:=by
 rw[jj];have e:((List.range n).filterMap fun j=>(f j).map (j,·)).map (·.1)=(List.range n).filter fun j=>(f j).isSome:=by
  induction (List.range n)with
  | nil=>rfl
  | cons a l ih =>
   rw[List.filterMap_cons,List.filter_cons];cases q:f a with
   | none=>simpa using ih
   | some v=>simpa using ih
 rw[show(((List.range n).filterMap fun j=>(f j).map (j,·)).map (·.1)).toArray.toList=(List.range n).filter fun j=>(f j).isSome from e];exact List.pairwise_lt_range.sublist List.filter_sublist
theorem tV {L:Bool}{t:SetTable}{es:Array (Int×Value)}{n:Nat}(o:dA L t):dA L (relayAll t es n).2.1:=by
 unfold relayAll;cases e:t.relaid (es.map (·.1)) n with
 | none=>exact eJ o _
 | some r =>
  obtain⟨t',order⟩:=r;have k:dA L t':=by
   unfold SetTable.relaid SetTable.laid at e;cases q:SetTable.layClean (SetTable.sizeAbove n - 1) (es.map (·.1))with
   | none=>rw[q]at e;cases e
   | some owner =>
    rw[q]at e;cases e;exact⟨rD _,rfl,o.led⟩
  dsimp only;split
  . exact k
  . exact eJ o _
end L2
namespace L2
open PySem PyProof.Rows
section
variable {prog:Program}{w:World}{K:Type}[DecidableEq K](knd:KeyKind prog w K)
def CQ (k:K)(e:Int×Value):Prop:=knd.is k e.2=true/\e.1=knd.hash k/\e.2.scannable=true
inductive jM:List K->List (Int×Value)->Prop
 | nil:jM [] []
 | cons {k:K} {e:Int×Value} {ks:List K} {es:List (Int×Value)}:CQ knd k e->jM ks es->jM (k :: ks) (e :: es)
def dZ (h:Heap)(a:Addr)(ks:List K):Prop :=
 ∃o es ep t,h.get? a=some o/\o.ExactSet/\o.data = .set es ep t/\jM knd ks es.toList/\ks.Nodup/\es.size < scanBound/\t.fits es.size=true/\dA (!w.params.followText "set-order") t
variable {knd}
theorem jM.length {ks:List K}{es:List (Int×Value)}(x:jM knd ks es):ks.length=es.length:=by
 induction x with
 | nil=>rfl
 | cons _ _ ih=>simp[ih]
theorem jM.elems {ks:List K}{es:List (Int×Value)}(x:jM knd ks es):ElemsOf knd es:=by
 induction x with
 | nil=>intro e he;cases he
 | @cons k e ks es h _ ih =>
  intro e' he;rcases List.mem_cons.mp he with z|z
  . subst z;exact⟨⟨k,h.1,h.2.1⟩,h.2.2⟩
  . exact ih e' z
theorem jM.mem {ks:List K}{es:List (Int×Value)}(x:jM knd ks es)(k:K):k∈ks↔∃e∈es,knd.is k e.2=true:=by
 induction x with
 | nil=>simp
 | @cons k' e ks es h _ ih =>
  rw[List.mem_cons,ih];constructor
  . rintro(z | ⟨e',he,q⟩)
    . subst z;exact⟨e,List.mem_cons_self,h.1⟩
    . exact⟨e',List.mem_cons_of_mem _ he,q⟩
  . rintro⟨e',he,q⟩;rcases List.mem_cons.mp he with z|z
    . subst z;exact .inl (knd.inj _ k k' q h.1)
    . exact .inr ⟨e',z,q⟩
theorem jM.perm {es es':List (Int×Value)}(p:List.Perm es' es):∀{ks:List K},jM knd ks es->∃ks',ks'.Perm ks/\jM knd ks' es':=by
 induction p with
 | nil=>intro ks x;exact⟨ks,List.Perm.refl _,x⟩
 | cons e _ ih =>
  intro ks x;cases x with
  | cons h r =>
   obtain⟨ks',q,y⟩:=ih r;exact⟨_,q.cons _,.cons h y⟩
 | swap e f l =>
  intro ks x;cases x with
  | cons h r=>cases r with
   | cons h' r'=>exact⟨_,List.Perm.swap _ _ _,.cons h' (.cons h r')⟩
 | trans _ _ ih1 ih2 =>
  intro ks x;obtain⟨k1,q1,y1⟩:=ih2 x;obtain⟨k2,q2,y2⟩:=ih1 y1;exact⟨k2,q2.trans q1,y2⟩
theorem dZ.setOf {h:Heap}{a:Addr}{ks:List K}(x:dZ knd h a ks):h.SetOf knd a (fun k=>decide (k∈ks)) ks.length:=by
 obtain⟨o,es,ep,t,e,ex,d,el,nd,b,f,ok⟩:=x;exact⟨o,es,ep,t,e,ex,d,el.elems,fun k=>by rw[decide_eq_true_iff];exact el.mem k,b,f,by rw[el.length];simp⟩
theorem dZ.at {h h':Heap}{a:Addr}{ks:List K}(x:dZ knd h a ks)(k:∀o,h.get? a=some o->h'.get? a=some o):dZ knd h' a ks:=by
 obtain⟨o,es,ep,t,e,r⟩:=x;exact⟨o,es,ep,t,k o e,r⟩
variable {A:Around}{E:Value->Shared->Prop}{s:Shared}
theorem jk {h:Heap}{a:Addr}{o:Obj}{es es':Array (Int×Value)}{ep:Nat}{t t':SetTable}{ks:List K}(ho:h.get? a=some o)(hex:o.ExactSet)(hd:o.data = .set es ep t)(el:jM knd ks es'.toList)(nd:ks.Nodup)
 (hb:es'.size < scanBound) (hf:t'.fits es'.size=true) (ok:dA (!w.params.followText "set-order") t') :
 (h.update a (Obj.putSet es' t')).get? a=some { o with data:=.set es' (ep+1) t' }/\dZ knd (h.update a (Obj.putSet es' t')) a ks:=by
 have g:(h.update a (Obj.putSet es' t')).get? a=some { o with data:=.set es' (ep+1) t' }:=by
  have q:=Heap.get?_update_self (Obj.putSet es' t') ho (by rw[putSet_of es' t' hd];rfl);rw[putSet_of es' t' hd]at q;exact q
 exact⟨g,_,es',ep+1,t',g,hex,rfl,el,nd,hb,hf,ok⟩
theorem kD {g:Bool->Sem Unit}(hg:∀(b:Bool) (s₁:Shared) (Q':Unit->Shared->Prop),Q' () s₁->wpAny (model prog w) A (g b) Q' E s₁){a:Addr}{o:Obj}{es es1:Array (Int×Value)}{ep:Nat}{t t2:SetTable}{ks:List K}
 (ho:s.heap.get? a=some o) (hex:o.ExactSet) (hd:o.data = .set es ep t) (el:jM knd ks es1.toList) (nd:ks.Nodup) (hb:es1.size < scanBound) (hf:t2.fits es1.size=true) (ok:dA (!w.params.followText "set-order") t2) {wasDummy:Bool} {R:Option Bool->Shared->Prop}
 (h:∀h' ks',Heap.SameBut a s.heap h'->ks'.Perm ks->dZ knd h' a ks'->R (some true) { s with heap:=h' }) :
 wpAny (model prog w) A (do
  storeSet a es1 t2
  if(!wasDummy && t2.tooFull)=true then do
   g (relayAll t2 es1 (SetTable.grown es1.size)).2.2
   storeSet a (relayAll t2 es1 (SetTable.grown es1.size)).1 (relayAll t2 es1 (SetTable.grown es1.size)).2.1
   pure (some true)
   else pure (some true)) R E s:=by
 obtain⟨ho1,hS1⟩:=jk (knd:=knd) ho hex hd el nd hb hf ok;have sb:=Heap.SameBut.update s.heap a (Obj.putSet es1 t2);refine wpAny_bind (wpAny_storeSet_of ho hd ?_ (fits_of_scanBound hb));split
 . have hp:=relayAll_perm t2 es1 (SetTable.grown es1.size);have hfr:=relayAll_fits t2 es1 (SetTable.grown es1.size);have okr:dA (!w.params.followText "set-order") (relayAll t2 es1 (SetTable.grown es1.size)).2.1:=tV ok;generalize relayAll t2 es1 (SetTable.grown es1.size)=Y at hp hfr okr ⊢;obtain⟨es2,t3,gv⟩:=Y;obtain⟨ks2,q2,el2⟩:=el.perm hp;have z:es2.size=es1.size:=by rw[<- Array.length_toList,hp.length_eq,Array.length_toList]
   have hb2:es2.size < scanBound:=by rw[z];exact hb
   refine wpAny_bind (hg _ _ _ (wpAny_bind (wpAny_storeSet_of ho1 rfl ?_ (fits_of_scanBound hb2))));obtain⟨_,hS2⟩:=jk (knd:=knd) ho1 hex rfl el2 (q2.nodup_iff.mpr nd) hb2 hfr okr;exact wpAny_pure (h _ ks2 (sb.trans (Heap.SameBut.update _ a _)) q2 hS2)
 . exact wpAny_pure (h _ ks sb (List.Perm.refl _) hS1)
theorem tW {a:Addr}{ks:List K}{k:K}{x:Value}{Q:Bool->Shared->Prop}(hkey:knd.is k x=true)(hsc:x.scannable=true)(hS:dZ knd s.heap a ks)(room:ks.length+1 < scanBound)
 (h:∀b h' ks',Heap.SameBut a s.heap h'->ks'.Perm (if k∈ks then ks else ks++[k])->dZ knd h' a ks'->Q b { s with heap:=h' }):wpAny (model prog w) A (setAddHashed a x (knd.hash k)) Q E s:=by
 have hS0:=hS;obtain⟨o,es,ep,t,ho,hex,hd,el,nd,hb,hf,ok⟩:=hS;have hel:=el.elems;have hl:=el.length;have hb1:es.size+1 < scanBound:=by rw[hl]at room;simpa using room
 unfold setAddHashed setAddHashedIn;refine wpAny_holding (wpAny_bind (wpAny_setState_of ho hd hf ?_));dsimp only;rw[byScan_of hsc hb hel];simp only[↓reduceIte];unfold setAddByScan;refine wpAny_bind (wpAny_bind (wpAny_rule (wpAny_bind (wpAny_setScan_of hkey ho hd hf hel ?_))));cases hr:List.findIdx? (fun e=>knd.is k e.2) es.toList with
 | some j =>
  obtain⟨hj,hpj,_⟩:=List.findIdx?_eq_some_iff_getElem.mp hr;have hk:k∈ks:=(el.mem k).mpr ⟨es.toList[j],List.getElem_mem hj,hpj⟩;dsimp only;have e:s = { s with heap:=s.heap }:=by cases s;rfl
  rw[e];exact wpAny_pure (wpAny_pure (h _ s.heap ks (Heap.SameBut.refl a s.heap) (by rw[if_pos hk]) hS0))
 | none =>
  have hk:k ∉ ks:=fun m=>by
   obtain⟨e,he,hp⟩:=(el.mem k).mp m;have q:=List.findIdx?_eq_none_iff.mp hr e he;rw[hp]at q;cases q
  dsimp only;have hperm:=layNew_perm t es (knd.hash k) x;have hfits:=layNew_fits t es (knd.hash k) x;have hok:dA (!w.params.followText "set-order") (layNew t es (knd.hash k) x).2.1:=yf ok;generalize layNew t es (knd.hash k) x=Y at hperm hfits hok ⊢;obtain⟨es1,t1,wd,gv⟩:=Y;dsimp only at hperm hfits hok ⊢;rw[Array.toList_push]at hperm;have elp:jM knd (ks++[k]) (es.toList++[(knd.hash k,x)]):=by
   clear hr hperm hS0 hl room h nd hk;generalize es.toList=l at el
   induction el with
   | nil=>exact .cons ⟨hkey,rfl,hsc⟩ .nil
   | cons hh _ ih=>exact .cons hh (ih )
  obtain⟨ks1,q1,el1⟩:=elp.perm hperm;have nd1:ks1.Nodup:=q1.nodup_iff.mpr (by
   rw[List.nodup_append];exact⟨nd,by simp,fun a ha b hb z=>hk (by rw[List.mem_singleton]at hb;rw[<- hb,<- z];exact ha)⟩)
  have hb2:es1.size < scanBound:=by rw[<- Array.length_toList,hperm.length_eq,List.length_append,Array.length_toList];simpa using hb1
  have fin:∀h' ks',Heap.SameBut a s.heap h'->ks'.Perm ks1->dZ knd h' a ks'->Q true { s with heap:=h' }:=fun h' ks' sb p hs=>h true h' ks' sb (by rw[if_neg hk];exact p.trans q1) hs;refine wpAny_bind (?_:wpAny (model prog w) A (match gv with | true=>rule "set.scan.the-table-gave-way" | false=>pure ()) _ E s);have gw:∀(b:Bool) (s₁:Shared) (Q':Unit->Shared->Prop),Q' () s₁->wpAny (model prog w) A (match b with | true=>rule "set.scan.the-table-gave-way" | false=>pure ()) Q' E s₁:=fun b s₁ Q' hq=>by
   cases b
   . exact wpAny_pure hq
   . exact wpAny_rule hq
  refine gw _ _ _ ?_;split
  . refine wpAny_bind ?_;rw[hashByValue_scannable 8 hsc];refine wpAny_pure ?_;refine kD gw ho hex hd el1 nd1 hb2 ?_ ?_ fun h' ks' sb p hs=>?_
    . split
      . exact hfits
      . exact SetTable.fits_plain_off hfits
    . split
      . exact hok
      . exact⟨hok.rise,hok.bare,hok.led⟩
    . exact wpAny_pure (fin h' ks' sb p hs)
  . refine wpAny_bind (wpAny_pure ?_);simp only[↓reduceIte];exact kD gw ho hex hd el1 nd1 hb2 hfits hok fun h' ks' sb p hs=>wpAny_pure (fin h' ks' sb p hs)
end
section
variable {prog:Program}{w:World}{K:Type}[DecidableEq K]{knd:KeyKind prog w K}
theorem AT {ks ks':List K}{k:K}(p:ks'.Perm (if k∈ks then ks else ks++[k])):(∀x,x∈ks'↔x∈ks\/x=k)/\ks'.length<=ks.length+1:=by
 by_cases h:k∈ks
 . rw[if_pos h]at p;exact⟨fun x=>by rw[p.mem_iff];exact⟨.inl,fun z=>z.elim id fun e=>e ▸ h⟩,by rw[p.length_eq];omega⟩
 . rw[if_neg h]at p;exact⟨fun x=>by rw[p.mem_iff];simp,by rw[p.length_eq];simp⟩
variable {A:Around}{E:Value->Shared->Prop}
theorem rG {R:Result->Shared->Prop}{I:Addr}{fp wr:List Addr}{G:Array GenState->Array GenState->Prop}{n:Nat}{P:Nat->Value->Prop}{St:Nat->Shared->Prop}(W:WalksS prog w A.in1 I fp wr G n P St)(S:Addr)(nS:S ∉ fp)
 (val:Nat->K) (hv:∀i v,P i v->knd.is (val i) v=true/\v.scannable=true) (hb:n+1 < scanBound):∀(m i:Nat) (s:Shared) (ks:List K),n - i=m->i<=n->St i s->dZ knd s.heap S ks->ks.length<=i ->
  (∀s' ks',Moved (S :: wr) G s s'->dZ knd s'.heap S ks'->(∀x,x∈ks'↔x∈ks\/∃j,i<=j/\j < n/\x=val j)->R (.ok (.ret .none)) s')->codeAny (model prog w) A (.builtin "set.update.loop" ⟨[.ref S,.ref I],[]⟩) R s:=by
 have nw:S ∉ wr:=fun z=>nS (W.sub _ z);have up:∀b∈wr,b∈S :: wr:=fun b z=>List.mem_cons_of_mem _ z;intro m
 induction m with
 | zero =>
  intro i s ks hm hi st hS _ q;have e:i=n:=by omega
  subst e;refine codeAny_builtin F.entry_set_update_loop ?_;rw[Around.under_plainId F.plain_set_update_loop _];show wpAny (model prog w) A.in1 (pyNext (.ref I) >>= _) _ _ s;refine wpAny_bind (W.done s _ _ st fun s' mv=>?_);show wpAny (model prog w) A.in1 (ret Value.none) _ _ s';exact wpAny_pure (q s' ks (mv.mono up) (hS.at fun o e=>mv.heap S o nw e) fun x=>⟨.inl,fun z=>z.elim id fun⟨j,h1,h2,_⟩=>absurd h2 (by omega)⟩)
 | succ m ih =>
  intro i s ks hm hi st hS hl q;have lt:i < n:=by omega
  refine codeAny_builtin F.entry_set_update_loop ?_;rw[Around.under_plainId F.plain_set_update_loop _];show wpAny (model prog w) A.in1 (pyNext (.ref I) >>= _) _ _ s;refine wpAny_bind (W.item i s _ _ lt st fun v s' hP st' mv=>?_);obtain⟨hk,hsc⟩:=hv i v hP;have hS1:dZ knd s'.heap S ks:=hS.at fun o e=>mv.heap S o nw e;show wpAny (model prog w) A.in1 (holding [v] (setAdd S v) >>= _) _ _ s';refine wpAny_bind (wpAny_holding ?_);unfold setAdd;refine wpAny_holding (wpAny_bind (knd.pyHash (k:=val i) hk ?_));refine tW (knd:=knd) (s:={ s' with toks:=s'.toks+1 }) hk hsc hS1 (by omega) fun b h' ks' sb p hs=>?_;obtain⟨hm',hl'⟩:=AT p;refine wpAny_pure ⟨plainId_quiet F.plain_set_update_loop _,ih (i+1) _ ks' (by omega) lt (W.frame _ s' _ _ st' (Nat.le_succ _) fun c hc o e=>?_) hs (by omega) fun s'' ks'' mv' hs' hx=>?_⟩
  . rw[sb.2 c fun z:c=S=>nS (z ▸ hc)];exact e
  . refine q s'' ks'' (Moved.trans W.gtrans ((mv.mono up).then_heap (Nat.le_succ _) fun c o hc e=>?_) mv') hs' fun x=>?_
    . rw[sb.2 c fun z:c=S=>hc (by rw[z];exact List.mem_cons_self)];exact e
    . rw[hx,hm'];constructor
      . rintro((z | z) | ⟨j,h1,h2,e⟩)
        . exact .inl z
        . exact .inr ⟨i,Nat.le_refl _,lt,z⟩
        . exact .inr ⟨j,by omega,h2,e⟩
      . rintro(z | ⟨j,h1,h2,e⟩)
        . exact .inl (.inl z)
        . rcases Nat.eq_or_lt_of_le h1 with z|z
          . exact .inl (.inr (z ▸ e))
          . exact .inr ⟨j,z,h2,e⟩
variable {s:Shared}
abbrev cE (w:World):Obj:={ cls:=.type "set",dict:=none,data:=.set #[] 0 (.fresh 0 0 (!w.params.followText "set-order")) }
theorem pE {h:Heap}{a:Addr}(e:h.get? a=some (cE w)):dZ knd h a [] :=
 ⟨_,#[],0,_,e,⟨rfl,rfl,rfl⟩,rfl,.nil,.nil,by decide,rfl,⟨fun i j a b Fc h Fc=>(by cases h),rfl,rfl⟩⟩
theorem tX (a:Value){Q:Value->Shared->Prop}(q:Q (.ref s.heap.objs.size) { s with heap:=s.heap.push (cE w) }):codeAny (model prog w) A (.call (.builtin "set.__new__") ⟨[.type "set",a],[]⟩) (wants Q E) s:=by
 refine codeAny_of_tree ?_;show wpAny (model prog w) A.in1 (do checkBuiltinCall "set.__new__" ⟨[.type "set",a],[]⟩;again (.builtin "set.__new__" ⟨[.type "set",a],[]⟩)) _ _ s;refine wpAny_bind (wpAny_of_eq (F.newCall_set_1 a) (wpAny_pure ⟨plainId_quiet F.plain_set_new _,codeAny_builtin F.entry_set_new ?_⟩));rw[Around.under_plainId F.plain_set_new _];unfold Builtin.«set.__new__» Builtin.Frozenset.newClass;have hsub:=sub_set_self;obtain⟨hp,g,d,tk,os⟩:=s;dsimp only
 wp_walk
 refine wpAny_askSetting (wpAny_pure ?_);dsimp only;simp only[newObj];refine wpAny_bind (wpAny_alloc (wpAny_pure ?_));exact wpAny_pure q
set_option maxHeartbeats 3200000 in
theorem rH {l:Addr}{items:Array Value}{Q:Value->Shared->Prop}(hh:A.handled=none)(hl:s.heap.IsList l items)(val:Nat->K)(hv:∀(i:Nat) (v:Value),items[i]? = some v->knd.is (val i) v=true/\v.scannable=true)(hb:items.size+1 < scanBound)
 (q:∀(h':Heap) (tk:Nat) (ks:List K),dZ knd h' s.heap.objs.size ks->(∀x,x∈ks↔∃j,j < items.size/\x=val j)->(∀b o,b < s.heap.objs.size->s.heap.get? b=some o->h'.get? b=some o)->Q (.ref s.heap.objs.size) { s with heap:=h',toks:=tk }) :
 wpAny (model prog w) A (call (.type "set") [.ref l]) Q E s:=by
 obtain⟨c,tl,hmro⟩:=F.called_set.mro;have hmade:=F.called_set.made;have hsub:=F.called_set.sub;refine wpAny_call (codeAny_of_tree ?_);show wpAny (model prog w) _ (callAny (.type "set") _) _ _ _;refine wpAny_pure ⟨Code.quiet_builtin _ (by decide +kernel),codeAny_builtin F.entry_type_call ?_⟩;rw[Around.under_plain (weight_type_call_type "set" [.ref l] []) rfl];have h1:=F.called_set.notType;have h2:=F.called_set.canCreate;have hct:=F.typeCall_set_1 (.ref l)
 repeat (any_goals (first | assumption | wp_step))
 refine codeAny_mono (tX (.ref l) (E:=E) (Q:=fun ob s₁=>ob = .ref s.heap.objs.size/\s₁ = { s with heap:=s.heap.push (cE w) }) ⟨rfl,rfl⟩) fun r s₁ hr=>?_;cases r with
 | error e=>exact hr
 | ok fl =>
  cases fl with
  | ret ob =>
   obtain⟨rfl,rfl⟩:=hr;have hS:(s.heap.push (cE w)).get? s.heap.objs.size=some (cE w):=Heap.get?_push_size _ rfl;have hT:Shared.TypeIs { s with heap:=s.heap.push (cE w) } (.ref s.heap.objs.size) "set":=⟨_,hS,rfl⟩;have hli:=F.called_set.init.lookup;have hbi:=F.called_set.init.bind (.ref s.heap.objs.size)
   repeat (any_goals (first | assumption | wp_step))
   refine codeAny_mono (codeAny_call_builtin (R:=wants (fun r s₂=>r = .none/\∃h' tk ks,s₂ = { s with heap:=h',toks:=tk }/\dZ knd h' s.heap.objs.size ks/\(∀x,x∈ks↔∃j,j < items.size/\x=val j)/\(∀b o,b < s.heap.objs.size->s.heap.get? b=some o->h'.get? b=some o)) E)
    F.called_set.init.plain F.entry_set_init (check_set_init_1 hT ?_)) fun r₂ s₂ hr₂=>?_
   . obtain⟨ol,hol,hcl,nl,hdl⟩:=hl;obtain⟨ocls,odict,odata,oslots⟩:=ol;simp only at hcl hdl;subst hcl hdl;have hol':(s.heap.push (cE w)).get? l=some { cls:=.type "list",dict:=odict,data:=.seq items nl,slots:=oslots }:=Heap.get?_push_of_some _ hol;have hsls:=F.sub_list_set;have hslf:=F.sub_list_frozenset;have hne:(Value.type "list" == Value.type "dict")=false:=by decide
     have hl1:(s.heap.push (cE w)).IsList l items:=⟨_,hol',rfl,nl,rfl⟩;unfold Builtin.«set.__init__» noKeywords Builtin.Frozenset.updateFrom;generalize hPI:pyIter=PI
     wp_walk
     subst hPI;refine wpAny_pyIter_list hl1 (wpAny_bind (wpAny_runValue ?_));have hlS:l < s.heap.objs.size:=Heap.lt_size hol;have hh3:A.in1.in1.in1.handled=none:=by simp[hh]
     have hneI:l≠(s.heap.push (cE w)).objs.size:=by
      rw[Heap.size_push];exact Nat.ne_of_lt (Nat.lt_succ_of_lt hlS)
     have hSf:s.heap.objs.size ∉ [(s.heap.push (cE w)).objs.size,l]:=by
      rw[Heap.size_push];simp only[List.mem_cons,List.mem_singleton,List.not_mem_nil,or_false,not_or];exact⟨Nat.ne_of_lt (Nat.lt_succ_self _),Nat.ne_of_gt hlS⟩
     refine rG (knd:=knd) ((Walks.list hh3 _ l hneI items).toS) s.heap.objs.size hSf val hv hb (items.size - 0) 0 _ [] (by omega) (Nat.zero_le _) ⟨⟨_,Heap.get?_push_size _ rfl,rfl,rfl⟩,hl1.push _⟩
      (pE (Heap.get?_push_of_some _ hS)) (Nat.le_refl _) fun s' ks' mv hs hx=>?_
     obtain⟨h',g',d',tk',os'⟩:=s';have eg:g'=s.gens:=mv.gens;have ed:d'=s.drawn:=mv.drawn;have eo:os'=s.os:=mv.os;subst eg ed eo;show wpAny (model prog w) _ _ _ _ _;refine wpAny_pure ?_;show wpAny (model prog w) _ (ret Value.none) _ _ _;refine wpAny_pure ⟨rfl,h',tk',ks',rfl,hs,fun x=>?_,fun b o hb e=>?_⟩
     . rw[hx];constructor
       . rintro(z | ⟨j,_,h2,e⟩)
         . cases z
         . exact⟨j,h2,e⟩
       . rintro⟨j,h2,e⟩;exact .inr ⟨j,Nat.zero_le _,h2,e⟩
     . have hb1:b≠s.heap.objs.size:=Nat.ne_of_lt hb;have hb2:b≠(s.heap.push (cE w)).objs.size:=by
        rw[Heap.size_push];exact Nat.ne_of_lt (Nat.lt_succ_of_lt hb)
       exact mv.heap b o (by simp only[List.mem_cons,List.mem_singleton,List.not_mem_nil,or_false,not_or];exact⟨hb1,hb2⟩) (Heap.get?_push_of_some _ (Heap.get?_push_of_some _ e))
   . cases r₂ with
     | error e=>exact hr₂
     | ok fl₂ =>
      cases fl₂ with
      | ret r =>
       obtain⟨rfl,h',tk,ks,rfl,hs,hx,hk'⟩:=hr₂
       repeat (any_goals (first | assumption | wp_step))
       exact q _ _ _ hs hx hk'
      | _=>exact hr₂.elim
  | _=>exact hr.elim
end
theorem sl_setit_next:Slot "set_iterator" "__next__" "set_iterator.__next__" :=
 .of (owner:="set_iterator") (n:="__next__") (by rw[typeLookup_type,builtinLookup_eq_fast];kernel_rfl) (by decide +kernel) (by decide +kernel) (by decide +kernel) (by first | exact .inl (by decide +kernel) | exact .inr (by decide +kernel)) (by rw[isSubtype_type];kernel_rfl)
theorem bP:entryFor table "set_iterator.__next__" = some Builtin.«set_iterator.__next__»:=entryFor_of_tree (by kernel_rfl)
theorem bQ (a:Value):argsOk "set_iterator.__next__" ⟨[a],[]⟩:=by unfold argsOk;kernel_rfl
theorem m8:entryFor table "set.__iter__" = some Builtin.«frozenset.__iter__» :=
 entryFor_alias (id':="frozenset.__iter__") (by kernel_rfl) rfl (by decide +kernel) (by kernel_rfl)
abbrev dB (h:Heap)(it a:Addr)(f:Value)(i n ep:Nat):Prop :=
 h.get? it=some { cls:=.type "set_iterator",dict:=none,data:=.fields #[f,.int i 0,.ref a,.int n 0,.int ep 0],slots:=#[] }
section
variable {prog:Program}{w:World}{A:Around}{E:Value->Shared->Prop}{s:Shared}
theorem pF {it a:Addr}{o:Obj}{es:Array (Int×Value)}{ep sl i j:Nat}{t:SetTable}{x:Int×Value}{Q:Option Value->Shared->Prop}(hne:a≠it)(hi:dB s.heap it a (.int sl 0) i es.size ep)(ho:s.heap.get? a=some o)(hd:o.data = .set es ep t)(hf:t.fits es.size=true)
 (hb:w.params.followText "set-order" = false) (hpl:t.plain=true\/es.size<=1) (hled:t.led=true) (hbl:SetTable.below t.place sl=i) (hx:es[i]? = some x) (hj:t.place[i]? = some j)
 (q:∀g,dB g it a (.int ((j+1:Nat):Int) 0) (i+1) es.size ep->Heap.SameBut it s.heap g->Q (some x.2) { s with heap:=g }):wpAny (model prog w) A (pyNext (.ref it)) Q E s:=by
 have T:s.TypeIs (.ref it) "set_iterator":=⟨_,hi,rfl⟩;unfold pyNext;refine wpAny_bind (wpAny_attempt (wpAny_callSpecial?_slot (name:=Str.ofString "__next__") T sl_setit_next (wpAny_call_entry sl_setit_next T bP ?_ (bQ _))));unfold Builtin.«set_iterator.__next__»;refine wpAny_bind (m:=slotArgs "__next__" 0 _) (wpAny_pure ?_);refine wpAny_bind (wpAny_fieldsOf hi rfl ?_);dsimp only;unfold setEntries;refine wpAny_bind (wpAny_bind (wpAny_setState_of ho hd hf (wpAny_pure ?_)));rw[if_neg (by simp)];unfold setNext;refine wpAny_bind (wpAny_bind (wpAny_setState_of ho hd hf ?_));unfold setsByText;refine wpAny_bind (wpAny_bind (wpAny_askSetting (wpAny_pure ?_)));show wpAny (model prog w) _ (if w.params.followText "set-order" = true then _ else _) _ _ s;rw[hb,if_neg Bool.false_ne_true];have nd:(!t.plain && decide (es.size > 1))=false:=by
  rcases hpl with z|z
  . rw[z];rfl
  . rw[decide_eq_false (Nat.not_lt.mpr z),Bool.and_false]
 show wpAny (model prog w) _ (if(!t.plain && decide (es.size > 1))=true then _ else _) _ _ s;rw[nd,if_neg Bool.false_ne_true];show wpAny (model prog w) _ ((if(!t.led && !es.isEmpty)=true then unsupported "set:maker-not-led" else pure ()) >>= _) _ _ s;rw[hled];refine wpAny_bind (wpAny_pure (wpAny_pure ?_));have e1:SetTable.below t.place ((sl:Int)).toNat=i:=by rw[Int.toNat_natCast];exact hbl
 rw[e1,hx,hj];refine wpAny_bind (wpAny_setField_rec hi (by simp) fun g1 i1 s1=>?_)
 replace i1:dB g1 it a (.int ((j+1:Nat):Int) 0) i es.size ep:=i1
 refine wpAny_bind (wpAny_setField_rec i1 (by simp) fun g2 i2 s2=>?_);exact wpAny_pure ⟨_,rfl,wpAny_pure (q g2 i2 (s1.trans s2))⟩
theorem rJ {it a:Addr}{o:Obj}{es:Array (Int×Value)}{ep sl:Nat}{t:SetTable}{Q:Option Value->Shared->Prop}(hh:A.handled=none)(hi:dB s.heap it a (.int sl 0) es.size es.size ep)(ho:s.heap.get? a=some o)(hd:o.data = .set es ep t)(hf:t.fits es.size=true)
 (hb:w.params.followText "set-order" = false) (hpl:t.plain=true\/es.size<=1) (hled:t.led=true) (hbl:SetTable.below t.place sl=es.size)
 (q:∀g,Heap.ExtBut it s.heap g->Q none { s with heap:=g }):wpAny (model prog w) A (pyNext (.ref it)) Q E s:=by
 have T:s.TypeIs (.ref it) "set_iterator":=⟨_,hi,rfl⟩;unfold pyNext;refine wpAny_bind (wpAny_attempt (wpAny_callSpecial?_slot (name:=Str.ofString "__next__") T sl_setit_next (wpAny_call_entry sl_setit_next T bP ?_ (bQ _))));unfold Builtin.«set_iterator.__next__»;refine wpAny_bind (m:=slotArgs "__next__" 0 _) (wpAny_pure ?_);refine wpAny_bind (wpAny_fieldsOf hi rfl ?_);dsimp only;unfold setEntries;refine wpAny_bind (wpAny_bind (wpAny_setState_of ho hd hf (wpAny_pure ?_)));rw[if_neg (by simp)];unfold setNext;refine wpAny_bind (wpAny_bind (wpAny_setState_of ho hd hf ?_));unfold setsByText;refine wpAny_bind (wpAny_bind (wpAny_askSetting (wpAny_pure ?_)));show wpAny (model prog w) _ (if w.params.followText "set-order" = true then _ else _) _ _ s;rw[hb,if_neg Bool.false_ne_true];have nd:(!t.plain && decide (es.size > 1))=false:=by
  rcases hpl with z|z
  . rw[z];rfl
  . rw[decide_eq_false (Nat.not_lt.mpr z),Bool.and_false]
 show wpAny (model prog w) _ (if(!t.plain && decide (es.size > 1))=true then _ else _) _ _ s;rw[nd,if_neg Bool.false_ne_true];show wpAny (model prog w) _ ((if(!t.led && !es.isEmpty)=true then unsupported "set:maker-not-led" else pure ()) >>= _) _ _ s;rw[hled];refine wpAny_bind (wpAny_pure (wpAny_pure ?_));have e1:SetTable.below t.place ((sl:Int)).toNat=es.size:=by rw[Int.toNat_natCast];exact hbl
 rw[e1,show es[es.size]? = none by simp];refine wpAny_bind (wpAny_setField_rec hi (by simp) fun g1 i1 s1=>?_);refine wpAny_bind ?_;simp only[newExc,newTuple];refine wpAny_bind (wpAny_newObj_type ?_ (by size_fits));refine wpAny_bind (m:=firstArgMember _ _) (wpAny_of_eq (a:=Value.none) (by simp only[firstArgMember];rfl) ?_);refine wpAny_newObj_type ?_ (by size_fits);simp only[raiseNew];refine wpAny_bind (wpAny_handled ?_);rw[show A.in1.handled=none from hh];refine wpAny_bind (wpAny_pure (wpAny_throw ?_));refine wpAny_bind (wpAny_isInstance (T:="StopIteration") (b:=true) ⟨_,Heap.get?_push_size _ rfl,rfl⟩ isSubtype_stop ?_);exact wpAny_pure (q _ ((s1.extBut.push _).push _))
end
theorem gh {α:Type}:∀(l:List α) (i:Nat) (h:i < l.length),(l[i] :: l.eraseIdx i).Perm l
 | a :: l,0,_=>List.Perm.refl _
 | a :: l,i+1,h=>by
  have h':i < l.length:=by simpa using h
  rw[List.eraseIdx_cons_succ,List.getElem_cons_succ];exact(List.Perm.swap _ _ _).trans ((gh l i h').cons a)
theorem vP {α:Type}(next:Nat->Nat):∀(f k:Nat) (left:List α) (out:Array α),left.length=f->(pickOrder.go next f k left out).toList.Perm (out.toList++left):=by
 intro f
 induction f with
 | zero =>
  intro k left out h;have e:left=[]:=List.length_eq_zero_iff.mp h;subst e;unfold pickOrder.go;simp
 | succ f ih =>
  intro k left out h;unfold pickOrder.go;have lt:next k % left.length < left.length:=Nat.mod_lt _ (by omega)
  rw[List.getElem?_eq_getElem lt];dsimp only;refine(ih (k+1) _ _ (by rw[List.length_eraseIdx_of_lt lt];omega)).trans ?_;rw[Array.toList_push,List.append_assoc];refine List.Perm.append_left _ ?_;exact gh left _ lt
theorem hJ {α:Type}(next:Nat->Nat)(xs:Array α):(pickOrder next xs).toList.Perm xs.toList:=by
 have:=vP next xs.size 0 xs.toList #[] (by simp)
 simpa[pickOrder]using this
section
variable {prog:Program}{w:World}{A:Around}{E:Value->Shared->Prop}{s:Shared}
theorem pG {it a:Addr}{o:Obj}{es:Array (Int×Value)}{ep sl i:Nat}{t:SetTable}{x:Int×Value}{Q:Option Value->Shared->Prop}(hi:dB s.heap it a (.int sl 0) i es.size ep)(ho:s.heap.get? a=some o)(hd:o.data = .set es ep t)(hf:t.fits es.size=true)
 (hb:w.params.followText "set-order" = true) (hx:(pickOrder (w.params.setOrder a ep) es)[i]? = some x)
 (q:∀g,dB g it a (.int sl 0) (i+1) es.size ep->Heap.SameBut it s.heap g->Q (some x.2) { s with heap:=g }):wpAny (model prog w) A (pyNext (.ref it)) Q E s:=by
 have T:s.TypeIs (.ref it) "set_iterator":=⟨_,hi,rfl⟩;unfold pyNext;refine wpAny_bind (wpAny_attempt (wpAny_callSpecial?_slot (name:=Str.ofString "__next__") T sl_setit_next (wpAny_call_entry sl_setit_next T bP ?_ (bQ _))));unfold Builtin.«set_iterator.__next__»;refine wpAny_bind (m:=slotArgs "__next__" 0 _) (wpAny_pure ?_);refine wpAny_bind (wpAny_fieldsOf hi rfl ?_);dsimp only;unfold setEntries;refine wpAny_bind (wpAny_bind (wpAny_setState_of ho hd hf (wpAny_pure ?_)));rw[if_neg (by simp)];unfold setNext;refine wpAny_bind (wpAny_bind (wpAny_setState_of ho hd hf ?_));unfold setsByText;refine wpAny_bind (wpAny_bind (wpAny_askSetting (wpAny_pure ?_)));show wpAny (model prog w) _ (if w.params.followText "set-order" = true then _ else _) _ _ s;rw[hb,if_pos rfl];dsimp only;rw[if_neg (by simp)];unfold setWalk setsByText;refine wpAny_bind (wpAny_bind (wpAny_setState_of ho hd hf ?_));refine wpAny_bind (wpAny_bind (wpAny_askSetting (wpAny_pure ?_)));show wpAny (model prog w) _ (if w.params.followText "set-order" = true then _ else _) _ _ s;rw[hb,if_pos rfl];refine wpAny_bind (wpAny_askSetting (wpAny_pure (wpAny_pure ?_)));have e1:(pickOrder (w.params.setOrder a ep) es)[((i:Int)).toNat]? = some x:=by rw[Int.toNat_natCast];exact hx
 show wpAny (model prog w) _ (match ((pickOrder (w.params.setOrder a ep) es)[((i:Int)).toNat]?).map (fun e=>(e.2,((sl:Int)).toNat))with | some (x,next)=>_ | none=>_) _ _ s;rw[e1];refine wpAny_bind (wpAny_setField_rec hi (by simp) fun g1 i1 s1=>?_)
 replace i1:dB g1 it a (.int sl 0) i es.size ep:=i1
 refine wpAny_bind (wpAny_setField_rec i1 (by simp) fun g2 i2 s2=>?_);exact wpAny_pure ⟨_,rfl,wpAny_pure (q g2 i2 (s1.trans s2))⟩
theorem rK {it a:Addr}{o:Obj}{es:Array (Int×Value)}{ep sl:Nat}{t:SetTable}{Q:Option Value->Shared->Prop}(hh:A.handled=none)(hi:dB s.heap it a (.int sl 0) es.size es.size ep)(ho:s.heap.get? a=some o)(hd:o.data = .set es ep t)(hf:t.fits es.size=true)
 (hb:w.params.followText "set-order" = true) (q:∀g,Heap.ExtBut it s.heap g->Q none { s with heap:=g }):wpAny (model prog w) A (pyNext (.ref it)) Q E s:=by
 have T:s.TypeIs (.ref it) "set_iterator":=⟨_,hi,rfl⟩;unfold pyNext;refine wpAny_bind (wpAny_attempt (wpAny_callSpecial?_slot (name:=Str.ofString "__next__") T sl_setit_next (wpAny_call_entry sl_setit_next T bP ?_ (bQ _))));unfold Builtin.«set_iterator.__next__»;refine wpAny_bind (m:=slotArgs "__next__" 0 _) (wpAny_pure ?_);refine wpAny_bind (wpAny_fieldsOf hi rfl ?_);dsimp only;unfold setEntries;refine wpAny_bind (wpAny_bind (wpAny_setState_of ho hd hf (wpAny_pure ?_)));rw[if_neg (by simp)];unfold setNext;refine wpAny_bind (wpAny_bind (wpAny_setState_of ho hd hf ?_));unfold setsByText;refine wpAny_bind (wpAny_bind (wpAny_askSetting (wpAny_pure ?_)));show wpAny (model prog w) _ (if w.params.followText "set-order" = true then _ else _) _ _ s;rw[hb,if_pos rfl];dsimp only;rw[if_neg (by simp)];unfold setWalk setsByText;refine wpAny_bind (wpAny_bind (wpAny_setState_of ho hd hf ?_));refine wpAny_bind (wpAny_bind (wpAny_askSetting (wpAny_pure ?_)));show wpAny (model prog w) _ (if w.params.followText "set-order" = true then _ else _) _ _ s;rw[hb,if_pos rfl];refine wpAny_bind (wpAny_askSetting (wpAny_pure (wpAny_pure ?_)));have z:(pickOrder (w.params.setOrder a ep) es).size=es.size:=by rw[<- Array.length_toList,(hJ _ es).length_eq,Array.length_toList]
 have e1:(pickOrder (w.params.setOrder a ep) es)[((es.size:Nat):Int).toNat]? = none:=by rw[Int.toNat_natCast,<- z];simp
 show wpAny (model prog w) _ (match ((pickOrder (w.params.setOrder a ep) es)[((es.size:Nat):Int).toNat]?).map (fun e=>(e.2,((sl:Int)).toNat))with | some (x,next)=>_ | none=>_) _ _ s;rw[e1];refine wpAny_bind (wpAny_setField_rec hi (by simp) fun g1 i1 s1=>?_);refine wpAny_bind ?_;simp only[newExc,newTuple];refine wpAny_bind (wpAny_newObj_type ?_ (by size_fits));refine wpAny_bind (m:=firstArgMember _ _) (wpAny_of_eq (a:=Value.none) (by simp only[firstArgMember];rfl) ?_);refine wpAny_newObj_type ?_ (by size_fits);simp only[raiseNew];refine wpAny_bind (wpAny_handled ?_);rw[show A.in1.handled=none from hh];refine wpAny_bind (wpAny_pure (wpAny_throw ?_));refine wpAny_bind (wpAny_isInstance (T:="StopIteration") (b:=true) ⟨_,Heap.get?_push_size _ rfl,rfl⟩ isSubtype_stop ?_);exact wpAny_pure (q _ ((s1.extBut.push _).push _))
end
section
variable {prog:Program}{w:World}{A:Around}{E:Value->Shared->Prop}{s:Shared}
theorem jN {eZ:Source}{n:Nat}{Q:Nat->Shared->Prop}(hn:n≠0)(q:∀i d,i < n->Q i { s with drawn:=d }):wpAny (model prog w) A (choose eZ n) Q E s:=fun Γ p _=>by
 unfold choose;rw[Sem.wp_choose];exact⟨hn,q _ _ (Nat.mod_lt _ (Nat.pos_of_ne_zero hn))⟩
theorem pH {α:Type}:∀(n:Nat) (xs:List α) (s:Shared) (Q:List α->Shared->Prop),xs.length=n->(∀ys d,ys.Perm xs->Q ys { s with drawn:=d })->wpAny (model prog w) A (drawOrder n xs) Q E s:=by
 intro n
 induction n with
 | zero =>
  intro xs s Q h q;have e:xs=[]:=List.length_eq_zero_iff.mp h;subst e;unfold drawOrder;have:=q [] s.drawn (List.Perm.refl _);exact wpAny_pure this
 | succ n ih =>
  intro xs s Q h q;cases xs with
  | nil=>cases h
  | cons x xs =>
   unfold drawOrder;refine wpAny_bind (jN (by simp) fun i d hi=>?_);rw[List.getElem?_eq_getElem hi];refine wpAny_bind (ih _ _ _ (by rw[List.length_eraseIdx_of_lt hi];omega) fun ys d' p=>wpAny_pure ?_);exact q _ d' ((p.cons _).trans (gh _ _ hi))
theorem pI {it a T:Addr}{o ot:Obj}{es:Array (Int×Value)}{ep i p m:Nat}{t:SetTable}{us:Array Value}{tk:Tok}{x:Int×Value}{Q:Option Value->Shared->Prop}(hi:dB s.heap it a (.ref T) i es.size ep)(hT:s.heap.get? T=some ot)(ht:ot.data = .seq us m)(hu:us[i]? = some (.int p tk))
 (ho:s.heap.get? a=some o) (hd:o.data = .set es ep t) (hf:t.fits es.size=true) (hx:es[p]? = some x)
 (q:∀g,dB g it a (.ref T) (i+1) es.size ep->Heap.SameBut it s.heap g->Q (some x.2) { s with heap:=g }):wpAny (model prog w) A (pyNext (.ref it)) Q E s:=by
 have Ti:s.TypeIs (.ref it) "set_iterator":=⟨_,hi,rfl⟩;unfold pyNext;refine wpAny_bind (wpAny_attempt (wpAny_callSpecial?_slot (name:=Str.ofString "__next__") Ti sl_setit_next (wpAny_call_entry sl_setit_next Ti bP ?_ (bQ _))));unfold Builtin.«set_iterator.__next__»;refine wpAny_bind (m:=slotArgs "__next__" 0 _) (wpAny_pure ?_);refine wpAny_bind (wpAny_fieldsOf hi rfl ?_);dsimp only;unfold setEntries;refine wpAny_bind (wpAny_bind (wpAny_setState_of ho hd hf (wpAny_pure ?_)));rw[if_neg (by simp)];refine wpAny_bind (wpAny_seqItems hT ht ?_);have e1:us[((i:Int)).toNat]? = some (.int p tk):=by rw[Int.toNat_natCast];exact hu
 dsimp only;rw[e1];dsimp only;unfold setNextDrawn;refine wpAny_bind (wpAny_bind (wpAny_setState_of ho hd hf ?_));dsimp only;rw[if_neg (by simp)];have e2:es[((p:Int)).toNat]? = some x:=by rw[Int.toNat_natCast];exact hx
 rw[e2];refine wpAny_pure ?_;refine wpAny_bind (wpAny_setField_rec hi (by simp) fun g2 i2 s2=>?_);exact wpAny_pure ⟨_,rfl,wpAny_pure (q g2 i2 s2)⟩
theorem rL {it a T:Addr}{o ot:Obj}{es:Array (Int×Value)}{ep m:Nat}{t:SetTable}{us:Array Value}{Q:Option Value->Shared->Prop}(hh:A.handled=none)(hi:dB s.heap it a (.ref T) es.size es.size ep)(hT:s.heap.get? T=some ot)(ht:ot.data = .seq us m)(hu:us.size=es.size)
 (ho:s.heap.get? a=some o) (hd:o.data = .set es ep t) (hf:t.fits es.size=true) (q:∀g,Heap.ExtBut it s.heap g->Q none { s with heap:=g }):wpAny (model prog w) A (pyNext (.ref it)) Q E s:=by
 have Ti:s.TypeIs (.ref it) "set_iterator":=⟨_,hi,rfl⟩;unfold pyNext;refine wpAny_bind (wpAny_attempt (wpAny_callSpecial?_slot (name:=Str.ofString "__next__") Ti sl_setit_next (wpAny_call_entry sl_setit_next Ti bP ?_ (bQ _))));unfold Builtin.«set_iterator.__next__»;refine wpAny_bind (m:=slotArgs "__next__" 0 _) (wpAny_pure ?_);refine wpAny_bind (wpAny_fieldsOf hi rfl ?_);dsimp only;unfold setEntries;refine wpAny_bind (wpAny_bind (wpAny_setState_of ho hd hf (wpAny_pure ?_)));rw[if_neg (by simp)];refine wpAny_bind (wpAny_seqItems hT ht ?_);have e1:us[((es.size:Nat):Int).toNat]? = none:=by rw[Int.toNat_natCast,<- hu];simp
 dsimp only;rw[e1];refine wpAny_bind (wpAny_setField_rec hi (by simp) fun g0 i0 s0=>?_);refine wpAny_bind (wpAny_setField_rec i0 (by simp) fun g1 i1 s1=>?_);refine wpAny_bind ?_;simp only[newExc,newTuple];refine wpAny_bind (wpAny_newObj_type ?_ (by size_fits));refine wpAny_bind (m:=firstArgMember _ _) (wpAny_of_eq (a:=Value.none) (by simp only[firstArgMember];rfl) ?_);refine wpAny_newObj_type ?_ (by size_fits);simp only[raiseNew];refine wpAny_bind (wpAny_handled ?_);rw[show A.in1.handled=none from hh];refine wpAny_bind (wpAny_pure (wpAny_throw ?_));refine wpAny_bind (wpAny_isInstance (T:="StopIteration") (b:=true) ⟨_,Heap.get?_push_size _ rfl,rfl⟩ isSubtype_stop ?_);exact wpAny_pure (q _ (((s0.trans s1).extBut.push _).push _))
end
theorem fZ:Slot "set_iterator" "__iter__" "set_iterator.__iter__" :=
 .of (owner:="set_iterator") (n:="__iter__") (by rw[typeLookup_type,builtinLookup_eq_fast];kernel_rfl) (by decide +kernel) (by decide +kernel) (by decide +kernel) (by first | exact .inl (by decide +kernel) | exact .inr (by decide +kernel)) (by rw[isSubtype_type];kernel_rfl)
theorem jO:entryFor table "set_iterator.__iter__" = some Builtin.«dict_keyiterator.__iter__» :=
 entryFor_alias (id':="dict_keyiterator.__iter__") (by kernel_rfl) (by first | rfl | decide +kernel | (unfold String.splitOn;simp +decide [String.splitOnAux])) (by decide +kernel) (by kernel_rfl)
theorem jP (a:Value):argsOk "set_iterator.__iter__" ⟨[a],[]⟩:=by unfold argsOk;kernel_rfl
section
variable {prog:Program}{w:World}{A:Around}{E:Value->Shared->Prop}{s:Shared}
theorem gi {it a:Addr}{f:Value}{i n ep:Nat}{Q:Value->Shared->Prop}(h:dB s.heap it a f i n ep)(q:Q (.ref it) s):wpAny (model prog w) A (pyIter (.ref it)) Q E s:=by
 have T:s.TypeIs (.ref it) "set_iterator":=⟨_,h,rfl⟩;refine wpAny_pyIter_slot T fZ (wpAny_call_entry fZ T jO ?_ (jP _));show wpAny (model prog w) _ (ret (.ref it)) _ _ s;exact wpAny_pure ⟨_,rfl,"set_iterator",_,T,sl_setit_next.lookup,q⟩
variable {K:Type}[DecidableEq K]{knd:KeyKind prog w K}
theorem jM.get {ks:List K}{es:List (Int×Value)}(x:jM knd ks es):∀{i:Nat} {e:Int×Value},es[i]? = some e->∃k,ks[i]? = some k/\knd.is k e.2=true:=by
 induction x with
 | nil=>intro i e h;simp at h
 | @cons k e' ks es h _ ih =>
  intro i e hi;cases i with
  | zero =>
   have:e'=e:=by simpa using hi
   subst this;exact⟨k,rfl,h.1⟩
  | succ i=>simpa using ih (i:=i) (e:=e) (by simpa using hi)
abbrev iu (knd:KeyKind prog w K)(ks:List K):Nat->Value->Prop:=fun i v=>∃k,ks[i]? = some k/\knd.is k v=true
theorem m9 {I a:Addr}{o:Obj}{es:Array (Int×Value)}{ep:Nat}{t:SetTable}{ks:List K}(hh:A.handled=none)(hne:a≠I)(hd:o.data = .set es ep t)(hf:t.fits es.size=true)(hb:w.params.followText "set-order" = false)(hpl:t.plain=true\/es.size<=1)(ok:dA true t)(el:jM knd ks es.toList) :
 Walks prog w A I [I,a] [I] ks.length (iu knd ks) (fun i h=>∃sl:Nat,dB h I a (.int sl 0) i es.size ep/\SetTable.below t.place sl=i/\h.get? a=some o):=by
 have z:ks.length=es.size:=by rw[el.length];simp
 have zp:t.place.size=es.size:=by
  unfold SetTable.fits at hf;simp only[Bool.and_eq_true,beq_iff_eq]at hf;exact hf.1
 refine⟨fun b hb=>by simp at hb;simp[hb],fun i h h' st k=>?_,fun i s Q E hi st q=>?_,fun s Q E st q=>?_,fun i s Q E st q=>?_⟩
 . obtain⟨sl,h1,h2,h3⟩:=st;exact⟨sl,k I (by simp) _ h1,h2,k a (by simp) _ h3⟩
 . obtain⟨sl,h1,h2,h3⟩:=st;have hx:es[i]? = some es[i]:=Array.getElem?_eq_getElem (by omega);have hj:t.place[i]? = some t.place[i]:=Array.getElem?_eq_getElem (by omega);obtain⟨k,hk,his⟩:=el.get (i:=i) (e:=es[i]) (by rw[Array.getElem?_toList];exact hx);exact pF hne h1 h3 hd hf hb hpl ok.led h2 hx hj fun g g1 sb=>q _ g s.toks ⟨k,hk,his⟩ ⟨_,g1,m7 ok.rise hj,(sb.2 a hne).trans h3⟩ fun b o hb e=>(sb.2 b fun z=>hb (by simp[z])).trans e
 . obtain⟨sl,h1,h2,h3⟩:=st;rw[z]at h1 h2;exact rJ hh h1 h3 hd hf hb hpl ok.led h2 fun g eb=>q g s.toks fun b o hb e=>eb b o (fun z=>hb (by simp[z])) e
 . obtain⟨sl,h1,_⟩:=st;exact gi h1 q
theorem rM {I a:Addr}{o:Obj}{es:Array (Int×Value)}{ep:Nat}{t:SetTable}{ks:List K}(hh:A.handled=none)(hne:a≠I)(hd:o.data = .set es ep t)(hf:t.fits es.size=true)(hb:w.params.followText "set-order" = true)(el:jM knd ks (pickOrder (w.params.setOrder a ep) es).toList) :
 Walks prog w A I [I,a] [I] ks.length (iu knd ks) (fun i h=>dB h I a (.int (0:Nat) 0) i es.size ep/\h.get? a=some o):=by
 have zo:(pickOrder (w.params.setOrder a ep) es).size=es.size:=by rw[<- Array.length_toList,(hJ _ es).length_eq,Array.length_toList]
 have z:ks.length=es.size:=by rw[el.length,<- zo];simp
 refine⟨fun b hb=>by simp at hb;simp[hb],fun i h h' st k=>?_,fun i s Q E hi st q=>?_,fun s Q E st q=>?_,fun i s Q E st q=>?_⟩
 . exact⟨k I (by simp) _ st.1,k a (by simp) _ st.2⟩
 . have hx:(pickOrder (w.params.setOrder a ep) es)[i]? = some (pickOrder (w.params.setOrder a ep) es)[i]:=Array.getElem?_eq_getElem (by omega);obtain⟨k,hk,his⟩:=el.get (i:=i) (e:=(pickOrder (w.params.setOrder a ep) es)[i]) (by rw[Array.getElem?_toList];exact hx);exact pG st.1 st.2 hd hf hb hx fun g g1 sb=>q _ g s.toks ⟨k,hk,his⟩ ⟨g1,(sb.2 a hne).trans st.2⟩ fun b o hb e=>(sb.2 b fun z=>hb (by simp[z])).trans e
 . obtain⟨h1,h3⟩:=st;rw[z]at h1;exact rK hh h1 h3 hd hf hb fun g eb=>q g s.toks fun b o hb e=>eb b o (fun z=>hb (by simp[z])) e
 . exact gi st.1 q
theorem f6 {α β:Type}{f:α->Option β}:∀{ys:List α} (h:∀y∈ys,(f y).isSome) (i:Nat),(ys.filterMap f)[i]? = ys[i]?.bind f
 | [],_,i=>by simp
 | y :: ys,h,i=>by
  obtain⟨b,hb⟩:=Option.isSome_iff_exists.mp (h y List.mem_cons_self);rw[List.filterMap_cons,hb];cases i with
  | zero=>simp[hb]
  | succ i=>simpa using f6 (fun z hz=>h z (List.mem_cons_of_mem _ hz)) i
theorem pJ {I a T:Addr}{o ot:Obj}{es:Array (Int×Value)}{ep m:Nat}{t:SetTable}{ks:List K}{ys:List Nat}(hh:A.handled=none)(hne:a≠I)(hTI:T≠I)(hd:o.data = .set es ep t)(hf:t.fits es.size=true)(ht:ot.data = .seq (ys.map fun(i:Nat)=>rawInt i).toArray m)(hy:ys.Perm (List.range es.size))
 (el:jM knd ks (ys.filterMap (es[·]?))):Walks prog w A I [I,a,T] [I] ks.length (iu knd ks) (fun i h=>dB h I a (.ref T) i es.size ep/\h.get? T=some ot/\h.get? a=some o):=by
 have hs:∀y∈ys,(es[y]?).isSome:=fun y h=>by
  have:y < es.size:=List.mem_range.mp (hy.mem_iff.mp h);rw[Array.getElem?_eq_getElem this];rfl
 have ly:ys.length=es.size:=by rw[hy.length_eq,List.length_range]
 have z:ks.length=es.size:=by
  rw[el.length,(hy.filterMap _).length_eq,filterMap_getElem?_range es];simp
 refine⟨fun b hb=>by simp at hb;simp[hb],fun i h h' st k=>?_,fun i s Q E hi st q=>?_,fun s Q E st q=>?_,fun i s Q E st q=>?_⟩
 . exact⟨k I (by simp) _ st.1,k T (by simp) _ st.2.1,k a (by simp) _ st.2.2⟩
 . have li:i < ys.length:=by omega
   have hyi:ys[i]? = some ys[i]:=List.getElem?_eq_getElem li;have lp:ys[i] < es.size:=List.mem_range.mp (hy.mem_iff.mp (List.getElem_mem li));have hx:es[ys[i]]? = some es[ys[i]]:=Array.getElem?_eq_getElem lp;obtain⟨k,hk,his⟩:=el.get (i:=i) (e:=es[ys[i]]) (by rw[f6 hs,hyi];exact hx);have hu:((ys.map fun(i:Nat)=>rawInt i).toArray)[i]? = some (.int (ys[i]:Nat) 0):=by simp[hyi,rawInt]
   exact pI st.1 st.2.1 ht hu st.2.2 hd hf hx fun g g1 sb=>q _ g s.toks ⟨k,hk,his⟩ ⟨g1,(sb.2 T hTI).trans st.2.1,(sb.2 a hne).trans st.2.2⟩ fun b o hb e=>(sb.2 b fun z=>hb (by simp[z])).trans e
 . obtain⟨h1,h2,h3⟩:=st;rw[z]at h1;exact rL hh h1 h2 ht (by simp[ly]) h3 hd hf fun g eb=>q g s.toks fun b o hb e=>eb b o (fun z=>hb (by simp[z])) e
 . exact gi st.1 q
end
section
variable {prog:Program}{w:World}{A:Around}{E:Value->Shared->Prop}{s:Shared}{K:Type}[DecidableEq K]{knd:KeyKind prog w K}
theorem rN {a:Addr}{ks:List K}{Q:Value->Shared->Prop}{B:Around}(hh:B.handled=none)(hS:dZ knd s.heap a ks)
 (q:∀(I:Addr) (fp:List Addr) (St:Nat->Heap->Prop) (ks':List K) (g:Heap) (d:Drawn),ks'.Perm ks->Walks prog w B I fp [I] ks'.length (iu knd ks') St->St 0 g->s.heap.objs.size<=I->(∀b∈fp,b=a\/s.heap.objs.size<=b)->(∀b∈fp,b < g.objs.size) ->
  (∀b o,s.heap.get? b=some o->g.get? b=some o)->Q (.ref I) { s with heap:=g,drawn:=d }):wpAny (model prog w) A (pyIter (.ref a)) Q E s:=by
 have hT:=hS.setOf.typeIs;obtain⟨o,es,ep,t,ho,hex,hd,el,nd,hb,hf,ok⟩:=hS;have la:=Heap.lt_size ho;refine wpAny_pyIter_slot hT F.slot_set_iter (wpAny_call_entry F.slot_set_iter hT m8 ?_ (F.args_set_iter_1 _));unfold Builtin.«frozenset.__iter__»;refine wpAny_bind (m:=Builtin.Frozenset.slot0 "__iter__" _) (wpAny_pure ?_);unfold Builtin.Frozenset.sizeOf setEntries setDrawn setsByText;refine wpAny_bind (wpAny_bind (wpAny_bind (wpAny_setState_of ho hd hf (wpAny_pure (wpAny_pure ?_)))));refine wpAny_bind (wpAny_bind (wpAny_setState_of ho hd hf ?_));refine wpAny_bind (wpAny_bind (wpAny_askSetting (wpAny_pure (wpAny_pure ?_))));have mk:∀(f:Value) (s1:Shared),s1.heap.get? a=some o->∀R:Value->Shared->Prop,R (.ref s1.heap.objs.size) { s1 with heap:=s1.heap.push { cls:=.type "set_iterator",data:=.fields #[f,.int (0:Nat) 0,.ref a,.int es.size 0,.int ep 0] } } ->
  wpAny (model prog w) A.in1 (do
   let e <- setEpoch a
   let v <- newFields "set_iterator" [f,rawInt 0,Value.ref a,rawInt es.size,rawInt e]
   ret v) (fun fin s'=>∃v,fin=Fin.done (Flow.ret v)/\∃T' r,s'.TypeIs v T'/\typeLookup (Value.type T') (Str.ofString "__next__")=pure (some r)/\R v s') E s1:=fun f s1 h1 R hR=>by
  refine wpAny_bind (wpAny_setEpoch_of h1 hd hf ?_);exact wpAny_bind (wpAny_newObj_type (wpAny_pure ⟨_,rfl,"set_iterator",_,⟨_,Heap.get?_push_size _ rfl,rfl⟩,sl_setit_next.lookup,hR⟩))
 have hzn:es.size<=sizeLine:=fits_of_scanBound hb;show wpAny (model prog w) _ (if(!w.params.followText "set-order" && (!t.plain && decide (es.size > 1)))=true then _ else _) _ _ s;have kp1:∀(u:Obj) (b:Addr) (x:Obj),s.heap.get? b=some x->(s.heap.push u).get? b=some x:=fun u b x e=>Heap.get?_push_of_some _ e;have lt1:∀(u:Obj) (b:Addr),b∈[s.heap.objs.size,a]->b < (s.heap.push u).objs.size:=fun u b hb=>by
  rw[Heap.size_push];rcases List.mem_cons.mp hb with z|z
  . rw[z];exact Nat.lt_succ_self _
  . rw[List.mem_singleton.mp z];exact Nat.lt_succ_of_lt la
 have fp1:∀b∈[s.heap.objs.size,a],b=a\/s.heap.objs.size<=b:=fun b hb=>by
  rcases List.mem_cons.mp hb with z|z
  . exact .inr (Nat.le_of_eq z.symm)
  . exact .inl (List.mem_singleton.mp z)
 cases hbt:w.params.followText "set-order" with
 | true =>
  rw[if_neg (by simp)];refine wpAny_bind (wpAny_pure (mk (rawInt 0) s ho Q ?_));obtain⟨ks',p,el'⟩:=el.perm (hJ (w.params.setOrder a ep) es);exact q s.heap.objs.size [s.heap.objs.size,a] _ ks' _ s.drawn p (rM hh (Nat.ne_of_lt la) hd hf hbt el') ⟨Heap.get?_push_size _ rfl,kp1 _ _ _ ho⟩ (Nat.le_refl _) fp1 (lt1 _) (kp1 _)
 | false =>
  rw[hbt]at ok;cases hdr:(!t.plain && decide (es.size > 1))with
  | false =>
   rw[if_neg (by simp)];refine wpAny_bind (wpAny_pure (mk (rawInt 0) s ho Q ?_));have hpl:t.plain=true\/es.size<=1:=by
    rcases Bool.and_eq_false_iff.mp hdr with z|z
    . exact .inl (by simpa using z)
    . exact .inr (Nat.not_lt.mp (of_decide_eq_false z))
   exact q s.heap.objs.size [s.heap.objs.size,a] _ ks _ s.drawn (List.Perm.refl _) (m9 hh (Nat.ne_of_lt la) hd hf hbt hpl ok el) ⟨0,Heap.get?_push_size _ rfl,pq ok.rise,kp1 _ _ _ ho⟩ (Nat.le_refl _) fp1 (lt1 _) (kp1 _)
  | true =>
   rw[if_pos (by decide)];refine wpAny_bind (pH _ _ _ _ (by simp) fun ys d p=>?_);have ly:ys.length=es.size:=by rw[p.length_eq];simp
   refine wpAny_bind (wpAny_newTuple ?_ (by simp[ly];exact hzn));obtain⟨ks',p',el'⟩:=el.perm (show(ys.filterMap (es[·]?)).Perm es.toList from(p.filterMap _).trans (by rw[filterMap_getElem?_range es]));refine mk _ _ (kp1 _ _ _ ho) Q ?_;have nT:s.heap.objs.size≠(s.heap.push { cls:=.type "tuple",data:=.seq (ys.map fun(i:Nat)=>rawInt i).toArray }).objs.size:=by
    rw[Heap.size_push];exact Nat.ne_of_lt (Nat.lt_succ_self _)
   have na:a≠(s.heap.push { cls:=.type "tuple",data:=.seq (ys.map fun(i:Nat)=>rawInt i).toArray }).objs.size:=by
    rw[Heap.size_push];exact Nat.ne_of_lt (Nat.lt_succ_of_lt la)
   refine q (s.heap.push { cls:=.type "tuple",data:=.seq (ys.map fun(i:Nat)=>rawInt i).toArray }).objs.size [_,a,s.heap.objs.size] _ ks' _ d p' (pJ hh na nT hd hf rfl p el') ⟨Heap.get?_push_size _ rfl,Heap.get?_push_of_some _ (Heap.get?_push_size _ rfl),Heap.get?_push_of_some _ (kp1 _ _ _ ho)⟩ ?_ ?_ ?_ fun b x e=>Heap.get?_push_of_some _ (kp1 _ b x e)
   . rw[Heap.size_push];exact Nat.le_succ _
   . intro b hb;simp only[List.mem_cons,List.not_mem_nil,or_false]at hb;rcases hb with z|z|z
     . rw[z,Heap.size_push];exact .inr (Nat.le_succ _)
     . exact .inl z
     . exact .inr (Nat.le_of_eq z.symm)
   . intro b hb;simp only[List.mem_cons,List.not_mem_nil,or_false]at hb;rw[Heap.size_push,Heap.size_push];rcases hb with z|z|z
     . rw[z,Heap.size_push];exact Nat.lt_succ_self _
     . rw[z];exact Nat.lt_succ_of_lt (Nat.lt_succ_of_lt la)
     . rw[z];exact Nat.lt_succ_of_lt (Nat.lt_succ_self _)
end
section
variable {prog:Program}{w:World}{A:Around}{E:Value->Shared->Prop}{s:Shared}
theorem tY {r:Addr}{Q:Bool->Shared->Prop}(hT:s.TypeIs (.ref r) "set")(q:Q false s):wpAny (model prog w) A (Builtin.List.listLengthHint (.ref r)) Q E s:=by
 unfold Builtin.List.listLengthHint;refine wpAny_bind (wpAny_specialOf hT PySem.F.slot_set_len.lookup ?_);generalize hid:("set.__len__":String)=id0
 wp_delta
 rw[show splitId id0=some ("set","__len__") by subst hid;decide +kernel];subst hid;refine wpAny_bind (wpAny_isInstance (T:="set") (b:=true) hT (by rw[isSubtype_type];kernel_rfl) ?_);refine wpAny_ite_split (fun z=>absurd z (by decide)) fun Fc=>wpAny_ite_split (fun Fc=>?_) fun z=>absurd (by decide +kernel) z;exact wpAny_bind (wpAny_typeOf hT (wpAny_pure q))
variable {K:Type}[DecidableEq K]{knd:KeyKind prog w K}
theorem tZ {R:Result->Shared->Prop}{a S:Addr}{ks:List K}{c:Nat}{res:Value}(hh:A.handled=none)(hS:dZ knd s.heap a ks)(hn:ks.length<=sizeLine)(ne:S≠a)(hl:s.heap.get? S=some { cls:=.type "list",data:=.seq #[] c })
 (q:∀ks' h' d tk acc c',ks'.Perm ks->(∀b o,b≠S->s.heap.get? b=some o->h'.get? b=some o)->h'.get? S=some { cls:=.type "list",dict:=none,data:=.seq acc c',slots:=#[] }->ItemsOf (iu knd ks') acc ks'.length->R (.ok (.ret res)) { s with heap:=h',drawn:=d,toks:=tk }) :
 wpAny (model prog w) A.in1 (Builtin.List.listExtendWith (.ref S) (.ref a) res) (fun fin s'=>match fin with | .done f=>R (.ok f) s' | .again c'=>c'.quiet=true/\codeAny (model prog w) A c' R s') (fun e s'=>R (.error e) s') s:=by
 have hT:=hS.setOf.typeIs;unfold Builtin.List.listExtendWith;refine wpAny_bind (wpAny_typeOf (T:="set") hT ?_);have h1:Builtin.List.listSameRef (.ref S) (.ref a)=false:=by simp[Builtin.List.listSameRef,ne]
 have h2:(Value.type "set" == Value.type "list")=false:=by decide
 have h3:(Value.type "set" == Value.type "tuple")=false:=by decide
 simp only[h1,h2,h3,Bool.or_false,Bool.false_eq_true,if_false];refine wpAny_bind (rN (B:=A.in1) hh hS fun I fp St ks' g d p W st hI hfp hlt kp=>?_);have lS:=Heap.lt_size hl;have nI:S≠I:=fun z=>absurd (Nat.lt_of_lt_of_le lS hI) (by rw[z];exact Nat.lt_irrefl _);have nf:S ∉ fp:=fun m=>by
  rcases hfp S m with z|z
  . exact ne z
  . exact absurd (Nat.lt_of_lt_of_le lS z) (Nat.lt_irrefl _)
 have key:∀(h:Heap) (c1 tk:Nat),St 0 h->(∀b o,b≠S->s.heap.get? b=some o->h.get? b=some o)->h.get? S=some { cls:=.type "list",data:=.seq #[] c1 } ->
  codeAny (model prog w) A (.builtin "list.extend.loop" ⟨[.ref S,.ref I,res],[]⟩) R { s with heap:=h,drawn:=d,toks:=tk }:=by
  intro h c1 tk hst hk hS1;refine codeAny_extend_loopS W.toS (by rw[p.length_eq];exact hn) S nf res ks'.length 0 _ #[] c1 rfl (Nat.zero_le _) hst hS1 (ItemsOf.nil _) fun s' acc' c' hm hS' hacc=>?_;rw[Moved.eq_with hm];refine q ks' s'.heap d s'.toks acc' c' p (fun b o hb e=>hm.heap b o (fun hmem=>?_) (hk b o hb e)) hS' hacc;rcases List.mem_cons.mp hmem with z|z
  . exact hb z
  . exact absurd (Nat.lt_of_lt_of_le (Heap.lt_size e) hI) (by rw[List.mem_singleton.mp z];exact Nat.lt_irrefl _)
 have hS1:=kp _ _ hl;have hT1:Shared.TypeIs { s with heap:=g,drawn:=d } (.ref a) "set":=by
  obtain⟨o,e,hc⟩:=hT;exact⟨o,kp _ _ e,hc⟩
 refine wpAny_bind (wpAny_holding (tY hT1 ?_));refine wpAny_ite_split (fun Fc=>?_) (fun Fc=>wpAny_pure ⟨plainId_quiet PySem.F.plain_extend_loop _,key g c s.toks st (fun b o Fc e=>kp b o e) hS1⟩);refine wpAny_bind (wpAny_rule (wpAny_bind ?_));show wpAny (model prog w) _ (updateSeq S (·.push .none) >>= fun Fc=>updateSeq S (·.pop)) _ _ _;refine wpAny_bind (wpAny_updateSeq hS1 rfl ?_);have hS2:=Heap.get?_update_self (Obj.mapSeq (·.push Value.none)) hS1 rfl;refine wpAny_updateSeq (hz:=by seq_fits) hS2 rfl ?_;have hS3:=Heap.get?_update_self (Obj.mapSeq (·.pop)) hS2 rfl;refine wpAny_pure ⟨plainId_quiet PySem.F.plain_extend_loop _,key _ _ _ ?_ (fun b o hb e=>?_) hS3⟩
 . refine W.frame 0 _ _ st fun b hb o e=>?_;have hbS:b≠S:=fun z=>nf (z ▸ hb);exact(Heap.get?_update_other _ _ (Ne.symm hbS)).trans ((Heap.get?_update_other _ _ (Ne.symm hbS)).trans e)
 . exact(Heap.get?_update_other _ _ (Ne.symm hb)).trans ((Heap.get?_update_other _ _ (Ne.symm hb)).trans (kp b o e))
theorem rO {a:Addr}{ks:List K}{Q:List Value->Shared->Prop}(hh:A.handled=none)(hS:dZ knd s.heap a ks)(hn:ks.length<=sizeLine)
 (q:∀ks' h' d tk acc,ks'.Perm ks->(∀b o,s.heap.get? b=some o->h'.get? b=some o)->s.heap.objs.size < h'.objs.size->ItemsOf (iu knd ks') acc ks'.length->Q acc.toList { s with heap:=h',drawn:=d,toks:=tk }):wpAny (model prog w) A (collect (.ref a)) Q E s:=by
 have la:a < s.heap.objs.size:=by
  obtain⟨o,es,ep,t,ho,_⟩:=hS;exact Heap.lt_size ho
 unfold collect;refine wpAny_bind (wpAny_runValue (codeAny_builtin PySem.F.entry_proto_collect ?_));rw[Around.under_plainId PySem.F.plain_proto_collect _];have new:(s.heap.push { cls:=.type "list",data:=.seq ([]:List Value).toArray }).get? s.heap.objs.size=some { cls:=.type "list",data:=.seq #[] 0 }:=Heap.get?_push_size _ rfl;have hS1:dZ knd (s.heap.push { cls:=.type "list",data:=.seq ([]:List Value).toArray }) a ks:=hS.at fun o e=>Heap.get?_push_of_some _ e;have key:∀R:Result->Shared->Prop,(∀ks' h' d tk acc c,ks'.Perm ks->(∀b o,b≠s.heap.objs.size->(s.heap.push { cls:=.type "list",data:=.seq ([]:List Value).toArray }).get? b=some o->h'.get? b=some o) ->
  h'.get? s.heap.objs.size=some { cls:=.type "list",dict:=none,data:=.seq acc c,slots:=#[] }->ItemsOf (iu knd ks') acc ks'.length->R (.ok (.ret (.ref s.heap.objs.size))) { s with heap:=h',drawn:=d,toks:=tk }) ->
  codeAny (model prog w) A (.builtin "list.__iadd__" ⟨[.ref s.heap.objs.size,.ref a],[]⟩) R { s with heap:=s.heap.push { cls:=.type "list",data:=.seq ([]:List Value).toArray } }:=by
  intro R hR;refine codeAny_builtin PySem.F.entry_list_iadd ?_;rw[Around.under_plainId PySem.F.plain_list_iadd _];exact tZ (s:={ s with heap:=s.heap.push { cls:=.type "list",data:=.seq ([]:List Value).toArray } }) hh hS1 hn (Nat.ne_of_gt la) new fun ks' h' d tk acc c p kp hL it=>hR ks' h' d tk acc c p kp hL it
 show wpAny (model prog w) A.in1 (newList [] >>= fun x=>again (.builtin "list.__iadd__" ⟨[x,.ref a],[]⟩)) _ _ s;refine wpAny_bind (wpAny_newObj_type (wpAny_pure ⟨plainId_quiet PySem.F.plain_list_iadd _,key _ fun ks' h' d tk acc c p kp hL it=>?_⟩));show wpAny (model prog w) A (load s.heap.objs.size >>= _) Q E { s with heap:=h',drawn:=d,toks:=tk };refine wpAny_bind (wpAny_load hL (wpAny_pure ?_));exact q ks' h' d tk acc p (fun b o e=>kp b o (Nat.ne_of_lt (Heap.lt_size e)) (Heap.get?_push_of_some _ e)) (Heap.lt_size hL) it
end
end L2
namespace L2
open PySem PySem.Spec PyProof.Rows
theorem aG.drew {X:Cx}{pins:List (Addr×Obj)}{σ:St}{H:Hp}{s:Shared}(I:aG X pins σ H s)(d:Drawn):aG X pins σ H { s with drawn:=d } :=
 ⟨I.ok,I.os,I.bare,I.base,I.loc,I.cell,I.free,I.freeC,I.pin,I.hok,I.len⟩
theorem jl {P:Program}{w:World}:∀(ks:List Int) (us:List Value),us.length=ks.length->(∀(j:Nat) (v:Value),us[j]? = some v->iu (intKind P w) ks j v)->aN (ks.map V.int) us
 | [],[],_,_=>.nil
 | [],_ :: _,h,_=>by cases h
 | _ :: _,[],h,_=>by cases h
 | k :: ks,u :: us,h,g=>by
  obtain⟨k',e,his⟩:=g 0 u rfl;have ek:k=k':=Option.some.inj e;subst ek;refine .cons ?_ (jl (P:=P) (w:=w) ks us (Nat.succ.inj h) fun j v hj=>g (j+1) v hj);obtain⟨t,rfl⟩:=Value.isInt_shape (show Value.isInt k u=true from his);exact⟨t,rfl⟩
theorem ni {α:Type}[DecidableEq α]:∀{ks ns:List α},ks.Nodup->(∀k∈ks,k∈ns)->ks.length<=ns.length
 | [],_,_,_=>Nat.zero_le _
 | k :: ks,ns,nd,h=>by
  obtain⟨n1,n2⟩:=List.nodup_cons.mp nd;have m:=h k List.mem_cons_self;have:=ni (ns:=ns.erase k) n2 fun x hx=>(List.mem_erase_of_ne (a:=x) (b:=k) fun z=>n1 (by rw[<- z];exact hx)).mpr (h x (List.mem_cons_of_mem _ hx));rw[List.length_erase_of_mem m]at this;have:=List.length_pos_of_mem m;simp only[List.length_cons];omega
section
variable {X:Cx}{e:Expr}{te:TE}
def AU (K:W.Frag)(te:TE):TE:=fun σ H Q=>te σ H fun x H1=>∃(a:Addr) (ns:List Int),x = .ref a/\bh K H1 a (ns.map V.int)/\ns.length < 64/\∀(l:Addr) (ms:List Int),ms.Pairwise (· < ·)->(∀k,k∈ms↔k∈ns)->H1 l=none->Q (.ref l) (aL H1 l (.lst (ms.map V.int)))
theorem qv {p1 p2 q1 q2:Pos}(hc:X.calm=true)(g1:Gl X "sorted")(m1:X.mg "sorted" = none)(g2:Gl X "set")(m2:X.mg "set" = none)(he:PE X e te)(h1:starEach [e] X.env=[(false,eval e X.env)]:=by rfl)
 (h2:starEach [.Call (.Name "set" p2) [e] [] q2] X.env=[(false,eval (.Call (.Name "set" p2) [e] [] q2) X.env)]:=by rfl):PE X (.Call (.Name "sorted" p1) [.Call (.Name "set" p2) [e] [] q2] [] q1) (AU X.K te):=by
 intro pins s σ H Q I h;refine wpAny_Call_Name_kw (eA I g1 m1 boot_sorted ?_);refine PyProof.Rows.callWith_builtin1 ?_ h2 rfl;rw[h2];show wpAny (model X.prog X.w) _ (spliced ((false,eval (.Call (.Name "set" p2) [e] [] q2) X.env) :: backTo q1 (starEach [] X.env))) _ _ s;refine Calls.spliced_cons ?_;refine wpAny_Call_Name_kw (eA I g2 m2 boot_set ?_);refine PyProof.Rows.callWith_type1 ?_ h1 rfl;rw[h1];show wpAny (model X.prog X.w) _ (spliced ((false,eval e X.env) :: backTo q2 (starEach [] X.env))) _ _ s;refine Calls.spliced_cons (bj (he pins s σ H _ I h) fun u s1 ⟨x,H1,I1,r1,q⟩=>?_);obtain⟨a,ns,rfl,hq,h64,q⟩:=q;cases r1;refine Calls.spliced_nil ?_;obtain⟨its,rv,pl,_⟩:=I1.list hq;have hl:its.length=ns.length:=by
  have:=rv.length;rw[List.length_map]at this;exact this.symm
 have hh:=I1.ok.hd hc;have hv:∀(i:Nat) (v:Value),its.toArray[i]? = some v->(intKind X.prog X.w).is (ns.getD i 0) v=true/\v.scannable=true:=fun i v hi=>by
  obtain⟨t,rfl⟩:=IntsAre.int_at (iQ rv) i v (by simpa using hi);exact⟨intKind_is _ _ _ _,rfl⟩
 refine rH (knd:=intKind X.prog X.w) hh pl.isList (fun i=>ns.getD i 0) hv (by simp[hl];unfold scanBound;omega) fun h2 tk ks hS hx kp=>?_;have I2:aG X pins σ H1 { s1 with heap:=h2,toks:=tk }:=I1.kept fun b o z=>kp b o (Heap.lt_size z) z;have mem:∀k,k∈ks↔k∈ns:=fun k=>by
  rw[hx];constructor
  . rintro⟨j,hj,rfl⟩;have lj:j < ns.length:=by simpa[hl]using hj
    rw[List.getD_eq_getElem?_getD,List.getElem?_eq_getElem lj];exact List.getElem_mem lj
  . intro m;obtain⟨j,hj,z⟩:=List.getElem_of_mem m;exact⟨j,by simpa[hl]using hj,by rw[List.getD_eq_getElem?_getD,List.getElem?_eq_getElem hj];exact z.symm⟩
 have nd:ks.Nodup:=by
  obtain⟨_,_,_,_,_,_,_,_,nd,_⟩:=hS;exact nd
 have le:ks.length<=ns.length:=ni nd fun k hk=>(mem k).mp hk;refine Calls.spliced_nil ?_;refine Calls.call_function_entry kind_sorted plain_sorted entry_sorted (args_sorted1 _) ?_;unfold Builtin.«sorted»;refine wpAny_bind (m:=checkCount "sorted" 1 1 _) (wpAny_pure (wpAny_bind (rO (knd:=intKind X.prog X.w) (s:={ s1 with heap:=h2,toks:=tk }) hh hS (Nat.le_of_lt (bg (by omega))) fun ks' h3 d tk' acc p kp3 lt3 it=>?_)));have I3:aG X pins σ H1 { s1 with heap:=h3,drawn:=d,toks:=tk' }:=(I2.kept (t':=tk') kp3).drew d;have rv3:aN (ks'.map V.int) acc.toList:=jl (P:=X.prog) (w:=X.w) ks' acc.toList (by simpa using it.1) fun j v hj=>it.2 j v (by simpa using hj);have l3:acc.toList.length < 64:=by
  have:=rv3.length;rw[List.length_map,p.length_eq]at this;omega
 have hL:(h3.push (seqObj "list" acc.toList.toArray 0)).get? h3.objs.size=some (seqObj "list" acc.toList.toArray 0):=Heap.get?_push_size _ rfl;refine wpAny_bind (wpAny_newList ?_);refine wpAny_bind (wpAny_holding (wpAny_call_entry slot_list_sort ⟨_,hL,rfl⟩ entry_list_sort (list_sort_tree hL (iQ rv3) l3 fun out ms a1 a2 a3=>⟨_,rfl,?_⟩) (args_list_sort _)));refine wpAny_pure ⟨_,rfl,?_⟩;obtain⟨ee,hee⟩:=sortedHeap_at (out:=out) hL;have pm:ms.Perm ks:=a2.trans p;have ndm:ms.Nodup:=pm.nodup_iff.mpr nd;have lt:ms.Pairwise (· < ·):=(a3.and ndm).imp fun z=>by
  have:=z.1;have:=z.2;omega
 refine⟨.ref h3.objs.size,_,I3.laid (a:=h3.objs.size) (o:=.lst (ms.map V.int)) (t':=tk') (fun b o z=>?_) (Nat.le_refl _) ?_,rfl,q _ ms lt (fun k=>by rw[pm.mem_iff];exact mem k) (I3.hok.fresh (Nat.le_refl _))⟩
 . have l:=Heap.lt_size z;rw[sortedHeap_old (Nat.ne_of_lt l) (by rw[Heap.size_push];exact Nat.lt_succ_of_lt l)];exact Heap.get?_push_of_some _ z
 . refine⟨?_,out.toList,ee,lQ a1,?_⟩
   . rw[List.length_map,pm.length_eq];exact Nat.le_of_lt (bg (by omega))
   . rw[hee]
end
theorem qw:∀{us:List Value} {ss:List Str},StrsAre us ss->aN (ss.map V.str) us
 | _,_,.nil=>.nil
 | _,_,.cons y t h=>.cons ⟨t,rfl⟩ (qw h)
end L2
namespace L2
open PySem PySem.Spec PyProof.Rows PySem.W
theorem dm {h h':Heap}(k:∀b o,h.get? b=some o->o.cls = .type "tuple"->h'.get? b=some o):∀{vs fs:List Value},KatTups h vs fs->KatTups h' vs fs
 | [],[],_=>trivial
 | [],_ :: _,t=>t.elim
 | _ :: _,[],t=>t.elim
 | v :: vs,f :: fs,⟨⟨a,o,xs,n,e,ho,hc,hd,hf⟩,t⟩=>⟨⟨a,o,xs,n,e,k a o ho hc,hc,hd,hf⟩,dm k t⟩
theorem jm {h:Heap}{fs:List Value}{ss:List Str}(hS:StrsAre fs ss):∀{vs:List Value} {i:Nat} {z:Str},KatTups h vs fs->ss[i]? = some z->∃a o xs n t,vs.getD i Value.none = .ref a/\h.get? a=some o/\o.data = .seq xs n/\xs[0]? = some (.str z t):=by
 induction hS with
 | nil =>
  intro vs i z _ e;simp at e
 | cons y tk r ih =>
  intro vs i z t e';cases vs with
  | nil=>exact t.elim
  | cons v vs =>
   obtain⟨⟨a,o,xs,n,e,ho,hc,hd,hf⟩,t⟩:=t;cases i with
   | zero =>
    cases e';exact⟨a,o,xs,n,tk,e,ho,hd,hf⟩
   | succ i =>
    obtain⟨a,o,xs,n,t',h1,h2,h3,h4⟩:=ih t (i:=i) (z:=z) (by simpa using e');exact⟨a,o,xs,n,t',by simpa using h1,h2,h3,h4⟩
theorem fz {h:Heap}:∀{vs fs:List Value},KatTups h vs fs->fs.length=vs.length
 | [],[],_=>rfl
 | [],_ :: _,t=>t.elim
 | _ :: _,[],t=>t.elim
 | _ :: _,_ :: _,⟨_,t⟩=>congrArg Nat.succ (fz t)
theorem nj:∀{fs:List Value} {ss:List Str},StrsAre fs ss->fs.length=ss.length
 | _,_,.nil=>rfl
 | _,_,.cons _ _ h=>congrArg Nat.succ (nj h)
section
variable {X:Cx}
theorem lR {P:Program}{w:World}{pins:List (Addr×Obj)}{σ:St}{H:Hp}{s:Shared}(I:aG X pins σ H s):∀{vs:List V} {its:List Value} {ss:List Str},aN vs its->vs.length=ss.length->(∀(i:Nat) v z,vs[i]? = some v->ss[i]? = some z->∃b ws,v = .ref b/\H b=some (.tup (.str z :: ws)))->∃fs,KatTups s.heap its fs/\StrsAre fs ss
 | _,_,[],.nil,_,_=>⟨[],trivial,.nil⟩
 | _,_,_ :: _,.nil,h,_=>by cases h
 | _,_,[],.cons _ _,h,_=>by cases h
 | v :: vs,u :: its,z :: ss,.cons r rs,h,k=>by
  obtain⟨fs,t,hS⟩:=lR (P:=P) (w:=w) I rs (Nat.succ.inj h) fun i v z hv hz=>k (i+1) v z hv hz;obtain⟨b,ws,rfl,hb⟩:=k 0 _ z rfl rfl;cases r;obtain⟨js,rj,⟨o,ho,hc,n,hd⟩,_⟩:=I.tuple (a8.of (K:=X.K) hb);cases rj with
  | cons r0 _ =>
   obtain⟨tk,rfl⟩:=r0;exact⟨_,KatTups.cons ho hc hd (by simp) t,.cons z tk hS⟩
end
end L2
namespace L2
open PySem PySem.Spec PyProof.Rows
def CS (tu:Bool)(xs:List V):HO:=match tu with
 | false=>.lst xs
 | true=>.tup xs
def Sq (K:W.Frag)(tu:Bool)(H:Hp)(a:Addr)(xs:List V):Prop:=match tu with
 | false=>bh K H a xs
 | true=>a8 K H a xs
theorem Sq.of {K:W.Frag}{tu:Bool}{H:Hp}{a:Addr}{xs:List V}(h:H a=some (CS tu xs)):Sq K tu H a xs:=by
 cases tu with
 | false=>exact bh.of h
 | true=>exact a8.of h
theorem Sq.or {K:W.Frag}{tu:Bool}{H:Hp}{a:Addr}{xs:List V}(h:H a=some (CS tu xs)):bh K H a xs\/a8 K H a xs:=by
 cases tu with
 | false=>exact .inl (bh.of h)
 | true=>exact .inr (a8.of h)
def xj (K:W.Frag)(tu:Bool)(a:Addr):It:=match tu with
 | false=>xR K a
 | true=>Ag K a
def CT (K:W.Frag)(tl:TE):TI:=fun σ H R=>tl σ H fun x H1=>∃(a:Addr) (tu:Bool),x = .ref a/\(∃xs,Sq K tu H1 a xs)/\R (xj K tu a) H1
theorem c8 {X:Cx}{tg l:Expr}{tl:TE}(hl:PE X l tl):PI X tg l (CT X.K tl):=by
 intro pins s σ H R I h;refine bj (hl pins s σ H _ I h) fun v s1 ⟨x,H1,I1,r1,q1⟩=>?_;obtain⟨a,tu,e,⟨xs,hq⟩,q⟩:=q1;subst e;cases r1;have fr:∀b∈[s1.heap.objs.size],lh X pins H1 b:=fun b hb=>by
  obtain rfl:b=s1.heap.objs.size:=by simpa using hb
  exact I1.fpOk (Nat.le_refl _) (I1.hok.fresh (Nat.le_refl _))
 cases tu with
 | false =>
  obtain⟨its,rv,p,hz⟩:=I1.list hq;exact wpAny_pyIter_list p.isList ⟨s1.heap.objs.size,[s1.heap.objs.size],_,_,H1,rfl,I1.kept (t':=s1.toks) fun b o e=>Heap.get?_push_of_some _ e,jX a _,⟨_,Heap.get?_push_size _ rfl,rfl,rfl⟩,fr,q⟩
 | true =>
  obtain⟨its,rv,p,hz⟩:=I1.tuple hq;exact wpAny_pyIter_tuple (show s1.heap.IsTuple a its.toArray from p) ⟨s1.heap.objs.size,[s1.heap.objs.size],_,_,H1,rfl,I1.kept (t':=s1.toks) fun b o e=>Heap.get?_push_of_some _ e,oK a _,⟨_,Heap.get?_push_size _ rfl,rfl,rfl⟩,fr,q⟩
theorem eK {K:W.Frag}{a:Addr}{tu:Bool}{xs:List V}{g:TG}{tb:TS}{D:f8}{σ:St}{H:Hp}(Pv:Nat->St->Hp->Prop)(h0:Pv 0 σ H)(hl:∀i σ H,i<=xs.length->Pv i σ H->Sq K tu H a xs)
 (hs:∀i x σ H,xs[i]? = some x->Pv i σ H->g x σ H fun σ2 H2=>tb { D with nx:=Pv (i+1),ct:=Pv (i+1),bk:=D.nx } σ2 H2) (hd:∀ σ H,Pv xs.length σ H->D.nx σ H) :
 ∃W:Nat->Nat->St->Hp->Prop,(∃m,W 0 m σ H)/\∀i m σ H,W i m σ H ->
  ((xj K tu a).stop i H/\D.nx σ H)\/((xj K tu a).go i H/\∃N:St->Hp->Prop,(∀ σ' H',N σ' H'->∃m',m' < m/\W (i+1) m' σ' H')/\∀x H',(xj K tu a).yld i H x H'->g x σ H' fun σ2 H2=>tb { D with nx:=N,ct:=N,bk:=D.nx } σ2 H2):=by
 cases tu with
 | false=>exact fm Pv h0 hl hs hd
 | true=>exact vB Pv h0 hl hs hd
theorem jo {K:W.Frag}{tu:Bool}{a p:Addr}{tt:TT}{te:TE}{cs:St}{Q:VK}{H1:Hp}{xs:List V}(Pv:Nat->List V->Hp->Prop)(h0:Pv 0 [] (aL H1 p (.lst [])))
 (hl:∀i ys H,i<=xs.length->Pv i ys H->Sq K tu H a xs)
 (hs:∀i x ys H,xs[i]? = some x->Pv i ys H->tt (some x :: cs) H fun b H4=>if b=true then te (some x :: cs) H4 fun y H5=>H5 p=some (.lst ys)/\ys.length < sizeLine/\Pv (i+1) (ys++[y]) (aL H5 p (.lst (ys++[y])))else Pv (i+1) ys H4)
 (hd:∀ys H,Pv xs.length ys H->Q (.ref p) H):ft (xj K tu a) p tt te cs Q H1:=by
 refine fN xs.length Pv h0 ?_ ?_
 . intro i ys H hi pv;have q:=hl i ys H (Nat.le_of_lt hi) pv;cases tu with
   | false =>
    refine⟨⟨xs,xs[i],q,by simp[hi]⟩,fun v H3 y=>?_⟩;obtain⟨e,y⟩:=y;subst e;exact hs i v ys _ (y xs q) pv
   | true =>
    refine⟨⟨xs,xs[i],q,by simp[hi]⟩,fun v H3 y=>?_⟩;obtain⟨e,y⟩:=y;subst e;exact hs i v ys _ (y xs q) pv
 . intro ys H pv;have q:=hl _ ys H (Nat.le_refl _) pv;cases tu with
   | false=>exact⟨⟨xs,q,Nat.le_refl _⟩,hd ys H pv⟩
   | true=>exact⟨⟨xs,q,Nat.le_refl _⟩,hd ys H pv⟩
theorem kF {K:W.Frag}{tu:Bool}{a p:Addr}{g:TG}{k:Nat}{tt:TT}{te:TE}{cs:St}{Q:VK}{H1:Hp}{xs:List V}(Pv:Nat->List V->Hp->Prop)(h0:Pv 0 [] (aL H1 p (.lst [])))
 (hl:∀i ys H,i<=xs.length->Pv i ys H->Sq K tu H a xs)
 (hs:∀i x ys H,xs[i]? = some x->Pv i ys H->∀vs0:St,vs0.length=k->g x (vs0++cs) H fun σ' H'=>(∃vs':St,σ'=vs'++cs/\vs'.length=k)/\tt σ' H' fun b H4=>if b=true then te σ' H4 fun y H5=>H5 p=some (.lst ys)/\ys.length < sizeLine/\Pv (i+1) (ys++[y]) (aL H5 p (.lst (ys++[y])))else Pv (i+1) ys H4)
 (hd:∀ys H,Pv xs.length ys H->Q (.ref p) H):fw (fun Fc=>True) g k (xj K tu a) p tt te cs Q H1:=by
 refine⟨fun i m ys H=>m=xs.length - i/\i<=xs.length/\Pv i ys H,⟨xs.length,by simp,Nat.zero_le _,h0⟩,?_⟩;rintro i m ys H ⟨rfl,hi,pv⟩;have q:=hl i ys H hi pv;by_cases hlt:i < xs.length
 . have st:∀x,xs[i]? = some x->_:=fun x hx=>hs i x ys H hx pv;cases tu with
   | false =>
    refine .inr ⟨⟨xs,xs[i],q,by simp[hlt]⟩,trivial,Pv (i+1),fun ys' H' p'=>⟨xs.length - (i+1),by omega,rfl,hlt,p'⟩,fun v H3 y=>?_⟩;obtain⟨e,y⟩:=y;subst e;exact st v (y xs q)
   | true =>
    refine .inr ⟨⟨xs,xs[i],q,by simp[hlt]⟩,trivial,Pv (i+1),fun ys' H' p'=>⟨xs.length - (i+1),by omega,rfl,hlt,p'⟩,fun v H3 y=>?_⟩;obtain⟨e,y⟩:=y;subst e;exact st v (y xs q)
 . have e:i=xs.length:=by omega
   subst e;cases tu with
   | false=>exact .inl ⟨⟨xs,q,Nat.le_refl _⟩,trivial,hd ys H pv⟩
   | true=>exact .inl ⟨⟨xs,q,Nat.le_refl _⟩,trivial,hd ys H pv⟩
def g4 (K:W.Frag):TG:=xP K 4 (ij (dH 0) (ij (dH 1) (ij (dH 2) (ij (dH 3) gNil))))
theorem AV {K:W.Frag}{tu:Bool}{a p:Addr}{tt:TT}{te:TE}{cs:St}{Q:VK}{H1:Hp}{xs:List V}(Pv:Nat->List V->Hp->Prop)(h0:Pv 0 [] (aL H1 p (.lst [])))
 (hl:∀i ys H,i<=xs.length->Pv i ys H->Sq K tu H a xs)
 (hs:∀i x ys H,xs[i]? = some x->Pv i ys H->∃q c1 c2 c3 c4,x = .ref q/\a8 K H q [c1,c2,c3,c4]/\tt (some c1 :: some c2 :: some c3 :: some c4 :: cs) H fun b H4=>if b=true then te (some c1 :: some c2 :: some c3 :: some c4 :: cs) H4 fun y H5=>H5 p=some (.lst ys)/\ys.length < sizeLine/\Pv (i+1) (ys++[y]) (aL H5 p (.lst (ys++[y])))else Pv (i+1) ys H4)
 (hd:∀ys H,Pv xs.length ys H->Q (.ref p) H):fw (fun Fc=>True) (g4 K) 4 (xj K tu a) p tt te cs Q H1:=by
 refine kF Pv h0 hl (fun i x ys H hx pv vs0 hv=>?_) hd;obtain⟨q,c1,c2,c3,c4,rfl,hq,ht⟩:=hs i x ys H hx pv
 match vs0,hv with
 | [w1,w2,w3,w4],_=>exact⟨q,_,rfl,hq,rfl,c1,_,rfl,c2,_,rfl,c3,_,rfl,c4,_,rfl,rfl,⟨[some c1,some c2,some c3,some c4],rfl,rfl⟩,ht⟩
def yg (g:TG)(k:Nat)(wi:TI)(tt:TT)(te:TE)(caps:List Nat):TE:=fun σ H Q=>wi σ H fun J H1=>∀p,H1 p=none->fw (fun Fc=>True) g k J p tt te (gY σ caps) Q H1
theorem nk {X:Cx}{elt iter:Expr}{ifs:List Expr}{tg:Expr}{g:TG}{pos:Pos}{sc:Scope}{wi:TI}{tt:TT}{te:TE}(xs:List Str)(caps:List Nat)(capsN:List Str)
 (hi:PI X tg iter wi)
 (hg:∀cl C s H ex pn,PG (bx X (xs++capsN) sc cl C s H ex pn) tg g)
 (ht:∀cl C s H ex pn,xY (bx X (xs++capsN) sc cl C s H ex pn) ifs tt)
 (he:∀cl C s H ex pn,PE (bx X (xs++capsN) sc cl C s H ex pn) elt te)
 (hkind:sc.kind = .function) (hcell:∀y∈sc.names,y.2 ≠ .cell) (hnames:∀y∈sc.names,y.2 = .local->sc.names.lookup y.1=some .local)
 (hfr:∀y∈sc.names,y.2 = .free->y.1∈capsN)
 (hcap:∀(j:Nat) (y:Str),capsN[j]? = some y->∃i:Nat,caps[j]? = some i/\X.N[i]? = some y/\sc.names.lookup y=some .free/\(X.env.kindOf y=some .cell\/X.env.kindOf y=some .free)) (hlen:caps.length=capsN.length)
 (hc:X.calm=true)
 (hs:∀x,foldedSetIterable iter X.env x=pure x:=by intro _;rfl) :
 PE X (.ListComp elt [⟨tg,iter,ifs,0⟩] sc pos) (yg g xs.length wi tt te caps) :=
 m5 (Gs:=fun Fc=>True) (hb:=false) (CW:=fun J p cs Q H1=>fw (fun Fc=>True) g xs.length J p tt te cs Q H1) caps capsN hi hg ht he hkind hcell hnames hfr hcap hlen (.inl hc) (fun Fc Fc Fc Fc Fc h=>h) hs
section
variable {X:Cx}{K:W.Frag}
theorem gH (h:X.K=K):z4 X (vH K):=by
 subst h;exact ap
theorem ua (h:X.K=K):z4 X (Aq K):=by
 subst h;exact cQ
theorem ub (h:X.K=K):CJ X (Ar K):=by
 subst h;exact cA
theorem f7 (h:X.K=K):cT X (.builtin "len") (fun xs H Q=>∃p ys,xs=[.ref p]/\(bh K H p ys\/a8 K H p ys)/\Q (.int ys.length) H):=by
 subst h;exact aO
theorem jp (h:X.K=K):cT X (.type "tuple") (fun xs H Q=>∃p ys,xs=[.ref p]/\((bh K H p ys/\∀l,H l=none->Q (.ref l) (aL H l (.tup ys)))\/(a8 K H p ys/\Q (.ref p) H))):=by
 subst h;exact cR
end
def aI (H:Hp):List V->List (List V)->Prop
 | [],[]=>True
 | v :: ys,t :: ts=>(∃q,v = .ref q/\H q=some (.tup t))/\aI H ys ts
 | _,_=>False
theorem aI.len {H:Hp}:∀{ys:List V} {ts:List (List V)},aI H ys ts->ys.length=ts.length
 | [],[],_=>rfl
 | _ :: ys,_ :: ts,h=>by rw[List.length_cons,List.length_cons,aI.len h.2]
 | [],_ :: _,h=>h.elim
 | _ :: _,[],h=>h.elim
theorem aI.keep {H H':Hp}(k:∀q t,H q=some (.tup t)->H' q=some (.tup t)):∀{ys:List V} {ts:List (List V)},aI H ys ts->aI H' ys ts
 | [],[],_=>trivial
 | _ :: ys,_ :: ts,h=>by
  obtain⟨⟨q,e,hq⟩,r⟩:=h;exact⟨⟨q,e,k q _ hq⟩,aI.keep k r⟩
 | [],_ :: _,h=>h.elim
 | _ :: _,[],h=>h.elim
theorem aI.mono {H H':Hp}{ys:List V}{ts:List (List V)}(h:aI H ys ts)(s:aE H H'):aI H' ys ts:=h.keep fun q t e=>s q _ e
theorem aI.upd {H:Hp}{ys:List V}{ts:List (List V)}{p:Addr}{o:HO}(h:aI H ys ts)(hp:∀t,H p≠some (.tup t)):aI (aL H p o) ys ts :=
 h.keep fun q t e=>by
  rw[am (fun z=>hp t (by rw[<- z];exact e))];exact e
theorem hU {H:Hp}{p:Addr}{l:List V}(h:H p=some (.lst l)):∀t,H p≠some (.tup t):=fun t z=>by
 rw[h]at z;cases z
theorem aI.snoc {H:Hp}{q:Addr}{t:List V}(e:H q=some (.tup t)):∀{ys:List V} {ts:List (List V)},aI H ys ts->aI H (ys++[.ref q]) (ts++[t])
 | [],[],_=>⟨⟨q,rfl,e⟩,trivial⟩
 | _ :: ys,_ :: ts,h=>⟨h.1,aI.snoc e h.2⟩
 | [],_ :: _,h=>h.elim
 | _ :: _,[],h=>h.elim
theorem aI.app {H:Hp}{zs:List V}{us:List (List V)}(r:aI H zs us):∀{ys:List V} {ts:List (List V)},aI H ys ts->aI H (ys++zs) (ts++us)
 | [],[],_=>r
 | _ :: ys,_ :: ts,h=>⟨h.1,aI.app r h.2⟩
 | [],_ :: _,h=>h.elim
 | _ :: _,[],h=>h.elim
theorem aI.last {H:Hp}{t:List V}:∀{ys:List V} {ts:List (List V)},aI H ys (ts++[t])->∃ys0 q,ys=ys0++[.ref q]/\aI H ys0 ts/\H q=some (.tup t)
 | [],[],h=>h.elim
 | [v],[],h=>by
  obtain⟨⟨q,e,hq⟩,_⟩:=h;exact⟨[],q,by rw[e];rfl,trivial,hq⟩
 | _ :: _ :: _,[],h=>h.2.elim
 | [],_ :: _,h=>h.elim
 | v :: ys,u :: ts,h=>by
  obtain⟨ys0,q,e,h0,hq⟩:=aI.last h.2;exact⟨v :: ys0,q,by rw[e];rfl,⟨h.1,h0⟩,hq⟩
theorem aI.get {H:Hp}:∀{ys:List V} {ts:List (List V)} {i:Nat} {v:V},aI H ys ts->ys[i]? = some v->∃t q,ts[i]? = some t/\v = .ref q/\H q=some (.tup t)
 | [],[],_,_,_,e=>by simp at e
 | y :: ys,t :: ts,0,v,h,e=>by
  obtain⟨q,e1,hq⟩:=h.1;rw[List.getElem?_cons_zero]at e;cases e;exact⟨t,q,rfl,e1,hq⟩
 | y :: ys,t :: ts,i+1,v,h,e=>by
  rw[List.getElem?_cons_succ]at e;rw[List.getElem?_cons_succ];exact aI.get h.2 e
 | [],_ :: _,_,_,h,_=>h.elim
 | _ :: _,[],_,_,h,_=>h.elim
theorem vQ {α:Type}{xs:List α}{v:α}:rg (xs++[v]).length (-1)=some xs.length:=by
 have hl:(xs++[v]).length=xs.length+1:=by simp
 rw[hl];unfold rg;rw[if_neg (by decide),if_pos (by omega)]
 congr 1
 omega
theorem vS {α:Type}(xs:List α)(v u:α):(xs++[v]).set xs.length u=xs++[u]:=by simp
abbrev S4:=Int×Int×Int×Int
def tv (r:S4):List V:=[.int r.1,.int r.2.1,.int r.2.2.1,.int r.2.2.2]
def bz (i j:Int):Int:=if j > i then j else i
def c9 (i j:Int):Int:=if j < i then j else i
def d0 (lo hi:Int)(r:S4):List S4:=if bz r.1 lo < c9 (r.1+r.2.1) hi then [(bz r.1 lo,c9 (r.1+r.2.1) hi - bz r.1 lo,r.2.2.1,r.2.2.2+bz r.1 lo - r.1)]else []
def aC (rs:List S4)(lo hi:Int):List S4:=rs.flatMap (d0 lo hi)
def bK (rs:List S4)(by':Int):List S4:=rs.map fun r=>(r.1+by',r.2.1,r.2.2.1,r.2.2.2)
def bV:Int->List S4->Int->Prop
 | lo,[],hi=>lo<=hi
 | lo,r :: t,hi=>lo<=r.1/\0 < r.2.1/\bV (r.1+r.2.1) t hi
theorem bV.le:∀{rs:List S4} {lo hi:Int},bV lo rs hi->lo<=hi
 | [],_,_,h=>h
 | r :: t,lo,hi,h=>by
  have:=bV.le h.2.2;have:=h.1;have:=h.2.1;omega
theorem bV.up:∀{rs:List S4} {lo hi hi':Int},bV lo rs hi->hi<=hi'->bV lo rs hi'
 | [],_,_,_,h,l=>Int.le_trans h l
 | r :: t,_,_,_,h,l=>⟨h.1,h.2.1,bV.up h.2.2 l⟩
theorem bV.snoc:∀{rs:List S4} {lo hi hi':Int} {r:S4},bV lo rs hi->hi<=r.1->0 < r.2.1->r.1+r.2.1<=hi'->bV lo (rs++[r]) hi'
 | [],_,_,_,r,h,l,p,e=>⟨Int.le_trans h l,p,e⟩
 | q :: t,_,_,_,r,h,l,p,e=>⟨h.1,h.2.1,bV.snoc h.2.2 l p e⟩
theorem bV.mem:∀{rs:List S4} {lo hi:Int} {r:S4},bV lo rs hi->r∈rs->lo<=r.1/\0 < r.2.1/\r.1+r.2.1<=hi
 | q :: t,lo,hi,r,h,m=>by
  cases m with
  | head=>exact⟨h.1,h.2.1,h.2.2.le⟩
  | tail _ m =>
   have z:=bV.mem h.2.2 m;have:=h.1;have:=h.2.1;exact⟨by omega,z.2.1,z.2.2⟩
theorem pK (rs:List S4)(r:S4)(lo hi:Int):aC (rs++[r]) lo hi=aC rs lo hi++d0 lo hi r:=by
 unfold aC;rw[List.flatMap_append];simp
theorem uc (lo hi:Int)(r:S4):(d0 lo hi r).length<=1:=by
 unfold d0;split <;> simp
theorem cM (lo hi:Int):∀rs:List S4,(aC rs lo hi).length<=rs.length
 | []=>Nat.le_refl _
 | r :: t=>by
  have:=cM lo hi t;have:=uc lo hi r;unfold aC at *;rw[List.flatMap_cons,List.length_append,List.length_cons];omega
theorem cp {α:Type}{rs:List α}{i:Nat}{r:α}(h:rs[i]? = some r):rs.take (i+1)=rs.take i++[r]:=by
 rw[List.take_add_one,h];rfl
def cV (tu:Bool)(H:Hp)(a:Addr)(rs:List S4):Prop:=∃ys,H a=some (CS tu ys)/\aI H ys (rs.map tv)
theorem cV.mono {tu:Bool}{H H':Hp}{a:Addr}{rs:List S4}(h:cV tu H a rs)(s:aE H H'):cV tu H' a rs:=by
 obtain⟨ys,e,t⟩:=h;exact⟨ys,s _ _ e,t.mono s⟩
theorem iR {H:Hp}{ys:List V}{rs:List S4}{i:Nat}{v:V}(h:aI H ys (rs.map tv))(e:ys[i]? = some v):∃r q,rs[i]? = some r/\v = .ref q/\H q=some (.tup (tv r)):=by
 obtain⟨t,q,h1,h2,h3⟩:=h.get e;rw[List.getElem?_map]at h1;obtain⟨r,h4,rfl⟩:=Option.map_eq_some_iff.mp h1;exact⟨r,q,h4,h2,h3⟩
theorem bU {H:Hp}{ys:List V}{rs:List S4}(h:aI H ys (rs.map tv)):ys.length=rs.length:=by rw[h.len,List.length_map]
def bS (r:S4):List (Int×Int×Int):=(List.range r.2.1.toNat).map fun i=>(r.1+(i:Nat),r.2.2.1,r.2.2.2+(i:Nat))
def aQ (rs:List S4):List (Int×Int×Int):=rs.flatMap bS
def bM (z r:S4):Bool:=decide (z.1+z.2.1=r.1) && decide (z.2.2.1=r.2.2.1) && decide (z.2.2.2+z.2.1=r.2.2.2)
def Dj (g:List S4)(c:Int×Int×Int):List S4:=match g.getLast? with
 | some z=>if bM z (c.1,1,c.2.1,c.2.2)=true then g.dropLast++[(z.1,z.2.1+1,c.2.1,z.2.2.2)]else g++[(c.1,1,c.2.1,c.2.2)]
 | none=>g++[(c.1,1,c.2.1,c.2.2)]
def df (g:List S4)(r:S4):List S4:=match g.getLast? with
 | some z=>if bM z r=true then g.dropLast++[(z.1,z.2.1+r.2.1,z.2.2.1,z.2.2.2)]else g++[r]
 | none=>g++[r]
theorem goOn_iff {z r:S4}:bM z r=true↔z.1+z.2.1=r.1/\z.2.2.1=r.2.2.1/\z.2.2.2+z.2.1=r.2.2.2:=by
 unfold bM;simp only[Bool.and_eq_true,decide_eq_true_eq,and_assoc]
theorem hV (r:S4):df [] r=[r]:=rfl
theorem fA {g:List S4}{z r:S4}(h:bM z r=true):df (g++[z]) r=g++[(z.1,z.2.1+r.2.1,z.2.2.1,z.2.2.2)]:=by
 unfold df;rw[List.getLast?_concat];simp only[h,if_true];rw[List.dropLast_concat]
theorem d5 {g:List S4}{z r:S4}(h:bM z r=false):df (g++[z]) r=g++[z]++[r]:=by
 unfold df;rw[List.getLast?_concat];simp[h]
def b8 (rs:List S4):List S4:=rs.foldl df []
def eV:List S4->Bool
 | a :: b :: t=>!bM a b && eV (b :: t)
 | _=>true
theorem kG:∀(rs g:List S4),(rs.foldl df g).length<=g.length+rs.length
 | [],g=>Nat.le_refl _
 | r :: t,g=>by
  have ih:=kG t (df g r);have:(df g r).length<=g.length+1:=by
   rcases List.eq_nil_or_concat g with rfl|⟨g0,z,rfl⟩
   . rw[hV];simp
   . rw[List.concat_eq_append];cases h:bM z r with
     | true=>rw[fA h];simp
     | false=>rw[d5 h];simp
  rw[List.foldl_cons,List.length_cons];omega
section
variable (K:W.Frag)
theorem AW:W.kitOne K (.type "int") (.type "tuple")=some false:=by kernel_rfl
theorem AX:W.kitOne K (.type "str") (.type "tuple")=some false:=by kernel_rfl
theorem AY:W.kitOne K (.type "bool") (.type "tuple")=some false:=by kernel_rfl
theorem AZ:W.kitOne K (.type "NoneType") (.type "tuple")=some false:=by kernel_rfl
theorem A1:W.kitOne K (.type "list") (.type "tuple")=some false:=by kernel_rfl
theorem A2:W.kitOne K (.type "dict") (.type "tuple")=some false:=by kernel_rfl
theorem A3:W.kitOne K (.type "tuple") (.type "tuple")=some true:=by kernel_rfl
end
end L2
namespace L2
open PySem PySem.Spec PyProof.Rows
section
variable {X:Cx}
def CU (K:W.Frag):R2:=fun x y H Q=>∃a b xs,x = .ref a/\y = .ref b/\bh K H a xs/\bh K H b []/\Q (.bl (decide (xs=[]))) H
theorem yh (hu:X.A.units < cLine):gp X (compareOp .Eq) (CU X.K):=by
 intro pins s σ H x y v u Q I rx ry h;obtain⟨a,b,xs,rfl,rfl,ha,hb,q⟩:=h;cases hx:xs with
 | nil =>
  subst hx;exact x8 hu pins s σ H _ _ v u Q I rx ry ⟨a,b,_,_,rfl,rfl,ha,hb,rfl,rfl,q⟩
 | cons z zs =>
  cases rx;cases ry;obtain⟨its,r1,p1,_⟩:=I.list ha;obtain⟨its2,r2,p2,_⟩:=I.list hb;have l1:=r1.length;have l2:=r2.length;have lx:xs.length=zs.length+1:=by rw[hx];rfl
  have l0:([]:List V).length=0:=rfl;refine SeqAt.eq_list_lengthsAt p1.isList p2.isList (by simp;omega) hu ⟨.bl false,H,I,rfl,?_⟩;have e:decide (xs=[])=false:=decide_eq_false (by rw[hx];exact List.cons_ne_nil _ _);rw[e]at q;exact q
end
abbrev C3:=Int×Int×Int
theorem pL {r:S4}{c:C3}(h:c∈bS r):r.1<=c.1/\c.1 < r.1+r.2.1:=by
 unfold bS at h;obtain⟨i,hi,rfl⟩:=List.mem_map.mp h;have:=List.mem_range.mp hi;simp only;omega
theorem eL:∀{rs:List S4} {lo hi:Int} {c:C3},bV lo rs hi->c∈aQ rs->lo<=c.1/\c.1 < hi
 | [],_,_,_,_,h=>by cases h
 | r :: t,lo,hi,c,o,h=>by
  have o1:=o.1;have o2:=o.2.1;have o3:=o.2.2.le;rcases List.mem_append.mp (show c∈bS r++aQ t from h)with h|h
  . have:=pL h;omega
  . have:=eL o.2.2 h;omega
theorem fB (rs:List S4)(r:S4):aQ (rs++[r])=aQ rs++bS r:=by
 unfold aQ;rw[List.flatMap_append];simp
theorem nu:∀{g:List S4} {z:S4} {lo hi:Int},bV lo (g++[z]) hi->bV lo g z.1/\0 < z.2.1/\z.1+z.2.1<=hi
 | [],z,lo,hi,h=>⟨h.1,h.2.1,h.2.2⟩
 | q :: g,z,lo,hi,h=>by
  have ih:=nu h.2.2;exact⟨⟨h.1,h.2.1,ih.1⟩,ih.2⟩
theorem nv:∀{rs g:List S4} {lo mid hi:Int},bV lo g mid->bV mid rs hi->bV lo (rs.foldl df g) hi
 | [],g,lo,mid,hi,h,h2=>h.up h2
 | r :: t,g,lo,mid,hi,h,h2=>by
  obtain⟨a1,a2,a3⟩:=h2;rw[List.foldl_cons];refine nv (mid:=r.1+r.2.1) ?_ a3;rcases List.eq_nil_or_concat g with rfl|⟨g0,z,rfl⟩
  . rw[hV];have:lo<=mid:=h;exact⟨by omega,a2,Int.le_refl _⟩
  . rw[List.concat_eq_append]at h ⊢;obtain⟨b1,b2,b3⟩:=nu h;cases e:bM z r with
    | true =>
     rw[fA e];have e1:=(goOn_iff.mp e).1;exact b1.snoc (Int.le_refl _) (by show 0 < z.2.1+r.2.1;omega) (by show z.1+(z.2.1+r.2.1)<=r.1+r.2.1;omega)
    | false =>
     rw[d5 e];exact h.snoc a1 a2 (Int.le_refl _)
theorem fO:∀{g:List S4} {z r:S4},eV (g++[z]++[r])=(eV (g++[z]) && !bM z r)
 | [],z,r=>by
  show(!bM z r && true)=(true && !bM z r);simp
 | [a],z,r=>by
  show(!bM a z && (!bM z r && true))=((!bM a z && true) && !bM z r);simp
 | a :: b :: g,z,r=>by
  have ih:=fO (g:=b :: g) (z:=z) (r:=r);show(!bM a b && eV ((b :: g)++[z]++[r]))=((!bM a b && eV ((b :: g)++[z])) && !bM z r);rw[ih,Bool.and_assoc]
theorem rP {g:List S4}{z z':S4}(h:∀a,bM a z=bM a z'):eV (g++[z])=eV (g++[z']):=by
 rcases List.eq_nil_or_concat g with rfl|⟨g0,y,rfl⟩
 . rfl
 . rw[List.concat_eq_append,fO,fO,h y]
theorem kI:∀{rs g:List S4},eV g=true->eV (rs.foldl df g)=true
 | [],g,h=>h
 | r :: t,g,h=>by
  rw[List.foldl_cons];refine kI ?_;rcases List.eq_nil_or_concat g with rfl|⟨g0,z,rfl⟩
  . rfl
  . rw[List.concat_eq_append]at h ⊢;cases e:bM z r with
    | true =>
     rw[fA e,<- h];exact rP fun a=>rfl
    | false =>
     rw[d5 e,fO,h,e];rfl
theorem cq {lo hi:Int}:∀{rs:List S4} {a b e:Int},bV a rs b->e<=hi->(e<=a\/e<=lo)->bV e (aC rs lo hi) hi
 | [],_,_,_,_,h,_=>h
 | (p,l,q,k) :: t,a,b,e,o,h,h2=>by
  have o1:a<=p:=o.1;have o2:0 < l:=o.2.1;have o3:bV (p+l) t b:=o.2.2;have ep:aC ((p,l,q,k) :: t) lo hi=d0 lo hi (p,l,q,k)++aC t lo hi:=by
   unfold aC;rw[List.flatMap_cons]
  rw[ep];unfold d0;simp only;split
  . next c =>
    have m1:e<=bz p lo:=by
     unfold bz;split <;> omega
    have m2:c9 (p+l) hi<=hi:=by
     unfold c9;split <;> omega
    have m3:c9 (p+l) hi<=p+l:=by
     unfold c9;split <;> omega
    refine⟨m1,by show 0 < c9 (p+l) hi - bz p lo;omega,?_⟩;have e2:bz p lo+(c9 (p+l) hi - bz p lo)=c9 (p+l) hi:=by omega
    show bV (bz p lo+(c9 (p+l) hi - bz p lo)) (aC t lo hi) hi;rw[e2];exact cq o3 m2 (.inl m3)
  . exact cq o3 h (h2.imp (fun h=>by omega) id)
theorem iS:∀{xs ys:List S4} {a b c:Int},bV a xs b->bV b ys c->bV a (xs++ys) c
 | [],ys,a,b,c,h,h2=>by
  have h':a<=b:=h;cases ys with
  | nil=>exact Int.le_trans h' h2
  | cons r t=>exact⟨Int.le_trans h' h2.1,h2.2.1,h2.2.2⟩
 | x :: xs,ys,a,b,c,h,h2=>⟨h.1,h.2.1,iS h.2.2 h2⟩
theorem ny:∀{rs:List S4} {a b:Int},bV a rs b->rs.Pairwise fun x y=>x.1 < y.1
 | [],_,_,_=>List.Pairwise.nil
 | r :: t,a,b,o=>List.pairwise_cons.mpr ⟨fun y hy=>by
  have:=(o.2.2.mem hy).1;have:=o.2.1;omega,ny o.2.2⟩
theorem iT:∀{rs:List S4} {a b:Int},bV a rs b->(rs.length:Int)<=b - a
 | [],a,b,o=>by
  have o':a<=b:=o;show((0:Nat):Int)<=_;omega
 | r :: t,a,b,o=>by
  have ih:=iT o.2.2;have:=o.1;have:=o.2.1;rw[List.length_cons];omega
theorem kJ:∀{xs ys:List S4},xs.Perm ys->xs.Pairwise (fun x y=>x.1<=y.1)->ys.Pairwise (fun x y=>x.1 < y.1)->xs=ys
 | [],ys,h,_,_=>(List.nil_perm.mp h).symm
 | x :: xs,[],h,_,_=>absurd h.length_eq (by simp)
 | x :: xs,y :: ys,h,h1,h2=>by
  have p1:=List.pairwise_cons.mp h1;have p2:=List.pairwise_cons.mp h2;have e:x=y:=by
   rcases List.mem_cons.mp (h.mem_iff.mp (List.mem_cons_self ..))with e|m1
   . exact e
   . rcases List.mem_cons.mp (h.mem_iff.mpr (List.mem_cons_self (a:=y) (l:=ys)))with e|m2
     . exact e.symm
     . have:=p1.1 y m2;have:=p2.1 x m1;omega
  subst e;rw[kJ (List.Perm.cons_inv h) p1.2 p2.2]
def cF (rs:List S4)(lo hi:Int)(new:List S4):List S4:=aC rs 0 lo++new++aC rs hi 40
theorem nA {rs new:List S4}{lo hi:Int}(o:bV 0 rs 40)(h0:0<=lo)(hn:bV lo new hi)(h40:hi<=40):bV 0 (cF rs lo hi new) 40 :=
 iS (iS (cq o h0 (.inl (Int.le_refl _))) hn) (cq o h40 (.inr (Int.le_refl _)))
theorem rQ {rs new:List S4}{lo hi:Int}:(cF rs lo hi new).Perm (aC rs 0 lo++aC rs hi 40++new):=by
 unfold cF;rw[List.append_assoc,List.append_assoc];exact List.Perm.append_left _ List.perm_append_comm
theorem nF {z r:S4}(h:bM z r=true)(hz:0<=z.2.1)(hr:0<=r.2.1):bS (z.1,z.2.1+r.2.1,z.2.2.1,z.2.2.2)=bS z++bS r:=by
 obtain⟨a,l,p,s⟩:=z;obtain⟨a',l',p',s'⟩:=r;obtain⟨e1,e2,e3⟩:=goOn_iff.mp h;simp only at e1 e2 e3 hz hr;subst e1 e2 e3;obtain⟨n,rfl⟩:=Int.eq_ofNat_of_zero_le hz;obtain⟨m,rfl⟩:=Int.eq_ofNat_of_zero_le hr;unfold bS;simp only;have:((n:Int)+(m:Int)).toNat=n+m:=by omega
 rw[this,Int.toNat_natCast,Int.toNat_natCast,List.range_add,List.map_append,List.map_map]
 congr 1
 refine List.map_congr_left fun i Fc=>?_;simp only[Function.comp];rw[Int.natCast_add]
 congr 1
 . omega
 . congr 1
   omega
theorem jq:∀{rs g:List S4},(∀r∈g,0<=r.2.1)->(∀r∈rs,0<=r.2.1)->aQ (rs.foldl df g)=aQ g++aQ rs
 | [],g,_,_=>by
  show aQ g=aQ g++[];simp
 | r :: t,g,hg,hr=>by
  have r0:=hr r (List.mem_cons_self ..);rw[List.foldl_cons];have key:aQ (df g r)=aQ g++bS r/\∀x∈df g r,0<=x.2.1:=by
   rcases List.eq_nil_or_concat g with rfl|⟨g0,z,rfl⟩
   . rw[hV];refine⟨?_,fun x hx=>?_⟩
     . show bS r++[]=[]++bS r;simp
     . obtain rfl:x=r:=by simpa using hx
       exact r0
   . rw[List.concat_eq_append]at hg ⊢;have z0:=hg z (List.mem_append_right _ (List.mem_cons_self ..));cases e:bM z r with
     | true =>
      rw[fA e,fB,fB,nF e z0 r0,List.append_assoc];refine⟨rfl,fun x hx=>?_⟩;rcases List.mem_append.mp hx with hx|hx
      . exact hg x (List.mem_append_left _ hx)
      . obtain rfl:x=(z.1,z.2.1+r.2.1,z.2.2.1,z.2.2.2):=by simpa using hx
        show 0<=z.2.1+r.2.1;omega
     | false =>
      rw[d5 e,fB];refine⟨rfl,fun x hx=>?_⟩;rcases List.mem_append.mp hx with hx|hx
      . exact hg x hx
      . obtain rfl:x=r:=by simpa using hx
        exact r0
  rw[jq key.2 fun x hx=>hr x (List.mem_cons_of_mem _ hx),key.1,List.append_assoc];rfl
theorem nH {rs:List S4}{a b:Int}(o:bV a rs b):aQ (b8 rs)=aQ rs:=by
 have:=jq (rs:=rs) (g:=[]) (fun r h=>by cases h) fun r hr=>by
  have:=(o.mem hr).2.1;omega
 exact this
theorem mem_cells1 {r:S4}{c:C3}:c∈bS r↔r.1<=c.1/\c.1 < r.1+r.2.1/\c.2.1=r.2.2.1/\c.2.2=r.2.2.2+(c.1 - r.1):=by
 unfold bS;rw[List.mem_map];constructor
 . rintro⟨i,hi,rfl⟩;have:=List.mem_range.mp hi;simp only;refine⟨by omega,by omega,trivial,by omega⟩
 . rintro⟨h1,h2,h3,h4⟩;obtain⟨c1,c2,c3⟩:=c;simp only at h1 h2 h3 h4;refine⟨(c1 - r.1).toNat,List.mem_range.mpr (by omega),?_⟩;have:((c1 - r.1).toNat:Int)=c1 - r.1:=by omega
   rw[this,h3,h4]
   congr 1
   omega
theorem vT {r:S4}{lo hi:Int}{c:C3}:c∈aQ (d0 lo hi r)↔c∈bS r/\lo<=c.1/\c.1 < hi:=by
 obtain⟨a,l,p,s⟩:=r;unfold d0;simp only;split
 . next h =>
   have:aQ [(bz a lo,c9 (a+l) hi - bz a lo,p,s+bz a lo - a)]=bS (bz a lo,c9 (a+l) hi - bz a lo,p,s+bz a lo - a):=by
    show bS _++[]=_;simp
   rw[this,mem_cells1,mem_cells1];simp only;unfold bz c9 at *;split at h <;> split at h <;> simp only[*,if_true,if_false] <;> (constructor <;> (rintro⟨h1,h2,h3⟩;omega))
 . next h =>
   rw[mem_cells1];simp only;constructor
   . intro z;cases z
   . rintro⟨⟨h1,h2,_⟩,h3,h4⟩;exfalso;apply h;unfold bz c9;split <;> split <;> omega
theorem dv {lo hi:Int}{c:C3}:∀{rs:List S4},c∈aQ (aC rs lo hi)↔c∈aQ rs/\lo<=c.1/\c.1 < hi
 | []=>by
  show c∈[]↔c∈[]/\_;simp
 | r :: t=>by
  have ih:=dv (lo:=lo) (hi:=hi) (c:=c) (rs:=t);have e1:aQ (aC (r :: t) lo hi)=aQ (d0 lo hi r)++aQ (aC t lo hi):=by
   unfold aC aQ;rw[List.flatMap_cons,List.flatMap_append]
  have e2:aQ (r :: t)=bS r++aQ t:=rfl;rw[e1,e2,List.mem_append,List.mem_append,ih,vT];constructor
  . rintro(⟨h1,h2⟩ | ⟨h1,h2⟩)
    . exact⟨.inl h1,h2⟩
    . exact⟨.inr h1,h2⟩
  . rintro⟨h1 | h1,h2⟩
    . exact .inl ⟨h1,h2⟩
    . exact .inr ⟨h1,h2⟩
theorem ud {rs new:List S4}{lo hi:Int}{c:C3}(o:bV 0 rs 40):c∈aQ (cF rs lo hi new)↔(c∈aQ rs/\(c.1 < lo\/hi<=c.1))\/c∈aQ new:=by
 have e:aQ (cF rs lo hi new)=aQ (aC rs 0 lo)++aQ new++aQ (aC rs hi 40):=by
  unfold cF aQ;rw[List.flatMap_append,List.flatMap_append]
 rw[e,List.mem_append,List.mem_append,dv,dv];constructor
 . rintro((⟨h1,h2,h3⟩ | h) | ⟨h1,h2,h3⟩)
   . exact .inl ⟨h1,.inl h3⟩
   . exact .inr h
   . exact .inl ⟨h1,.inr h2⟩
 . rintro(⟨h1,h2 | h2⟩ | h)
   . exact .inl (.inl ⟨h1,(eL o h1).1,h2⟩)
   . exact .inr ⟨h1,h2,(eL o h1).2⟩
   . exact .inl (.inr h)
inductive Tr:Type
 | int (n:Int) | str (s:Str) | bl (b:Bool) | non | dct | tup (l:List Tr) | lst (l:List Tr)
mutual
def At (H:Hp):Tr->V->Prop
 | .int n,v=>v = .int n
 | .str s,v=>v = .str s
 | .bl b,v=>v = .bl b
 | .non,v=>v = .non
 | .dct,v=>∃a kvs,v = .ref a/\H a=some (.dK kvs)
 | .tup l,v=>∃a vs,v = .ref a/\H a=some (.tup vs)/\bi H l vs
 | .lst l,v=>∃a vs,v = .ref a/\H a=some (.lst vs)/\bi H l vs
def bi (H:Hp):List Tr->List V->Prop
 | [],vs=>vs=[]
 | t :: ts,vs=>∃v ws,vs=v :: ws/\At H t v/\bi H ts ws
end
mutual
theorem At.mono {H H':Hp}(s:aE H H'):∀{t:Tr} {v:V},At H t v->At H' t v
 | .int n,v,h=>by unfold At at *;exact h
 | .str n,v,h=>by unfold At at *;exact h
 | .bl n,v,h=>by unfold At at *;exact h
 | .non,v,h=>by unfold At at *;exact h
 | .dct,v,h=>by
  unfold At at *;obtain⟨a,kvs,e,h⟩:=h;exact⟨a,kvs,e,s _ _ h⟩
 | .tup l,v,h=>by
  unfold At at *;obtain⟨a,vs,e,h,k⟩:=h;exact⟨a,vs,e,s _ _ h,bi.mono s k⟩
 | .lst l,v,h=>by
  unfold At at *;obtain⟨a,vs,e,h,k⟩:=h;exact⟨a,vs,e,s _ _ h,bi.mono s k⟩
theorem bi.mono {H H':Hp}(s:aE H H'):∀{l:List Tr} {vs:List V},bi H l vs->bi H' l vs
 | [],vs,h=>by unfold bi at *;exact h
 | t :: ts,vs,h=>by
  unfold bi at *;obtain⟨v,ws,e,h,k⟩:=h;exact⟨v,ws,e,At.mono s h,bi.mono s k⟩
end
theorem bi.len {H:Hp}:∀{l:List Tr} {vs:List V},bi H l vs->vs.length=l.length
 | [],vs,h=>by
  unfold bi at h;rw[h];rfl
 | t :: ts,vs,h=>by
  unfold bi at h;obtain⟨v,ws,rfl,_,k⟩:=h;rw[List.length_cons,List.length_cons,bi.len k]
theorem bi.get {H:Hp}:∀{l:List Tr} {vs:List V} {i:Nat} {v:V},bi H l vs->vs[i]? = some v->∃t,l[i]? = some t/\At H t v
 | [],vs,i,v,h,e=>by
  unfold bi at h;subst h;cases e
 | t :: ts,vs,i,v,h,e=>by
  unfold bi at h;obtain⟨w,ws,rfl,h,k⟩:=h;cases i with
  | zero=>cases e;exact⟨t,rfl,h⟩
  | succ i =>
   obtain⟨t',h1,h2⟩:=bi.get k (show ws[i]? = some v from e);exact⟨t',h1,h2⟩
theorem bi.at {H:Hp}:∀{l:List Tr} {vs:List V} {i:Nat} {t:Tr},bi H l vs->l[i]? = some t->∃v,vs[i]? = some v/\At H t v
 | [],vs,i,t,h,e=>by cases e
 | u :: ts,vs,i,t,h,e=>by
  unfold bi at h;obtain⟨w,ws,rfl,h,k⟩:=h;cases i with
  | zero=>cases e;exact⟨w,rfl,h⟩
  | succ i =>
   obtain⟨v',h1,h2⟩:=bi.at k (show ts[i]? = some t from e);exact⟨v',h1,h2⟩
theorem bi.nil (H:Hp):bi H [] []:=by unfold bi;rfl
theorem bi.cons {H:Hp}{t:Tr}{ts:List Tr}{v:V}{vs:List V}(h:At H t v)(k:bi H ts vs):bi H (t :: ts) (v :: vs):=by
 unfold bi;exact⟨v,vs,rfl,h,k⟩
theorem bi.app {H:Hp}{us:List Tr}{ws:List V}(k:bi H us ws):∀{l:List Tr} {vs:List V},bi H l vs->bi H (l++us) (vs++ws)
 | [],vs,h=>by
  unfold bi at h;subst h;exact k
 | t :: ts,vs,h=>by
  unfold bi at h;obtain⟨v,vs,rfl,h,k2⟩:=h;exact bi.cons h (bi.app k k2)
theorem At.ty0 {H:Hp}{t:Tr}{v:V}(h:At H t v):AA H v:=by
 cases t with
 | int n=>unfold At at h;exact .inl ⟨n,h⟩
 | str n=>unfold At at h;exact .inr (.inl ⟨n,h⟩)
 | bl n=>unfold At at h;exact .inr (.inr (.inl ⟨n,h⟩))
 | non=>unfold At at h;exact .inr (.inr (.inr (.inl h)))
 | dct =>
  unfold At at h;obtain⟨a,kvs,e,h⟩:=h;exact .inr (.inr (.inr (.inr (.inr (.inr ⟨a,kvs,e,h⟩)))))
 | tup l =>
  unfold At at h;obtain⟨a,vs,e,h,_⟩:=h;exact .inr (.inr (.inr (.inr (.inr (.inl ⟨a,vs,e,h⟩)))))
 | lst l =>
  unfold At at h;obtain⟨a,vs,e,h,_⟩:=h;exact .inr (.inr (.inr (.inr (.inl ⟨a,vs,e,h⟩))))
def A4:Tr->Bool
 | .tup _=>true
 | _=>false
theorem At.tup {H:Hp}{l:List Tr}{v:V}(h:At H (.tup l) v):∃a vs,v = .ref a/\H a=some (.tup vs)/\bi H l vs:=by
 unfold At at h;exact h
theorem At.lst {H:Hp}{l:List Tr}{v:V}(h:At H (.lst l) v):∃a vs,v = .ref a/\H a=some (.lst vs)/\bi H l vs:=by
 unfold At at h;exact h
theorem At.mkT {H:Hp}{l:List Tr}{a:Addr}{vs:List V}(h:H a=some (.tup vs))(k:bi H l vs):At H (.tup l) (.ref a):=by
 unfold At;exact⟨a,vs,rfl,h,k⟩
theorem At.mkL {H:Hp}{l:List Tr}{a:Addr}{vs:List V}(h:H a=some (.lst vs))(k:bi H l vs):At H (.lst l) (.ref a):=by
 unfold At;exact⟨a,vs,rfl,h,k⟩
theorem At.int {H:Hp}(n:Int):At H (.int n) (.int n):=by unfold At;rfl
theorem At.str {H:Hp}(n:Str):At H (.str n) (.str n):=by unfold At;rfl
def rR (t:Tr)(l h:Int):Bool:=match t with
 | .int n=>decide (l<=n) && decide (n<=h)
 | _=>false
theorem At.wth {H:Hp}{t:Tr}{v:V}(h:At H t v)(l k:Int):AS v l k=rR t l k:=by
 cases t with
 | int n=>unfold At at h;subst h;rfl
 | str n=>unfold At at h;subst h;rfl
 | bl n=>unfold At at h;subst h;rfl
 | non=>unfold At at h;subst h;rfl
 | dct =>
  unfold At at h;obtain⟨a,kvs,rfl,h⟩:=h;rfl
 | tup l =>
  obtain⟨a,vs,rfl,_⟩:=h.tup;rfl
 | lst l =>
  obtain⟨a,vs,rfl,_⟩:=h.lst;rfl
def sigS:Str:=Str.ofString "abcdefghijklmnopqrstuvwxyz0123456789"
def okc (c:Nat):Bool:=(decide (97<=c) && decide (c<=122)) || (decide (48<=c) && decide (c<=57))
def gI (x:Str):Bool:=decide (1<=x.length) && decide (x.length<=8) && x.cps.toList.all okc
theorem rS:sigS.cps.toList=[97,98,99,100,101,102,103,104,105,106,107,108,109,110,111,112,113,114,115,116,117,118,119,120,121,122,48,49,50,51,52,53,54,55,56,57]:=by decide +kernel
theorem vU {l:List Nat}(hb:∀x∈l,x < 123)(hd:∀c,c < 123->decide (c∈l)=okc c)(c:Nat):decide (c∈l)=okc c:=by
 by_cases h:c < 123
 . exact hd c h
 . rw[decide_eq_false (fun m=>h (hb c m))];unfold okc;rw[decide_eq_false (show ¬ c<=122 by omega),decide_eq_false (show ¬ c<=57 by omega),Bool.and_false,Bool.and_false];rfl
theorem yi (c:Nat):(!(Builtin.Str.occurrences sigS ⟨#[c]⟩ 0 sigS.length 1).isEmpty)=okc c:=by
 rw[StrLaws.found_one,rS];exact vU (by decide +kernel) (by decide +kernel) c
theorem qx {x:Str}(h:¬ (1<=x.length/\x.length<=8)):gI x=false:=by
 unfold gI;rw[<- Bool.decide_and,decide_eq_false h,Bool.false_and]
theorem vV {x:Str}(h:1<=x.length/\x.length<=8):gI x=x.cps.toList.all okc:=by
 unfold gI;rw[<- Bool.decide_and,decide_eq_true h,Bool.true_and]
def nJ:Tr->Bool
 | .str z=>gI z
 | _=>false
def pM:Tr->Bool
 | .str _=>true
 | _=>false
def yj:Tr->Bool
 | .lst _=>true
 | _=>false
section
variable (K:W.Frag)
theorem A5:W.kitOne K (.type "int") (.type "str")=some false:=by kernel_rfl
theorem A6:W.kitOne K (.type "str") (.type "str")=some true:=by kernel_rfl
theorem A7:W.kitOne K (.type "bool") (.type "str")=some false:=by kernel_rfl
theorem A8:W.kitOne K (.type "NoneType") (.type "str")=some false:=by kernel_rfl
theorem A9:W.kitOne K (.type "list") (.type "str")=some false:=by kernel_rfl
theorem Ba:W.kitOne K (.type "tuple") (.type "str")=some false:=by kernel_rfl
theorem Bb:W.kitOne K (.type "dict") (.type "str")=some false:=by kernel_rfl
theorem Bc:W.kitOne K (.type "int") (.type "list")=some false:=by kernel_rfl
theorem Bd:W.kitOne K (.type "str") (.type "list")=some false:=by kernel_rfl
theorem Be:W.kitOne K (.type "bool") (.type "list")=some false:=by kernel_rfl
theorem Bf:W.kitOne K (.type "NoneType") (.type "list")=some false:=by kernel_rfl
theorem Bg:W.kitOne K (.type "list") (.type "list")=some true:=by kernel_rfl
theorem Bh:W.kitOne K (.type "tuple") (.type "list")=some false:=by kernel_rfl
theorem Bi:W.kitOne K (.type "dict") (.type "list")=some false:=by kernel_rfl
end
theorem At.ty {K:W.Frag}{H:Hp}{t:Tr}{v:V}(h:At H t v):∃ty,gc K H v ty/\W.kitOne K ty (.type "tuple")=some (A4 t)/\W.kitOne K ty (.type "str")=some (pM t)/\W.kitOne K ty (.type "list")=some (yj t):=by
 cases t with
 | int n=>unfold At at h;subst h;exact⟨_,.int n,AW K,A5 K,Bc K⟩
 | str n=>unfold At at h;subst h;exact⟨_,.str n,AX K,A6 K,Bd K⟩
 | bl n=>unfold At at h;subst h;exact⟨_,.bl n,AY K,A7 K,Be K⟩
 | non=>unfold At at h;subst h;exact⟨_,.non,AZ K,A8 K,Bf K⟩
 | dct =>
  unfold At at h;obtain⟨a,kvs,rfl,e⟩:=h;exact⟨_,.dK e,A2 K,Bb K,Bi K⟩
 | tup l =>
  obtain⟨a,vs,rfl,e,_⟩:=h.tup;exact⟨_,.tup e,A3 K,Ba K,Bh K⟩
 | lst l =>
  obtain⟨a,vs,rfl,e,_⟩:=h.lst;exact⟨_,.lst e,A1 K,A9 K,Bg K⟩
def ue:Expr->Bool
 | .Starred ..=>false
 | _=>true
theorem rT {e:Expr}(h:ue e=true)(es:List Expr)(env:Env):starEach (e :: es) env=(false,eval e env) :: starEach es env:=by
 cases e with
 | Starred=>cases h
 | _=>rfl
section
variable {X:Cx}{e:Expr}{es:List Expr}{te:TE}{t:TA}
theorem pc (ha:PE X e te)(hr:PA X es t)(hs:ue e=true:=by rfl):PA X (e :: es) (tG te t):=qo ha hr (rT hs es X.env)
end
mutual
def nl:Tr->Bool
 | .lst _=>false
 | .dct=>false
 | .tup l=>rV l
 | _=>true
def rV:List Tr->Bool
 | []=>true
 | t :: ts=>nl t && rV ts
end
mutual
theorem At.keepT {H H':Hp}(k:∀q u,H q=some (.tup u)->H' q=some (.tup u)):∀{t:Tr} {v:V},nl t=true->At H t v->At H' t v
 | .int n,v,_,h=>by unfold At at *;exact h
 | .str n,v,_,h=>by unfold At at *;exact h
 | .bl n,v,_,h=>by unfold At at *;exact h
 | .non,v,_,h=>by unfold At at *;exact h
 | .dct,v,n,h=>by unfold nl at n;cases n
 | .lst l,v,n,h=>by unfold nl at n;cases n
 | .tup l,v,n,h=>by
  unfold nl at n;unfold At at *;obtain⟨a,vs,e,h,z⟩:=h;exact⟨a,vs,e,k _ _ h,bi.keepT k n z⟩
theorem bi.keepT {H H':Hp}(k:∀q u,H q=some (.tup u)->H' q=some (.tup u)):∀{l:List Tr} {vs:List V},rV l=true->bi H l vs->bi H' l vs
 | [],vs,_,h=>by unfold bi at *;exact h
 | t :: ts,vs,n,h=>by
  unfold rV at n;rw[Bool.and_eq_true]at n;unfold bi at *;obtain⟨v,ws,e,h,z⟩:=h;exact⟨v,ws,e,At.keepT k n.1 h,bi.keepT k n.2 z⟩
end
theorem jr:∀{l:List Tr},(∀t∈l,nl t=true)->rV l=true
 | [],_=>rfl
 | t :: ts,h=>by
  unfold rV;rw[h t (List.mem_cons_self ..),jr fun u hu=>h u (List.mem_cons_of_mem _ hu)];rfl
structure nK (K:W.Frag)(C:Addr)(m:Str)(f:Addr):Prop where
 ga:W.specialIn K (.ref C) "__getattribute__" = some (some (.builtin "type.__getattribute__"))
 rd:W.readsIn K C (.type "type")=true
 fc:W.findCls K (.ref C) (.type "type") m=some (.val (.ref f))
 kp:W.keepIn K (.ref f)=true
def yk (C:Addr)(sp:Sp)(dvs:List V)(E:XK)(ta:TE)(t:TA):TE:=fun σ H Q=>ta σ H fun x H1=>x = .ref C/\t σ H1 fun vs H2=>sp (vs++dvs) H2 Q E
section
variable {X:Cx}{CX:CXT}{k:Nat}{f C:Addr}{fd:FuncData}{ps:List Str}{sp:Sp}{dvs:List V}{ds:List Value}{E:XK}{x m:Str}{p pos apos:Pos}{e o:Expr}{es:List Expr}{ta:TE}{t:TA}
theorem jt {pl:Sem Bool}(he:PE X o ta)(hm:nK X.K C m f){cc:Bool}(F:aj X.prog X.w X.K X.mg X.base CX k f fd ps sp cc)(hr:bI k X.A cc)(hb:bE X.K fd ps ds)(hd:aN dvs ds)(hx:fq CX X E)(ha:PA X (e :: es) t)
 (hst:starEach (e :: es) X.env=(false,eval e X.env) :: starEach es X.env:=by rfl) (hpl:(backTo pos (starEach es X.env)).any (·.1)=false:=by rfl)
 (ht:eval (.Call (.Attribute o m apos) (e :: es) [] pos) X.env=(do
  let ov <- eval o X.env
  standAt apos.atName
  let (f,first) <- holding [ov] (getMethod ov m pl)
  callWith pos f first (backTo pos (starEach (e :: es) X.env)) (backToKw pos (keywordEach [] X.env))):=by rfl) :
 PE X (.Call (.Attribute o m apos) (e :: es) [] pos) (yk C sp dvs E ta t):=by
 intro pins s σ H Q I h;refine W.methodCall_KW (pl:=pl) (bj (he pins s σ H _ I h) fun u s1 ⟨x,H1,I1,rx,ex,q⟩=>?_) ht;subst ex;obtain rfl:u=Value.ref C:=rx;refine W.method_cls I1.kIn hm.ga (W.cls_value I1.kIn hm.rd hm.fc rfl ?_);have I1':aG X pins σ H1 { s1 with toks:=s1.toks+1 }:=I1.tok _;refine W.callWith_K (first:=[]) (h₀:=X.base) I.ok.mod.kin hm.kp (bj (ha pos pins _ σ H1 _ I1' q) fun us s2 ⟨vs,H2,I2,r,q2⟩=>⟨I2.kIn,?_⟩) hst hpl;exact lC (us:=us) (vs:=vs) F hr hb hd hx I2 r q2
end
end L2
namespace L2
open PySem PySem.Spec PyProof.Rows PySem.W
def rW {α:Type}(lt:Nat->Nat->Bool):KasT α->α
 | .ret a=>a
 | .ask i j k=>rW lt (k (lt i j))
def gJ {α:Type}(n:Nat)(P:α->Prop):KasT α->Prop
 | .ret a=>P a
 | .ask i j k=>i < n/\j < n/\i≠j/\∀b,gJ n P (k b)
theorem gJ.bind {α β:Type}{n:Nat}{P:α->Prop}{P':β->Prop}{f:α->KasT β}(hf:∀a,P a->gJ n P' (f a)):∀{t:KasT α},gJ n P t->gJ n P' (t.bind f)
 | .ret a,h=>hf a h
 | .ask i j k,h=>⟨h.1,h.2.1,h.2.2.1,fun b=>gJ.bind hf (h.2.2.2 b)⟩
theorem gJ.ev {α:Type}{n:Nat}{P:α->Prop}(lt:Nat->Nat->Bool):∀(t:KasT α),gJ n P t->P (rW lt t)
 | .ret a,h=>h
 | .ask i j k,h=>gJ.ev lt (k (lt i j)) (h.2.2.2 (lt i j))
theorem uf {α:Type}{n:Nat}{P:α->Prop}{lt:Nat->Nat->Bool}{cmp:Nat->Nat->(Bool->Shared->Prop)->Shared->Prop}{s:Shared}(hc:∀i j,i < n->j < n->i≠j->∀C:Bool->Shared->Prop,C (lt i j) s->cmp i j C s){Q:α->Shared->Prop}:∀{t:KasT α},gJ n P t->Q (rW lt t) s->t.kasWp cmp Q s
 | .ret a,_,q=>q
 | .ask i j k,h,q=>hc i j h.1 h.2.1 h.2.2.1 _ (uf hc (h.2.2.2 (lt i j)) q)
def cm (n:Nat)(p:Array Nat):Prop:=p.toList.Perm (List.range n)
theorem cm.size {n:Nat}{p:Array Nat}(h:cm n p):p.size=n:=by
 have:=h.length_eq;simpa using this
theorem cm.two {n:Nat}{p:Array Nat}(h:cm n p){a b:Nat}(ha:a < n)(hb:b < n)(hab:a≠b):p.getD a 0 < n/\p.getD b 0 < n/\p.getD a 0≠p.getD b 0:=by
 have sz:=h.size;have e:∀c (hc:c < n),p.getD c 0=p.toList[c]'(by simp;omega):=fun c hc=>by
  simp[Array.getD,show c < p.size by omega]
 have nd:p.toList.Nodup:=h.nodup_iff.mpr List.nodup_range;have m:∀c (hc:c < n),p.toList[c]'(by simp;omega) < n:=fun c hc=>List.mem_range.mp (h.mem_iff.mp (List.getElem_mem _));rw[e a ha,e b hb];refine⟨m a ha,m b hb,fun z=>hab ?_⟩;exact(List.getElem_inj nd).mp z
theorem cm.of {n:Nat}{p q:Array Nat}(h:cm n p)(hq:q.Perm p):cm n q:=(Array.perm_iff_toList_perm.mp hq).trans h
theorem pN {n:Nat}{p:Array Nat}(hp:cm n p):∀(f m:Nat),1<=m->m+f<=n->gJ n (fun r=>m<=r/\r<=m+f) (kas_asc p f m)
 | 0,m,_,_=>⟨Nat.le_refl _,Nat.le_refl _⟩
 | f+1,m,h1,h2=>by
  obtain⟨a,b,c⟩:=hp.two (a:=m) (b:=m - 1) (by omega) (by omega) (by omega);refine⟨a,b,c,fun d=>?_⟩;cases d with
  | true=>exact⟨Nat.le_refl _,by omega⟩
  | false =>
   show gJ n _ (kas_asc p f (m+1));have k:=pN hp f (m+1) (by omega) (by omega);have:=gJ.bind (f:=fun r=>KasT.ret r) (P':=fun r=>m<=r/\r<=m+(f+1)) (fun r hr=>(⟨by omega,by omega⟩:m<=r/\r<=m+(f+1))) k;have e:∀t:KasT Nat,t.bind (fun r=>KasT.ret r)=t:=fun t=>by
    induction t with
    | ret a=>rfl
    | ask i j k ih =>
     show KasT.ask i j (fun b=>(k b).bind fun r=>.ret r)=_
     congr 1
     funext b
     exact ih b
   rw[e]at this;exact this
theorem iU {n:Nat}:∀(f:Nat) (p:Array Nat) (m q:Nat),cm n p->1<=m->m+f<=n->gJ n (fun r=>cm n r.1/\1<=r.2.1/\r.2.1<=n) (kas_desc f p m q)
 | 0,p,m,q,hp,h1,h2=>⟨hp,h1,h2⟩
 | f+1,p,m,q,hp,h1,h2=>by
  obtain⟨a,b,c⟩:=hp.two (a:=m) (b:=m - 1) (by omega) (by omega) (by omega);refine⟨a,b,c,fun d=>?_⟩;cases d with
  | true =>
   show gJ n _ (if q > 0 then kas_desc f (kas_rev p (m - (q+1)) m) (m+1) 0 else kas_desc f p (m+1) 0);split
   . exact iU f _ (m+1) 0 (hp.of (mirror_perm _ _ _ _)) (by omega) (by omega)
   . exact iU f p (m+1) 0 hp (by omega) (by omega)
  | false =>
   refine⟨b,a,c.symm,fun d=>?_⟩;cases d with
   | true=>exact⟨hp,h1,(by omega:m<=n)⟩
   | false=>exact iU f p (m+1) (q+1) hp (by omega) (by omega)
theorem nM {n m:Nat}{p:Array Nat}(hp:cm n p)(h1:1<=m)(h2:m<=n):gJ n (fun r=>cm n r.2/\r.1<=n) (kas_tail3 m n p) :=
by
 unfold kas_tail3;refine gJ.bind (P:=fun r=>m<=r/\r<=m+(n - m)) (fun r hr=>?_) (pN (hp.of (mirror_perm _ _ _ _)) (n - m) m h1 (by omega));exact⟨hp.of (mirror_perm _ _ _ _),(by omega:r<=n)⟩
theorem iy {n m:Nat}{p:Array Nat}(hp:cm n p)(h1:1<=m)(h2:m+1<=n):gJ n (fun r=>cm n r.2/\r.1<=n) (kas_descPart m n p):=by
 refine gJ.bind (fun r hr=>?_) (iU (n - (m+1)) p (m+1) 0 hp (by omega) (by omega));obtain⟨a,b,c⟩:=hr;split
 . exact nM (a.of (mirror_perm _ _ _ _)) b c
 . exact nM a b c
theorem ug {n:Nat}{p:Array Nat}(hp:cm n p)(h1:1<=n):gJ n (fun r=>cm n r.2/\r.1<=n) (kas_count n p):=by
 refine gJ.bind (fun m hm=>?_) (pN hp (n - 1) 1 (Nat.le_refl _) (by omega));split
 . exact⟨hp,by omega⟩
 . next hne =>
   have hne':m≠n:=fun z=>hne (by simpa using z);split
   . obtain⟨a,b,c⟩:=hp.two (a:=0) (b:=m - 1) (by omega) (by omega) (by omega);refine⟨a,b,c,fun d=>?_⟩;cases d with
     | true=>exact⟨hp,by omega⟩
     | false=>exact iy (hp.of (mirror_perm _ _ _ _)) (by omega) (by omega)
   . exact iy hp (by omega) (by omega)
theorem ju {n k:Nat}{p:Array Nat}(hp:cm n p)(hk:k < n):∀(f l r:Nat),r<=k->l<=r->gJ n (fun Fc=>True) (kas_place p k f l r)
 | 0,l,r,_,_=>trivial
 | f+1,l,r,h1,h2=>by
  unfold kas_place;split
  . trivial
  . next hlr =>
    obtain⟨a,b,c⟩:=hp.two (a:=k) (b:=(l+r) / 2) hk (by omega) (by omega);refine⟨a,b,c,fun d=>?_⟩;cases d with
    | true=>exact ju hp hk f l _ (by omega) (by omega)
    | false=>exact ju hp hk f _ r h1 (by omega)
theorem uh {n:Nat}:∀(f:Nat) (p:Array Nat) (k:Nat),cm n p->k+f<=n->gJ n (cm n) (kas_bin f p k)
 | 0,p,k,hp,_=>hp
 | f+1,p,k,hp,h=>gJ.bind (fun l Fc=>uh f _ (k+1) (hp.of (bubble_perm _ _ _)) (by omega)) (ju hp (by omega) k 0 k (Nat.le_refl _) (Nat.zero_le _))
theorem iV {n:Nat}(h1:1<=n):gJ n (cm n) (kas_sort n):=by
 refine gJ.bind (fun r hr=>?_) (ug (p:=List.toArray (List.range n)) (by unfold cm;simp) h1);obtain⟨a,b⟩:=hr;split
 . exact uh _ _ _ a (by omega)
 . exact a
def eN (ss:List Str)(i j:Nat):Bool:=decide ((ss.getD i Str.empty).cps.toList < (ss.getD j Str.empty).cps.toList)
def eW (ss:List Str):List Nat:=if ss.length < 2 then List.range ss.length else(rW (eN ss) (kas_sort ss.length)).toList
theorem fP (ss:List Str):(eW ss).Perm (List.range ss.length):=by
 unfold eW;split
 . exact List.Perm.refl _
 . exact gJ.ev (eN ss) _ (iV (n:=ss.length) (by omega))
theorem pO (vs:List Value):((List.range vs.length).map fun i=>vs.getD i Value.none)=vs:=by
 apply List.ext_getElem?;intro i;by_cases hi:i < vs.length
 . rw[List.getElem?_map];simp[hi]
 . rw[List.getElem?_eq_none (by simpa using hi),List.getElem?_eq_none (by omega)]
section
variable {prog:Program}{w:World}{A:Around}{E:Value->Shared->Prop}{s:Shared}
theorem lT {l:Addr}{vs:List Value}{Q:List Value->Shared->Prop}(hl:s.heap.IsTuple l vs.toArray)
 (h:Q vs { s with heap:=(s.heap.push (seqObj "list" #[] 0)).update s.heap.objs.size (Obj.mapSeq (· ++ vs.toArray)) }) (hsz:vs.length<=sizeLine:=by size_fits) :
 wpAny (model prog w) A (collect (.ref l)) Q E s:=by
 obtain⟨ob,hob,cob,m,dob⟩:=id hl;have hob2:=Heap.get?_push_of_some (seqObj "list" #[] 0) hob;have en:(s.heap.push (seqObj "list" #[] 0)).get? s.heap.objs.size=some (seqObj "list" #[] 0):=Heap.get?_push_size _ rfl;have el:((#[]:Array Value)++vs.toArray).toList=vs:=by simp
 unfold collect;refine wpAny_bind (wpAny_runValue (codeAny_builtin entry_proto_collect' (wpAny_bind (wpAny_newList (wpAny_pure ⟨Code.quiet_builtin _ (by decide +kernel),codeAny_builtin entry_list_iadd' ?go⟩)))))
 case go =>
  show wpAny _ _ (Builtin.List.listExtendWith (.ref s.heap.objs.size) (.ref l) (.ref s.heap.objs.size)) _ _ { s with heap:=s.heap.push (seqObj "list" #[] 0) };unfold Builtin.List.listExtendWith;refine wpAny_bind (wpAny_typeOf (T:="tuple") ⟨ob,hob2,cob⟩ ?_);have tt:(Value.type "tuple" == Value.type "tuple")=true:=rfl;rw[if_pos (by rw[tt,Bool.or_true])];refine wpAny_bind (listItems_at hob2 dob (wpAny_bind (listItems_at en rfl ?_)));rw[if_neg (by simp)];refine wpAny_bind (listUpdate_at en rfl (wpAny_pure ?_) (Nat.zero_le _) (by simp only[Array.size_append,List.size_toArray,List.length_nil,Array.size_empty];omega));refine wpAny_bind (wpAny_load (get?_update_seq en _) ?_);show wpAny _ _ (pure ((#[]:Array Value)++vs.toArray).toList) Q E _;rw[el];exact wpAny_pure h
theorem eS {a:Addr}{vs fs:List Value}{ss:List Str}{n:Nat}{P:PySem.Fin->Shared->Prop}(ho:s.heap.get? a=some (seqObj "list" vs.toArray n))(t:KatTups s.heap vs fs)(hS:StrsAre fs ss)
 (ne:∀(i j:Nat) x y,ss[i]? = some x->ss[j]? = some y->i≠j->x≠y) (h64:vs.length < 64)
 (h:P (.done (.ret .none)) { s with heap:=sortedHeap s.heap a vs ((eW ss).map fun i=>vs.getD i Value.none).toArray }) :
 wpAny (model prog w) A (Builtin.«list.sort» ⟨[.ref a],[]⟩) P E s:=by
 rw[list_sort_plain];have ha:a < s.heap.objs.size:=Heap.lt_size ho;have lss':vs.length=ss.length:=by rw[<- nj hS,fz t]
 refine wpAny_bind (listItems_at ho rfl ?_);refine wpAny_bind (listUpdate_at ho rfl ?_ (by rw[List.size_toArray,sizeLine_eq];omega) (Nat.zero_le _));obtain⟨e1,ho1⟩:∃e1,(s.heap.update a (Obj.mapSeq fun Fc=>#[])).get? a=some (seqObj "list" #[] e1):=⟨_,get?_update_seq ho (fun Fc=>#[])⟩;refine wpAny_bind (seqEpoch_at ho1 rfl ?_);refine wpAny_bind (wpAny_newTuple ?_ (by show vs.length<=_;rw[sizeLine_eq];omega));refine wpAny_bind (wpAny_newList ?_ (Nat.zero_le _));refine wpAny_holding ?_;have ho6:(((s.heap.update a (Obj.mapSeq fun Fc=>#[])).push (seqObj "tuple" vs.toArray 0)).push (seqObj "list" #[] 0)).get? a=some (seqObj "list" #[] e1):=by
  rw[Heap.get?_push_ne _ _ _ (by rw[size_push',Heap.size_update];exact Nat.ne_of_lt (Nat.lt_succ_of_lt ha)),Heap.get?_push_ne _ _ _ (by rw[Heap.size_update];exact Nat.ne_of_lt ha)];exact ho1
 have t6:KatTups (((s.heap.update a (Obj.mapSeq fun Fc=>#[])).push (seqObj "tuple" vs.toArray 0)).push (seqObj "list" #[] 0)) vs fs:=dm (fun b o e hc=>by
  have nb:b≠a:=fun z=>by
   subst z;rw[ho]at e;cases e;exact absurd hc (by show ¬ Value.type "list" = Value.type "tuple";decide)
  exact Heap.get?_push_of_some _ (Heap.get?_push_of_some _ ((Heap.get?_update_other _ _ (Ne.symm nb)).trans e))) t
 show wpAny (model prog w) A _ P E { s with heap:=((s.heap.update a (Obj.mapSeq fun Fc=>#[])).push (seqObj "tuple" vs.toArray 0)).push (seqObj "list" #[] 0) };dsimp only;by_cases h2:vs.toArray.size < 2
 . rw[if_pos h2,if_pos h2];refine wpAny_bind (wpAny_pure ?_);rw[StateT.run_pure];refine wpAny_bind (wpAny_pure ?_);dsimp only;refine wpAny_bind (seqEpoch_at ho6 rfl ?_);have es:(arrOf (SortSt.mk' general' (vs.toArray.zip vs.toArray) #[] 7 none)).map (·.2)=vs.toArray:=by
    show(vs.toArray.zip vs.toArray).map (·.2)=vs.toArray;apply Array.toList_inj.mp;simp[List.map_snd_zip]
   rw[es];refine wpAny_bind (listUpdate_at ho6 rfl ?_ (Nat.zero_le _) (by rw[List.size_toArray,sizeLine_eq];omega));simp only[bne_self_eq_false,Bool.false_eq_true,if_false];have eo:((eW ss).map fun i=>vs.getD i Value.none)=vs:=by
    unfold eW;rw[List.size_toArray]at h2;rw[<- lss',if_pos h2];exact pO vs
   rw[eo]at h;exact wpAny_pure h
 . rw[if_neg h2,if_neg h2];have h2':2<=vs.length:=by rw[List.size_toArray]at h2;omega
   have lf:=fz t;refine wpAny_bind (kat_kind (T:=.type "str") t6 (by omega) (fun v hv=>?_) rfl ?_)
   . obtain⟨x,tk,rfl⟩:=hS.all v hv;exact .now
   refine wpAny_bind (wpAny_mono (kat_run (ks:=vs) (vs:=vs) (Q:=fun st' s'=>arrOf st'=(rW (eN ss) (kas_sort vs.length)).map (kas_item (vs.toArray.zip vs.toArray))/\failedOf st'=none/\s' = { s with heap:=((s.heap.update a (Obj.mapSeq fun Fc=>#[])).push (seqObj "tuple" vs.toArray 0)).push (seqObj "list" #[] 0) }) (G:=fun p s'=>p=rW (eN ss) (kas_sort vs.length)/\s' = { s with heap:=((s.heap.update a (Obj.mapSeq fun Fc=>#[])).push (seqObj "tuple" vs.toArray 0)).push (seqObj "list" #[] 0) })
    rfl h2' h64 (fun p' st' s' a1 a2 a3 a4=>⟨by rw[a2,a4.1],a3,a4.2⟩) (uf (lt:=eN ss) (fun j i jn in' nij C c=>?_) (iV (by omega)) ⟨rfl,rfl⟩)) ?_ fun Fc Fc e=>e)
   . obtain⟨x,hx⟩:∃x,ss[i]? = some x:=⟨_,List.getElem?_eq_getElem (by omega)⟩;obtain⟨y,hy⟩:∃y,ss[j]? = some y:=⟨_,List.getElem?_eq_getElem (by omega)⟩;have nxy:y≠x:=ne j i y x hy hx nij;obtain⟨b,o,xs,k,tk,e1',o1,d1,f1⟩:=jm hS t6 hy;obtain⟨b',o',xs',k',tk',e2',o2,d2,f2⟩:=jm hS t6 hx;unfold kas_ask;rw[e1',e2'];refine kat_lt o1 d1 o2 d2 ?_;obtain⟨r1,er1⟩:∃r1,xs.toList = .str y tk :: r1:=by
      have:xs.toList[0]? = some (.str y tk):=by simpa using f1
      cases hh:xs.toList with
      | nil=>rw[hh]at this;cases this
      | cons p r=>rw[hh]at this;cases this;exact⟨r,rfl⟩
     obtain⟨r2,er2⟩:∃r2,xs'.toList = .str x tk' :: r2:=by
      have:xs'.toList[0]? = some (.str x tk'):=by simpa using f2
      cases hh:xs'.toList with
      | nil=>rw[hh]at this;cases this
      | cons p r=>rw[hh]at this;cases this;exact⟨r,rfl⟩
     rw[er1,er2,List.zip_cons_cons];refine kat_cons (wpAny_eqBool_str ?_);rw[decide_eq_false nxy];refine kat_no ?_;show wpAny _ _ (oneLt' true (.str y tk) (.str x tk')) _ _ _;refine oneLt_str ?_;have el:eN ss j i=decide (y.cps.toList < x.cps.toList):=by
      unfold eN;rw[List.getD_eq_getElem?_getD,List.getD_eq_getElem?_getD,hx,hy];rfl
     rw[el]at c;exact c
   . rintro⟨⟨⟩,st'⟩ s' ⟨har,hf,rfl⟩;dsimp only;have hout:=kat_snds (ks:=vs) (vs:=vs) rfl har;have ev:eW ss=(rW (eN ss) (kas_sort vs.length)).toList:=by
      unfold eW;rw[<- lss',if_neg (by omega)]
     rw[<- ev]at hout;rw[hout];refine wpAny_bind (seqEpoch_at ho6 rfl ?_);refine wpAny_bind (listUpdate_at ho6 rfl ?_ (Nat.zero_le _) (by rw[List.size_toArray,List.length_map,(fP ss).length_eq,List.length_range,sizeLine_eq];omega));rw[hf];simp only[bne_self_eq_false,Bool.false_eq_true,if_false];exact wpAny_pure h
theorem lU {l:Addr}{vs fs:List Value}{ss:List Str}{Q:Value->Shared->Prop}(hl:s.heap.IsList l vs.toArray)(t:KatTups s.heap vs fs)(hS:StrsAre fs ss)
 (ne:∀(i j:Nat) x y,ss[i]? = some x->ss[j]? = some y->i≠j->x≠y) (h64:vs.length < 64)
 (h:Q (.ref (s.heap.objs.size+1)) { s with heap:=sortedAll s.heap vs ((eW ss).map fun i=>vs.getD i Value.none).toArray }) :
 wpAny (model prog w) A (call (.builtin "sorted") [.ref l]) Q E s:=by
 refine Calls.call_function_entry kind_sorted plain_sorted entry_sorted (args_sorted1 _) ?_;unfold Builtin.«sorted»;refine wpAny_bind (m:=checkCount "sorted" 1 1 _) (wpAny_pure ?_);refine wpAny_bind (collect_list hl ?_ (by rw[sizeLine_eq];omega));refine wpAny_bind (wpAny_newList ?_ (by rw[sizeLine_eq];omega));have hsz:((s.heap.push (seqObj "list" #[] 0)).update s.heap.objs.size (Obj.mapSeq (· ++ vs.toArray))).objs.size=s.heap.objs.size+1:=by
  rw[Heap.size_update,size_push']
 have hoL:(((s.heap.push (seqObj "list" #[] 0)).update s.heap.objs.size (Obj.mapSeq (· ++ vs.toArray))).push (seqObj "list" vs.toArray 0)).get? (s.heap.objs.size+1)=some (seqObj "list" vs.toArray 0):=by
  rw[<- hsz];exact Heap.get?_push_size _ rfl
 have keep:∀b o,s.heap.get? b=some o->(((s.heap.push (seqObj "list" #[] 0)).update s.heap.objs.size (Obj.mapSeq (· ++ vs.toArray))).push (seqObj "list" vs.toArray 0)).get? b=some o:=fun b o q=>by
  have hlt:b < s.heap.objs.size:=Heap.lt_size q;rw[Heap.get?_push_ne _ _ _ (by rw[hsz];exact Nat.ne_of_lt (Nat.lt_succ_of_lt hlt)),Heap.get?_update_ne _ _ _ _ (Nat.ne_of_lt hlt),Heap.get?_push_ne _ _ _ (Nat.ne_of_lt hlt)];exact q
 show wpAny _ _ _ _ _ { s with heap:=((s.heap.push (seqObj "list" #[] 0)).update s.heap.objs.size (Obj.mapSeq (· ++ vs.toArray))).push (seqObj "list" vs.toArray 0) };rw[hsz];refine wpAny_bind (wpAny_holding (wpAny_call_entry slot_list_sort ⟨_,hoL,rfl⟩ entry_list_sort (eS (s:={ s with heap:=((s.heap.push (seqObj "list" #[] 0)).update s.heap.objs.size (Obj.mapSeq (· ++ vs.toArray))).push (seqObj "list" vs.toArray 0) }) hoL (dm (fun b o q Fc=>keep b o q) t) hS ne h64 ⟨_,rfl,?_⟩) (args_list_sort _)));exact wpAny_pure ⟨_,rfl,h⟩
theorem jQ {l:Addr}{vs fs:List Value}{ss:List Str}{Q:Value->Shared->Prop}(hl:s.heap.IsTuple l vs.toArray)(t:KatTups s.heap vs fs)(hS:StrsAre fs ss)
 (ne:∀(i j:Nat) x y,ss[i]? = some x->ss[j]? = some y->i≠j->x≠y) (h64:vs.length < 64)
 (h:Q (.ref (s.heap.objs.size+1)) { s with heap:=sortedAll s.heap vs ((eW ss).map fun i=>vs.getD i Value.none).toArray }) :
 wpAny (model prog w) A (call (.builtin "sorted") [.ref l]) Q E s:=by
 refine Calls.call_function_entry kind_sorted plain_sorted entry_sorted (args_sorted1 _) ?_;unfold Builtin.«sorted»;refine wpAny_bind (m:=checkCount "sorted" 1 1 _) (wpAny_pure ?_);refine wpAny_bind (lT hl ?_ (by rw[sizeLine_eq];omega));refine wpAny_bind (wpAny_newList ?_ (by rw[sizeLine_eq];omega));have hsz:((s.heap.push (seqObj "list" #[] 0)).update s.heap.objs.size (Obj.mapSeq (· ++ vs.toArray))).objs.size=s.heap.objs.size+1:=by
  rw[Heap.size_update,size_push']
 have hoL:(((s.heap.push (seqObj "list" #[] 0)).update s.heap.objs.size (Obj.mapSeq (· ++ vs.toArray))).push (seqObj "list" vs.toArray 0)).get? (s.heap.objs.size+1)=some (seqObj "list" vs.toArray 0):=by
  rw[<- hsz];exact Heap.get?_push_size _ rfl
 have keep:∀b o,s.heap.get? b=some o->(((s.heap.push (seqObj "list" #[] 0)).update s.heap.objs.size (Obj.mapSeq (· ++ vs.toArray))).push (seqObj "list" vs.toArray 0)).get? b=some o:=fun b o q=>by
  have hlt:b < s.heap.objs.size:=Heap.lt_size q;rw[Heap.get?_push_ne _ _ _ (by rw[hsz];exact Nat.ne_of_lt (Nat.lt_succ_of_lt hlt)),Heap.get?_update_ne _ _ _ _ (Nat.ne_of_lt hlt),Heap.get?_push_ne _ _ _ (Nat.ne_of_lt hlt)];exact q
 show wpAny _ _ _ _ _ { s with heap:=((s.heap.push (seqObj "list" #[] 0)).update s.heap.objs.size (Obj.mapSeq (· ++ vs.toArray))).push (seqObj "list" vs.toArray 0) };rw[hsz];refine wpAny_bind (wpAny_holding (wpAny_call_entry slot_list_sort ⟨_,hoL,rfl⟩ entry_list_sort (eS (s:={ s with heap:=((s.heap.push (seqObj "list" #[] 0)).update s.heap.objs.size (Obj.mapSeq (· ++ vs.toArray))).push (seqObj "list" vs.toArray 0) }) hoL (dm (fun b o q Fc=>keep b o q) t) hS ne h64 ⟨_,rfl,?_⟩) (args_list_sort _)));exact wpAny_pure ⟨_,rfl,h⟩
end
def rX (ss:List Str)(vs:List V):List V:=(eW ss).map fun i=>vs.getD i V.non
theorem nN {ss:List Str}{vs:List V}{its:List Value}(r:aN vs its):∀l:List Nat,aN (l.map fun i=>vs.getD i V.non) (l.map fun i=>its.getD i Value.none)
 | []=>.nil
 | i :: l=>by
  refine .cons ?_ (nN (ss:=ss) r l);dsimp only;rw[List.getD_eq_getElem?_getD,List.getD_eq_getElem?_getD];cases e:vs[i]? with
  | none =>
   have:its[i]? = none:=List.getElem?_eq_none (by rw[<- r.length];exact List.getElem?_eq_none_iff.mp e);rw[this];rfl
  | some v =>
   obtain⟨u,eu,ru⟩:=r.get e;rw[eu];exact ru
section
variable {X:Cx}
def yl (K:W.Frag)(tu:Bool)(xs:List V)(H:Hp)(Q:VK):Prop:=∃(a:Addr) (vs:List V) (ss:List Str),xs=[V.ref a]/\Sq K tu H a vs/\vs.length < 64/\vs.length=ss.length/\(∀(i:Nat) v z,vs[i]? = some v->ss[i]? = some z->∃b ws,v = .ref b/\H b=some (.tup (.str z :: ws))) /\
 ss.Nodup/\∀l,H l=none->Q (.ref l) (aL H l (.lst (rX ss vs)))
theorem nO {ss:List Str}(h:ss.Nodup)(i j:Nat)(x y:Str)(hi:ss[i]? = some x)(hj:ss[j]? = some y)(n:i≠j):x≠y:=fun e=>by
 subst e;obtain⟨a,ea⟩:=List.getElem?_eq_some_iff.mp hi;obtain⟨b,eb⟩:=List.getElem?_eq_some_iff.mp hj;exact n ((List.getElem_inj h).mp (ea.trans eb.symm))
theorem lV {tu:Bool}:cT X (.builtin "sorted") (yl X.K tu):=by
 intro pins s σ H xs us Q I r h;obtain⟨a,vs,ss,rfl,ha,h64,hl,ht,nd,q⟩:=h;obtain⟨u,rfl,ru⟩:=gy r;cases ru;have lo:(rX ss vs).length=vs.length:=by
  unfold rX;rw[List.length_map,(fP ss).length_eq,List.length_range,hl]
 have fin:∀its:List Value,aN vs its->EP X pins σ Q (.ref (s.heap.objs.size+1)) { s with heap:=sortedAll s.heap its ((eW ss).map fun i=>its.getD i Value.none).toArray }:=fun its rv=>by
  obtain⟨e,he⟩:=sortedAll_at s.heap its ((eW ss).map fun i=>its.getD i Value.none).toArray;refine⟨.ref (s.heap.objs.size+1),_,I.laid (a:=s.heap.objs.size+1) (o:=.lst (rX ss vs)) (t':=s.toks) (fun b o z=>sortedAll_old z) (Nat.le_succ _) ?_,rfl,q _ (I.hok.fresh (Nat.le_succ _))⟩;exact⟨by rw[lo,sizeLine_eq];omega,_,e,nN (ss:=ss) rv (eW ss),he⟩
 cases tu with
 | false =>
  obtain⟨its,rv,pl,hz⟩:=I.list ha;have li:its.length=vs.length:=rv.length.symm;obtain⟨fs,t,hS⟩:=lR (P:=X.prog) (w:=X.w) I rv hl ht;exact lU pl.isList t hS (nO nd) (by omega) (fin its rv)
 | true =>
  obtain⟨its,rv,pl,hz⟩:=I.tuple ha;have li:its.length=vs.length:=rv.length.symm;obtain⟨fs,t,hS⟩:=lR (P:=X.prog) (w:=X.w) I rv hl ht;exact jQ pl t hS (nO nd) (by omega) (fin its rv)
end
def g3 (K:W.Frag):TG:=xP K 3 (ij (dH 0) (ij (dH 1) (ij (dH 2) gNil)))
theorem Bj {K:W.Frag}{tu:Bool}{a p:Addr}{tt:TT}{te:TE}{cs:St}{Q:VK}{H1:Hp}{xs:List V}(Pv:Nat->List V->Hp->Prop)(h0:Pv 0 [] (aL H1 p (.lst [])))
 (hl:∀i ys H,i<=xs.length->Pv i ys H->Sq K tu H a xs)
 (hs:∀i x ys H,xs[i]? = some x->Pv i ys H->∃q c1 c2 c3,x = .ref q/\a8 K H q [c1,c2,c3]/\tt (some c1 :: some c2 :: some c3 :: cs) H fun b H4=>if b=true then te (some c1 :: some c2 :: some c3 :: cs) H4 fun y H5=>H5 p=some (.lst ys)/\ys.length < sizeLine/\Pv (i+1) (ys++[y]) (aL H5 p (.lst (ys++[y])))else Pv (i+1) ys H4)
 (hd:∀ys H,Pv xs.length ys H->Q (.ref p) H):fw (fun Fc=>True) (g3 K) 3 (xj K tu a) p tt te cs Q H1:=by
 refine kF Pv h0 hl (fun i x ys H hx pv vs0 hv=>?_) hd;obtain⟨q,c1,c2,c3,rfl,hq,ht⟩:=hs i x ys H hx pv
 match vs0,hv with
 | [w1,w2,w3],_=>exact⟨q,_,rfl,hq,rfl,c1,_,rfl,c2,_,rfl,c3,_,rfl,rfl,⟨[some c1,some c2,some c3],rfl,rfl⟩,ht⟩
end L2
namespace L2
open PySem PySem.Spec PyProof.Rows
def vW (lo c:Int)(n:Nat):It:=⟨fun i Fc=>i < n,fun i H x H'=>H'=H/\x = .int (lo+i * c),fun i Fc=>n<=i⟩
theorem iA {P:Program}{w:World}{K:W.Frag}{tg:Expr}(it:Addr)(lo c:Int)(n:Nat){hb:Bool}:mK P w K tg (vW lo c n) [it] it (fun i h=>IsRangeIter h it (lo+(i:Nat) * c) ((n:Int) - (i:Nat)) c) hb where
 mem:=by simp
 obj:=fun i h st b hb=>by
  have e:b=it:=by simpa using hb
  subst e;exact⟨_,st,fun v z=>by
   have z':Data.fields _=Data.cell v:=z;cases z'⟩
 keep:=fun i h h' st k=>k it (by simp) _ st
 item:=by
  intro X hP hw hK s hc i pins σ H E I hf st hg;subst hP hw hK;obtain⟨f0,f1,f2,f3,f4,f5⟩:=hf it (by simp);have hi:i < n:=hg;refine wpAny_pyNext_range_item st (by omega) fun h' st' sb=>?_;have I1:aG X pins σ H { s with heap:=h',toks:=s.toks+1 }:=I.turned (fun b o hb e=>(sb.2 b hb).trans e) f0 f1 f3 f4 f5;have e1:lo+((i:Nat):Int) * c+c=lo+((i+1:Nat):Int) * c:=by
   rw[Int.natCast_add,Int.add_mul,Int.add_assoc];simp
  have e2:(n:Int) - ((i:Nat):Int) - 1=(n:Int) - ((i+1:Nat):Int):=by omega
  rw[e1,e2]at st';exact⟨_,rfl,i8 (s:={ s with heap:=h',toks:=s.toks+1 }) (n:="range_iterator") st' rfl rfl (by decide) ⟨.int (lo+i * c),H,I1,⟨s.toks,rfl⟩,⟨rfl,rfl⟩,st',fun b hb=>(hf b hb).1⟩⟩
 done:=by
  intro X hP hw hK s hc i pins σ H E I hf st hg;subst hP hw hK;obtain⟨f0,f1,f2,f3,f4,f5⟩:=hf it (by simp);have hi:(n:Int) - ((i:Nat):Int)<=0:=by have:n<=i:=hg;omega
  rcases hc with hc|⟨_,ea,o,vs,h1,h2,h3,h4⟩
  . exact wpAny_pyNext_range_end hc st hi fun h' eb=>⟨rfl,I.turned (t':=s.toks) (fun b o hb e=>eb b o hb e) f0 f1 f3 f4 f5⟩
  . exact fj h1 h2 h3 h4 st hi fun h' eb=>⟨rfl,I.turned (t':=s.toks) (fun b o hb e=>eb b o hb e) f0 f1 f3 f4 f5⟩
 self:=fun Fc Fc Fc Fc Fc st h=>wpAny_pyIter_rangeiter st h
theorem xk (a b:Int):Builtin.Range.rangeSize a b 8=if a < b then(b - a - 1) / 8+1 else 0:=by
 unfold Builtin.Range.rangeSize;rw[if_pos (by decide)]
theorem vX {a b:Int}(ha:-(2 ^ 60)<=a)(ha':a < 2 ^ 60)(hb:-(2 ^ 60)<=b)(hb':b < 2 ^ 60):Builtin.Range.small a b 8=true:=by
 unfold Builtin.Range.small;rw[xk];simp only[Builtin.Range.rangeFitsLong,Bool.and_eq_true,Bool.or_eq_true,decide_eq_true_eq,beq_iff_eq,show(8:Int) > 0 by decide,if_true];split <;> omega
section
variable {X:Cx}{tg:Expr}
def Bk (ta:TA):TI:=fun σ H R=>ta σ H fun vs H1=>∃i j:Int,vs=[.int i,.int j,.int 8]/\(-(2 ^ 60)<=i/\i < 2 ^ 60/\-(2 ^ 60)<=j/\j < 2 ^ 60)/\R (vW i 8 (if i < j then(j - i - 1) / 8+1 else 0).toNat) H1
theorem rY {hb:Bool}{pins:List (Addr×Obj)}{σ:St}{H:Hp}{s:Shared}{R:It->Hp->Prop}{E:Value->Shared->Prop}{lo hi:Int}{t u v:Tok}{tk:Nat}(I:aG X pins σ H s)(h1:-(2 ^ 60)<=lo)(h2:lo < 2 ^ 60)(h3:-(2 ^ 60)<=hi)(h4:hi < 2 ^ 60)
 (q:R (vW lo 8 (if lo < hi then(hi - lo - 1) / 8+1 else 0).toNat) H):wpAny (model X.prog X.w) X.A (pyIter (.ref s.heap.objs.size)) (Ci X pins σ tg R hb) E { s with heap:=s.heap.push { cls:=.type "range",data:=.fields #[.int lo t,.int hi u,.int 8 v] },toks:=tk }:=by
 refine wpAny_pyIter_range (IsRange.new ..) (vX h1 h2 h3 h4) ?_;have I1:aG X pins σ H { s with heap:=s.heap.push { cls:=.type "range",data:=.fields #[.int lo t,.int hi u,.int 8 v] },toks:=tk }:=I.kept fun b o e=>Heap.get?_push_of_some _ e;refine⟨(s.heap.push { cls:=.type "range",data:=.fields #[.int lo t,.int hi u,.int 8 v] }).objs.size,[(s.heap.push { cls:=.type "range",data:=.fields #[.int lo t,.int hi u,.int 8 v] }).objs.size],_,_,H,rfl,
  I1.kept (t':=tk) fun b o e=>Heap.get?_push_of_some _ e,iA _ lo 8 _,?_,fun b hb=>?_,q⟩
 . have e1:lo+((0:Nat):Int) * 8=lo:=by simp
   have e2:(((if lo < hi then(hi - lo - 1) / 8+1 else 0).toNat:Nat):Int) - ((0:Nat):Int)=Builtin.Range.rangeSize lo hi 8:=by
    rw[xk];split <;> omega
   show IsRangeIter _ _ (lo+((0:Nat):Int) * 8) ((((if lo < hi then(hi - lo - 1) / 8+1 else 0).toNat:Nat):Int) - ((0:Nat):Int)) 8;rw[e1,e2];exact Heap.get?_push_size _ rfl
 . have e:b=(s.heap.push { cls:=.type "range",data:=.fields #[.int lo t,.int hi u,.int 8 v] }).objs.size:=by simpa using hb
   subst e;exact I1.fpOk (Nat.le_refl _) (I1.hok.fresh (Nat.le_refl _))
theorem kK {hb:Bool}{a b c:Expr}{ta:TA}{p pos:Pos}(hg:Gl X "range")(hm:X.mg "range" = none)(ha:PA X [a,b,c] ta)(hs:starEach [a,b,c] X.env=[(false,eval a X.env),(false,eval b X.env),(false,eval c X.env)]:=by rfl)(hs2:starEach [b,c] X.env=[(false,eval b X.env),(false,eval c X.env)]:=by rfl) :
 PI X tg (.Call (.Name "range" p) [a,b,c] [] pos) (Bk ta) hb:=by
 intro pins s σ H R I h;refine Call_ (eA I hg hm boot_range (PyProof.Rows.callWith_type1 (bj (ha pos pins s σ H _ I h) fun us s1 ⟨vs,H1,I1,r1,q1⟩=>?_) (by rw[hs,hs2]) (by rw[hs2];rfl)));obtain⟨i,j,e,⟨q1,q2,q3,q4⟩,q⟩:=q1;subst e;cases r1 with
 | cons r rr =>
  cases rr with
  | cons r' rr =>
   cases rr with
   | cons r'' rr =>
    cases rr;obtain⟨t,rfl⟩:=r;obtain⟨t',rfl⟩:=r';obtain⟨t'',rfl⟩:=r'';exact call_range_3 (by decide) (rY I1 q1 q2 q3 q4 q) (.inl (PyProof.noPylong_small (by omega)))
end
theorem pP {lo c:Int}{n:Nat}{g:TG}{tb:TS}{D:f8}{σ:St}{H:Hp}(Pv:Nat->St->Hp->Prop)(h0:Pv 0 σ H)
 (hs:∀i σ H,i < n->Pv i σ H->g (.int (lo+i * c)) σ H fun σ2 H2=>tb { D with nx:=Pv (i+1),ct:=Pv (i+1),bk:=D.nx } σ2 H2) (hd:∀ σ H,Pv n σ H->D.nx σ H) :
 ∃W:Nat->Nat->St->Hp->Prop,(∃m,W 0 m σ H)/\∀i m σ H,W i m σ H ->
  ((vW lo c n).stop i H/\D.nx σ H)\/((vW lo c n).go i H/\∃N:St->Hp->Prop,(∀ σ' H',N σ' H'->∃m',m' < m/\W (i+1) m' σ' H')/\∀x H',(vW lo c n).yld i H x H'->g x σ H' fun σ2 H2=>tb { D with nx:=N,ct:=N,bk:=D.nx } σ2 H2):=by
 refine⟨fun i m σ H=>m=n - i/\i<=n/\Pv i σ H,⟨n,by simp,Nat.zero_le _,h0⟩,?_⟩;rintro i m σ H ⟨rfl,hi,pv⟩;by_cases hlt:i < n
 . refine .inr ⟨hlt,Pv (i+1),fun σ' H' p'=>⟨n - (i+1),by omega,rfl,hlt,p'⟩,fun x H' y=>?_⟩;obtain⟨rfl,rfl⟩:=y;exact hs i σ _ hlt pv
 . have e:i=n:=by omega
   subst e;exact .inl ⟨Nat.le_refl _,hd σ H pv⟩
theorem iB {lo c:Int}{n:Nat}{p:Addr}{tt:TT}{te:TE}{cs:St}{Q:VK}{H1:Hp}(Pv:Nat->List V->Hp->Prop)(h0:Pv 0 [] (aL H1 p (.lst [])))
 (hs:∀i ys H,i < n->Pv i ys H->tt (some (.int (lo+i * c)) :: cs) H fun b H4=>if b=true then te (some (.int (lo+i * c)) :: cs) H4 fun y H5=>H5 p=some (.lst ys)/\ys.length < sizeLine/\Pv (i+1) (ys++[y]) (aL H5 p (.lst (ys++[y])))else Pv (i+1) ys H4)
 (hd:∀ys H,Pv n ys H->Q (.ref p) H):ft (vW lo c n) p tt te cs Q H1:=by
 refine fN n Pv h0 ?_ ?_
 . intro i ys H hi pv;refine⟨hi,fun v H3 y=>?_⟩;obtain⟨rfl,rfl⟩:=y;exact hs i ys _ hi pv
 . intro ys H pv;exact⟨Nat.le_refl _,hd ys H pv⟩
theorem ft.t {J:It}{p:Addr}{tt:TT}{te:TE}{cs:St}{Q:VK}{H1:Hp}(h:ft J p tt te cs Q H1):fw (fun Fc=>True) (dH 0) 1 J p tt te cs Q H1:=by
 obtain⟨W,h0,hs⟩:=h;refine⟨W,h0,fun i m ys H2 hw=>(hs i m ys H2 hw).imp (fun⟨a,b⟩=>⟨a,trivial,b⟩) fun⟨a,N,hN,hv⟩=>⟨a,trivial,N,hN,fun v H3 y vs0 hl=>?_⟩⟩
 match vs0,hl with
 | [w0],_=>exact⟨⟨[some v],rfl,rfl⟩,hv v H3 y⟩
theorem cW {X:Cx}{elt iter:Expr}{ifs:List Expr}{x:Str}{px pos:Pos}{sc:Scope}{wi:TI}{tt:TT}{te:TE}(caps:List Nat)(capsN:List Str)
 (hi:PI X (.Name x px) iter wi)
 (ht:∀cl C s H ex pn,xY (bx X (x :: capsN) sc cl C s H ex pn) ifs tt)
 (he:∀cl C s H ex pn,PE (bx X (x :: capsN) sc cl C s H ex pn) elt te)
 (hkind:sc.kind = .function) (hcell:∀y∈sc.names,y.2 ≠ .cell) (hnames:∀y∈sc.names,y.2 = .local->sc.names.lookup y.1=some .local) (hx:sc.names.lookup x=some .local)
 (hfr:∀y∈sc.names,y.2 = .free->y.1∈capsN)
 (hcap:∀(j:Nat) (y:Str),capsN[j]? = some y->∃i:Nat,caps[j]? = some i/\X.N[i]? = some y/\sc.names.lookup y=some .free/\(X.env.kindOf y=some .cell\/X.env.kindOf y=some .free)) (hlen:caps.length=capsN.length)
 (hnd:(x :: capsN).Nodup) (hc:X.calm=true)
 (hs:∀x,foldedSetIterable iter X.env x=pure x:=by intro _;rfl) :
 PE X (.ListComp elt [⟨.Name x px,iter,ifs,0⟩] sc pos) (xg wi tt te caps) :=
 m5 (Gs:=fun Fc=>True) (hb:=false) (CW:=fun J p cs Q H1=>ft J p tt te cs Q H1) (xs:=[x]) (g:=dH 0) caps capsN hi (fun Fc Fc Fc Fc Fc Fc=>aJ hnd rfl (.inl (lookup_relabel_local hx)) (.inr (lookup_relabel_local hx))) ht he hkind hcell hnames hfr hcap hlen (.inl hc) (fun Fc Fc Fc Fc Fc h=>h.t) hs
theorem jv {X:Cx}{elt iter:Expr}{ifs:List Expr}{x y:Str}{px pos pos' pos2:Pos}{sc:Scope}{wi:TI}{tt:TT}{te:TE}{i:Nat}(hN:X.N.Nodup)(hiN:X.N[i]? = some y)(hy:X.env.scope.names.lookup y=some .local)(caps:List Nat)(capsN:List Str)
 (hi:PI X (.Name x px) iter wi)
 (ht:∀cl C s H ex pn,xY (bx X (x :: capsN) sc cl C s H ex pn) ifs tt)
 (he:∀cl C s H ex pn,PE (bx X (x :: capsN) sc cl C s H ex pn) elt te)
 (hkind:sc.kind = .function) (hcell:∀y∈sc.names,y.2 ≠ .cell) (hnames:∀y∈sc.names,y.2 = .local->sc.names.lookup y.1=some .local) (hx:sc.names.lookup x=some .local)
 (hfr:∀y∈sc.names,y.2 = .free->y.1∈capsN)
 (hcap:∀(j:Nat) (y:Str),capsN[j]? = some y->∃i:Nat,caps[j]? = some i/\X.N[i]? = some y/\sc.names.lookup y=some .free/\(X.env.kindOf y=some .cell\/X.env.kindOf y=some .free)) (hlen:caps.length=capsN.length)
 (hnd:(x :: capsN).Nodup) (hc:X.calm=true)
 (hsw:swapsWith (.ListComp elt [⟨.Name x px,iter,ifs,0⟩] sc pos) (some (.Name y pos')) pos2.line X.env=pure true:=by rfl)
 (hs:∀x,foldedSetIterable iter X.env x=pure x:=by intro _;rfl) :
 PS X (.Assign [.Name y pos'] (.ListComp elt [⟨.Name x px,iter,ifs,0⟩] sc pos) pos2) (xQ (xg wi tt te caps) (dH i)):=by
 intro pins s σ H D I h;rw[exec_Assign_Name_used _ _ _ _ hsw,arm_evalThenUse_ListComp];refine wpAny_bind (wpAny_standAt (wpAny_bind (wpAny_bind (m4 (Gs:=fun Fc=>True) (hb:=false) (CW:=fun J p cs Q H1=>ft J p tt te cs Q H1) (xs:=[x]) (g:=dH 0) (use:=some (assign (.Name y pos') X.env)) caps capsN hi (fun Fc Fc Fc Fc Fc Fc=>aJ hnd rfl (.inl (lookup_relabel_local hx)) (.inr (lookup_relabel_local hx))) ht he hkind hcell hnames hfr hcap hlen (.inl hc) (fun Fc Fc Fc Fc Fc h=>h.t) hs I h fun C p H5 s5 ⟨m,hn⟩ I5 f q=>?_))));refine wpAny_assign_Name (jW I5 hN hiN (.inl hy) (show aY (.ref p) (.ref p)from rfl) (fun s6 I6 ⟨a,sb,ha⟩=>?_) (.inr hy));have nC:C≠a:=by
  rcases ha with ha|ha
  . rw[ha];exact f.2.1
  . exact fun z=>f.2.2.2.2.1 y a ha z.symm
 obtain⟨o,es,ep,ho,r⟩:=hn;refine⟨m,⟨o,es,ep,(sb.2 C nC).trans ho,r⟩,fun h' sb'=>?_⟩;have I7:=I6.turned (t':=s6.toks) (h':=h') (fun b o hb e=>(sb'.2 b hb).trans e) f.1 f.2.1 f.2.2.2.1 f.2.2.2.2.1 f.2.2.2.2.2;exact wpAny_pure (wpAny_pure ⟨_,H5,I7,q⟩)
end L2
namespace L2
open PySem PySem.Spec PySem.Calls PySem.W PyProof.Rows
section
variable {prog:Program}{w:World}{A:Around}{E:Value->Shared->Prop}{s:Shared}
structure nP (scope:Scope)(x:Str):Prop where
 co:scope.isCoroutine=false
 gen:scope.isGenerator=false
 fn:scope.kind = .function
 nocell:∀y∈scope.names,y.2 ≠ .cell
 loc:scope.names.lookup x=some .local
theorem ui {f q c':Addr}{qual x G:Str}{params:Arguments}{scope:Scope}{pm ctv:Value}{items:Array Value}{i k:Int}{j:Nat}{t tg:Tok}{p1 p2 p3:Pos}{mg:Str->Option Value}{Q:Value->Shared->Prop}
 (hroom:A.depth < recursionLimit) (hlim:s.heap.NoLimit)
 (hf:s.heap.get? f=some (kla_obj "<lambda>" qual params (.Subscript (.Name x p1) (.Name G p2) p3) scope [] pm c' ctv)) (hcd:s.heap.CodeRec (.ref c') qual)
 (hbind:bindArgs (kla_fn "<lambda>" qual params (.Subscript (.Name x p1) (.Name G p2) p3) scope [] pm (.ref c') ctv) ⟨[.ref q],[]⟩=pure [(x,.ref q)])
 (S:nP scope x) (hxk:∀L a cd,(envX qual scope L a cd []).kindOf x=some .local) (hGk:∀L a cd,(envX qual scope L a cd []).kindOf G=some .globalImplicit)
 (hdx:(x == ("__debug__":Str))=false) (hdG:(G == ("__debug__":Str))=false)
 (hG:s.heap.Ns mainGlobals mg) (hg:mg G=some (.int i tg)) (hq:IsTup s.heap q items) (hlo:-(2 ^ 63)<=i) (hhi:i < 2 ^ 63) (hj:seqIndex? i items.size=some j) (hx:items[j]? = some (.int k t))
 (h:∀h' tk,(∀b o,s.heap.get? b=some o->h'.get? b=some o)->Q (.int k t) { s with heap:=h',toks:=tk }):wpAny (model prog w) A (call (.ref f) [.ref q]) Q E s:=by
 refine wpAny_call ?_;refine kla_callFunE hroom hf rfl S.co S.gen rfl hcd ?_;rw[hbind];refine wpAny_pure (wpAny_newFunctionEnv S.nocell (fun y hy=>by
  obtain rfl:y=(x,.ref q):=by simpa using hy
  exact S.loc) (fun h₁ hns hsb=>⟨hlim.fresh _ hsb,?_⟩) S.fn)
 show codeAny _ _ (.expr (.Subscript (.Name x p1) (.Name G p2) p3) (envX qual scope s.heap.objs.size f (.ref c') [])) _ _;have hk₁:∀b o,s.heap.get? b=some o->h₁.get? b=some o:=fun b o e=>hsb.extBut b o (Nat.ne_of_lt (Heap.lt_size e)) (Heap.get?_push_of_some _ e);refine kla_codeExpr ?_;refine Subscript_ ?_;refine wpAny_Name (wpAny_loadName_local (v:=.ref q) S.fn (hxk _ _ _) hns (by simp) ?_) hdx;refine Name_function_global S.fn (hGk _ _ _) (loadGlobal_global (hG.keeps hk₁) hg ?_) hdG;exact item_tuple (hq.keeps hk₁) hlo hhi hj hx (h h₁ _ hk₁)
end
section
variable {X:Cx}{pins:List (Addr×Obj)}{σ:St}{H:Hp}{s:Shared}
theorem uj {P:Program}{w:World}{H:Hp}{h:Heap}{a:Addr}{o:HO}(x:bA P w H h a o):∃u,h.get? a=some u:=by
 cases o with
 | lst xs=>obtain⟨_,_,_,_,e⟩:=x;exact⟨_,e⟩
 | tup xs=>obtain⟨_,_,_,u,e,_⟩:=x;exact⟨_,e⟩
 | dK kvs=>obtain⟨_,_,_,_,u,_,_,e,_⟩:=x;exact⟨_,e⟩
 | dT kvs=>obtain⟨_,_,_,_,u,_,_,e,_⟩:=x;exact⟨_,e⟩
 | set S n=>obtain⟨u,_,_,_,e,_⟩:=x;exact⟨_,e⟩
 | ins C dx fs=>obtain⟨_,_,_,e,_⟩:=x;exact⟨_,e⟩
 | own y=>obtain⟨_,e⟩:=x;exact⟨_,e⟩
 | xd fs=>obtain⟨_,⟨_,_,_,e,_⟩,_⟩:=x;exact⟨_,e⟩
 | rng lo hi=>obtain⟨_,_,_,e⟩:=x;exact⟨_,e⟩
 | frz ob u=>obtain⟨e,_⟩:=x;exact⟨_,e⟩
 | tbl ps=>exact⟨_,show h.get? a=some _ from x⟩
 | met f y=>exact⟨_,show h.get? a=some _ from x⟩
 | ext φ=>obtain⟨_,⟨_,e⟩,_⟩:=x;exact⟨_,e⟩
theorem rZ {vs:List Value}{ys:List V}{rs:List S4}{ps:List (Int×Value)}(r:aN ys vs)(t:aI H ys (rs.map tv))(hp:ps.Perm ((rs.map (·.1)).zip vs)) :
 ∃(ys':List V) (rs':List S4),aN ys' (ps.map Prod.snd)/\aI H ys' (rs'.map tv)/\rs'.Perm rs/\ps.map Prod.fst=rs'.map (·.1):=by
 have key:∀(ps qs:List (Int×Value)),ps.Perm qs->∀(ys:List V) (rs:List S4),aN ys (qs.map Prod.snd)->aI H ys (rs.map tv)->qs.map Prod.fst=rs.map (·.1) ->
  ∃(ys':List V) (rs':List S4),aN ys' (ps.map Prod.snd)/\aI H ys' (rs'.map tv)/\rs'.Perm rs/\ps.map Prod.fst=rs'.map (·.1):=by
  intro ps qs hp
  induction hp with
  | nil =>
   intro ys rs r t e;exact⟨ys,rs,r,t,List.Perm.refl _,e⟩
  | cons x hp ih =>
   intro ys rs r t e
   rename_i l1 l2
   cases ys with
   | nil=>cases r
   | cons y ys =>
    cases rs with
    | nil=>cases e
    | cons q rs =>
     cases r with
     | cons r0 r =>
      rw[List.map_cons,List.map_cons]at e;injection e with e0 e;obtain⟨ys',rs',h1,h2,h3,h4⟩:=ih ys rs r t.2 e;exact⟨y :: ys',q :: rs',.cons r0 h1,⟨t.1,h2⟩,h3.cons q,by rw[List.map_cons,List.map_cons,h4,e0]⟩
  | swap x y l =>
   intro ys rs r t e
   match ys,rs,r,t,e with
   | y0 :: y1 :: ys,q0 :: q1 :: rs,.cons r0 (.cons r1 r),⟨t0,t1,t⟩,e =>
    rw[List.map_cons,List.map_cons,List.map_cons,List.map_cons]at e;injection e with e0 e;injection e with e1 e;exact⟨y1 :: y0 :: ys,q1 :: q0 :: rs,.cons r1 (.cons r0 r),⟨t1,t0,t⟩,List.Perm.swap _ _ _,by rw[List.map_cons,List.map_cons,List.map_cons,List.map_cons,e0,e1,e]⟩
   | [],_,r,_,_=>cases r
   | [_],_,.cons _ r,_,_=>cases r
   | _ :: _ :: _,[],_,t,_=>exact t.elim
   | _ :: _ :: _,[_],_,t,_=>exact t.2.elim
  | trans h1 h2 ih1 ih2 =>
   intro ys rs r t e;obtain⟨ys2,rs2,a1,a2,a3,a4⟩:=ih2 ys rs r t e;obtain⟨ys3,rs3,b1,b2,b3,b4⟩:=ih1 ys2 rs2 a1 a2 a4;exact⟨ys3,rs3,b1,b2,b3.trans a3,b4⟩
 have ll:(rs.map (·.1)).length=vs.length:=by
  rw[List.length_map,<- bU t,r.length]
 refine key ps _ hp ys rs ?_ t ?_
 . rw[List.map_snd_zip (by omega)];exact r
 . rw[List.map_fst_zip (by omega)]
theorem lW {f c':Addr}{qual x G:Str}{params:Arguments}{scope:Scope}{pm ctv:Value}{tg:Tok}{p1 p2 p3:Pos}{l:Addr}{ys:List V}{rs:List S4}{Q:VK}(I:aG X pins σ H s)(hr:bI 1 X.A)
 (hf:s.heap.get? f=some (kla_obj "<lambda>" qual params (.Subscript (.Name x p1) (.Name G p2) p3) scope [] pm c' ctv)) (hfL:f≠X.env.locals) (hcL:c'≠X.env.locals) (hcd:s.heap.CodeRec (.ref c') qual)
 (hbind:∀q,bindArgs (kla_fn "<lambda>" qual params (.Subscript (.Name x p1) (.Name G p2) p3) scope [] pm (.ref c') ctv) ⟨[.ref q],[]⟩=pure [(x,.ref q)])
 (S:nP scope x) (hxk:∀L a cd,(envX qual scope L a cd []).kindOf x=some .local) (hGk:∀L a cd,(envX qual scope L a cd []).kindOf G=some .globalImplicit)
 (hdx:(x == ("__debug__":Str))=false) (hdG:(G == ("__debug__":Str))=false) (hg:X.mg G=some (.int 0 tg))
 (hl:H l=some (.lst ys)) (ht:aI H ys (rs.map tv)) (h64:rs.length < 64)
 (q:∀(D:Addr) (ys':List V) (rs':List S4),aI H ys' (rs'.map tv)->rs'.Perm rs->rs'.Pairwise (fun a b=>a.1<=b.1)->H D=none->Q (.ref D) (aL H D (.lst ys'))) :
 wpAny (model X.prog X.w) X.A (call (.builtin "sorted") [.ref l] [(Str.ofString "key",.ref f)]) (EP X pins σ Q) X.xe s:=by
 obtain⟨m,F⟩:=I.fr;obtain⟨its,rv,pl,hz⟩:=I.list (bh.of (K:=X.K) hl);have N:=sW (g:=X.base) (h:=s.heap) (L:=X.env.locals);have ly:=bU ht;have lv:=rv.length;have kept:∀{h:Heap} {own:List (Addr×Obj)},Fr X.base X.env.locals h m->News X.base X.env.locals h (iL X.base s.heap X.env.locals++own)->∀b o,b≠X.env.locals->s.heap.get? b=some o->h.get? b=some o:=fun {h own} F' N' b o hb e=>by
  cases qb:X.base.get? b with
  | some u =>
   have:=I.bk b u qb;rw[e]at this;cases this;exact F'.keep b _ qb
  | none=>exact(N' (b,o) (List.mem_append_left _ (ii hb qb e))).1
 refine ksk_sorted (kz:=rs.map (·.1)) (f:=.ref f) (b:=false) F N pl.isList (by rw[List.length_map];omega) (by omega) (ksk_s1 _ _) (fun x=>ksk_l1 _ _) (fun x=>ksk_t1 f x) ?turn ?done
 case turn =>
  intro i v k hv hk h tk own F' N';have kp:=kept F' N';obtain⟨y,ey,ry⟩:∃y,ys[i]? = some y/\aY y v:=by
   have hi:i < its.length:=(List.getElem?_eq_some_iff.mp hv).1;obtain⟨u,eu,ru⟩:=rv.get (i:=i) (x:=ys[i]'(by omega)) (by simp);rw[hv]at eu;cases eu;exact⟨_,by simp,ru⟩
  obtain⟨r,q0,hr0,rfl,hq⟩:=iR ht ey;cases ry;rw[List.getElem?_map,hr0]at hk;cases hk;obtain⟨jts,rw',pt,_⟩:=I.tuple (a8.of (K:=X.K) hq);have nq:q0≠X.env.locals:=fun e=>by
   have:=I.free;rw[<- e,hq]at this;cases this
  obtain⟨o,eo,rest⟩:=id pt;have pt':IsTup h q0 jts.toArray:=⟨o,kp _ _ nq eo,rest⟩;have l4:=rw'.length;obtain⟨u0,eu0,ru0⟩:=rw'.get (i:=0) (x:=.int r.1) rfl;obtain⟨t0,rfl⟩:=ru0;have cd:h.CodeRec (.ref c') qual:=by
   obtain⟨c2,oc,vs2,t2,e2,g2,d2⟩:=hcd;cases e2;exact⟨c',oc,vs2,t2,rfl,kp _ _ hcL g2,d2⟩
  refine ui (s:={ s with heap:=h,toks:=tk }) (q:=q0) (i:=0) (j:=0) (t:=t0) (mg:=X.mg) ?_ (I.ok.mod.nolimit.keeps F'.keep) (kp _ _ hfL hf) cd (hbind q0) S hxk hGk hdx hdG (I.mod.glob.keeps F'.keep) hg pt' (by decide) (by decide) ?_ (by simpa using eu0) fun h' tk' hk'=>?_
  . have:=hr.dp;show X.A.depth < recursionLimit;omega
  . have:(tv r).length=4:=rfl;rw[List.size_toArray,<- l4,this];rfl
  . exact KskEnd.intro (s₁:={ s with heap:=h,toks:=tk }) ⟨F'.ns.keeps hk',fun b o e=>hk' b o (F'.keep b o e),F'.above⟩ (N'.grown hk') fun p hp=>hp
 case done =>
  intro D h' tk out c F' N' lt ho;obtain⟨ps,hp,ho,hs⟩:=ho;obtain⟨ys',rs',r1,t1,p1,e1⟩:=rZ (H:=H) rv ht hp;have ND:=N' (D,seqObj "list" out c) (List.mem_cons_self ..);have kp:=kept (own:=[]) F' (fun p hp=>N' p (List.mem_cons_of_mem _ (by simpa using hp)));have nD:∀b o,s.heap.get? b=some o->b≠D:=fun b o e z=>by
   by_cases hb:b=X.env.locals
   . exact ND.2.1 (by rw[<- z,hb])
   . cases qb:X.base.get? b with
     | some u=>rw[z,ND.2.2]at qb;cases qb
     | none =>
      have this:b < D:=lt (b,o) (ii hb qb e);exact absurd (z ▸ this) (Nat.lt_irrefl _)
  have HD:H D=none:=by
   cases qd:H D with
   | none=>rfl
   | some u =>
    obtain⟨o,eo⟩:=uj (I.hok D u qd);exact absurd rfl (nD D o eo)
  have nh:∀b u,H b=some u->b≠D:=fun b u e z=>by
   rw[z,HD]at e;cases e
  have nL:∀b u,H b=some u->b≠X.env.locals:=fun b u e z=>by
   have:=I.free;rw[<- z,e]at this;cases this
  refine⟨.ref D,aL H D (.lst ys'),?_,rfl,q D ys' rs' t1 p1 ?_ HD⟩
  rotate_left
  . have:(ps.map Prod.fst).Pairwise (· <= ·):=by
     rw[List.pairwise_map];exact hs.imp fun h=>by simpa using h
    rw[e1,List.pairwise_map]at this;exact this
  refine I.step (g':=s.gens) (d':=s.drawn) (t':=tk) (ch:=[]) (fun b hb=>nomatch hb) (fun b o hL Fc Fc e Fc=>kp b o hL e) (fun b o hL Fc Fc e Fc=>⟨o.slots,kp b o hL e⟩) (fun b o Fc e n=>by rw[am (nD b o e)];exact n) (fun b o Fc e=>?_)
   (fun b xs e=>by rw[am (nh b _ e)];exact e) (fun b o u e=>by rw[am (nh b _ e)];exact e) (fun b ps e=>⟨#[],by rw[am (nh b _ e),e];simp⟩) (fun m' hm=>?_) (fun b u e=>?_) I.bare
  . by_cases hb:b=X.env.locals
    . subst hb;obtain⟨o',_,_,ho',_⟩:=F'.ns;exact⟨o',ho'⟩
    . exact⟨o,kp b o hb e⟩
  . have:m'=m:=hm.eq_nsMap.trans F.ns.eq_nsMap.symm;rw[this];exact F'.ns
  . by_cases hb:b=D
    . subst hb;rw[aa]at e;cases e;refine⟨?_,out.toList,c,by rw[ho];exact r1,?_⟩
      . have:=bU t1;have:=p1.length_eq;have:=PySem.sizeLine_eq;omega
      . have:=ND.1;simpa[seqObj]using this
    . rw[am hb]at e;refine(I.hok b u e).stay (fun c v hc qc=>kp c v ?_ qc) (fun c qc=>by rw[am (nh c _ qc)];exact qc) fun c xs qc=>by rw[am (nh c _ qc)];exact qc
      rcases hc with z|z
      . rw[z];exact nL b u e
      . exact nL c _ z
end
end L2
namespace L2
open PySem PySem.Spec PySem.Calls PySem.W PyProof.Rows
def cN (P:Addr)(ps:Array Value):Heap->Prop:=fun h=>h.get? P=some (tabObj ps)
def hW (c:Addr)(qual:Str):Heap->Prop:=fun h=>h.CodeRec (.ref c) qual
def bo (H:Hp)(P:Addr)(pos:Pos)(qual:Str):Prop:=∃ps,H P=some (.ext (cN P ps))/\TriplesOk ps.toList/\(codeAmong pos ps.toList=none\/∃c',codeAmong pos ps.toList=some (.ref c')/\H c'=some (.ext (hW c' qual)))
def eX (P:Addr)(H H':Hp):Prop:=∀b o,b≠P->H b=some o->H' b=some o
theorem eX.refl (P:Addr)(H:Hp):eX P H H:=fun Fc Fc Fc e=>e
theorem eX.trans {P:Addr}{H H1 H2:Hp}(a:eX P H H1)(b:eX P H1 H2):eX P H H2:=fun c o n e=>b c o n (a c o n e)
theorem aE.sxP {P:Addr}{H H':Hp}(s:aE H H'):eX P H H':=fun b o Fc e=>s b o e
structure d6 (base:Heap)(mg:Str->Option Value):Prop where
 ex:∃bm o,mg "__builtins__" = some (.ref bm)/\bm≠builtinsNs/\bm≠mainGlobals/\base.get? bm=some o/\o.cls = .type "module"/\o.dict=some builtinsNs/\o.data = .plain
section
variable {X:Cx}{pins:List (Addr×Obj)}{σ:St}{H:Hp}{s:Shared}
theorem cG {P:Program}{w:World}{H:Hp}{h:Heap}{a:Addr}{φ:Heap->Prop}(x:bA P w H h a (.ext φ)):φ h:=x.1
theorem dq:∀{l:List Value} {a b:Int} {t u:Tok} {c:Value},TriplesOk l->TriplesOk (l++[.int a t,.int b u,c])
 | [],_,_,_,_,_,_=>trivial
 | .int _ _ :: .int _ _ :: _ :: rest,_,_,_,_,_,h=>dq (l:=rest) h
theorem ym {c P:Addr}{qual:Str}{params:Arguments}{body:Expr}{scope:Scope}{pos:Pos}{Q:Value->Shared->Prop}(I:aG X pins σ H s)(hcode:X.env.code = .ref c)(C:CodeHd X.base c P)(B:d6 X.base X.mg)(t:bo H P pos qual)
 (hcl:closureFor scope X.env=pure [])
 (h:∀f c' pm ctv s' H',aG X pins σ H' s'->eX P H H'->bo H' P pos qual->s'.heap.get? f=some (kla_obj "<lambda>" qual params body scope [] pm c' ctv)->s'.heap.CodeRec (.ref c') qual->f≠X.env.locals->c'≠X.env.locals->Q (.ref f) s') :
 wpAny (model X.prog X.w) X.A (makeFunction "<lambda>" qual params (.expr body) scope X.env [] [] [] pos pos.line) Q X.xe s:=by
 obtain⟨ps,hP,tr,hc⟩:=t;have eP:s.heap.get? P=some (tabObj ps):=cG (I.hok P _ hP);have nB:∀b o,X.base.get? b=some o->b≠P:=fun b o e z=>by
  have:=(I.bs b o e).2;rw[z,hP]at this;cases this
 have hgs:=I.mod.glob.keeps I.bk;have gP:mainGlobals≠P:=by
  obtain⟨o,_,_,e,_⟩:=I.mod.glob;exact nB _ o e
 have BA:s.heap.BuiltinsAt X.mg P:=by
  obtain⟨bm,o,b1,b2,b3,b4,b5,b6,b7⟩:=B.ex;exact⟨bm,o,b1,b2,b3,nB bm o b4,I.bk _ _ b4,b5,b6,b7⟩
 have nL:∀b u,H b=some u->b≠X.env.locals:=fun b u e z=>by
  have:=I.free;rw[<- z,e]at this;cases this
 rcases hc with hc|⟨c',hc,hc'⟩
 . refine kla_makeFunction (mg:=X.mg) hcl I.ok.glob hgs hcode (C.keeps I.bk) eP tr hc gP BA fun c' ctv h' tk hx hge hlt hrec htb=>?_;have kp:∀b o,b≠P->s.heap.get? b=some o->(h'.push (kla_obj "<lambda>" qual params body scope [] ((X.mg "__name__").getD .none) c' ctv)).get? b=some o:=fun b o hb e=>Heap.get?_push_of_some _ (hx b o hb e);have nc:∀b o,s.heap.get? b=some o->b≠c':=fun b o e z=>absurd (Nat.lt_of_lt_of_le (Heap.lt_size e) (z ▸ hge)) (Nat.lt_irrefl _);have Hc:H c'=none:=I.hok.fresh hge;have ncP:c'≠P:=fun z=>nc P _ eP z.symm;have rec':(h'.push (kla_obj "<lambda>" qual params body scope [] ((X.mg "__name__").getD .none) c' ctv)).CodeRec (.ref c') qual:=hrec.push _;have lt:=I.lt;have ntb:(h'.push (kla_obj "<lambda>" qual params body scope [] ((X.mg "__name__").getD .none) c' ctv)).get? P=some (tabObj (ps ++ #[rawInt pos.line,rawInt pos.col,.ref c'])):=Heap.get?_push_of_some _ htb;refine h h'.objs.size c' _ ctv _ (aL (aL H P (.ext (cN P (ps ++ #[rawInt pos.line,rawInt pos.col,.ref c'])))) c' (.ext (hW c' qual))) ?_ ?_ ?_ (Heap.get?_push_size _ rfl) rec' ?_ ?_
   . have up:∀b u,b≠P->H b=some u->aL (aL H P (.ext (cN P (ps ++ #[rawInt pos.line,rawInt pos.col,.ref c'])))) c' (.ext (hW c' qual)) b=some u:=fun b u hb e=>by
      have:b≠c':=fun z=>by rw[z,Hc]at e;cases e
      rw[am this,am hb];exact e
     have nPt:∀b u,H b=some u->(∀ φ,u ≠ .ext φ)->b≠P:=fun b u e ne z=>by
      rw[z,hP]at e;cases e;exact ne _ rfl
     refine I.step (g':=s.gens) (d':=s.drawn) (t':=tk) (ch:=[]) (fun b hb=>nomatch hb) (fun b o hL Fc Fc e n=>kp b o (fun z=>by rw[z,hP]at n;cases n) e) (fun b o hL Fc Fc e n=>⟨o.slots,kp b o (fun z=>by rw[z,hP]at n;cases n) e⟩)
      (fun b o Fc e n=>?_) (fun b o Fc e=>?_) (fun b xs e=>up b _ (nPt b _ e fun φ z=>by cases z) e) (fun b o u e=>up b _ (nPt b _ e fun φ z=>by cases z) e) (fun b ps e=>⟨#[],by rw[up b _ (nPt b _ e fun φ z=>by cases z) e];simp⟩) (fun m hm=>hm.at fun o e=>kp _ o (fun z=>nL P _ hP z.symm) e) (fun b u e=>?_) I.bare
     . rw[am (nc b o e),am (fun z=>by rw[z,hP]at n;cases n)];exact n
     . by_cases hb:b=P
       . subst hb;exact⟨_,ntb⟩
       . exact⟨o,kp b o hb e⟩
     . by_cases hb:b=c'
       . subst hb;rw[aa]at e;cases e;obtain⟨c2,oc,vs2,t2,e2,g2,d2⟩:=id rec';cases e2;refine⟨rec',⟨oc,g2⟩,fun h1 h2 x1 k2=>?_⟩;obtain⟨c3,oc3,vs3,t3,e3,g3,d3⟩:=x1;cases e3;exact⟨_,oc3,vs3,t3,rfl,k2 _ g3,d3⟩
       . by_cases hbP:b=P
         . subst hbP;rw[am hb,aa]at e;cases e;exact⟨ntb,⟨_,ntb⟩,fun h1 h2 x1 k2=>k2 _ x1⟩
         . rw[am hb,am hbP]at e;refine(I.hok b u e).stay (fun c v hc qc=>kp c v ?_ qc) (fun c qc=>up c _ (nPt c _ qc fun φ z=>by cases z) qc) fun c xs qc=>up c _ (nPt c _ qc fun φ z=>by cases z) qc;rcases hc with z|z
           . rw[z];exact hbP
           . exact nPt c _ z fun φ z=>by cases z
   . intro b o hb e;have:b≠c':=fun z=>by rw[z,Hc]at e;cases e
     rw[am this,am hb];exact e
   . refine⟨_,by rw[am (Ne.symm ncP),aa],?_,.inr ⟨c',?_,aa⟩⟩
     . rw[Array.toList_append];exact dq tr
     . rw[Array.toList_append];exact codeAmong_snoc _ tr hc
   . exact Nat.ne_of_gt (Nat.lt_trans (Nat.lt_of_lt_of_le lt hge) hlt)
   . exact Nat.ne_of_gt (Nat.lt_of_lt_of_le lt hge)
 . have cr:s.heap.CodeRec (.ref c') qual:=cG (I.hok c' _ hc');refine kla_makeFunctionHit (mg:=X.mg) hcl I.ok.glob hgs hcode (C.keeps I.bk) eP tr hc BA fun ctv h' tk hk hsz=>?_;refine h h'.objs.size c' _ ctv _ H (I.kept fun b o e=>Heap.get?_push_of_some _ (hk b o e)) (eX.refl P H) ⟨ps,hP,tr,.inr ⟨c',hc,hc'⟩⟩ (Heap.get?_push_size _ rfl) ((cr.keeps hk).push _) ?_ (nL c' _ hc');exact Nat.ne_of_gt (Nat.lt_of_lt_of_le I.lt hsz)
end
section
variable {X:Cx}{e:Expr}{te:TE}
def uk (P:Addr)(lpos:Pos)(qual:Str)(te:TE):TE:=fun σ H Q=>te σ H fun v H1=>∃(l:Addr) (ys:List V) (rs:List S4),v = .ref l/\H1 l=some (.lst ys)/\aI H1 ys (rs.map tv)/\rs.length < 64/\bo H1 P lpos qual /\
 ∀(D:Addr) (H2:Hp) (ys':List V) (rs':List S4),eX P H1 H2->bo H2 P lpos qual->H1 D=none->H2 D=some (.lst ys')->aI H2 ys' (rs'.map tv)->rs'.Perm rs->rs'.Pairwise (fun a b=>a.1<=b.1)->Q (.ref D) H2
theorem pQ {c P:Addr}{qual x G:Str}{params:Arguments}{scope:Scope}{tg:Tok}{p1 p2 p3 lpos kp sp1 pos:Pos}(hc:X.calm=true)(hr:bI 1 X.A)(hgs:Gl X "sorted")(hms:X.mg "sorted" = none)
 (hcode:X.env.code = .ref c) (C:CodeHd X.base c P) (B:d6 X.base X.mg) (hqual:X.env.qual++Str.ofString "<lambda>" = qual) (hdef:defaultsOf params X.env=([],[])) (hcl:closureFor scope X.env=pure [])
 (hbind:∀q pm c' ctv,bindArgs (kla_fn "<lambda>" qual params (.Subscript (.Name x p1) (.Name G p2) p3) scope [] pm (.ref c') ctv) ⟨[.ref q],[]⟩=pure [(x,.ref q)])
 (S:nP scope x) (hxk:∀L a cd,(envX qual scope L a cd []).kindOf x=some .local) (hGk:∀L a cd,(envX qual scope L a cd []).kindOf G=some .globalImplicit)
 (hdx:(x == ("__debug__":Str))=false) (hdG:(G == ("__debug__":Str))=false) (hg:X.mg G=some (.int 0 tg)) (he:PE X e te)
 (h1:starEach [e] X.env=[(false,eval e X.env)]:=by rfl) :
 PE X (.Call (.Name "sorted" sp1) [e] [⟨some "key",.Lambda params (.Subscript (.Name x p1) (.Name G p2) p3) scope lpos,kp⟩] pos) (uk P lpos qual te):=by
 intro pins s σ H Q I h;refine wpAny_Call_Name_kw (eA I hgs hms boot_sorted ?_);refine callWith_kw ?_ (by rw[h1];rfl) (by rw[h1];rfl);rw[h1];show wpAny (model X.prog X.w) _ (spliced ((false,eval e X.env) :: backTo pos (starEach [] X.env))) _ _ s;refine Calls.spliced_cons (bj (he pins s σ H _ I h) fun u s1 ⟨v,H1,I1,r1,l,ys,rs,ev,hl,ht,h64,tb,q⟩=>Calls.spliced_nil (kws_cons ?_));subst ev;cases r1;subst hqual;refine kla_eval hdef (ym I1 hcode C B tb hcl fun f c' pm ctv s2 H2 I2 sx tb2 hf hcd fL cL=>kws_nil ?_);have nlP:l≠P:=fun z=>by
  obtain⟨ps,hP,_⟩:=tb;rw[z,hP]at hl;cases hl
 have ht2:aI H2 ys (rs.map tv):=ht.keep fun q0 t0 e0=>sx q0 _ (fun z=>by
  obtain⟨ps,hP,_⟩:=tb;rw[z,hP]at e0;cases e0) e0
 refine lW I2 hr hf fL cL hcd (fun q0=>hbind q0 pm c' ctv) S hxk hGk hdx hdG hg (sx l _ nlP hl) ht2 h64 fun D ys' rs' t' p' w' hD=>?_;have nDP:∀b o,H2 b=some o->b≠D:=fun b o e0 z=>by rw[z,hD]at e0;cases e0
 have sD:aE H2 (aL H2 D (.lst ys')):=ah hD _;refine q D _ ys' rs' (sx.trans sD.sxP) ?_ ?_ aa (t'.mono sD) p' w'
 . obtain⟨ps,hP,tr,hcc⟩:=tb2;refine⟨ps,sD _ _ hP,tr,hcc.imp id fun⟨c2,a1,a2⟩=>⟨c2,a1,sD _ _ a2⟩⟩
 . cases eD:H1 D with
   | none=>rfl
   | some o =>
    by_cases z:D=P
    . obtain⟨ps,hP,_⟩:=tb2;rw[<- z,hD]at hP;cases hP
    . rw[sx D o z eD]at hD;cases hD
end
theorem r8 {P:Program}{w:World}{K:W.Frag}{mg mb:Str->Option Value}{CX:CXT}{k:Nat}{fa a:Addr}{fd:FuncData}{x:Str}{sp:Sp}{s₁:Shared}{vs:List Value}{ns:List Int}{tabs:List (Addr×Addr)}
 (KX:K.In s₁.heap) (hns:s₁.heap.Ns mainGlobals mg) (hb:s₁.heap.Ns builtinsNs mb) (hbb:∀x:Str,x ≠ "__name__"->mb x=bootBuiltins x) (hlim:s₁.heap.NoLimit) (hg:s₁.gens = #[])
 (ha:s₁.heap.get? a=some { cls:=.type "list",data:=.seq vs.toArray }) (hi:IntsAre vs ns) (hl:ns.length<=sizeLine) (hr:bI k callerA)
 (hbm:∃bm ob,mg "__builtins__" = some (.ref bm)/\bm≠builtinsNs/\s₁.heap.get? bm=some ob/\ob.cls = .type "module"/\ob.dict=some builtinsNs/\ob.data = .plain)
 (hT:TabsAt tabs s₁.heap) (hTK:∀t∈tabs,K.lookup t.2=none)
 (F:∀base:Heap,K.In base->base.Ns mainGlobals mg->(∀t∈tabs,CodeHd base t.1 t.2)->d6 base mg->aj P w K mg base CX k fa fd [x] sp) (hbind:∀(s:Shared) (u:Value),BindsTo s fd ⟨[u],[]⟩ [(x,u)])
 (hsp:∀H:Hp,bh K H a (ns.map V.int)->(∀t∈tabs,H t.2=some (.ext (cN t.2 #[])))->sp [.ref a] H (fun v H'=>v = .bl true/\∀t∈tabs,∃ps,H' t.2=some (.ext (cN t.2 ps))) fun Fc Fc Fc=>False)
 (hCX:∀H e s',CX [] H s₁ (fun Fc Fc Fc=>False) e s'->False) :
 codeAny (model P w) callerA (.call (.ref fa) ⟨[.ref a],[]⟩) (fun r s'=>r = .ok (.ret (.bool true))/\OldK s₁.heap s'.heap/\s'.os=s₁.os/\AllBare s'.gens) s₁:=by
 have rv:=km hi;have lenV:=hi.length;have aT:∀t∈tabs,t.2≠a:=fun t ht z=>by
  have:=(hT t ht).2;rw[z,ha]at this;cases this
 have core:∀H:Hp,bh K H a (ns.map V.int)->eh P w H s₁.heap->(∀b,H b=none\/(b=a/\∃xs,H b=some (.frz { cls:=.type "list",data:=.seq vs.toArray } (.lst xs)))\/(∃t∈tabs,b=t.2/\H b=some (.ext (cN b #[]))))->(∀t∈tabs,H t.2=some (.ext (cN t.2 #[])))->(H a≠none->K.lookup a=none) ->
  codeAny (model P w) callerA (.call (.ref fa) ⟨[.ref a],[]⟩) (fun r s'=>r = .ok (.ret (.bool true))/\OldK s₁.heap s'.heap/\s'.os=s₁.os/\AllBare s'.gens) s₁:=by
  intro H hS hok hA hTH hK;have base_of:∀{b:Addr} {o:Obj},s₁.heap.get? b=some o->H b=none->(i6 s₁.heap H).get? b=some o:=fun e n=>sV e n;have noA:∀{b:Addr} {o:Obj},s₁.heap.get? b=some o->o ≠ { cls:=.type "list",data:=.seq vs.toArray }->o≠tabObj #[]->H b=none:=fun {b o} e n1 n2=>by
   rcases hA b with z|⟨z,_⟩|⟨t,ht,z,_⟩
   . exact z
   . rw[z,ha]at e;exact absurd (Option.some.inj e).symm n1
   . rw[z,(hT t ht).2]at e;exact absurd (Option.some.inj e).symm n2
  have nsK:∀{b:Addr} {m:Str->Option Value},s₁.heap.Ns b m->(i6 s₁.heap H).Ns b m:=fun {b m} ⟨o,es,ep,e,d,r⟩=>⟨o,es,ep,base_of e (noA e (fun z=>by rw[z]at d;cases d) (fun z=>by rw[z]at d;cases d)),d,r⟩;have hKb:K.In (i6 s₁.heap H):=fun b o e=>base_of (KX b o e) (by
   rcases hA b with z|⟨z,xs,e2⟩|⟨t,ht,z,_⟩
   . exact z
   . subst z;rw[hK (by rw[e2];simp)]at e;cases e
   . rw[z,hTK t ht]at e;cases e)
  have hM:Cf K mg (i6 s₁.heap H):=⟨hKb,nsK hns,⟨mb,nsK hb,hbb⟩,let ⟨mc,h1,h2⟩:=hlim;⟨mc,nsK h1,h2⟩⟩;have hC:∀t∈tabs,CodeHd (i6 s₁.heap H) t.1 t.2:=fun t ht=>by
   obtain⟨o,vs2,file,tf,flags,tg,inF,text,tt,e,c1,r⟩:=(hT t ht).1;exact⟨o,vs2,file,tf,flags,tg,inF,text,tt,base_of e (noA e (fun z=>by rw[z]at c1;injection c1 with c1;exact absurd c1 (by decide)) (fun z=>by rw[z]at c1;cases c1)),c1,r⟩
  have hBl:d6 (i6 s₁.heap H) mg:=by
   obtain⟨bm,ob,b1,b2,b3,b4,b5,b6⟩:=hbm;refine⟨bm,ob,b1,b2,fun z=>?_,base_of b3 (noA b3 (fun z=>by rw[z]at b6;cases b6) (fun z=>by rw[z]at b6;cases b6)),b4,b5,b6⟩;obtain⟨o,es,ep,e,d,r⟩:=hns;rw[z,e]at b3;cases b3;rw[d]at b6;cases b6
  have e0:lB P w K mg (i6 s₁.heap H) callerA [] s₁ H:=⟨rfl,hM,fun b o e=>vA e,Nat.le_of_eq (qX _ _),trivial,fun b hb=>absurd (show b∈([]:List Addr)from hb) (by simp),hok,.of_eq hg⟩;refine codeAny_mono ((F _ hKb (nsK hns) hC hBl).run callerA [] s₁ H ⟨[.ref a],[]⟩ [.ref a] [.ref a] _ _ hr e0 (hbind s₁ (.ref a)) (.cons rfl .nil) (hsp H hS hTH)) fun r s' h=>?_;cases r with
  | error e=>exact(hCX H e s' h).elim
  | ok fl =>
   cases fl with
   | next=>exact False.elim h
   | brk=>exact False.elim h
   | cont=>exact False.elim h
   | ret u =>
    obtain⟨v,H',os,bare,un,hok',r',q⟩:=h;have q':v = .bl true/\∀t∈tabs,∃ps,H' t.2=some (.ext (cN t.2 ps)):=q;obtain⟨rfl,q'⟩:=q';obtain rfl:u=Value.bool true:=r';refine⟨rfl,⟨fun b o e=>?_,fun b o e=>un.there b o e (by simp)⟩,os,bare⟩;rcases hA b with z|⟨z,xs,e2⟩|⟨t,ht,z,_⟩
    . exact .inl (un.keep b o e z (by intro y;exact absurd (show b∈([]:List Addr)from y) (by simp)) (by simp))
    . have z2:=un.frzs b _ _ e2;obtain⟨e1,_⟩:=hok b _ e2;obtain⟨e3,_⟩:=hok' b _ z2;rw[e]at e1;cases e1;exact .inl e3
    . subst z;obtain⟨ps,hp⟩:=q' t ht;have e3:s'.heap.get? t.2=some (tabObj ps):=cG (hok' _ _ hp);have e4:=(hT t ht).2;rw[e]at e4;cases e4;obtain⟨o,vs2,file,tf,flags,tg,inF,text,tt,e5,c1,d1,v1,_⟩:=(hT t ht).1;refine .inr (.inl ⟨⟨t.1,o,vs2,e5,c1,d1,v1⟩,rfl,#[],ps,rfl,?_⟩);rw[e3];simp
 have tabO:∀t∈tabs,∀H:Hp,bA P w H s₁.heap t.2 (.ext (cN t.2 #[])):=fun t ht H=>⟨(hT t ht).2,⟨_,(hT t ht).2⟩,fun h1 h2 x1 k2=>k2 _ x1⟩;cases hk:K.lookup a with
 | some o =>
  have e:=KX a o hk;rw[ha]at e;cases e;refine core (fun b=>if b∈tabs.map (·.2)then some (.ext (cN b #[]))else none) (.inr ⟨_,vs.toArray,_,hk,rfl,rfl,rfl,by rw[List.size_toArray,lenV];exact hl,by simpa using rv⟩) (fun b u z=>?_) (fun b=>?_) (fun t ht=>if_pos (List.mem_map_of_mem ht)) (fun z=>absurd (if_neg fun m=>?_) z)
  . by_cases hm:b∈tabs.map (·.2)
    . have z':=(if_pos hm).symm.trans z;cases z';obtain⟨t,ht,rfl⟩:=List.mem_map.mp hm;exact tabO t ht _
    . have z':=(if_neg hm).symm.trans z;cases z'
  . by_cases hm:b∈tabs.map (·.2)
    . obtain⟨t,ht,rfl⟩:=List.mem_map.mp hm;exact .inr (.inr ⟨t,ht,rfl,if_pos hm⟩)
    . exact .inl (if_neg hm)
  . obtain⟨t,ht,z⟩:=List.mem_map.mp m;exact aT t ht z
 | none =>
  refine core (fun b=>if b=a then some (.frz { cls:=.type "list",data:=.seq vs.toArray } (.lst (ns.map V.int)))else if b∈tabs.map (·.2)then some (.ext (cN b #[]))else none) (.inl (.inr ⟨{ cls:=.type "list",data:=.seq vs.toArray },if_pos rfl⟩)) (fun b u z=>?_) (fun b=>?_) (fun t ht=>?_) fun Fc=>hk
  . by_cases hb:b=a
    . have z':=(if_pos hb).symm.trans z;cases z';subst hb;exact⟨ha,by rw[List.length_map];exact hl,vs,_,rv,ha⟩
    . have z':=(if_neg hb).symm.trans z;by_cases hm:b∈tabs.map (·.2)
      . have z2:=(if_pos hm).symm.trans z';cases z2;obtain⟨t,ht,rfl⟩:=List.mem_map.mp hm;exact tabO t ht _
      . have z2:=(if_neg hm).symm.trans z';cases z2
  . by_cases hb:b=a
    . exact .inr (.inl ⟨hb,_,if_pos hb⟩)
    . by_cases hm:b∈tabs.map (·.2)
      . obtain⟨t,ht,rfl⟩:=List.mem_map.mp hm;exact .inr (.inr ⟨t,ht,rfl,(if_neg hb).trans (if_pos hm)⟩)
      . exact .inl ((if_neg hb).trans (if_neg hm))
  . exact(if_neg (aT t ht)).trans (if_pos (List.mem_map_of_mem ht))
theorem um {l:W.OpenLaw}{n k:Nat}{q:Program}{loose:List Str}{XP:(Str->Option Value)->Heap->Prop}{YP:World->Heap->Prop}{d:DefRec}{K:Params->W.Frag}{CX:World->CXT}{sp:World->Sp}{x:Str}{tabs:List (Addr×Addr)}
 (hn:l.most=some n) (hn2:n<=sizeLine) (hdf:d.params.defaults=[]) (hr:bI k callerA)
 (hY:∀(w:World) (h:Heap),YP w h->(K w.params).In h/\TabsAt tabs h) (hTK:∀(w:World),∀t∈tabs,(K w.params).lookup t.2=none)
 (F:∀(w:World) (mg:Str->Option Value) (fa:Addr) (h:Heap),(K w.params).In h->h.Ns mainGlobals mg->mg d.name=some (.ref fa) ->
  ∃fd:FuncData,(∀(s:Shared) (u:Value),BindsTo s fd ⟨[u],[]⟩ [(x,u)]) /\
   ∀base:Heap,(K w.params).In base->base.Ns mainGlobals mg->(∀t∈tabs,CodeHd base t.1 t.2)->d6 base mg->aj l.prog w (K w.params) mg base (CX w) k fa fd [x] (sp w))
 (hsp:∀(w:World) (H:Hp) (a:Addr) (ns:List Int),ns.length<=n->bh (K w.params) H a (ns.map V.int)->(∀t∈tabs,H t.2=some (.ext (cN t.2 #[])))->sp w [.ref a] H (fun v H'=>v = .bl true/\∀t∈tabs,∃ps,H' t.2=some (.ext (cN t.2 ps))) fun Fc Fc Fc=>False)
 (hCX:∀(w:World) (H:Hp) (s:Shared) (e:Value) (s':Shared),CX w [] H s (fun Fc Fc Fc=>False) e s'->False) :
 W.WalkO q loose XP YP l.row.toRowW d [] (fun f vs=>PySem.call f vs):=by
 refine Att.mW hn hdf fun w s₀ s₁ mg mb fa o pm cd doc a vs ns G Y ho hd hcd hmg hobj hints hlen hg=>?_;have KX:=(hY w _ Y).1;obtain⟨fd,hb,hF⟩:=F w mg fa _ KX G.T.g hmg;exact r8 KX G.T.g G.T.b G.T.builtins G.T.nolimit hg hobj hints (Nat.le_trans hlen hn2) hr G.T.bmain (hY w _ Y).2 (hTK w) hF hb (fun H hS hT=>hsp w H a ns hlen hS hT) fun H e s'=>hCX w H s₁ e s'
def eY (a:Addr)(o:Obj):Heap->Prop:=fun h=>h.get? a=some o
def xl (H:Hp)(c:Addr):Hp:=fun b=>if b=c then none else H b
theorem dO {H:Hp}{c b:Addr}(h:b≠c):xl H c b=H b:=if_neg h
theorem nQ {H:Hp}{c:Addr}:xl H c c=none:=if_pos rfl
theorem nU {H H':Hp}{c:Addr}{o:HO}(h:H c=none)(s:aE (aL H c o) H'):aE H (xl H' c):=fun b u e=>by
 have z:b≠c:=fun z=>by rw[z,h]at e;cases e
 rw[dO z];exact s b u (by rw[am z];exact e)
section
variable {X:Cx}{pins:List (Addr×Obj)}{σ:St}{H:Hp}{s:Shared}{y:Str}{c:Addr}{oc:Obj}
theorem aG.cellApart (I:aG X pins σ H s)(hfn:X.fn y=true)(hcl:X.env.cells.lookup y=some c):X.base.get? c=none/\c ∉ mH X.stack:=by
 have ge:=I.ok.cab y c hfn hcl;refine⟨Heap.get?_none_of_le (Nat.le_trans I.ok.bsz ge),fun z=>?_⟩;rcases List.mem_cons.mp (I.stkSub c z)with z|z
 . obtain⟨m,⟨o,es,ep,ho,hd,_⟩,_⟩:=I.loc;obtain⟨v,o2,ho2,hd2⟩:=I.cell y c hcl;rw[z,ho]at ho2;cases ho2;rw[hd]at hd2;cases hd2
 . obtain⟨_,o,ho,_⟩:=I.ok.funs.mem z;exact absurd (Heap.lt_size ho) (Nat.not_lt.mpr ge)
theorem eh.extra {P:Program}{w:World}{h:Heap}(k:eh P w H h)(hn:H c=none)(ec:h.get? c=some oc):eh P w (aL H c (.ext (eY c oc))) h:=fun b u e=>by
 by_cases z:b=c
 . subst z;rw[aa]at e;cases e;exact⟨ec,⟨_,ec⟩,fun h1 h2 x1 k2=>k2 _ x1⟩
 . rw[am z]at e;exact(k b u e).stay (fun Fc Fc Fc q=>q) (fun b2 e2=>by rw[am (fun z2=>by rw[z2,hn]at e2;cases e2)];exact e2) fun b2 xs e2=>by rw[am (fun z2=>by rw[z2,hn]at e2;cases e2)];exact e2
theorem eh.del {P:Program}{w:World}{h:Heap}{φ:Heap->Prop}(k:eh P w H h)(hc:H c=some (.ext φ)):eh P w (xl H c) h:=fun b u e=>by
 have z:b≠c:=fun z=>by rw[z,nQ]at e;cases e
 rw[dO z]at e;exact(k b u e).stay (fun Fc Fc Fc q=>q) (fun b2 e2=>by rw[dO (fun z2=>by rw[z2,hc]at e2;cases e2)];exact e2) fun b2 xs e2=>by rw[dO (fun z2=>by rw[z2,hc]at e2;cases e2)];exact e2
theorem vY {k:Nat}{f:Addr}{fd:FuncData}{ps:List Str}{sp:Sp}{dvs:List V}{ds:List Value}{Q:VK}{us:List Value}{vs:List V}{cc:Bool}(F:aj X.prog X.w X.K X.mg X.base ay k f fd ps sp cc)(hr:bI k X.A cc)(hb:bE X.K fd ps ds)(hd:aN dvs ds)
 (I:aG X pins σ H s) (r:aN vs us) (hfn:X.fn y=true) (hcl:X.env.cells.lookup y=some c) (ec:s.heap.get? c=some oc)
 (h:sp (vs++dvs) (aL H c (.ext (eY c oc))) (fun v H'=>H' c=some (.ext (eY c oc))/\Q v (L2.xl H' c)) E0):wpAny (model X.prog X.w) X.A (call (.ref f) us) (EP X pins σ Q) X.xe s:=by
 have r2:aN (vs++dvs) (us++ds):=r.append hd;have hl:(us++ds).length=ps.length:=by rw[<- r2.length];exact F.len _ _ _ _ h
 have hn:=I.freeC y c hcl;obtain⟨nb,nf⟩:=I.cellApart hfn hcl;have e0:lB X.prog X.w X.K X.mg X.base X.A X.stack s (aL H c (.ext (eY c oc))):=⟨I.ok.frames,I.ok.mod,fun b o e=>⟨(I.bs b o e).1,by rw[am (fun z=>by rw[z,nb]at e;cases e)];exact(I.bs b o e).2⟩,Nat.le_trans I.ok.bsz I.sz,I.stack,
  fun b hb=>by
   have z:b≠c:=fun z=>nf (by rw[<- z];exact hb);rw[am z];exact I.stkFree b hb,I.hok.extra hn ec,I.bare⟩
 refine wpAny_call (codeAny_mono (F.run X.A X.stack s _ ⟨us,[]⟩ (us++ds) (vs++dvs) _ E0 hr e0 (hb s us I.kIn hl) r2 h) fun r s' hq=>?_);cases r with
 | error e=>exact False.elim hq
 | ok fl =>
  cases fl with
  | ret u =>
   obtain⟨v,H',os,bare,un,hok,rv,hc',q⟩:=hq;have ec':s'.heap.get? c=some oc:=cG (hok c _ hc');have nc:∀b u,H b=some u->b≠c:=fun b u e z=>by rw[z,hn]at e;cases e
   refine I.after ⟨v,L2.xl H' c,os,bare,⟨fun b o e n hb hx=>?_,fun b o e n hb hx=>?_,fun b o e n hx=>?_,un.there,fun b xs e=>?_,fun b o u e=>?_,fun b ps e=>?_⟩,hok.del hc',rv,q⟩
   . by_cases z:b=c
     . subst z;rw[ec]at e;cases e;exact ec'
     . exact un.keep b o e (by rw[am z];exact n) hb hx
   . have z:b≠c:=fun z=>nf (by rw[<- z];exact hb);exact un.slot b o e (by rw[am z];exact n) hb hx
   . by_cases z:b=c
     . rw[z,nQ]
     . rw[dO z];exact un.free b o e (by rw[am z];exact n) hx
   . rw[dO (nc b _ e)];exact un.tups b xs (by rw[am (nc b _ e)];exact e)
   . rw[dO (nc b _ e)];exact un.frzs b o u (by rw[am (nc b _ e)];exact e)
   . rw[dO (nc b _ e)];exact un.tbls b ps (by rw[am (nc b _ e)];exact e)
  | next=>exact False.elim hq
  | brk=>exact False.elim hq
  | cont=>exact False.elim hq
theorem gK {pos pos2:Pos}{c:Value}(hne:¬ (pos.line=pos2.line/\pos.col=pos2.col))(l:List Value)(h:TriplesOk l):codeAmong pos2 (l++[rawInt pos.line,rawInt pos.col,c])=codeAmong pos2 l:=by
 fun_induction TriplesOk l with
 | case1 =>
  simp only[List.nil_append,codeAmong,rawInt];rw[if_neg];intro z;simp only[Bool.and_eq_true,beq_iff_eq]at z;apply hne;omega
 | case2 a t b u x rest ih =>
  simp only[List.cons_append,codeAmong];rw[ih h]
 | case3=>exact h.elim
theorem uo:∀{l:List Value} {q:Str} {t:Tok},TriplesOk l->¬ l[1]? = some (.str q t)
 | [],_,_,_=>by simp
 | .int _ _ :: .int _ _ :: _ :: _,_,_,_=>by simp
theorem vZ {cd P:Addr}{qual:Str}{params:Arguments}{body:Expr}{scope:Scope}{pos:Pos}{clos:List (Str×Addr)}{Q:Value->Shared->Prop}(I:aG X pins σ H s)(hcode:X.env.code = .ref cd)(C:CodeHd X.base cd P)(B:d6 X.base X.mg)(t:bo H P pos qual)
 (hcl:closureFor scope X.env=pure clos)
 (h:∀f c' pm ctv s' H',aG X pins σ H' s'->eX P H H'->bo H' P pos qual->(∀pos2 q2,¬ (pos.line=pos2.line/\pos.col=pos2.col)->bo H P pos2 q2->bo H' P pos2 q2)->H f=none->H' f=some (.ext (eY f (kla_obj "<lambda>" qual params body scope clos pm c' ctv)))->H' c'=some (.ext (hW c' qual))->Q (.ref f) s') :
 wpAny (model X.prog X.w) X.A (makeFunction "<lambda>" qual params (.expr body) scope X.env [] [] [] pos pos.line) Q X.xe s:=by
 obtain⟨ps,hP,tr,hc⟩:=t;have eP:s.heap.get? P=some (tabObj ps):=cG (I.hok P _ hP);have nB:∀b o,X.base.get? b=some o->b≠P:=fun b o e z=>by
  have:=(I.bs b o e).2;rw[z,hP]at this;cases this
 have hgs:=I.mod.glob.keeps I.bk;have gP:mainGlobals≠P:=by
  obtain⟨o,_,_,e,_⟩:=I.mod.glob;exact nB _ o e
 have BA:s.heap.BuiltinsAt X.mg P:=by
  obtain⟨bm,o,b1,b2,b3,b4,b5,b6,b7⟩:=B.ex;exact⟨bm,o,b1,b2,b3,nB bm o b4,I.bk _ _ b4,b5,b6,b7⟩
 have nL:∀b u,H b=some u->b≠X.env.locals:=fun b u e z=>by
  have:=I.free;rw[<- z,e]at this;cases this
 have lay:∀(h':Heap) (tk:Tok) (H1:Hp) (pm:Value) (c':Addr) (ctv:Value),aG X pins σ H1 { s with heap:=h',toks:=tk } ->
  aG X pins σ (aL H1 h'.objs.size (.ext (eY h'.objs.size (kla_obj "<lambda>" qual params body scope clos pm c' ctv)))) { s with heap:=h'.push (kla_obj "<lambda>" qual params body scope clos pm c' ctv),toks:=tk }:=fun h' tk H1 pm c' ctv I1=>
  I1.laid (a:=h'.objs.size) (t':=tk) (fun b o e=>Heap.get?_push_of_some _ e) (Nat.le_refl _) ⟨Heap.get?_push_size _ rfl,⟨_,Heap.get?_push_size _ rfl⟩,fun h1 h2 x1 k2=>k2 _ x1⟩
 rcases hc with hc|⟨c',hc,hc'⟩
 . refine kla_makeFunction (mg:=X.mg) hcl I.ok.glob hgs hcode (C.keeps I.bk) eP tr hc gP BA fun c' ctv h' tk hx hge hlt hrec htb=>?_;have nc:∀b o,s.heap.get? b=some o->b≠c':=fun b o e z=>absurd (Nat.lt_of_lt_of_le (Heap.lt_size e) (z ▸ hge)) (Nat.lt_irrefl _);have Hc:H c'=none:=I.hok.fresh hge;have ncP:c'≠P:=fun z=>nc P _ eP z.symm;have lt:=I.lt;have up:∀b u,b≠P->H b=some u->aL (aL H P (.ext (cN P (ps ++ #[rawInt pos.line,rawInt pos.col,.ref c'])))) c' (.ext (hW c' qual)) b=some u:=fun b u hb e=>by
    have:b≠c':=fun z=>by rw[z,Hc]at e;cases e
    rw[am this,am hb];exact e
   have nPt:∀b u,H b=some u->(∀ φ,u ≠ .ext φ)->b≠P:=fun b u e ne z=>by
    rw[z,hP]at e;cases e;exact ne _ rfl
   have I1:aG X pins σ (aL (aL H P (.ext (cN P (ps ++ #[rawInt pos.line,rawInt pos.col,.ref c'])))) c' (.ext (hW c' qual))) { s with heap:=h',toks:=tk }:=by
    refine I.step (g':=s.gens) (d':=s.drawn) (t':=tk) (ch:=[]) (fun b hb=>nomatch hb) (fun b o hL Fc Fc e n=>hx b o (fun z=>by rw[z,hP]at n;cases n) e) (fun b o hL Fc Fc e n=>⟨o.slots,hx b o (fun z=>by rw[z,hP]at n;cases n) e⟩)
     (fun b o Fc e n=>?_) (fun b o Fc e=>?_) (fun b xs e=>up b _ (nPt b _ e fun φ z=>by cases z) e) (fun b o u e=>up b _ (nPt b _ e fun φ z=>by cases z) e) (fun b ps e=>⟨#[],by rw[up b _ (nPt b _ e fun φ z=>by cases z) e];simp⟩) (fun m hm=>hm.at fun o e=>hx _ o (fun z=>nL P _ hP z.symm) e) (fun b u e=>?_) I.bare
    . rw[am (nc b o e),am (fun z=>by rw[z,hP]at n;cases n)];exact n
    . by_cases hb:b=P
      . subst hb;exact⟨_,htb⟩
      . exact⟨o,hx b o hb e⟩
    . by_cases hb:b=c'
      . subst hb;rw[aa]at e;cases e;obtain⟨c2,oc,vs2,t2,e2,g2,d2⟩:=id hrec;cases e2;refine⟨hrec,⟨oc,g2⟩,fun h1 h2 x1 k2=>?_⟩;obtain⟨c3,oc3,vs3,t3,e3,g3,d3⟩:=x1;cases e3;exact⟨_,oc3,vs3,t3,rfl,k2 _ g3,d3⟩
      . by_cases hbP:b=P
        . subst hbP;rw[am hb,aa]at e;cases e;exact⟨htb,⟨_,htb⟩,fun h1 h2 x1 k2=>k2 _ x1⟩
        . rw[am hb,am hbP]at e;refine(I.hok b u e).stay (fun c v hc qc=>hx c v ?_ qc) (fun c qc=>up c _ (nPt c _ qc fun φ z=>by cases z) qc) fun c xs qc=>up c _ (nPt c _ qc fun φ z=>by cases z) qc;rcases hc with z|z
          . rw[z];exact hbP
          . exact nPt c _ z fun φ z=>by cases z
   have fne:∀b,b < h'.objs.size->b≠h'.objs.size:=fun b hb=>Nat.ne_of_lt hb;have Plt:P < h'.objs.size:=Heap.lt_size htb;refine h h'.objs.size c' _ ctv _ _ (lay h' tk _ _ c' ctv I1) (fun b o hb e=>?_) ?_ (fun pos2 q2 hne ⟨ps2,hP2,tr2,hc2⟩=>?_) ?_ aa ?_
   . have lb:=I.hok.lt e;rw[am (Nat.ne_of_lt (Nat.lt_of_lt_of_le lb (Nat.le_trans hge (Nat.le_of_lt hlt))))];exact up b o hb e
   . refine⟨_,by rw[am (fne _ Plt),am (Ne.symm ncP),aa],?_,.inr ⟨c',?_,by rw[am (fne _ hlt),aa]⟩⟩
     . rw[Array.toList_append];exact dq tr
     . rw[Array.toList_append];exact codeAmong_snoc _ tr hc
   . have eP2:s.heap.get? P=some (tabObj ps2):=cG (I.hok P _ hP2);obtain rfl:ps2=ps:=by
      rw[eP]at eP2;injection eP2 with z;injection z with _ _ z;injection z with z;exact z.symm
     refine⟨_,by rw[am (fne _ Plt),am (Ne.symm ncP),aa],?_,?_⟩
     . rw[Array.toList_append];exact dq tr
     . rw[Array.toList_append];have e2:=gK (c:=.ref c') hne ps2.toList tr;rcases hc2 with z|⟨c2,z1,z2⟩
       . exact .inl (e2.trans z)
       . refine .inr ⟨c2,e2.trans z1,?_⟩;have lb:=I.hok.lt z2;have n1:c2≠h'.objs.size:=Nat.ne_of_lt (Nat.lt_of_lt_of_le lb (Nat.le_trans hge (Nat.le_of_lt hlt)));have n2:c2≠c':=Nat.ne_of_lt (Nat.lt_of_lt_of_le lb hge);by_cases z3:c2=P
         . exfalso;obtain⟨_,oc,vs2,t2,e3,g2,d2⟩:=id (cG (I.hok c2 _ z2):s.heap.CodeRec (.ref c2) q2);cases e3;rw[z3,eP]at g2;cases g2;obtain⟨d2,d3⟩:=d2;have d4:Data.fields ps2=Data.fields vs2:=d2;injection d4 with d4;subst d4;exact uo tr (by rw[Array.getElem?_toList];exact d3)
         . rw[am n1];exact up c2 _ z3 z2
   . exact I.hok.fresh (Nat.le_trans hge (Nat.le_of_lt hlt))
   . rw[am (fne _ hlt),aa]
 . refine kla_makeFunctionHit (mg:=X.mg) hcl I.ok.glob hgs hcode (C.keeps I.bk) eP tr hc BA fun ctv h' tk hk hsz=>?_;have I1:aG X pins σ H { s with heap:=h',toks:=tk }:=I.kept hk;have ne:∀b u,H b=some u->b≠h'.objs.size:=fun b u e=>Nat.ne_of_lt (Nat.lt_of_lt_of_le (I.hok.lt e) hsz);refine h h'.objs.size c' _ ctv _ _ (lay h' tk _ _ c' ctv I1) (fun b o hb e=>by rw[am (ne b o e)];exact e) ⟨ps,by rw[am (ne _ _ hP)];exact hP,tr,.inr ⟨c',hc,by rw[am (ne _ _ hc')];exact hc'⟩⟩ (fun pos2 q2 _ ⟨ps2,hP2,tr2,hc2⟩=>⟨ps2,by rw[am (ne _ _ hP2)];exact hP2,tr2,hc2.imp id fun⟨c2,a1,a2⟩=>⟨c2,a1,by rw[am (ne _ _ a2)];exact a2⟩⟩) (I.hok.fresh hsz) aa (by rw[am (ne _ _ hc')];exact hc')
end
section
variable {X:Cx}{y:Str}{c:Addr}
def yn (sp:Sp)(i:Nat)(c:Addr)(t:TA):TE:=fun σ H Q=>t σ H fun vs H1=>∃d,σ[i]? = some (some (.ref d))/\∀oc:Obj,H1 c=none->oc.data = .cell (some (.ref d)) ->
 sp vs (aL H1 c (.ext (eY c oc))) (fun v H'=>H' c=some (.ext (eY c oc))/\Q v (xl H' c)) E0
theorem nV {k i:Nat}{f:Addr}{fd:FuncData}{ps:List Str}{sp:Sp}{x:Str}{p pos:Pos}{e:Expr}{es:List Expr}{t:TA}{cc:Bool}(F:aj X.prog X.w X.K X.mg X.base ay k f fd ps sp cc)(hr:bI k X.A cc)(hg:Gl X x)(hm:X.mg x=some (.ref f))(hk:W.keepIn X.K (.ref f)=true)(hb:bE X.K fd ps [])
 (ha:PA X (e :: es) t) (hfn:X.fn y=true) (hcl:X.env.cells.lookup y=some c) (hN:X.N[i]? = some y) (hkd:X.env.kindOf y=some .cell) (hv:Aa X.env.scope y)
 (hdb:(x == ("__debug__":Str))=false:=by decide) (he:starEach (e :: es) X.env=(false,eval e X.env) :: starEach es X.env:=by rfl) (hpl:(backTo pos (starEach es X.env)).any (·.1)=false:=by rfl) :
 PE X (.Call (.Name x p) (e :: es) [] pos) (yn sp i c t):=by
 intro pins s σ H Q I h;refine wpAny_Call_Name_kw (iM I hg hm ?_ hdb);refine W.callWith_K (h₀:=X.base) I.ok.mod.kin hk (bj (ha pos pins s σ H _ I h) fun us s1 ⟨vs,H1,I1,r,d,hd,q⟩=>⟨I1.kIn,?_⟩) he hpl;obtain⟨m,hn,hl⟩:=I1.loc;obtain⟨u,ru,l⟩:=hl i y _ hN hd hv;cases ru;rcases l with⟨z,_⟩|⟨_,c2,hc2,oc,ec,dc⟩
 . rw[hkd]at z;cases z
 . rw[hcl]at hc2;cases hc2;refine vY (dvs:=[]) (ds:=[]) F hr hb .nil I1 r hfn hcl ec ?_;rw[List.append_nil];exact q oc (I1.freeC y c hcl) dc
end
section
variable {X:Cx}{pins:List (Addr×Obj)}{σ:St}{H:Hp}{s:Shared}{E:Value->Shared->Prop}
abbrev Fs:=List (Env×Addr×Obj)
structure lX (X:Cx)(pins:List (Addr×Obj))(es:Fs):Prop where
 kd:∀t∈es,t.1.scope.kind ≠ .module
 fr:∀t∈es,t.1.frame=some t.2.1
 ge:∀t∈es,X.s₀.heap.objs.size<=t.2.1
 lo:∀t∈es,t.2.1≠X.env.locals
 cl:∀t∈es,∀x c,X.env.cells.lookup x=some c->c≠t.2.1
 pn:∀t∈es,∀p∈X.pn++pins,p.1≠t.2.1
 nf:∀t∈es,∀vs,t.2.2.data ≠ .fields vs
theorem lX.more {X:Cx}{pins:List (Addr×Obj)}{es:Fs}{env:Env}{L:Addr}{oL:Obj}(h:lX X pins es)(kd:env.scope.kind ≠ .module)(fr:env.frame=some L)(ge:X.s₀.heap.objs.size<=L)(lo:L≠X.env.locals)(cl:∀x c,X.env.cells.lookup x=some c->c≠L)
 (pn:∀p∈X.pn++pins,p.1≠L) (nf:∀vs,oL.data ≠ .fields vs):lX X pins ((env,L,oL) :: es) :=
 ⟨fun t ht=>(List.mem_cons.mp ht).elim (fun e=>e ▸ kd) (h.kd t),fun t ht=>(List.mem_cons.mp ht).elim (fun e=>e ▸ fr) (h.fr t),fun t ht=>(List.mem_cons.mp ht).elim (fun e=>e ▸ ge) (h.ge t),fun t ht=>(List.mem_cons.mp ht).elim (fun e=>e ▸ lo) (h.lo t),
  fun t ht=>(List.mem_cons.mp ht).elim (fun e=>e ▸ cl) (h.cl t),fun t ht=>(List.mem_cons.mp ht).elim (fun e=>e ▸ pn) (h.pn t),fun t ht=>(List.mem_cons.mp ht).elim (fun e=>e ▸ nf) (h.nf t)⟩
theorem lX.nil {X:Cx}{pins:List (Addr×Obj)}:lX X pins []:=by constructor <;> intro t ht <;> cases ht
theorem lY (X:Cx):∀(es:Fs),(∀t∈es,t.1.frame=some t.2.1)->∀b,b∈mH (es.map (·.1)++X.stack)↔b∈es.map (·.2.1)\/b∈mH X.stack
 | [],_,b=>by simp
 | t :: r,h,b=>by
  have ih:=lY X r (fun u hu=>h u (List.mem_cons_of_mem _ hu)) b;unfold mH at ih ⊢;rw[List.map_cons,List.cons_append,List.filterMap_cons,h t List.mem_cons_self,List.map_cons];show b∈t.2.1 :: _↔_;rw[List.mem_cons,List.mem_cons,ih,or_assoc]
theorem uq {X:Cx}{pins:List (Addr×Obj)}{σ:St}{H:Hp}{s:Shared}(I:aG X pins σ H s):∀(es:Fs),lX X [] es->(∀t∈es,s.heap.get? t.2.1=some t.2.2)->s.heap.FunFrames X.base (es.map (·.1)++X.stack)
 | [],_,_=>I.stack
 | t :: r,h,g=>⟨h.kd t List.mem_cons_self,⟨t.2.1,t.2.2,h.fr t List.mem_cons_self,Heap.get?_none_of_le (Nat.le_trans I.ok.bsz (h.ge t List.mem_cons_self)),g t List.mem_cons_self,h.nf t List.mem_cons_self⟩,
  uq I r ⟨fun u hu=>h.kd u (List.mem_cons_of_mem _ hu),fun u hu=>h.fr u (List.mem_cons_of_mem _ hu),fun u hu=>h.ge u (List.mem_cons_of_mem _ hu),fun u hu=>h.lo u (List.mem_cons_of_mem _ hu),fun u hu=>h.cl u (List.mem_cons_of_mem _ hu),fun u hu=>h.pn u (List.mem_cons_of_mem _ hu),fun u hu=>h.nf u (List.mem_cons_of_mem _ hu)⟩ fun u hu=>g u (List.mem_cons_of_mem _ hu)⟩
theorem sd {k:Nat}{f:Addr}{fd:FuncData}{ps:List Str}{sp:Sp}{cc:Bool}{Q:VK}{us:List Value}{vs:List V}(F:aj X.prog X.w X.K X.mg X.base ay k f fd ps sp cc)(hb:bE X.K fd ps []){es:Fs}{A:Around}(hA:A.frames=some (es.map (·.1)++X.stack))
 (I:aG X (pins++es.map (·.2)) σ H s) (fo:lX X pins es) (hr:bI k A cc) (r:aN vs us) (h:sp vs H Q E0):wpAny (model X.prog X.w) A (call (.ref f) us) (EP X pins σ Q) E s:=by
 have pin:∀t∈es,s.heap.get? t.2.1=some t.2.2/\H t.2.1=none:=fun t ht=>by
  obtain⟨p1,p2,_⟩:=I.pin t.2 (List.mem_append_right _ (List.mem_append_right _ (List.mem_map_of_mem ht)));exact⟨p1,p2⟩
 have hl:(us++[]).length=ps.length:=by rw[List.append_nil,<- r.length];exact F.len _ _ _ _ h
 have e0:lB X.prog X.w X.K X.mg X.base A (es.map (·.1)++X.stack) s H:=by
  refine⟨hA,I.ok.mod,I.bs,Nat.le_trans I.ok.bsz I.sz,uq I es ⟨fo.kd,fo.fr,fo.ge,fo.lo,fo.cl,fun t ht p hp=>fo.pn t ht p (by rw[List.append_nil]at hp;exact List.mem_append_left _ hp),fo.nf⟩ fun t ht=>(pin t ht).1,fun b hb=>?_,I.hok,I.bare⟩;rcases(lY X es fo.fr b).mp hb with hb|hb
  . obtain⟨t,ht,rfl⟩:=List.mem_map.mp hb;exact(pin t ht).2
  . exact I.stkFree b hb
 have hb':=hb s us I.kIn hl;rw[List.append_nil]at hb';refine wpAny_call (codeAny_mono (F.run A (es.map (·.1)++X.stack) s H ⟨us,[]⟩ us vs Q E0 hr e0 hb' r h) fun r s' hq=>?_);cases r with
 | error e=>exact False.elim hq
 | ok fl =>
  cases fl with
  | ret u =>
   obtain⟨v,H',os,bare,un,hok,rv,q⟩:=hq;obtain⟨hh,g,d,t,os'⟩:=s';obtain rfl:os'=s.os:=os;have J:aG X pins σ H s:=I.unpinned;refine⟨v,H',J.call (h':=hh) (g':=g) (d':=d) (t':=t) (ch:=es.map (·.2.1)) ⟨fun b o e n hb hx=>?_,fun b o e n hb hx=>?_,fun b o e n hx=>un.free b o e n (by simp),fun b o e hx=>un.there b o e (by simp),un.tups,un.frzs,un.tbls⟩ hok bare (fun b z=>?_),rv,q⟩
   . exact un.keep b o e n (fun z=>((lY X es fo.fr b).mp z).elim hx hb) (by simp)
   . exact un.slot b o e n ((lY X es fo.fr b).mpr (.inr hb)) (by simp)
   . obtain⟨t,ht,rfl⟩:=List.mem_map.mp z;exact⟨.inr (fo.ge t ht),fo.lo t ht,fo.cl t ht,fo.pn t ht⟩
  | next=>exact False.elim hq
  | brk=>exact False.elim hq
  | cont=>exact False.elim hq
end
structure LvT where
 qual:Str
 params:Arguments
 x:Str
 y:Str
 m:Str
 p1:Pos
 p2:Pos
 p3:Pos
 p4:Pos
 scope:Scope
def LvT.base (t:LvT):Expr:=.Name t.y t.p1
def LvT.body (t:LvT):Expr:=.Call (.Attribute t.base t.m t.p2) [.Name t.x t.p3] [] t.p4
structure LvT.Ok (t:LvT):Prop where
 sc:nP t.scope t.x
 hx:∀L a cd c,(envX t.qual t.scope L a cd [(t.y,c)]).kindOf t.x=some .local
 hy:∀L a cd c,(envX t.qual t.scope L a cd [(t.y,c)]).kindOf t.y=some .free
 bind:∀u pm c' ctv c,bindArgs (kla_fn "<lambda>" t.qual t.params t.body t.scope [(t.y,c)] pm (.ref c') ctv) ⟨[u],[]⟩=pure [(t.x,u)]
 dx:(t.x == ("__debug__":Str))=false
 dy:(t.y == ("__debug__":Str))=false
 cy:(t.y == ("__classdict__":Str))=false
 mc:∀env:Env,∃pl:Sem Bool,eval t.body env=(do
  let ov <- eval t.base env
  standAt t.p2.atName
  let (f,first) <- holding [ov] (getMethod ov t.m pl)
  callWith t.p4 f first (backTo t.p4 (starEach [.Name t.x t.p3] env)) (backToKw t.p4 (keywordEach [] env)))
def gj (m:Str)(H:Hp)(f a:Addr):Prop:=∃(t:LvT) (c:Addr) (pm:Value) (c':Addr) (ctv:Value) (oc:Obj),t.Ok/\t.m=m /\
 H f=some (.ext (eY f (kla_obj "<lambda>" t.qual t.params t.body t.scope [(t.y,c)] pm c' ctv)))/\H c'=some (.ext (hW c' t.qual))/\H c=some (.ext (eY c oc))/\oc.data = .cell (some (.ref a))
theorem gj.mono {m:Str}{H H':Hp}{f a:Addr}(g:gj m H f a)(s:aE H H'):gj m H' f a:=by
 obtain⟨t,c,pm,c',ctv,oc,h1,h0,h2,h3,h4,h5⟩:=g;exact⟨t,c,pm,c',ctv,oc,h1,h0,s _ _ h2,s _ _ h3,s _ _ h4,h5⟩
section
variable {X:Cx}{pins:List (Addr×Obj)}{σ:St}{H:Hp}{s:Shared}{E:Value->Shared->Prop}
theorem ur {k:Nat}{fk C:Addr}{fd:FuncData}{ps:List Str}{sp:Sp}{cc:Bool}{m:Str}{f a dx:Addr}{fs:List (Str×V)}{u:Value}{y:V}{Q:VK}(F:aj X.prog X.w X.K X.mg X.base ay k fk fd ps sp cc)(hb:bE X.K fd ps [])(cl:iO X.K C)(me:oT X.K C m fk)
 (I:aG X pins σ H s) (hr:bI (k+1) X.A cc) (g:gj m H f a) (ea:H a=some (.ins C dx fs)) (l:fs.lookup m=none) (ry:aY y u) (h:sp [.ref a,y] H Q E0):wpAny (model X.prog X.w) X.A (call (.ref f) [u]) (EP X pins σ Q) E s:=by
 obtain⟨t,c,pm,c',ctv,oc,ok,rfl,h2,h3,h4,h5⟩:=g;have ef:s.heap.get? f=some _:=cG (I.hok f _ h2);have ec:s.heap.get? c=some oc:=cG (I.hok c _ h4);have er:s.heap.CodeRec (.ref c') t.qual:=cG (I.hok c' _ h3);refine wpAny_call ?_;refine kla_callFunE (by have:=hr.dp;omega) ef rfl ok.sc.co ok.sc.gen rfl er ?_;rw[ok.bind];refine wpAny_pure (wpAny_newFunctionEnv ok.sc.nocell (fun y hy=>by
  obtain rfl:y=(t.x,u):=by simpa using hy
  exact ok.sc.loc) (fun h₁ hns hsb=>⟨I.nolimit.fresh _ hsb,?_⟩) ok.sc.fn)
 show codeAny _ _ (.expr t.body (envX t.qual t.scope s.heap.objs.size f (.ref c') [(t.y,c)])) _ _;have hk₁:∀b o,s.heap.get? b=some o->h₁.get? b=some o:=fun b o e=>hsb.extBut b o (Nat.ne_of_lt (Heap.lt_size e)) (Heap.get?_push_of_some _ e);refine kla_codeExpr ?_;have I1:aG X pins σ H { s with heap:=h₁,toks:=s.toks+1 }:=I.kept hk₁;obtain⟨oL,en,ep,ho,hd,hrest⟩:=id hns;have lt:∀b o,s.heap.get? b=some o->b≠s.heap.objs.size:=fun b o e=>Nat.ne_of_lt (Heap.lt_size e);have I2:aG X (pins++[(envX t.qual t.scope s.heap.objs.size f (.ref c') [(t.y,c)],s.heap.objs.size,oL)].map (·.2)) σ H { s with heap:=h₁,toks:=s.toks+1 }:=by
  refine I1.pins_of fun p hp=>?_;rcases List.mem_append.mp hp with hp|hp
  . exact I1.pin p (List.mem_append_right _ hp)
  . obtain rfl:p=(s.heap.objs.size,oL):=by simpa using hp
    exact⟨ho,I.hok.fresh (Nat.le_refl _),Nat.ne_of_gt I.lt,I.nofs (Nat.le_refl _),fun v z=>by rw[hd]at z;cases z⟩
 obtain⟨pl,ht⟩:=ok.mc (envX t.qual t.scope s.heap.objs.size f (.ref c') [(t.y,c)]);have fo:lX X pins [(envX t.qual t.scope s.heap.objs.size f (.ref c') [(t.y,c)],s.heap.objs.size,oL)]:=lX.nil.more (by show t.scope.kind≠_;rw[ok.sc.fn];decide) rfl I.sz (Nat.ne_of_gt I.lt) (fun x c hc=>by
  obtain⟨v,o,ho,_⟩:=I.cell x c hc;exact lt _ _ ho) (fun p hp=>lt _ _ (I.pin p hp).1) (fun vs z=>by rw[hd]at z;cases z)
 refine W.methodCall_KW (pl:=pl) ?_ ht;refine wpAny_Name (wpAny_loadName_free (v:=.ref a) ok.sc.fn (ok.hy _ _ _ _) (by show(((t.y,c) :: []).lookup t.y)=some c;simp) ⟨oc,hk₁ _ _ ec,h5⟩ ?_ ok.cy) ok.dy;refine eF I2 ea cl me l ?_;refine W.callWith_K (first:=[.ref a]) (h₀:=X.base) I2.ok.mod.kin me.kp ?_ rfl rfl;refine Calls.spliced_cons ?_;refine wpAny_Name (wpAny_loadName_local (v:=u) ok.sc.fn (ok.hx _ _ _ _) hns (by simp) ?_) ok.dx;refine Calls.spliced_nil ⟨I2.kIn,?_⟩;refine sd (vs:=[.ref a,y]) (es:=[(envX t.qual t.scope s.heap.objs.size f (.ref c') [(t.y,c)],s.heap.objs.size,oL)]) F hb ?_ I2 fo (hr.deeper _) (.cons rfl (.cons ry .nil)) h;show X.A.frames.map _=_;rw[I.ok.frames];rfl
end
section
variable {X:Cx}{e:Expr}{te:TE}
def Bl (C:Addr)(m:Str)(sp:Sp)(i:Nat)(te:TE):TE:=fun σ H Q=>∃f,σ[i]? = some (some (.ref f))/\(∃a,gj m H f a)/\te σ H fun y H1=>∃a dx fs,gj m H1 f a/\H1 a=some (.ins C dx fs)/\fs.lookup m=none/\sp [.ref a,y] H1 Q E0
theorem gj.fn {pins:List (Addr×Obj)}{σ:St}{H:Hp}{s:Shared}{f a:Addr}{m:Str}(I:aG X pins σ H s)(g:gj m H f a):FnAt f s.heap:=by
 obtain⟨t,c,pm,c',ctv,oc,ok,_,h2,_⟩:=g;exact⟨_,_,_,_,cG (I.hok f _ h2)⟩
theorem lZ {k:Nat}{fk C:Addr}{fd:FuncData}{ps:List Str}{sp:Sp}{cc:Bool}{m:Str}{i:Nat}{x:Str}{p pos:Pos}(F:aj X.prog X.w X.K X.mg X.base ay k fk fd ps sp cc)(hb:bE X.K fd ps [])(cl:iO X.K C)(me:oT X.K C m fk)(hr:bI (k+1) X.A cc)(hv:∀{ps:Pos},PE X (.Name x ps) (k9 i))(he:PE X e te)(h1:starEach [e] X.env=[(false,eval e X.env)]:=by rfl) :
 PE X (.Call (.Name x p) [e] [] pos) (Bl C m sp i te):=by
 intro pins s σ H Q I h;obtain⟨f,hf,⟨d,g⟩,h⟩:=h;refine wpAny_Call_Name_kw (bj (hv pins s σ H (fun v H'=>v = .ref f/\H'=H) I ⟨_,hf,rfl,rfl⟩) fun u s1 ⟨v,H1,I1,rv,ev,eH⟩=>?_);subst ev eH;cases rv;refine callWith_F (g.fn I1) ?_ h1 rfl;rw[h1];show wpAny (model X.prog X.w) _ (spliced ((false,eval e X.env) :: backTo pos (starEach [] X.env))) _ _ s1;exact Calls.spliced_cons (bj (he pins s1 σ _ _ I1 h) fun u s2 ⟨y,H2,I2,ry,a,dx,fs,g2,ea,l,q⟩=>Calls.spliced_nil ⟨g2.fn I2,ur F hb cl me I2 hr g2 ea l ry q⟩)
theorem gj.mk {m:Str}{H:Hp}{t:LvT}{f c c' a:Addr}{pm ctv:Value}{oc:Obj}(ok:t.Ok)(em:t.m=m)(hc:H c=none)(hf:H f=some (.ext (eY f (kla_obj "<lambda>" t.qual t.params t.body t.scope [(t.y,c)] pm c' ctv))))(hc':H c'=some (.ext (hW c' t.qual)))(dc:oc.data = .cell (some (.ref a))) :
 gj m (aL H c (.ext (eY c oc))) f a:=by
 have ne:∀b u,H b=some u->b≠c:=fun b u e z=>by rw[z,hc]at e;cases e
 exact⟨t,c,pm,c',ctv,oc,ok,em,by rw[am (ne _ _ hf)];exact hf,by rw[am (ne _ _ hc')];exact hc',aa,dc⟩
end
structure L0T where
 qual:Str
 params:Arguments
 x:Str
 body:Expr
 scope:Scope
structure L0T.Ok (t:L0T):Prop where
 sc:nP t.scope t.x
 nofr:∀z,t.scope.names.lookup z≠some .free
 bind:∀u pm c' ctv,bindArgs (kla_fn "<lambda>" t.qual t.params t.body t.scope [] pm (.ref c') ctv) ⟨[u],[]⟩=pure [(t.x,u)]
def jw (t:L0T)(H:Hp)(f:Addr):Prop:=∃(pm:Value) (c':Addr) (ctv:Value),H f=some (.ext (eY f (kla_obj "<lambda>" t.qual t.params t.body t.scope [] pm c' ctv)))/\H c'=some (.ext (hW c' t.qual))
theorem jw.mono {t:L0T}{H H':Hp}{f:Addr}(g:jw t H f)(s:aE H H'):jw t H' f:=by
 obtain⟨pm,c',ctv,h1,h2⟩:=g;exact⟨pm,c',ctv,s _ _ h1,s _ _ h2⟩
def yo (P:Program)(w:World)(K:W.Frag)(mg:Str->Option Value)(base:Heap)(t:L0T)(f c':Addr)(A:Around)(outer:List Env)(s:Shared)(H:Hp):Cx where
 prog:=P
 w:=w
 K:=K
 mg:=mg
 base:=base
 A:=A.deeper (envX t.qual t.scope s.heap.objs.size f (.ref c') [])
 N:=[t.x]
 s₀:=s
 H₀:=H
 env:=envX t.qual t.scope s.heap.objs.size f (.ref c') []
 outer:=outer
 stack:=envX t.qual t.scope s.heap.objs.size f (.ref c') [] :: outer
 ex:=[]
 calm:=true
 fn:=fun Fc=>false
 pn:=[]
 xe:=fun Fc Fc=>False
def ut (P:Program)(w:World)(K:W.Frag)(mg:Str->Option Value)(base:Heap)(k:Nat)(t:L0T)(sp:V->Hp->VK->Prop):Prop:=t.Ok /\
 ∀(f c':Addr) (A:Around) (outer:List Env) (s:Shared) (H:Hp) (v:V) (Q:VK),bI k (A.deeper (envX t.qual t.scope s.heap.objs.size f (.ref c') []))->sp v H Q ->
  ∃te,PE (yo P w K mg base t f c' A outer s H) t.body te/\te [some v] H Q
section
variable {X:Cx}{pins:List (Addr×Obj)}{σ:St}{H:Hp}{s:Shared}
theorem uu {k:Nat}{t:L0T}{sp:V->Hp->VK->Prop}{f:Addr}{v:V}{u:Value}{Q:VK}(F:ut X.prog X.w X.K X.mg X.base k t sp)(hr:bI (k+1) X.A)(I:aG X pins σ H s)(g:jw t H f)(rv:aY v u)(h:sp v H Q) :
 wpAny (model X.prog X.w) X.A (call (.ref f) [u]) (EP X pins σ Q) X.xe s:=by
 obtain⟨pm,c',ctv,h2,h3⟩:=g;obtain⟨ok,body⟩:=F;have ef:s.heap.get? f=some _:=cG (I.hok f _ h2);have er:s.heap.CodeRec (.ref c') t.qual:=cG (I.hok c' _ h3);have e0:=I.env0;refine wpAny_call ?_;refine kla_callFunE (by have:=hr.dp;omega) ef rfl ok.sc.co ok.sc.gen rfl er ?_;rw[ok.bind];refine wpAny_pure (wpAny_newFunctionEnv ok.sc.nocell (fun y hy=>by
  obtain rfl:y=(t.x,u):=by simpa using hy
  exact ok.sc.loc) (fun h₁ hns hsb=>⟨I.nolimit.fresh _ hsb,?_⟩) ok.sc.fn)
 show codeAny _ _ (.expr t.body (envX t.qual t.scope s.heap.objs.size f (.ref c') [])) _ _;have hk₁:∀b o,s.heap.get? b=some o->h₁.get? b=some o:=fun b o e=>hsb.extBut b o (Nat.ne_of_lt (Heap.lt_size e)) (Heap.get?_push_of_some _ e);refine kla_codeExpr ?_;obtain⟨te,ht,hq⟩:=body f c' X.A X.stack s H v Q (hr.deeper _) h;have noA:∀b:Addr,b ∉ (yo X.prog X.w X.K X.mg X.base t f c' X.A X.stack s H).ex:=fun b z=>absurd (show b∈([]:List Addr)from z) (by simp);have lk:∀{z:Str} {b:Addr},(([]:List (Str×Addr)).lookup z)≠some b:=fun {z b} e=>by cases e
 have II:aG (yo X.prog X.w X.K X.mg X.base t f c' X.A X.stack s H) [] [some v] H { s with heap:=h₁,toks:=s.toks+1 }:=by
  refine⟨⟨e0.mod,ok.sc.fn,rfl,rfl,Nat.le_refl _,fun y z b q1 q2=>absurd q1 lk,fun y hy=>?_,fun y b q Fc=>absurd q Bool.false_ne_true,fun Fc=>hr.hd,Around.frames_deeper e0.frames,.inr ⟨rfl,rfl⟩,fun b z=>absurd z (noA b),fun b o e=>⟨(e0.bs b o e).1,(e0.bs b o e).2⟩,e0.bsz,fun b Fc Fc=>noA b,fun b z=>absurd z (noA b),e0.funs,fun b hb=>e0.frf b hb⟩,
   rfl,e0.bare,Un.kept hk₁,⟨_,hns,fun i y x q1 q2 q3=>?_⟩,fun y b q=>absurd q lk,I.hok.fresh (Nat.le_refl _),fun y b q=>absurd q lk,fun p hp=>absurd (show p∈([]:List (Addr×Obj))from hp) (by simp),e0.hok.kept hk₁,rfl⟩
  . rcases hy with hy|hy
    . exact absurd rfl (ok.sc.nocell _ (PySem.mem_of_lookup hy))
    . exact absurd hy (ok.nofr y)
  . match i,q1,q2 with
    | 0,q1,q2 =>
     cases q1;cases q2;exact⟨u,rv,.inl ⟨ok.sc.loc,by simp⟩⟩
    | i+1,q1,q2=>cases q1
 refine wpAny_mono (ht [] _ _ _ _ II hq) (fun u' s' hs=>?_) fun e s' hs=>hs.elim;obtain⟨r,H',J,rr,q⟩:=hs;exact I.after ⟨r,H',J.os,J.bare,J.base,J.hok,rr,q⟩
theorem jw.fn {t:L0T}{f:Addr}(I:aG X pins σ H s)(g:jw t H f):FnAt f s.heap:=by
 obtain⟨pm,c',ctv,h1,_⟩:=g;exact⟨_,_,_,_,cG (I.hok f _ h1)⟩
end
section
variable {X:Cx}{e:Expr}{te:TE}
def Dv (t:L0T)(sp:V->Hp->VK->Prop)(i:Nat)(te:TE):TE:=fun σ H Q=>∃f,σ[i]? = some (some (.ref f))/\jw t H f/\te σ H fun y H1=>jw t H1 f/\sp y H1 Q
theorem Dk {k i:Nat}{t:L0T}{sp:V->Hp->VK->Prop}{x:Str}{p pos:Pos}(F:ut X.prog X.w X.K X.mg X.base k t sp)(hr:bI (k+1) X.A)(hv:∀{ps:Pos},PE X (.Name x ps) (k9 i))(he:PE X e te)(h1:starEach [e] X.env=[(false,eval e X.env)]:=by rfl) :
 PE X (.Call (.Name x p) [e] [] pos) (Dv t sp i te):=by
 intro pins s σ H Q I h;obtain⟨f,hf,g,h⟩:=h;refine wpAny_Call_Name_kw (bj (hv pins s σ H (fun v H'=>v = .ref f/\H'=H) I ⟨_,hf,rfl,rfl⟩) fun u s1 ⟨v,H1,I1,rv,ev,eH⟩=>?_);subst ev eH;cases rv;refine callWith_F (g.fn I1) ?_ h1 rfl;rw[h1];show wpAny (model X.prog X.w) _ (spliced ((false,eval e X.env) :: backTo pos (starEach [] X.env))) _ _ s1;exact Calls.spliced_cons (bj (he pins s1 σ _ _ I1 h) fun u s2 ⟨y,H2,I2,ry,g2,q⟩=>Calls.spliced_nil ⟨g2.fn I2,uu F hr I2 g2 ry q⟩)
def CV {ι:Type}(ts:ι->L0T)(sp:V->Hp->VK->Prop)(i:Nat)(te:TE):TE:=fun σ H Q=>∃f,σ[i]? = some (some (.ref f))/\(∃j,jw (ts j) H f)/\te σ H fun y H1=>(∃j,jw (ts j) H1 f)/\sp y H1 Q
theorem yp {k i:Nat}{ι:Type}{ts:ι->L0T}{sp:V->Hp->VK->Prop}{x:Str}{p pos:Pos}(F:∀j,ut X.prog X.w X.K X.mg X.base k (ts j) sp)(hr:bI (k+1) X.A)(hv:∀{ps:Pos},PE X (.Name x ps) (k9 i))(he:PE X e te)(h1:starEach [e] X.env=[(false,eval e X.env)]:=by rfl) :
 PE X (.Call (.Name x p) [e] [] pos) (CV ts sp i te):=by
 intro pins s σ H Q I h;obtain⟨f,hf,⟨j,g⟩,h⟩:=h;refine wpAny_Call_Name_kw (bj (hv pins s σ H (fun v H'=>v = .ref f/\H'=H) I ⟨_,hf,rfl,rfl⟩) fun u s1 ⟨v,H1,I1,rv,ev,eH⟩=>?_);subst ev eH;cases rv;refine callWith_F (g.fn I1) ?_ h1 rfl;rw[h1];show wpAny (model X.prog X.w) _ (spliced ((false,eval e X.env) :: backTo pos (starEach [] X.env))) _ _ s1;exact Calls.spliced_cons (bj (he pins s1 σ _ _ I1 h) fun u s2 ⟨y,H2,I2,ry,⟨j2,g2⟩,q⟩=>Calls.spliced_nil ⟨g2.fn I2,uu (F j2) hr I2 g2 ry q⟩)
def Bm (P:Addr)(lpos:Pos)(qual:Str)(params:Arguments)(body:Expr)(scope:Scope)(clos:List (Str×Addr)):TE:=fun σ H Q=>bo H P lpos qual/\∀f c' pm ctv H',eX P H H'->bo H' P lpos qual->(∀pos2 q2,¬ (lpos.line=pos2.line/\lpos.col=pos2.col)->bo H P pos2 q2->bo H' P pos2 q2)->H f=none ->
 H' f=some (.ext (eY f (kla_obj "<lambda>" qual params body scope clos pm c' ctv)))->H' c'=some (.ext (hW c' qual))->Q (.ref f) H'
theorem iW {cd P:Addr}{lpos:Pos}{qual:Str}{params:Arguments}{body:Expr}{scope:Scope}{clos:List (Str×Addr)}(hcode:X.env.code = .ref cd)(C:CodeHd X.base cd P)(B:d6 X.base X.mg)(hqual:X.env.qual++Str.ofString "<lambda>" = qual)(hdef:defaultsOf params X.env=([],[]))
 (hcl:closureFor scope X.env=pure clos):PE X (.Lambda params body scope lpos) (Bm P lpos qual params body scope clos):=by
 intro pins s σ H Q I h;obtain⟨tb,h⟩:=h;refine kla_eval hdef ?_;have e:X.env.qual++Str.ofString "<lambda>" = qual:=hqual;rw[e];exact vZ I hcode C B tb hcl fun f c' pm ctv s' H' I' sx tb' ot hf hf' hc'=>⟨.ref f,H',I',rfl,h f c' pm ctv H' sx tb' ot hf hf' hc'⟩
end
end L2
namespace L2
open PySem PySem.Spec PyProof.Rows
def vR (pc:Int->List Int)(k:Int)(v:Int)(r:S4):Int:=if r.1<=k/\k < r.1+r.2.1 then(pc r.2.2.1).getD (r.2.2.2+k - r.1).toNat 0 else v
def yq (pc:Int->List Int)(rs:List S4)(k:Int):Int:=rs.foldl (vR pc k) 0
theorem jx (pc:Int->List Int)(rs:List S4)(r:S4)(k:Int):yq pc (rs++[r]) k=vR pc k (yq pc rs k) r:=by
 unfold yq;rw[List.foldl_append];rfl
def b9 (pc:Int->List Int)(rs:List S4)(n:Nat):List Int:=(List.range n).map fun k:Nat=>yq pc rs (k:Int)
theorem jy {pc:Int->List Int}{rs:List S4}{n:Nat}:(b9 pc rs n).length=n:=by
 unfold b9;simp
theorem pR (pc:Int->List Int)(n:Nat):b9 pc [] n=List.replicate n 0:=by
 unfold b9;refine List.ext_getElem (by simp) fun i h1 h2=>?_;simp[yq]
theorem se {n m:Nat}{f g:Nat->Int}{v:Int}(h:∀k,k < n->g k=if k=m then v else f k):((List.range n).map f).set m v=(List.range n).map g:=by
 refine List.ext_getElem (by simp) fun i h1 h2=>?_;have hi:i < n:=by simpa using h2
 rw[List.getElem_set];simp only[List.getElem_map,List.getElem_range];rw[h i hi];by_cases z:i=m
 . rw[if_pos z.symm,if_pos z]
 . rw[if_neg (fun y=>z y.symm),if_neg z]
theorem nW {pc:Int->List Int}{rs:List S4}{n j:Nat}{a p s v:Int}(h0:0<=a)(hs:0<=s)(hv:(pc p)[(s+(j:Int)).toNat]? = some v) :
 (b9 pc (rs++[(a,(j:Int),p,s)]) n).set (a+(j:Int)).toNat v=b9 pc (rs++[(a,((j+1:Nat):Int),p,s)]) n:=by
 unfold b9;refine se fun k hk=>?_;rw[jx,jx];generalize yq pc rs (k:Int)=b;unfold vR;simp only;by_cases z:k=(a+(j:Int)).toNat
 . rw[if_pos z,if_pos (by omega)];have e:s+(k:Int) - a=s+(j:Int):=by omega
   rw[e,List.getD_eq_getElem?_getD,hv];rfl
 . rw[if_neg z];by_cases y:a<=(k:Int)/\(k:Int) < a+(j:Int)
   . rw[if_pos y,if_pos (by omega)]
   . rw[if_neg y,if_neg (by omega)]
theorem nX {pc:Int->List Int}{rs:List S4}{n:Nat}{a p s:Int}:b9 pc (rs++[(a,((0:Nat):Int),p,s)]) n=b9 pc rs n:=by
 unfold b9;refine List.map_congr_left fun k Fc=>?_;rw[jx];unfold vR;simp only;rw[if_neg (by omega)]
abbrev Src:=Option (Int×Int)
abbrev Fl:=Nat×List S4×List Src
def eZ (os:List Src)(k:Int):Src:=if k < 0 then none else os.getD k.toNat none
def GS (pc:Int->List Int)(N:Nat)(os:List Src):Prop:=∀p s,some (p,s)∈os->2<=p/\p < 2+(N:Int)/\0<=s/\s < ((pc p).length:Int)
structure FI (pc:Int->List Int)(N:Nat)(x:Fl):Prop where
 len:x.2.2.length=x.1
 n40:x.1<=40
 ord:bV 0 x.2.1 x.1
 ng:eV x.2.1=true
 gs:GS pc N x.2.2
 cel:∀k p s,(k,p,s)∈aQ x.2.1↔eZ x.2.2 k=some (p,s)
theorem cH (os:List Src)(k:Nat):eZ os (k:Int)=os.getD k none:=by
 unfold eZ;rw[if_neg (by omega),Int.toNat_natCast]
theorem gL {os:List Src}{k:Int}{p s:Int}(h:eZ os k=some (p,s)):0<=k/\k < (os.length:Int)/\os[k.toNat]? = some (some (p,s)):=by
 unfold eZ at h;by_cases z:k < 0
 . rw[if_pos z]at h;cases h
 . rw[if_neg z,List.getD_eq_getElem?_getD]at h;cases e:os[k.toNat]? with
   | none=>rw[e]at h;cases h
   | some o =>
    rw[e]at h;have:=(List.getElem?_eq_some_iff.mp e).1;exact⟨by omega,by omega,by rw[<- h];rfl⟩
theorem dr {os:List Src}{k:Int}{p s:Int}(h:eZ os k=some (p,s)):some (p,s)∈os:=List.mem_of_getElem? (gL h).2.2
theorem fQ {os:List Src}{p s:Int}(h:some (p,s)∈os):∃k:Nat,eZ os (k:Int)=some (p,s):=by
 obtain⟨k,hk⟩:=List.mem_iff_getElem?.mp h;refine⟨k,?_⟩;rw[cH,List.getD_eq_getElem?_getD,hk];rfl
theorem dL {rs:List S4}{r:S4}{k:Int}(hr:r∈rs)(h1:r.1<=k)(h2:k < r.1+r.2.1):(k,r.2.2.1,r.2.2.2+(k - r.1))∈aQ rs :=
 List.mem_flatMap.mpr ⟨r,hr,mem_cells1.mpr ⟨h1,h2,rfl,rfl⟩⟩
theorem gM {rs:List S4}{c:C3}(h:c∈aQ rs):∃r∈rs,r.1<=c.1/\c.1 < r.1+r.2.1/\c.2.1=r.2.2.1/\c.2.2=r.2.2.2+(c.1 - r.1):=by
 obtain⟨r,hr,hc⟩:=List.mem_flatMap.mp h;exact⟨r,hr,mem_cells1.mp hc⟩
theorem kL {n:Int}:∀{rs:List S4} {lo hi:Int},bV lo rs hi->lo<=n->(∀r∈rs,r.1+r.2.1<=n)->bV lo rs n
 | [],_,_,_,h,_=>h
 | r :: t,lo,hi,o,h,m=>⟨o.1,o.2.1,kL o.2.2 (m r (List.mem_cons_self ..)) fun x hx=>m x (List.mem_cons_of_mem _ hx)⟩
theorem FI.of {pc:Int->List Int}{N n:Nat}{rs:List S4}{os:List Src}(hl:os.length=n)(hn:n<=40)(o:bV 0 rs 40)(g:eV rs=true)(hg:GS pc N os)(hc:∀k p s,(k,p,s)∈aQ rs↔eZ os k=some (p,s)):FI pc N (n,rs,os):=by
 refine⟨hl,hn,kL o (by show(0:Int)<=(n:Int);omega) fun r hr=>?_,g,hg,hc⟩;have b:=o.mem hr;have c:=dL (k:=r.1+r.2.1 - 1) hr (by omega) (by omega);have:=(gL ((hc _ _ _).mp c)).2.1;show r.1+r.2.1<=(n:Int);omega
theorem FI.mono {pc pc':Int->List Int}{N N':Nat}{x:Fl}(h:FI pc N x)(hN:N<=N')(hp:∀p,2<=p->p < 2+(N:Int)->pc' p=pc p):FI pc' N' x :=
 ⟨h.len,h.n40,h.ord,h.ng,fun p s m=>by
  have z:=h.gs p s m;rw[hp p z.1 z.2.1];exact⟨z.1,by omega,z.2.2⟩,h.cel⟩
def nY (os:List Src)(lo L:Nat)(mid:List Src):List Src:=(os++List.replicate (lo+L - os.length) none).take lo++mid++(os++List.replicate (lo+L - os.length) none).drop (lo+L)
theorem qy {os mid:List Src}{lo L:Nat}(h:mid.length=L):(nY os lo L mid).length=max os.length (lo+L):=by
 unfold nY;simp only[List.length_append,List.length_take,List.length_drop,List.length_replicate,h];omega
theorem gN {xs ys:List Src}{k:Nat}:(xs++ys).getD k none=if k < xs.length then xs.getD k none else ys.getD (k - xs.length) none:=by
 rw[List.getD_eq_getElem?_getD,List.getD_eq_getElem?_getD,List.getD_eq_getElem?_getD];by_cases z:k < xs.length
 . rw[if_pos z,List.getElem?_append_left z]
 . rw[if_neg z,List.getElem?_append_right (by omega)]
theorem sf (m k:Nat):(List.replicate m (none:Src)).getD k none=none:=by
 rw[List.getD_eq_getElem?_getD,List.getElem?_replicate];split <;> rfl
theorem jz {os:List Src}{m k:Nat}:(os++List.replicate m none).getD k none=os.getD k none:=by
 rw[gN];by_cases z:k < os.length
 . rw[if_pos z]
 . rw[if_neg z,sf,List.getD_eq_getElem?_getD,List.getElem?_eq_none (by omega)];rfl
theorem hX {xs:List Src}{m k:Nat}:(xs.take m).getD k none=if k < m then xs.getD k none else none:=by
 rw[List.getD_eq_getElem?_getD,List.getElem?_take,List.getD_eq_getElem?_getD];split <;> rfl
theorem kM {xs:List Src}{m k:Nat}:(xs.drop m).getD k none=xs.getD (m+k) none:=by
 rw[List.getD_eq_getElem?_getD,List.getElem?_drop,List.getD_eq_getElem?_getD]
theorem iX {os mid:List Src}{lo L:Nat}(h:mid.length=L)(k:Int):eZ (nY os lo L mid) k=if(lo:Int)<=k/\k < (lo:Int)+(L:Int)then eZ mid (k - (lo:Int))else eZ os k:=by
 by_cases z:k < 0
 . rw[if_neg (by omega)];unfold eZ;rw[if_pos z,if_pos z]
 obtain⟨j,rfl⟩:=Int.eq_ofNat_of_zero_le (Int.not_lt.mp z);have el:(os++List.replicate (lo+L - os.length) none).length=max os.length (lo+L):=by
  simp only[List.length_append,List.length_replicate];omega
 have e1:((os++List.replicate (lo+L - os.length) none).take lo).length=lo:=by
  rw[List.length_take,el];omega
 show eZ (nY os lo L mid) ((j:Nat):Int)=_;rw[cH];unfold nY;rw[gN,List.length_append,e1,h];by_cases c1:j < lo
 . rw[if_pos (by omega),gN,e1,if_pos c1,hX,if_pos c1,jz,if_neg (by omega)];show _=eZ os ((j:Nat):Int);rw[cH]
 . by_cases c2:j < lo+L
   . rw[if_pos c2,gN,e1,if_neg c1,if_pos (by omega)];have:(((j:Nat):Int) - (lo:Int))=((j - lo:Nat):Int):=by omega
     show _=eZ mid (((j:Nat):Int) - (lo:Int));rw[this,cH]
   . rw[if_neg c2,kM,jz,if_neg (by omega)];show _=eZ os ((j:Nat):Int);rw[cH]
     congr 1
     omega
theorem iY {os mid:List Src}{lo L:Nat}{p s:Int}(h:mid.length=L)(hm:some (p,s)∈nY os lo L mid):some (p,s)∈mid\/some (p,s)∈os:=by
 obtain⟨k,hk⟩:=fQ hm;rw[iX h]at hk;split at hk
 . exact .inl (dr hk)
 . exact .inr (dr hk)
theorem FI.laid {pc:Int->List Int}{N n lo L:Nat}{rs new:List S4}{os mid:List Src}(h:FI pc N (n,rs,os))(ho:bV (lo:Int) new ((lo:Int)+(L:Int)))(h40:lo+L<=40)(hm:mid.length=L)(hg:GS pc N mid)
 (hc:∀k p s,(k,p,s)∈aQ new↔(lo:Int)<=k/\k < (lo:Int)+(L:Int)/\eZ mid (k - (lo:Int))=some (p,s)) :
 FI pc N (max n (lo+L),b8 (cF rs (lo:Int) ((lo:Int)+(L:Int)) new),nY os lo L mid):=by
 have hl:os.length=n:=h.len;have n40:n<=40:=h.n40;have o40:bV 0 rs 40:=h.ord.up (by show(n:Int)<=40;omega);have oL:=nA o40 (by omega) ho (by omega);refine FI.of (by rw[qy hm,hl]) (by omega) (nv (g:=[]) (mid:=0) (Int.le_refl _) oL) (kI (g:=[]) rfl) (fun p s z=>(iY hm z).elim (hg p s) (h.gs p s)) fun k p s=>?_;rw[nH oL,ud o40,iX hm,hc,h.cel];show(eZ os k=some (p,s)/\(k < (lo:Int)\/(lo:Int)+(L:Int)<=k))\/_↔_;by_cases z:(lo:Int)<=k/\k < (lo:Int)+(L:Int)
 . rw[if_pos z];exact⟨fun y=>y.elim (fun y=>by omega) fun y=>y.2.2,fun y=>.inr ⟨z.1,z.2,y⟩⟩
 . rw[if_neg z];exact⟨fun y=>y.elim (fun y=>y.1) fun y=>absurd ⟨y.1,y.2.1⟩ z,fun y=>.inl ⟨y,by omega⟩⟩
theorem v4 {rs:List S4}:∀{lo hi:Int} {a b:S4},bV lo rs hi->a∈rs->b∈rs->a=b\/a.1+a.2.1<=b.1\/b.1+b.2.1<=a.1:=by
 induction rs with
 | nil=>intro lo hi a b o ha;cases ha
 | cons r t ih =>
  intro lo hi a b o ha hb;rcases List.mem_cons.mp ha with ea|ha'
  . rcases List.mem_cons.mp hb with eb|hb'
    . exact .inl (ea.trans eb.symm)
    . rw[ea];exact .inr (.inl (o.2.2.mem hb').1)
  . rcases List.mem_cons.mp hb with eb|hb'
    . rw[eb];exact .inr (.inr (o.2.2.mem ha').1)
    . exact ih o.2.2 ha' hb'
theorem jA:∀{rs:List S4} {lo hi:Int},bV lo rs hi->eV rs=true->∀a∈rs,∀b∈rs,bM a b=false
 | [],_,_,_,_=>fun a ha=>by cases ha
 | r :: t,lo,hi,o,g=>fun a ha b hb=>by
  have gt:eV t=true:=by
   cases t with
   | nil=>rfl
   | cons m t=>exact(Bool.and_eq_true _ _ ▸ g:(_/\_)).2
  have ih:=jA o.2.2 gt;rw[Bool.eq_false_iff];intro z;obtain⟨z1,z2,z3⟩:=goOn_iff.mp z;cases ha with
  | head =>
   cases hb with
   | head=>have:=o.2.1;omega
   | tail _ hb =>
    cases t with
    | nil=>cases hb
    | cons m t =>
     have g1:(!bM r m && eV (m :: t))=true:=g;rw[Bool.and_eq_true]at g1;cases hb with
     | head =>
      rw[z]at g1;cases g1.1
     | tail _ hb =>
      have q:bV (r.1+r.2.1) (m :: t) hi:=o.2.2;have:=q.1;have:=q.2.1;have:=(q.2.2.mem hb).1;omega
  | tail _ ha =>
   cases hb with
   | head =>
    have:=o.2.1;have:=o.2.2.mem ha;omega
   | tail _ hb=>rw[ih a ha b hb]at z;cases z
theorem nZ:∀{rs:List S4},(∀a∈rs,∀b∈rs,bM a b=false)->eV rs=true
 | [],_=>rfl
 | [a],_=>rfl
 | a :: b :: t,h=>by
  show(!bM a b && eV (b :: t))=true;rw[h a (List.mem_cons_self ..) b (List.mem_cons_of_mem _ (List.mem_cons_self ..)),nZ fun x hx y hy=>h x (List.mem_cons_of_mem _ hx) y (List.mem_cons_of_mem _ hy)];rfl
theorem ca {r x:S4}{lo hi:Int}(h:x∈d0 lo hi r):x=(bz r.1 lo,c9 (r.1+r.2.1) hi - bz r.1 lo,r.2.2.1,r.2.2.2+bz r.1 lo - r.1)/\bz r.1 lo < c9 (r.1+r.2.1) hi:=by
 unfold d0 at h;split at h
 . next c=>exact⟨List.mem_singleton.mp h,c⟩
 . cases h
theorem iZ (a b:Int):a<=bz a b/\b<=bz a b:=by
 unfold bz;split <;> omega
theorem fR (a b:Int):c9 a b<=a/\c9 a b<=b:=by
 unfold c9;split <;> omega
theorem uv {a b x y:S4}{lo hi lo' hi':Int}(hab:a.1+a.2.1<=b.1\/b.1+b.2.1<=a.1)(g:bM a b=false)(hx:x∈d0 lo hi a)(hy:y∈d0 lo' hi' b):bM x y=false:=by
 obtain⟨rfl,cx⟩:=ca hx;obtain⟨rfl,cy⟩:=ca hy;rw[Bool.eq_false_iff];intro z;obtain⟨z1,z2,z3⟩:=goOn_iff.mp z;simp only at z1 z2 z3;have p1:=iZ a.1 lo;have p2:=iZ b.1 lo';have p3:=fR (a.1+a.2.1) hi;have p4:=fR (b.1+b.2.1) hi';generalize bz a.1 lo=x1 at *;generalize bz b.1 lo'=x2 at *;generalize c9 (a.1+a.2.1) hi=x3 at *;generalize c9 (b.1+b.2.1) hi'=x4 at *;rcases hab with h|h
 . have:bM a b=true:=goOn_iff.mpr ⟨by omega,z2,by omega⟩;rw[g]at this;cases this
 . omega
theorem qA {rs:List S4}{lo hi:Int}(o:bV 0 rs 40)(g:eV rs=true)(h:lo < hi\/hi=40):eV (aC rs 0 lo++aC rs hi 40)=true:=by
 have ga:=jA o g;refine nZ fun x hx y hy=>?_;have self:∀{r:S4},0 < r.2.1->bM r r=false:=fun {r} hr=>by
  rw[Bool.eq_false_iff];intro z;have:=(goOn_iff.mp z).1;omega
 have key:∀{l1 h1 l2 h2:Int} {a b:S4},a∈rs->b∈rs->x∈d0 l1 h1 a->y∈d0 l2 h2 b->(a=b->bM x y=false)->bM x y=false:=fun {l1 h1 l2 h2 a b} ha hb hx hy e=>by
  rcases v4 o ha hb with z|z|z
  . exact e z
  . exact uv (.inl z) (ga a ha b hb) hx hy
  . exact uv (.inr z) (ga a ha b hb) hx hy
 have pos:∀{l1 h1:Int} {a:S4},x∈d0 l1 h1 a->bM x x=false:=fun hx=>by
  obtain⟨rfl,c⟩:=ca hx;exact self (by show 0 < _ - _;omega)
 rcases List.mem_append.mp hx with hx|hx <;> rcases List.mem_append.mp hy with hy|hy <;> obtain⟨a,ha,hx⟩:=List.mem_flatMap.mp hx <;> obtain⟨b,hb,hy⟩:=List.mem_flatMap.mp hy
 . refine key ha hb hx hy fun e=>?_;subst e;have:=(ca hx).1.trans (ca hy).1.symm;subst this;exact pos hx
 . rw[Bool.eq_false_iff];intro z;have z1:=(goOn_iff.mp z).1;obtain⟨rfl,cx⟩:=ca hx;obtain⟨rfl,cy⟩:=ca hy;simp only at z1;have p2:=iZ b.1 hi;have p3:=fR (a.1+a.2.1) lo;have p4:=fR (b.1+b.2.1) 40;omega
 . rw[Bool.eq_false_iff];intro z;have z1:=(goOn_iff.mp z).1;obtain⟨rfl,cx⟩:=ca hx;obtain⟨rfl,cy⟩:=ca hy;simp only at z1;have p1:=iZ a.1 hi;have p2:=fR (a.1+a.2.1) 40;have p3:=fR (b.1+b.2.1) lo;omega
 . refine key ha hb hx hy fun e=>?_;subst e;have:=(ca hx).1.trans (ca hy).1.symm;subst this;exact pos hx
theorem uw {rs:List S4}{lo hi:Int}(o:bV 0 rs 40)(h0:0<=lo)(h1:lo<=hi)(h2:hi<=40):bV 0 (aC rs 0 lo++aC rs hi 40) 40 :=
 iS (cq o h0 (.inl (Int.le_refl _))) (cq (e:=lo) o (by omega) (.inr h1))
theorem ux {rs:List S4}{lo hi:Int}{c:C3}(o:bV 0 rs 40):c∈aQ (aC rs 0 lo++aC rs hi 40)↔c∈aQ rs/\(c.1 < lo\/hi<=c.1):=by
 unfold aQ;rw[List.flatMap_append,List.mem_append];show c∈aQ (aC rs 0 lo)\/c∈aQ (aC rs hi 40)↔_;rw[dv,dv];constructor
 . rintro(⟨h,_,h2⟩ | ⟨h,h1,_⟩)
   . exact⟨h,.inl h2⟩
   . exact⟨h,.inr h1⟩
 . rintro⟨h,z⟩;have b:=eL o h;rcases z with z|z
   . exact .inl ⟨h,b.1,z⟩
   . exact .inr ⟨h,z,b.2⟩
theorem FI.cutA {pc:Int->List Int}{N n m:Nat}{rs:List S4}{os:List Src}(h:FI pc N (n,rs,os))(hm:m<=40):FI pc N (m,aC rs 0 (m:Int)++aC rs 40 40,os.take m++List.replicate (m - os.length) none):=by
 have n40:n<=40:=h.n40;have o40:bV 0 rs 40:=h.ord.up (by show(n:Int)<=40;omega);have es:∀k,eZ (os.take m++List.replicate (m - os.length) none) k=if k < (m:Int)then eZ os k else none:=fun k=>by
  by_cases z:k < 0
  . unfold eZ;rw[if_pos z,if_pos z,if_pos (by omega)]
  obtain⟨j,rfl⟩:=Int.eq_ofNat_of_zero_le (Int.not_lt.mp z);show eZ _ ((j:Nat):Int)=if((j:Nat):Int) < _ then eZ os ((j:Nat):Int)else none
  rw[cH,cH,jz,hX];by_cases y:j < m
  . rw[if_pos y,if_pos (by omega)]
  . rw[if_neg y,if_neg (by omega)]
 refine FI.of (by simp only[List.length_append,List.length_take,List.length_replicate];omega) hm (uw o40 (by omega) (by omega) (Int.le_refl _)) (qA o40 h.ng (.inr rfl)) (fun p s z=>?_) fun k p s=>?_
 . obtain⟨k,hk⟩:=fQ z;rw[es]at hk;split at hk
   . exact h.gs p s (dr hk)
   . cases hk
 . rw[ux o40,es,h.cel];show(eZ os k=some (p,s)/\(k < (m:Int)\/40<=k))↔_;by_cases z:k < (m:Int)
   . rw[if_pos z];exact⟨fun y=>y.1,fun y=>⟨y,.inl z⟩⟩
   . rw[if_neg z];refine⟨fun y=>?_,fun y=>by cases y⟩;have:=(gL y.1).2.1;have hl:os.length=n:=h.len;omega
theorem FI.cutB {pc:Int->List Int}{N n lo hi:Nat}{rs:List S4}{os:List Src}(h:FI pc N (n,rs,os))(h1:lo < hi)(h2:hi<=n):FI pc N (n,aC rs 0 (lo:Int)++aC rs (hi:Int) 40,os.take lo++List.replicate (hi - lo) none++os.drop hi):=by
 have n40:n<=40:=h.n40;have hl:os.length=n:=h.len;have o40:bV 0 rs 40:=h.ord.up (by show(n:Int)<=40;omega);have e:os.take lo++List.replicate (hi - lo) none++os.drop hi=nY os lo (hi - lo) (List.replicate (hi - lo) none):=by
  unfold nY;have:lo+(hi - lo) - os.length=0:=by omega
  rw[this,List.replicate_zero,List.append_nil];have:lo+(hi - lo)=hi:=by omega
  rw[this]
 have hr:(List.replicate (hi - lo) (none:Src)).length=hi - lo:=List.length_replicate ..;rw[e];refine FI.of (by rw[qy hr,hl];omega) n40 (uw o40 (by omega) (by omega) (by omega)) (qA o40 h.ng (.inl (by omega))) (fun p s z=>?_) fun k p s=>?_
 . rcases iY hr z with z|z
   . cases (List.mem_replicate.mp z).2
   . exact h.gs p s z
 . rw[ux o40,iX hr,h.cel];show(eZ os k=some (p,s)/\(k < (lo:Int)\/(hi:Int)<=k))↔_;by_cases z:(lo:Int)<=k/\k < (lo:Int)+((hi - lo:Nat):Int)
   . rw[if_pos z];refine⟨fun y=>by omega,fun y=>?_⟩;cases (List.mem_replicate.mp (dr y)).2
   . rw[if_neg z];exact⟨fun y=>y.1,fun y=>⟨y,by omega⟩⟩
end L2
namespace L2
open PySem PySem.Spec PyProof.Rows PySem.W
def jR (l:List Str):Prop:=l.Pairwise fun a b=>a.cps.toList<=b.cps.toList
theorem yr:∀{l:List Str},sortedS l=true->jR l
 | [],_=>List.Pairwise.nil
 | x :: r,h=>by
  have go:∀(r:List Str) (p:Str),risingS p r=true->(∀y∈r,p.cps.toList<=y.cps.toList)/\jR r:=by
   intro r
   induction r with
   | nil=>intro p _;exact⟨(fun Fc z=>by cases z),List.Pairwise.nil⟩
   | cons y r ih =>
    intro p hp;have hp':(!ltCps y.cps.toList p.cps.toList && risingS y r)=true:=hp;rw[Bool.and_eq_true,ltCps_eq]at hp';obtain⟨h1,h2⟩:=hp';have h1':p.cps.toList<=y.cps.toList:=by
     have:¬ y.cps.toList < p.cps.toList:=fun z=>by rw[decide_eq_true z]at h1;cases h1
     exact List.not_lt.mp this
    obtain⟨i1,i2⟩:=ih y h2;refine⟨fun z hz=>?_,List.pairwise_cons.mpr ⟨i1,i2⟩⟩;rcases List.mem_cons.mp hz with rfl|hz
    . exact h1'
    . exact List.le_trans h1' (i1 z hz)
  obtain⟨h1,h2⟩:=go r x h;exact List.pairwise_cons.mpr ⟨h1,h2⟩
theorem n0 {a b:Str}(h:a.cps.toList=b.cps.toList):a=b:=by
 cases a;cases b;simp only[Str.mk.injEq];exact Array.toList_inj.mp h
theorem uy {a b:List Str}(ha:jR a)(hb:jR b)(hp:a.Perm b):a=b :=
 List.Perm.eq_of_pairwise (fun x y Fc Fc h1 h2=>n0 (List.le_antisymm h1 h2)) ha hb hp
section
variable {X:Cx}
theorem jS (hc:X.calm=true):cT X (.builtin "sorted") (fun xs H Q=>∃(a:Addr) (kvs:List (Key×V)) (ss:List Str),xs=[V.ref a]/\Rd H a (.dK kvs)/\kvs.map (·.1)=ss.map Sum.inr/\ss.length < 64 /\
 ∀(l:Addr) (zs:List Str),zs.Perm ss->jR zs->H l=none->Q (.ref l) (aL H l (.lst (zs.map V.str)))):=by
 intro pins s σ H xs us Q I r h;obtain⟨a,kvs,ns,rfl,ha,hk,h64,q⟩:=h;obtain⟨u,rfl,ru⟩:=gy r;cases ru;obtain⟨z,hd,vs,rel,dd⟩:=ir I.hok ha;obtain⟨ep,da⟩:=dd.dictAt;have hz:vs.length<=sizeLine:=by rw[<- rel.length];exact z
 refine Calls.call_function_entry kind_sorted plain_sorted entry_sorted (args_sorted1 (.ref a)) ?_;unfold Builtin.«sorted»;refine wpAny_bind (m:=checkCount "sorted" 1 1 _) (wpAny_pure (wpAny_bind (tT (kdl_dict hd) (I.ok.hd hc) da hz fun h1 tk acc kp lt0 it=>?_)));have big:=Nat.le_of_lt lt0;have rv:aN (kvs.map fun p=>kV p.1) acc.toList:=kB (P:=X.prog) (w:=X.w) rel (by rw[<- it.1];simp) fun j v hj=>it.2 j v (by simpa using hj);have em:(kvs.map fun p=>kV p.1)=ns.map V.str:=by
  have e2:(kvs.map (·.1)).map kV=(ns.map Sum.inr).map kV:=by rw[hk]
  rw[List.map_map,List.map_map]at e2;exact e2
 rw[em]at rv;have hl:acc.toList.length=ns.length:=by
  have:=rv.length;rw[List.length_map]at this;exact this.symm
 have hL:(h1.push (seqObj "list" acc.toList.toArray 0)).get? h1.objs.size=some (seqObj "list" acc.toList.toArray 0):=Heap.get?_push_size _ rfl;refine wpAny_bind (wpAny_newList ?_);have hn:=I.hok.fresh big;have hS:StrsAre acc.toList ns:=je (by simpa using rv);refine wpAny_bind (wpAny_holding (wpAny_call_entry slot_list_sort ⟨_,hL,rfl⟩ entry_list_sort (list_sort_treeK strKind_oneLt hL hS.keysOf (fun v₁ v₂ rest e=>keyKind_strs (by rw[<- e];exact hS)) (by rw[hl];exact h64) fun st' hp hs=>⟨_,rfl,?_⟩) (args_list_sort _)));obtain⟨ms,a1,a2,a3⟩:=sorted_out_str hS hp hs;generalize (arrOf st').map (·.2)=out at a1 ⊢;refine wpAny_pure ⟨_,rfl,?_⟩;obtain⟨e,he⟩:=sortedHeap_at (out:=out) hL;refine⟨.ref h1.objs.size,_,I.laid (a:=h1.objs.size) (o:=.lst (ms.map V.str)) (t':=tk) (fun b o z=>?_) big ?_,rfl,q _ ms a2 (yr a3) hn⟩
 . have hb:=kp b o z;have lt:=Heap.lt_size hb;rw[sortedHeap_old (Nat.ne_of_lt lt) (by rw[Heap.size_push];exact Nat.lt_succ_of_lt lt)];exact Heap.get?_push_of_some _ hb
 . refine⟨?_,out.toList,e,qw a1,?_⟩
   . rw[List.length_map,a2.length_eq];exact Nat.le_of_lt (bg (by omega))
   . rw[he]
end
end L2
namespace K41
open PySem L2 PyProof.Rows
def ce (i:Nat):Stmt:=PySem.Challenge.pw_clonewood_k41_cells_put_hollowed_and_sha.main.body.getD i (.Pass ⟨0,0,0,0⟩)
abbrev sh:Stmt:=ce 14
abbrev si:Stmt:=ce 15
abbrev v5:Stmt:=ce 16
abbrev v8:Stmt:=ce 17
abbrev v9:Stmt:=ce 26
abbrev wa:Stmt:=ce 27
abbrev sj:Stmt:=ce 28
abbrev Bn:Stmt:=ce 29
abbrev wb:Stmt:=ce 30
abbrev wc:Stmt:=ce 31
abbrev we:Stmt:=ce 32
abbrev wf:Stmt:=ce 33
abbrev sk:Stmt:=ce 34
abbrev wg:Stmt:=ce 35
abbrev wj:Stmt:=ce 36
abbrev yt:Stmt:=aV (ce 40) 0
abbrev yu:Stmt:=aV (ce 41) 0
abbrev uz:Stmt:=aV (ce 41) 2
abbrev yw:Stmt:=aV (ce 41) 3
abbrev yx:Stmt:=aV (ce 42) 0
abbrev uA:Stmt:=aV (ce 42) 2
abbrev yy:Stmt:=aV (ce 42) 3
abbrev yz:Stmt:=aV (ce 43) 0
abbrev uB:Stmt:=aV (ce 43) 2
abbrev wk:Stmt:=aV (ce 43) 3
abbrev uC:Stmt:=aV (ce 43) 5
abbrev wl:Stmt:=aV (ce 43) 6
abbrev wm:Stmt:=aV (ce 43) 9
abbrev wo:Stmt:=ce 44
abbrev wp:Stmt:=ce 45
abbrev wq:Stmt:=ce 47
abbrev wt:Stmt:=ce 48
abbrev oa:Stmt:=ce 51
abbrev so:Stmt:=ce 52
abbrev wu:Stmt:=ce 53
abbrev uD:Stmt:=ce 54
abbrev yA:Stmt:=aV (ce 55) 0
abbrev uE:Stmt:=aV (ce 55) 4
abbrev wv:Stmt:=aV (ce 55) 5
abbrev ww:Stmt:=aV (ce 55) 6
abbrev wx:Stmt:=aV (ce 55) 7
abbrev wy:Stmt:=aV (ce 55) 8
abbrev fC:Stmt:=aV (ce 55) 12
abbrev wz:Stmt:=aV (ce 55) 13
abbrev l9:Stmt:=aV (ce 55) 15
abbrev ma:Stmt:=aV (ce 55) 16
abbrev wA:Stmt:=aV (ce 55) 17
abbrev og:Stmt:=aV (ce 55) 18
abbrev wB:Stmt:=aV (ce 55) 19
abbrev uF:Stmt:=aV (ce 55) 20
abbrev uG:Stmt:=aV (ce 55) 21
abbrev uH:Stmt:=aV (ce 55) 22
abbrev sq:Stmt:=aV (ce 55) 23
abbrev uI:Stmt:=aV (ce 55) 25
abbrev pS:Stmt:=aV (ce 55) 26
abbrev wC:Stmt:=ce 57
abbrev pT:Stmt:=ce 58
abbrev wE:Stmt:=ce 59
abbrev wF:Stmt:=ce 60
abbrev wG:Stmt:=ce 61
abbrev wH:Stmt:=ce 62
abbrev uJ:Stmt:=ce 63
abbrev wI:Stmt:=ce 64
abbrev wJ:Stmt:=ce 65
abbrev uK:Stmt:=ce 66
abbrev uL:Stmt:=ce 67
abbrev pU:Stmt:=ce 68
abbrev sr:Stmt:=ce 69
structure Txt (mg:Str->Option Value):Prop where
 isi:mg "isinstance" = none
 int:mg "int" = none
 bol:mg "bool" = none
 str:mg "str" = none
 len:mg "len" = none
 rng:mg "range" = none
 tup:mg "tuple" = none
 lst:mg "list" = none
 min:mg "min" = none
 max:mg "max" = none
 srt:mg "sorted" = none
 set:mg "set" = none
 all:mg "all" = none
 sig:∃t,mg "SIGNS" = some (.str sigS t)
 mos:∃t,mg "MOST_SIGNS" = some (.int 8 t)
 mon:∃t,mg "MOST_NAMES" = some (.int 6 t)
 mc:∃t,mg "MOST_CELLS" = some (.int 40 t)
 pc8:∃t,mg "PIECE_CELLS" = some (.int 8 t)
 mol:∃t,mg "MOST_CELL" = some (.int 999999 t)
 moe:∃t,mg "MOST_ENTRIES" = some (.int 8 t)
 fnw:∃t,mg "FIRST_NEW" = some (.int 1000 t)
 at0:∃t,mg "AT" = some (.int 0 t)
 lg:∃t,mg "LONG" = some (.int 1 t)
 pl2:∃t,mg "PLACE" = some (.int 2 t)
 sk3:∃t,mg "SKIP" = some (.int 3 t)
end K41
namespace K41
open PySem L2
mutual
def sm:Tr->Bool
 | .str z=>decide (z.length<=100)
 | .tup l=>decide (l.length<=100) && CY l
 | .lst l=>decide (l.length<=100) && CY l
 | _=>true
def CY:List Tr->Bool
 | []=>true
 | t :: ts=>sm t && CY ts
end
theorem mf (xs:List V)(n:Nat):dR xs none (some (n:Int))=xs.take n:=by
 unfold dR;rw[HT.mR,HT.dI,Nat.sub_zero,List.drop_zero,<- List.take_eq_take_min]
section
variable {P:Program}{w:World}{K:W.Frag}{mg:Str->Option Value}{base:Heap}{f fWho fWth fMix:Addr}{fd dWho dWth dMix:FuncData}
theorem Bo:aq DF DF (ai sh):=⟨rfl,rfl,rfl,by decide +kernel,rfl,by decide +kernel,by decide +kernel⟩
theorem yB (F:bN K "is_whole" "is_whole" sh f fd)(T:Txt mg):aj P w K mg base ay 1 f fd DF spWho0:=by
 refine F.ok Bo (fun vs H Q E h=>?_) (fun cdv A outer s H vs Q E hr h=>?_)
 . obtain⟨x,rfl,_⟩:=h;rfl
 obtain⟨x,rfl,hT,q⟩:=h;obtain⟨t,ty,k1,k2⟩:=hT.ty (K:=K);refine⟨_,(af (aw (oJ (aF cU rfl T.isi PyProof.Rows.boot_isinstance (pc (pv 0) (pc (gu (v:=.ty "int") rfl T.int PyProof.Rows.boot_int rfl) ac))) (oI (xN (aF cU rfl T.isi PyProof.Rows.boot_isinstance (pc (pv 0) (pc (gu (v:=.ty "bool") rfl T.bol PyProof.Rows.boot_bool rfl) ac)))))))),?_⟩;refine⟨_,rfl,x,"int",t,yc x,rfl,ty,k1,_,rfl,?_⟩;unfold AR at q;refine dl (fun c=>?_) (fun c=>?_)
 . refine⟨_,rfl,x,"bool",t,yd x,rfl,ty,k2,_,rfl,?_⟩;rw[c]at q;exact q
 . rw[Bool.not_eq_true]at c;rw[c]at q;exact q
theorem Bp:aq DP DP (ai si):=⟨rfl,rfl,rfl,by decide +kernel,rfl,by decide +kernel,by decide +kernel⟩
theorem yC (F:bN K "is_within" "is_within" si f fd){fW:Addr}{dW:FuncData}(hWho:bG K mg "is_whole" sh DF fW dW)(GWho:aj P w K mg base ay 1 fW dW DF spWho0):aj P w K mg base ay 2 f fd DP spWth0:=by
 refine F.ok Bp (fun vs H Q E h=>?_) (fun cdv A outer s H vs Q E hr h=>?_)
 . obtain⟨x,l,h,rfl,_⟩:=h;rfl
 obtain⟨x,l,h,rfl,hT,q⟩:=h;refine⟨_,(af (aw (oJ (ar GWho (hr.mono (by decide)) rfl hWho.nm hWho.fn.kp hWho.bd .nil ao (pc (pv 0) ac)) (oI (tw jZ jZ (pv 1) (pv 0) (pv 2)))))),?_⟩;refine⟨_,rfl,x,rfl,hT,_,rfl,?_⟩;rcases hT with⟨n,rfl⟩|⟨z,rfl⟩|⟨b,rfl⟩|rfl|⟨a,z,rfl,_⟩|⟨a,z,rfl,_⟩|⟨a,z,rfl,_⟩
 . refine c6 ?_;refine⟨_,rfl,_,rfl,_,_,rfl,rfl,_,rfl,?_⟩;have q':Q (.bl (decide (l<=n) && decide (n<=h))) H:=q;refine dl (fun c=>?_) (fun c=>?_)
   . rw[c]at q';exact⟨_,rfl,_,_,rfl,rfl,q'⟩
   . rw[Bool.not_eq_true]at c;rw[c]at q';exact q'
 all_goals exact br q
def spWrd:Sp:=fun vs H Q Fc=>∃x t,vs=[x]/\At H t x/\sm t=true/\∀H',aE H H'->Q (.bl (nJ t)) H'
theorem Bq:aq DF DF (ai v5):=⟨rfl,rfl,rfl,by decide +kernel,rfl,by decide +kernel,by decide +kernel⟩
theorem yD (F:bN K "is_word" "is_word" v5 f fd)(T:Txt mg):aj P w K mg base ay 1 f fd DF spWrd:=by
 refine F.ok Bq (fun vs H Q E h=>?_) (fun cdv A outer s H vs Q E hr h=>?_)
 . obtain⟨x,t,rfl,_⟩:=h;rfl
 obtain⟨x,t,rfl,hx,hs,q⟩:=h;obtain⟨ty,ht,_,k3,_⟩:=hx.ty (K:=K);obtain⟨t1,sig⟩:=T.sig;obtain⟨t2,mos⟩:=T.mos;refine⟨_,(ad (aZ (PW.pt (dG (c0 (dM (aF cU rfl T.isi PyProof.Rows.boot_isinstance (pc (pv 0) (pc (gu (v:=.ty "str") rfl T.str PyProof.Rows.boot_str rfl) ac))))) (cZ (c0 (mN jZ jZ ae (aF lH rfl T.len PySem.boot_len (pc (pv 0) ac)) (aX (v:=.int 8) rfl mos ⟨_,rfl⟩))))))
  (af (aw fY))
  aM)
  (af (aw (aF (jh hr.hd) rfl T.all PyProof.Rows.boot_all (pc (cW [] [] (xZ (pv 0)) (fun Fc Fc Fc Fc Fc Fc=>cD)
        (fun Fc Fc Fc Fc Fc Fc=>(lq q9 (pv 0) (aX (v:=.str sigS) rfl sig ⟨_,rfl⟩) rfl))
        rfl (by decide +kernel) (by decide +kernel) rfl (by decide +kernel) (fun Fc Fc z=>nomatch z) rfl (by decide +kernel) rfl) ac))))),?_⟩
 refine⟨_,rfl,x,"str",ty,pM t,rfl,ht,k3,_,rfl,?_⟩;cases e:pM t with
 | false =>
  have:nJ t=false:=by cases t <;> first | rfl | cases e
  rw[this]at q;exact c6 (c6 (q H (aE.refl H)))
 | true =>
  cases t with
  | str z =>
   have ex:x = .str z:=by unfold At at hx;exact hx
   subst ex;have hz:z.length<=100:=by unfold sm at hs;exact of_decide_eq_true hs
   refine br ?_;refine⟨_,rfl,z,rfl,Nat.le_of_lt (bg (by omega)),_,_,rfl,rfl,_,rfl,?_⟩;refine dl (fun c=>?_) (fun c=>?_)
   . have c1:(1:Int)<=(z.length:Int):=of_decide_eq_true c;refine⟨_,_,rfl,rfl,_,rfl,?_⟩;refine dl (fun d=>?_) (fun d=>?_)
     . have d1:¬ (z.length:Int)<=8:=fun e=>by rw[decide_eq_true e]at d;cases d
       have e:nJ (.str z)=false:=qx (by omega);rw[e]at q;exact q H (aE.refl H)
     . have d1:(z.length:Int)<=8:=by
        by_cases e:(z.length:Int)<=8
        . exact e
        . rw[decide_eq_false e]at d;exact absurd rfl d
       refine⟨_,rfl,z,rfl,fun p hp=>fN z.length (fun i ys H2=>ys=(z.cps.toList.take i).map (fun c=>V.bl (okc c))/\H2=aL H p (.lst ys)) ⟨rfl,rfl⟩ ?_ ?_⟩
       . rintro i ys H2 hi ⟨rfl,rfl⟩;refine⟨hi,?_⟩;rintro v H3 ⟨rfl,c',hc',rfl⟩;refine tM ?_;refine⟨_,rfl,_,_,rfl,rfl,aa,?_,?_,vz⟩
         . rw[List.length_map,List.length_take,g8];exact bg (by omega)
         . rw[yi];exact(g7 (fun c=>V.bl (okc c)) (tP hc')).symm
       . rintro ys H2 ⟨rfl,rfl⟩;have e:(z.cps.toList.take z.length)=z.cps.toList:=List.take_of_length_le (by rw[g8];exact Nat.le_refl _);refine⟨Nat.le_refl _,p,z.cps.toList.map okc,rfl,bh.of ?_,?_⟩
         . rw[aa,e,List.map_map];rfl
         . have e2:nJ (.str z)=(z.cps.toList.map okc).all id:=by
            rw[List.all_map];exact vV (by omega)
           rw[<- e2];exact q _ (ah hp _)
   . have c1:¬ (1:Int)<=(z.length:Int):=fun e=>c (decide_eq_true e);have e:nJ (.str z)=false:=qx (by omega);rw[e]at q;exact⟨_,rfl,c6 (q H (aE.refl H))⟩
  | _=>cases e
def spCll:Sp:=fun vs H Q Fc=>∃x t,vs=[x]/\At H t x/\Q (.bl (rR t 0 999999)) H
theorem Br:aq DF DF (ai wo):=⟨rfl,rfl,rfl,by decide +kernel,rfl,by decide +kernel,by decide +kernel⟩
theorem yE (F:bN K "is_cell" "is_cell" wo f fd)(hWth:bG K mg "is_within" si DP fWth dWth)(GWth:aj P w K mg base ay 2 fWth dWth DP spWth0)(T:Txt mg):aj P w K mg base ay 3 f fd DF spCll:=by
 refine F.ok Br (fun vs H Q E h=>?_) (fun cdv A outer s H vs Q E hr h=>?_)
 . obtain⟨x,t,rfl,_⟩:=h;rfl
 obtain⟨x,t,rfl,hx,q⟩:=h;obtain⟨t1,mol⟩:=T.mol;refine⟨_,(af (aw (ar GWth (hr.mono (by decide)) rfl hWth.nm hWth.fn.kp hWth.bd .nil ao (pc (pv 0) (pc ae (pc (aX (v:=.int 999999) rfl mol ⟨_,rfl⟩) ac)))))),?_⟩;rw[<- hx.wth]at q;exact⟨_,rfl,x,0,999999,rfl,hx.ty0,q⟩
def uM (K:W.Frag):Sp:=fun vs H Q Fc=>∃(a:Addr) (ns:List Int) (k:Int),vs=[.ref a,.int k]/\0<=k/\bh K H a (ns.map V.int)/\∀z:Int,Q (.int z) H
theorem Bs:aq D7 D7 (ai wC):=⟨rfl,rfl,rfl,by decide +kernel,rfl,by decide +kernel,by decide +kernel⟩
theorem yF (F:bN K "_law_at" "_law_at" wC f fd)(T:Txt mg):aj P w K mg base ay 1 f fd D7 (uM K):=by
 refine F.ok Bs (fun vs H Q E h=>?_) (fun cdv A outer s H vs Q E hr h=>?_)
 . obtain⟨a,ns,k,rfl,_⟩:=h;rfl
 obtain⟨a,ns,k,rfl,h0,hS,q⟩:=h;refine⟨_,(ad (aZ (aB jY (pv 1) (aF aO rfl T.len PySem.boot_len (pc (pv 0) ac)) (aH _))
  (af (aw (au cQ (pv 0) (pv 1) (fun Fc Fc=>rfl))))
  aM)
  (af (aw ae))),?_⟩
 refine⟨_,rfl,_,rfl,a,_,rfl,.inl hS,_,_,rfl,rfl,_,rfl,?_⟩;refine dl (fun c=>?_) (fun c=>?_)
 . have c':k < (((ns.map V.int).length:Nat):Int):=of_decide_eq_true c;rw[List.length_map]at c';obtain⟨j,rfl⟩:=Int.eq_ofNat_of_zero_le h0;have hk:j < ns.length:=by omega
   exact⟨_,rfl,_,rfl,a,_,_,.int ns[j],rfl,rfl,hS,aP (by simp[hk]),q _⟩
 . exact q 0
def Cm:Nat->Int->Int
 | 0,z=>z
 | n+1,z=>Cm n z / 1000003
def cX (c k:Int):Int:=if c % 2=1/\2147483647 < c then Cm k.toNat (c / 2) % 1000003 else
 let n:=(c % 1000003+31 * k+7) * (c % 65537+7919 * k+11) % 2147483629
 n * n % 2147483587
def spMix:Sp:=fun vs H Q Fc=>∃(c k:Int),vs=[.int c,.int k]/\0<=k/\k<=1000/\(0<=cX c k->Q (.int (cX c k)) H)
theorem oh:aq ["_law_cell","_law_k","_law_rest","_law_j","_law_number"] DO (ai pT):=⟨rfl,rfl,rfl,by decide +kernel,rfl,by decide +kernel,by decide +kernel⟩
theorem yG (F:bN K "_law_mix" "_law_mix" pT f fd)(T:Txt mg):aj P w K mg base ay 1 f fd DO spMix:=by
 refine F.ok oh (fun vs H Q E h=>?_) (fun cdv A outer s H vs Q E hr h=>?_)
 . obtain⟨c,k,rfl,_⟩:=h;rfl
 obtain⟨c,k,rfl,k0,k1,q⟩:=h;refine⟨_,(ad (aZ (PW.pt (fh (aB bW (ax bt (pv 0) ae) ae (aH _)) (eB (aB mM (pv 0) ae (aH _)))))
  (ad (aA (i:=2) oh.nd rfl (Or.inl rfl) (ax qi (pv 0) ae))
  (ad (ck PassesOwn.never rfl (dQ rfl T.rng (pc (pv 1) ac)) (aJ (i:=3) oh.nd rfl (Or.inl rfl))
  (af (aA (i:=2) oh.nd rfl (Or.inl rfl) (ax qi (pv 2) ae))))
  (af (aw (ax bt (pv 2) ae)))))
  aM)
  (ad (aA (i:=4) oh.nd rfl (Or.inl rfl) (ax bt (ax gU (ax a6 (ax a6 (ax bt (pv 0) ae) (ax gU ae (pv 1))) ae) (ax a6 (ax a6 (ax bt (pv 0) ae) (ax gU ae (pv 1))) ae)) ae))
  (af (aw (ax bt (ax gU (pv 4) (pv 4)) ae))))),?_⟩
 refine⟨_,rfl,_,_,rfl,rfl,(by show(0:Int) < 2;decide),rfl,_,rfl,dl (fun c1=>?A) (fun c1=>br ?B1)⟩
 case' A =>
  have d1:c % 2=1:=by have:=of_decide_eq_true c1;injection this
  refine⟨_,rfl,_,_,rfl,rfl,_,rfl,dl (fun c2=>?C) (fun c2=>?B2)⟩
 case C =>
  have d2:2147483647 < c:=of_decide_eq_true c2;have em:cX c k=Cm k.toNat (c / 2) % 1000003:=if_pos ⟨d1,d2⟩;rw[em]at q;refine⟨_,rfl,_,_,rfl,rfl,⟨by decide,by decide⟩,?_⟩;refine⟨_,rfl,k,rfl,by omega,by omega,?_⟩;refine gT (lo:=0) (n:=k.toNat) (fun j σ H2=>∃(o:Option V),σ=[some (.int c),some (.int k),some (.int (Cm j (c / 2))),o,none]/\H2=H) ⟨_,rfl,rfl⟩ ?_ ?_
  . rintro j σ H2 hj ⟨o,rfl,rfl⟩;exact⟨_,rfl,_,_,rfl,rfl,⟨by decide,by decide⟩,_,rfl,rfl⟩
  . rintro σ H2 ⟨o,rfl,rfl⟩;exact⟨_,rfl,_,_,rfl,rfl,(by show(0:Int) < 1000003;decide),q (by omega)⟩
 case B1 | B2 =>
  have em:cX c k=((c % 1000003+31 * k+7) * (c % 65537+7919 * k+11) % 2147483629) * ((c % 1000003+31 * k+7) * (c % 65537+7919 * k+11) % 2147483629) % 2147483587:=by
   refine if_neg fun h=>?_
   first | exact c1 (decide_eq_true (by show V.int (c % 2)=V.int 1;rw[h.1])) | exact c2 (decide_eq_true h.2)
  rw[em]at q;refine⟨_,rfl,_,_,rfl,rfl,(by show(0:Int) < 1000003;decide),_,rfl,_,_,rfl,rfl,.inl ⟨by decide,by decide⟩,_,_,rfl,rfl,_,_,rfl,rfl,_,rfl,_,_,rfl,rfl,(by show(0:Int) < 65537;decide),_,rfl,_,_,rfl,rfl,.inl ⟨by decide,by decide⟩,_,_,rfl,rfl,_,_,rfl,rfl,_,_,rfl,rfl,.inl ⟨by omega,by omega⟩,_,_,rfl,rfl,(by show(0:Int) < 2147483629;decide),?_⟩;have b0:=Int.emod_nonneg ((c % 1000003+31 * k+7) * (c % 65537+7919 * k+11)) (show(2147483629:Int)≠0 by decide);have b1:=Int.emod_lt_of_pos ((c % 1000003+31 * k+7) * (c % 65537+7919 * k+11)) (show(0:Int) < 2147483629 by decide);revert q;dsimp only;generalize (c % 1000003+31 * k+7) * (c % 65537+7919 * k+11) % 2147483629=n2 at b0 b1;intro q;exact⟨_,rfl,_,rfl,_,_,rfl,rfl,.inl ⟨by omega,by omega⟩,_,_,rfl,rfl,(by show(0:Int) < 2147483587;decide),q (Int.emod_nonneg _ (by decide))⟩
end
def sgL:List Nat:=[97,98,99,100,101,102,103,104,105,106,107,108,109,110,111,112,113,114,115,116,117,118,119,120,121,122,48,49,50,51,52,53,54,55,56,57]
def yH (i:Nat):Nat:=sgL.getD i 0
theorem xm:∀i:Nat,i < 36->okc (yH i)=true:=by decide +kernel
def sgS:Str:=Str.ofString "abcdefghijklmnopqrstuvwxyz0123456789"
theorem su:sgS.cps.toList=sgL:=by decide +kernel
theorem xn (i:Int)(h0:0<=i)(h1:i < 36):qp sgS.cps.toList i=some (yH i.toNat):=by
 rw[su];have e:i=((i.toNat:Nat):Int):=by omega
 rw[e];refine aP ?_;unfold yH;rw[Int.toNat_natCast,List.getD_eq_getElem?_getD];have:i.toNat < sgL.length:=by
  show i.toNat < 36;omega
 rw[List.getElem?_eq_getElem this];rfl
def fD (c:Nat):Str:=⟨#[c]⟩
theorem kN:∀(l:List Str) (acc:Array Nat),(l.foldl (fun a p=>a++(Str.ofString "").cps++p.cps) acc).toList=acc.toList++(l.map (·.cps.toList)).flatten
 | [],acc=>by simp
 | x :: l,acc=>by
  have e:(Str.ofString "").cps = #[]:=by decide +kernel
  rw[List.foldl_cons,kN l];simp[e]
theorem pV (l:List Str):(Txt.join (Str.ofString "") l).cps.toList=(l.map (·.cps.toList)).flatten:=by
 cases l with
 | nil=>decide +kernel
 | cons x l =>
  show((List.foldl (fun a p=>a++(Str.ofString "").cps++p.cps) x.cps l)).toList=_;rw[kN];rfl
theorem dw:∀cs:List Nat,(Txt.join (Str.ofString "") (cs.map fD)).cps.toList=cs:=fun cs=>by
 rw[pV,List.map_map]
 induction cs with
 | nil=>rfl
 | cons c cs ih =>
  show [c]++((cs.map _).flatten)=c :: cs;rw[ih];rfl
theorem kO (z:Str):z.length=z.cps.toList.length:=by
 rw[g8]
theorem hZ (a b:Str):(a++b).cps.toList=a.cps.toList++b.cps.toList:=by
 show(a.cps++b.cps).toList=_;rw[Array.toList_append]
theorem oi {lo:Int}{n:Nat}{p:Addr}{tt:TT}{te:TE}{cs:St}{Q:VK}{H1:Hp}(Pv:Nat->List V->Hp->Prop)(h0:Pv 0 [] (aL H1 p (.lst [])))
 (hs:∀i ys H,i < n->Pv i ys H->tt (some (.int (lo+i)) :: cs) H fun b H4=>if b=true then te (some (.int (lo+i)) :: cs) H4 fun y H5=>H5 p=some (.lst ys)/\ys.length < sizeLine/\Pv (i+1) (ys++[y]) (aL H5 p (.lst (ys++[y])))else Pv (i+1) ys H4)
 (hd:∀ys H,Pv n ys H->Q (.ref p) H):ft (xS lo n) p tt te cs Q H1:=by
 refine fN n Pv h0 ?_ ?_
 . intro i ys H hi pv;refine⟨hi,fun v H3 y=>?_⟩;obtain⟨rfl,rfl⟩:=y;exact hs i ys _ hi pv
 . intro ys H pv;exact⟨Nat.le_refl _,hd ys H pv⟩
theorem uN:∀l:List Nat,((l.map fD).map (·.length)).sum=l.length:=fun l=>by
 induction l with
 | nil=>rfl
 | cons c l ih =>
  show 1+((l.map fD).map (·.length)).sum=l.length+1;rw[ih,Nat.add_comm]
theorem wK (xs:List V)(a b:Nat)(ha:a<=xs.length)(hb:b<=xs.length):dR xs (some (a:Int)) (some (b:Int))=(xs.drop a).take (b - a):=by
 unfold dR;rw[HT.dI,HT.dI,Nat.min_eq_left ha,Nat.min_eq_left hb]
theorem kP {z:Str}(h1:1<=z.cps.toList.length)(h8:z.cps.toList.length<=8)(h:∀c∈z.cps.toList,okc c=true):gI z=true:=by
 unfold gI;rw[kO,decide_eq_true h1,decide_eq_true h8,List.all_eq_true.mpr h];rfl
section
variable {P:Program}{w:World}{K:W.Frag}{mg:Str->Option Value}{base:Heap}{f fWho fWth fMix:Addr}{fd dWho dWth dMix:FuncData}
def spWds:Sp:=fun vs H Q Fc=>∃(c many:Int),vs=[.int c,.int many]/\0<=many/\many<=100/\∀p H' (zs:List Str),aE H H'->H' p=some (.lst (zs.map V.str))->(zs.length:Int)=many->(∀z∈zs,gI z=true)->Q (.ref p) H'
theorem fF:aq ["_law_cell","_law_many","_law_signs","_law_some","_law_size","_law_at_here","_law_words_here","_law_k","_law_sign","_law_word"] Ef (ai wE):=⟨rfl,rfl,rfl,by decide +kernel,rfl,by decide +kernel,by decide +kernel⟩
theorem yI (F:bN K "_law_words" "_law_words" wE f fd)(hMix:bG K mg "_law_mix" pT DO fMix dMix)(GMix:aj P w K mg base ay 1 fMix dMix DO spMix)(T:Txt mg):aj P w K mg base ay 2 f fd Ef spWds:=by
 refine F.ok fF (fun vs H Q E h=>?_) (fun cdv A outer s H vs Q E hr h=>?_)
 . obtain⟨c,many,rfl,_⟩:=h;rfl
 obtain⟨c,many,rfl,m0,m1,q⟩:=h;refine⟨_,(ad (aA (i:=2) fF.nd rfl (Or.inr rfl) a5)
  (ad (jv (i:=3) fF.nd rfl rfl [0,2] ["_law_cell","_law_signs"] (dQ rfl T.rng (pc ae ac)) (fun Fc Fc Fc Fc Fc Fc=>cD)
        (fun Fc Fc Fc Fc Fc Fc=>(au tI (pv 2) (ax bt (ar GMix (hr.mono (by decide)) rfl hMix.nm hMix.fn.kp hMix.bd .nil ao (pc (pv 1) (pc (ax a6 ae (pv 0)) ac))) ae) (fun Fc Fc=>rfl)))
        rfl (by decide +kernel) (by decide +kernel) rfl (by decide +kernel) (fun j y hj=>by
         match j,hj with
         | 0,hj=>cases hj;exact⟨0,rfl,rfl,rfl,.inl rfl⟩
         | 1,hj=>cases hj;exact⟨2,rfl,rfl,rfl,.inl rfl⟩) rfl (by decide +kernel) rfl)
  (ad (aA (i:=4) fF.nd rfl (Or.inl rfl) (ax a6 ae (ax bt (ar GMix (hr.mono (by decide)) rfl hMix.nm hMix.fn.kp hMix.bd .nil ao (pc (pv 0) (pc ae ac))) ae)))
  (ad (aA (i:=5) fF.nd rfl (Or.inl rfl) (ax bt (ar GMix (hr.mono (by decide)) rfl hMix.nm hMix.fn.kp hMix.bd .nil ao (pc (pv 0) (pc ae ac))) (pv 4)))
  (ad (aA (i:=6) fF.nd rfl (Or.inl rfl) (bR ac))
  (ad (ck PassesOwn.never rfl (dQ rfl T.rng (pc (pv 1) ac)) (aJ (i:=7) fF.nd rfl (Or.inl rfl))
  (ad (aA (i:=8) fF.nd rfl (Or.inl rfl) (au tI (pv 2) (ax bt (ax a6 (ar GMix (hr.mono (by decide)) rfl hMix.nm hMix.fn.kp hMix.bd .nil ao (pc (pv 0) (pc ae ac))) (ax gU ae (pv 7))) ae) (fun Fc Fc=>rfl)))
  (ad (aA (i:=9) fF.nd rfl (Or.inl rfl) (ax jc (io PySem.F.plainAttrs_str PySem.F.slot_str_join PySem.F.type_str_join lM a5 (pc (bX cA (pv 3) eG (bJ (pv 5))) ac)) (pv 8)))
  (ad (aA (i:=9) fF.nd rfl (Or.inl rfl) (ax jc (pv 9) (io PySem.F.plainAttrs_str PySem.F.slot_str_join PySem.F.type_str_join lM a5 (pc (bX cA (pv 3) (bJ (ax a6 (pv 5) ae)) (bJ (pv 4))) ac))))
  (ad (aZ (PW.pt (fh (aB bW (ax bt (ar GMix (hr.mono (by decide)) rfl hMix.nm hMix.fn.kp hMix.bd .nil ao (pc (pv 0) (pc ae ac))) ae) ae (aH _)) (eB (aB jY (pv 7) ae (aH _)))))
  (af (aA (i:=9) fF.nd rfl (Or.inl rfl) (io PySem.F.plainAttrs_str PySem.F.slot_str_join PySem.F.type_str_join lM a5 (pc (bX cA (pv 3) eG (bJ (ax a6 (pv 7) ae))) ac))))
  aM)
  (af (aS (io PySem.F.plainAttrs_list PySem.F.slot_list_append PySem.F.type_list_append dS (pv 6) (pc (pv 9) ac)))))))))
  (af (aw (pv 6))))))))),?_⟩
 refine⟨8,rfl,by decide,by decide,fun p hp=>?_⟩;refine oi (fun i us H2=>∃cs:List Nat,aE H H2/\H2 p=some (.lst us)/\us=(cs.map fD).map V.str/\cs.length=i/\∀c∈cs,okc c=true) ⟨[],ah hp _,aa,rfl,rfl,fun c h=>by cases h⟩ ?_ ?_
 . rintro i us H2 hi ⟨cs,s2,e2,rfl,lc,oc⟩;have hi':i < 8:=hi;refine tM ⟨_,rfl,_,rfl,_,rfl,_,_,rfl,rfl,c,2+(0+(i:Int)),rfl,by omega,by omega,fun z0=>⟨_,_,rfl,rfl,(by show(0:Int) < 36;decide),?_⟩⟩;generalize cX c (2+(0+(i:Int)))=z at z0;have b0:0<=z % 36:=by omega
   have b1:z % 36 < 36:=by omega
   dsimp only;refine⟨sgS,_,yH (z % 36).toNat,rfl,rfl,by decide +kernel,xn _ b0 b1,e2,bg (by simp;omega),cs++[yH (z % 36).toNat],ba s2 hp _,aa,by rw[List.map_append,List.map_append];rfl,by simp[lc],fun c hc=>?_⟩;rcases List.mem_append.mp hc with m|m
   . exact oc c m
   . rw[List.mem_singleton.mp m];exact xm _ (by omega)
 rintro us H2 ⟨cs,s2,e2,rfl,lc,oc⟩;have lc8:cs.length=8:=lc;refine⟨_,rfl,c,0,rfl,by decide,by decide,fun z0=>⟨_,_,rfl,rfl,(by show(0:Int) < 8;decide),_,_,rfl,rfl,?_⟩⟩;generalize cX c 0=z at z0;have a0:1<=1+z % 8:=by omega
 have a1:1+z % 8<=8:=by omega
 dsimp only;generalize 1+z % 8=size at a0 a1;refine⟨_,rfl,c,1,rfl,by decide,by decide,fun y0=>⟨_,rfl,_,_,rfl,rfl,(by show(0:Int) < size;omega),?_⟩⟩;generalize cX c 1=y at y0;have b0:=Int.emod_nonneg y (show size≠0 by omega);have b1:=Int.emod_lt_of_pos y (show 0 < size by omega);dsimp only;generalize y % size=at' at b0 b1;refine⟨by decide,fun pw hpw=>?_⟩;have s3:=ah hpw (HO.lst []);obtain⟨a',rfl⟩:=Int.eq_ofNat_of_zero_le b0;obtain⟨sz,rfl⟩:=Int.eq_ofNat_of_zero_le (show 0<=size by omega);have lm:((cs.map fD).map V.str).length=8:=by rw[List.length_map,List.length_map,lc8]
 have join:∀ds:List Nat,ds.length<=8->((ds.map fD).map (·.length)).sum+(ds.map fD).length * (Str.ofString "").length<=16777216:=fun ds hd=>by
  have e0:(Str.ofString "").length=0:=by decide +kernel
  rw[uN,e0];omega
 have jlen:∀ds:List Nat,(Txt.join (Str.ofString "") (ds.map fD)).length=ds.length:=fun ds=>by rw[kO,dw]
 refine⟨_,rfl,many,rfl,by omega,by omega,?_⟩;refine gT (lo:=0) (n:=many.toNat) (fun j σ H4=>∃(o7 o8 o9:Option V) (zs:List Str),σ=[some (.int c),some (.int many),some (.str sgS),some (.ref p),some (.int (sz:Int)),some (.int (a':Int)),some (.ref pw),o7,o8,o9]/\aE H2 H4/\H4 pw=some (.lst (zs.map V.str))/\zs.length=j/\∀z∈zs,gI z=true) ⟨none,none,none,[],rfl,s3,aa,rfl,by simp⟩ ?_ ?_
 . rintro j σ H4 hj ⟨o7,o8,o9,zs,rfl,s4,e4,lz,iz⟩;have hj':j < many.toNat:=hj;have add:∀{w':Str} {H5:Hp} {o8:Option V},aE H4 H5->gI w'=true->w6 (Dh K "list" rAppend (k9 6) (tG (k9 9) tNil)) { nx:=fun σ H'=>∃(o7 o8 o9:Option V) (zs:List Str),σ=[some (.int c),some (.int many),some (.str sgS),some (.ref p),some (.int (sz:Int)),some (.int (a':Int)),some (.ref pw),o7,o8,o9]/\aE H2 H'/\H' pw=some (.lst (zs.map V.str))/\zs.length=j+1/\∀z∈zs,gI z=true,rt:=Q } [some (.int c),some (.int many),some (.str sgS),some (.ref p),some (.int (sz:Int)),some (.int (a':Int)),some (.ref pw),some (.int (0+(j:Int))),o8,some (.str w')] H5:=fun {w' H5 o8} s5 hw=>by
    have e5:=s5 _ _ e4;refine⟨_,rfl,.inl ⟨rfl,_,bh.of e5⟩,_,rfl,pw,_,.str w',rfl,rfl,e5,bg (by rw[List.length_map];omega),_,_,_,zs++[w'],rfl,ba (s4.trans s5) hpw _,?_,by simp[lz],fun z hz=>?_⟩
    . rw[aa,List.map_append];rfl
    . rcases List.mem_append.mp hz with m|m
      . exact iz z m
      . rw[List.mem_singleton.mp m];exact hw
   refine⟨_,rfl,_,rfl,c,11,rfl,by decide,by decide,fun x0=>⟨_,rfl,_,_,rfl,rfl,.inl ⟨by decide,by decide⟩,_,_,rfl,rfl,_,_,rfl,rfl,(by show(0:Int) < 36;decide),?_⟩⟩;generalize cX c 11=x at x0;have f0:=Int.emod_nonneg (x+5 * (0+(j:Int))) (show(36:Int)≠0 by decide);have f1:=Int.emod_lt_of_pos (x+5 * (0+(j:Int))) (show(0:Int) < 36 by decide);dsimp only;generalize (x+5 * (0+(j:Int))) % 36=sg at f0 f1;refine⟨sgS,_,yH sg.toNat,rfl,rfl,by decide +kernel,xn _ f0 f1,?_⟩;have hsg:=xm sg.toNat (by omega);generalize yH sg.toNat=ch at hsg;refine⟨rfl,_,rfl,_,rfl,_,rfl,p,_,rfl,bh.of (s4 _ _ e2),fun b1 hb1=>?_⟩;rw[mf,<- List.map_take,<- List.map_take];have s5:=ah hb1 (HO.lst ((cs.take a').map fD |>.map V.str));refine⟨Str.ofString "",b1,(cs.take a').map fD,rfl,rfl,bh.of aa,join _ (by rw[List.length_take];omega),_,rfl,_,fD ch,rfl,rfl,?_,?_⟩
   . rw[jlen,List.length_take];show _+1<=sizeLine;exact Nat.le_of_lt (bg (by omega))
   refine⟨_,rfl,rfl,_,rfl,_,rfl,_,_,rfl,rfl,_,rfl,_,rfl,_,rfl,p,_,rfl,bh.of (s5 _ _ (s4 _ _ e2)),fun b2 hb2=>?_⟩;rw[show((a':Nat):Int)+1=((a'+1:Nat):Int)from by omega,wK _ _ _ (by rw[lm];omega) (by rw[lm];omega),<- List.map_drop,<- List.map_drop,<- List.map_take,<- List.map_take];have s6:=s5.trans (ah hb2 (HO.lst (((cs.drop (a'+1)).take (sz - (a'+1))).map fD |>.map V.str)));refine⟨Str.ofString "",b2,((cs.drop (a'+1)).take (sz - (a'+1))).map fD,rfl,rfl,bh.of aa,join _ (by rw[List.length_take,List.length_drop];omega),_,_,rfl,rfl,?_,?_⟩
   . rw[Str.length_append,jlen,jlen,List.length_take,List.length_take];show _+1+_<=sizeLine;exact Nat.le_of_lt (bg (by omega))
   have iw:gI (Txt.join (Str.ofString "") ((cs.take a').map fD)++fD ch++Txt.join (Str.ofString "") (((cs.drop (a'+1)).take (sz - (a'+1))).map fD))=true:=by
    have ec:(Txt.join (Str.ofString "") ((cs.take a').map fD)++fD ch++Txt.join (Str.ofString "") (((cs.drop (a'+1)).take (sz - (a'+1))).map fD)).cps.toList=cs.take a'++[ch]++(cs.drop (a'+1)).take (sz - (a'+1)):=by
     rw[hZ,hZ,dw,dw];rfl
    have ll:(cs.take a'++[ch]++(cs.drop (a'+1)).take (sz - (a'+1))).length=sz:=by
     rw[List.length_append,List.length_append,List.length_take,List.length_take,List.length_drop];show _+1+_=_;omega
    refine kP (by rw[ec,ll];omega) (by rw[ec,ll];omega) (fun d hd=>?_);rw[ec]at hd;rcases List.mem_append.mp hd with hd|hd
    . rcases List.mem_append.mp hd with hd|hd
      . exact oc d (List.mem_of_mem_take hd)
      . rw[List.mem_singleton.mp hd];exact hsg
    . exact oc d (List.mem_of_mem_drop (List.mem_of_mem_take hd))
   generalize Txt.join (Str.ofString "") ((cs.take a').map fD)++fD ch++Txt.join (Str.ofString "") (((cs.drop (a'+1)).take (sz - (a'+1))).map fD)=w2 at iw;revert s6;generalize aL (aL H4 b1 (HO.lst ((cs.take a').map fD |>.map V.str))) b2 (HO.lst (((cs.drop (a'+1)).take (sz - (a'+1))).map fD |>.map V.str))=H6;intro s6;refine⟨_,rfl,c,12,rfl,by decide,by decide,fun x0=>⟨_,_,rfl,rfl,(by show(0:Int) < 3;decide),rfl,_,rfl,dl (fun h1=>⟨_,rfl,_,_,rfl,rfl,_,rfl,dl (fun h2=>?_) (fun h2=>add s6 iw)⟩) (fun h1=>br (add s6 iw))⟩⟩;have h2':(0:Int)+(j:Int) < 8:=of_decide_eq_true h2;refine⟨rfl,_,rfl,_,rfl,_,_,rfl,rfl,_,rfl,p,_,rfl,bh.of (s6 _ _ (s4 _ _ e2)),fun b3 hb3=>?_⟩;rw[show(0:Int)+(j:Int)+1=((j+1:Nat):Int)from by omega,mf,<- List.map_take,<- List.map_take];have s7:=s6.trans (ah hb3 (HO.lst ((cs.take (j+1)).map fD |>.map V.str)));refine⟨Str.ofString "",b3,(cs.take (j+1)).map fD,rfl,rfl,bh.of aa,join _ (by rw[List.length_take];omega),?_⟩;refine add s7 (kP ?_ ?_ fun d hd=>?_)
   . rw[dw,List.length_take];omega
   . rw[dw,List.length_take];omega
   . rw[dw]at hd;exact oc d (List.mem_of_mem_take hd)
 . rintro σ H4 ⟨o7,o8,o9,zs,rfl,s4,e4,lz,iz⟩;exact⟨_,rfl,q pw H4 zs (s2.trans s4) e4 (by rw[lz];omega) iz⟩
end
end K41
namespace L2
open PySem
theorem aK {t u:TS}{D:f8}{σ:St}{H:Hp}(h:∀N:St->Hp->Prop,(∀ σ' H',u D σ' H'->N σ' H')->t { nx:=N,rt:=D.rt,bk:=D.bk,ct:=D.ct } σ H):Ae t u D σ H:=h _ fun Fc Fc z=>z
theorem cY {t:TS}{D:f8}{σ:St}{H:Hp}(h:∀D':f8,(∀ σ H,D.nx σ H->D'.nx σ H)->t D' σ H):t D σ H:=h D fun Fc Fc z=>z
theorem fX {G:Prop}(h:∀N:Prop,(G->N)->N):G:=h G id
end L2
namespace K41
open PySem L2
section
variable {P:Program}{w:World}{K:W.Frag}{mg:Str->Option Value}{base:Heap}{f g fPts fEnd fEip fGoe fJoi fWo fTid:Addr}{fd gd2 dPts dEnd dEip dGoe dJoi dWo dTid:FuncData}
theorem fK (a b:Int):decide (V.int a=V.int b)=decide (a=b):=decide_eq_decide.mpr ⟨fun h=>by injection h,fun h=>by rw[h]⟩
def spEnd:Sp:=fun vs H Q Fc=>∃(q:Addr) (r:S4),vs=[.ref q]/\H q=some (.tup (tv r))/\Q (.int (r.1+r.2.1)) H
theorem Bt:aq DJ DJ (ai v9):=⟨rfl,rfl,rfl,by decide +kernel,rfl,by decide +kernel,by decide +kernel⟩
theorem yJ (F:bN K "end_of" "end_of" v9 f fd)(T:Txt mg):aj P w K mg base ay 1 f fd DJ spEnd:=by
 refine F.ok Bt (fun vs H Q E h=>?_) (fun cdv A outer s H vs Q E hr h=>?_)
 . obtain⟨q,r,rfl,_⟩:=h;rfl
 obtain⟨q,r,rfl,hq,qq⟩:=h;obtain⟨t1,at0⟩:=T.at0;obtain⟨t2,lg⟩:=T.lg;refine⟨_,(af (aw (ax a6 (au ap (pv 0) (aX (v:=.int 0) rfl at0 ⟨_,rfl⟩) (fun Fc Fc=>rfl)) (au ap (pv 0) (aX (v:=.int 1) rfl lg ⟨_,rfl⟩) (fun Fc Fc=>rfl))))),?_⟩;exact⟨_,rfl,q,_,_,.int r.1,rfl,rfl,a8.of hq,rfl,_,rfl,q,_,_,.int r.2.1,rfl,rfl,a8.of hq,rfl,_,_,rfl,rfl,qq⟩
def spEip:Sp:=fun vs H Q Fc=>∃(q:Addr) (r:S4),vs=[.ref q]/\H q=some (.tup (tv r))/\Q (.int (r.2.2.2+r.2.1)) H
theorem Bu:aq DJ DJ (ai wa):=⟨rfl,rfl,rfl,by decide +kernel,rfl,by decide +kernel,by decide +kernel⟩
theorem yK (F:bN K "end_in_piece" "end_in_piece" wa f fd)(T:Txt mg):aj P w K mg base ay 1 f fd DJ spEip:=by
 refine F.ok Bu (fun vs H Q E h=>?_) (fun cdv A outer s H vs Q E hr h=>?_)
 . obtain⟨q,r,rfl,_⟩:=h;rfl
 obtain⟨q,r,rfl,hq,qq⟩:=h;obtain⟨t1,sk3⟩:=T.sk3;obtain⟨t2,lg⟩:=T.lg;refine⟨_,(af (aw (ax a6 (au ap (pv 0) (aX (v:=.int 3) rfl sk3 ⟨_,rfl⟩) (fun Fc Fc=>rfl)) (au ap (pv 0) (aX (v:=.int 1) rfl lg ⟨_,rfl⟩) (fun Fc Fc=>rfl))))),?_⟩;exact⟨_,rfl,q,_,_,.int r.2.2.2,rfl,rfl,a8.of hq,rfl,_,rfl,q,_,_,.int r.2.1,rfl,rfl,a8.of hq,rfl,_,_,rfl,rfl,qq⟩
def spGoe:Sp:=fun vs H Q Fc=>∃(q q':Addr) (r r':S4),vs=[.ref q,.ref q']/\H q=some (.tup (tv r))/\H q'=some (.tup (tv r'))/\Q (.bl (bM r r')) H
theorem Bv:aq DK DK (ai wc):=⟨rfl,rfl,rfl,by decide +kernel,rfl,by decide +kernel,by decide +kernel⟩
theorem yL (F:bN K "goes_on" "goes_on" wc f fd)(hEnd:bG K mg "end_of" v9 DJ fEnd dEnd)(GEnd:aj P w K mg base ay 1 fEnd dEnd DJ spEnd)
 (hEip:bG K mg "end_in_piece" wa DJ fEip dEip) (GEip:aj P w K mg base ay 1 fEip dEip DJ spEip) (T:Txt mg):aj P w K mg base ay 2 f fd DK spGoe:=by
 refine F.ok Bv (fun vs H Q E h=>?_) (fun cdv A outer s H vs Q E hr h=>?_)
 . obtain⟨q,q',r,r',rfl,_⟩:=h;rfl
 obtain⟨q,q',r,r',rfl,hq,hq',qq⟩:=h;obtain⟨t1,at0⟩:=T.at0;obtain⟨t2,pl2⟩:=T.pl2;obtain⟨t3,sk3⟩:=T.sk3;refine⟨_,(ad (aZ (PW.pt (dG (aB gx (ar GEnd (hr.mono (by decide)) rfl hEnd.nm hEnd.fn.kp hEnd.bd .nil ao (pc (pv 0) ac)) (au ap (pv 1) (aX (v:=.int 0) rfl at0 ⟨_,rfl⟩) (fun Fc Fc=>rfl)) (aH _)) (cZ (aB gx (au ap (pv 0) (aX (v:=.int 2) rfl pl2 ⟨_,rfl⟩) (fun Fc Fc=>rfl)) (au ap (pv 1) (aX (v:=.int 2) rfl pl2 ⟨_,rfl⟩) (fun Fc Fc=>rfl)) (aH _)))))
  (af (aw fY))
  aM)
  (af (aw (lq bW (ar GEip (hr.mono (by decide)) rfl hEip.nm hEip.fn.kp hEip.bd .nil ao (pc (pv 0) ac)) (au ap (pv 1) (aX (v:=.int 3) rfl sk3 ⟨_,rfl⟩) (fun Fc Fc=>rfl)) (aH _))))),?_⟩
 refine⟨_,rfl,q,r,rfl,hq,_,rfl,q',_,_,.int r'.1,rfl,rfl,a8.of hq',rfl,rfl,_,rfl,?_⟩;unfold bM at qq;rw[fK];by_cases c1:r.1+r.2.1=r'.1
 . rw[decide_eq_true c1]at qq ⊢;refine br ?_;refine⟨_,rfl,q,_,_,.int r.2.2.1,rfl,rfl,a8.of hq,rfl,_,rfl,q',_,_,.int r'.2.2.1,rfl,rfl,a8.of hq',rfl,rfl,_,rfl,?_⟩;rw[fK];by_cases c2:r.2.2.1=r'.2.2.1
   . rw[decide_eq_true c2]at qq ⊢;refine br ?_;refine⟨_,rfl,q,r,rfl,hq,_,rfl,q',_,_,.int r'.2.2.2,rfl,rfl,a8.of hq',rfl,rfl,?_⟩;rw[fK];exact qq
   . rw[decide_eq_false c2]at qq ⊢;exact c6 qq
 . rw[decide_eq_false c1]at qq ⊢;exact c6 (c6 qq)
def spPts:Sp:=fun vs H Q Fc=>∃(a:Addr) (tu:Bool) (rs:List S4) (lo hi:Int),vs=[.ref a,.int lo,.int hi]/\cV tu H a rs/\rs.length<=1000/\∀p H',aE H H'->H p=none->cV false H' p (aC rs lo hi)->Q (.ref p) H'
theorem iC:aq ["row","low","high","cut","at","long","place","skip","begin","end"] DH (ai sj):=⟨rfl,rfl,rfl,by decide +kernel,rfl,by decide +kernel,by decide +kernel⟩
theorem yM (F:bN K "parts" "parts" sj f fd)(T:Txt mg):aj P w K mg base ay 1 f fd DH spPts:=by
 refine F.ok iC (fun vs H Q E h=>?_) (fun cdv A outer s H vs Q E hr h=>?_)
 . obtain⟨a,tu,rs,lo,hi,rfl,_⟩:=h;rfl
 obtain⟨a,tu,rs,lo,hi,rfl,⟨ys,ha,hT⟩,hn,qq⟩:=h;refine⟨_,(ad (aA (i:=3) iC.nd rfl (Or.inl rfl) (bR ac))
  (ad (ck PassesOwn.never rfl (c8 (pv 0)) (dN rfl (aR (aJ (i:=4) iC.nd rfl (Or.inl rfl)) (aR (aJ (i:=5) iC.nd rfl (Or.inl rfl)) (aR (aJ (i:=6) iC.nd rfl (Or.inl rfl)) (aR (aJ (i:=7) iC.nd rfl (Or.inl rfl)) cP)))))
  (ad (aA (i:=8) iC.nd rfl (Or.inl rfl) (aF (j4 rfl) rfl T.max PyProof.Rows.boot_max (pc (pv 4) (pc (pv 1) ac))))
  (ad (aA (i:=9) iC.nd rfl (Or.inl rfl) (aF (fM rfl) rfl T.min PyProof.Rows.boot_min (pc (ax a6 (pv 4) (pv 5)) (pc (pv 2) ac))))
  (af (aZ (aB jY (pv 8) (pv 9) (aH _))
  (af (aS (io PySem.F.plainAttrs_list PySem.F.slot_list_append PySem.F.type_list_append dS (pv 3) (pc (bq (pc (pv 8) (pc (ax c5 (pv 9) (pv 8)) (pc (pv 6) (pc (ax c5 (ax a6 (pv 7) (pv 8)) (pv 4)) ac))))) ac))))
  aM)))))
  (af (aw (pv 3))))),?_⟩
 refine⟨by decide,fun p hp=>?_⟩;have s1:=ah hp (HO.lst []);have ly:=bU hT;refine⟨_,rfl,a,tu,rfl,⟨_,Sq.of (s1 _ _ ha)⟩,eK (K:=K) (tu:=tu) (a:=a) (xs:=ys) (fun i σ H2=>∃(o4 o5 o6 o7 o8 o9:Option V) (zs:List V),σ=[some (.ref a),some (.int lo),some (.int hi),some (.ref p),o4,o5,o6,o7,o8,o9]/\aE H H2/\H2 p=some (.lst zs)/\aI H2 zs ((aC (rs.take i) lo hi).map tv)) ⟨none,none,none,none,none,none,[],rfl,s1,aa,trivial⟩ (fun i σ H2 _ h2=>?_) ?_ ?_⟩
 . obtain⟨_,_,_,_,_,_,_,_,s2,_⟩:=h2;exact Sq.of (s2 _ _ ha)
 . rintro i x σ H2 hx ⟨o4,o5,o6,o7,o8,o9,zs,rfl,s2,e2,t2⟩;obtain⟨r,q,hr',rfl,hq⟩:=iR (hT.mono s2) hx;refine⟨q,_,rfl,a8.of hq,rfl,_,_,rfl,_,_,rfl,_,_,rfl,_,_,rfl,rfl,?_⟩;refine cY fun D' tD=>?_;refine⟨_,rfl,_,rfl,_,_,rfl,?_⟩;refine⟨_,rfl,_,rfl,_,_,rfl,rfl,_,rfl,_,_,rfl,?_⟩;refine⟨_,rfl,_,rfl,_,_,rfl,rfl,_,rfl,?_⟩;have lz:=bU t2;have lz2:=cM lo hi (rs.take i);have lz3:=List.length_take_le' i rs;have tn:aC (rs.take (i+1)) lo hi=aC (rs.take i) lo hi++d0 lo hi r:=by rw[cp hr',pK]
   refine dl (fun c=>?_) (fun c=>?_)
   . have c':bz r.1 lo < c9 (r.1+r.2.1) hi:=of_decide_eq_true c;refine⟨_,rfl,.inl ⟨rfl,_,bh.of e2⟩,_,rfl,_,rfl,_,rfl,_,_,rfl,rfl,_,rfl,_,rfl,_,rfl,_,_,rfl,rfl,_,rfl,_,_,rfl,rfl,(by show 4<=sizeLine;decide),fun q2 hq2=>?_⟩;have s3:=ah hq2 (HO.tup (tv (bz r.1 lo,c9 (r.1+r.2.1) hi - bz r.1 lo,r.2.2.1,r.2.2.2+bz r.1 lo - r.1)));have e3:=s3 _ _ e2;refine⟨p,zs,_,rfl,rfl,e3,bg (by omega),tD _ _ ⟨_,_,_,_,_,_,_,rfl,ba (s2.trans s3) hp _,aa,?_⟩⟩;rw[tn];unfold d0;rw[if_pos c',List.map_append];exact((t2.mono s3).snoc aa).upd (hU e3)
   . have c':¬ bz r.1 lo < c9 (r.1+r.2.1) hi:=fun e=>c (decide_eq_true e);refine tD _ _ ⟨_,_,_,_,_,_,_,rfl,s2,e2,?_⟩;rw[tn];unfold d0;rw[if_neg c',List.append_nil];exact t2
 . rintro σ H2 ⟨o4,o5,o6,o7,o8,o9,zs,rfl,s2,e2,t2⟩;rw[ly,List.take_length]at t2;exact⟨_,rfl,qq p H2 s2 hp ⟨zs,e2,t2⟩⟩
def spWo:Sp:=fun vs H Q Fc=>∃(a:Addr) (tu:Bool) (rs:List S4) (lo hi:Int),vs=[.ref a,.int lo,.int hi]/\cV tu H a rs/\rs.length<=1000/\∀p H',aE H H'->H p=none->cV false H' p (aC rs 0 lo++aC rs hi 40)->Q (.ref p) H'
theorem CZ:aq DH DH (ai Bn):=⟨rfl,rfl,rfl,by decide +kernel,rfl,by decide +kernel,by decide +kernel⟩
theorem Bw (F:bN K "without" "without" Bn f fd)(hPts:bG K mg "parts" sj DH fPts dPts)(GPts:aj P w K mg base ay 1 fPts dPts DH spPts)(T:Txt mg):aj P w K mg base ay 2 f fd DH spWo:=by
 refine F.ok CZ (fun vs H Q E h=>?_) (fun cdv A outer s H vs Q E hr h=>?_)
 . obtain⟨a,tu,rs,lo,hi,rfl,_⟩:=h;rfl
 obtain⟨a,tu,rs,lo,hi,rfl,hR,hn,qq⟩:=h;obtain⟨t1,mc⟩:=T.mc;refine⟨_,(af (aw (ax gf (ar GPts (hr.mono (by decide)) rfl hPts.nm hPts.fn.kp hPts.bd .nil ao (pc (pv 0) (pc ae (pc (pv 1) ac)))) (ar GPts (hr.mono (by decide)) rfl hPts.nm hPts.fn.kp hPts.bd .nil ao (pc (pv 0) (pc (pv 2) (pc (aX (v:=.int 40) rfl mc ⟨_,rfl⟩) ac))))))),?_⟩;refine⟨_,rfl,_,rfl,a,tu,rs,0,lo,rfl,hR,hn,fun p H1 s1 hp ⟨ys,e1,r1⟩=>?_⟩;refine⟨_,rfl,_,rfl,a,tu,rs,hi,40,rfl,hR.mono s1,hn,fun p2 H2 s2 hp2 ⟨zs,e2,r2⟩=>?_⟩;have l1:=bU r1;have l2:=bU r2;have l3:=cM 0 lo rs;have l4:=cM hi 40 rs;refine⟨p,p2,ys,zs,rfl,rfl,s2 _ _ e1,e2,Nat.le_of_lt (bg (by omega)),fun p3 hp3=>qq p3 _ ((s1.trans s2).trans (ah hp3 _)) ?_ ⟨_,aa,?_⟩⟩
 . cases e:H p3 with
   | none=>rfl
   | some o=>rw[(s1.trans s2) _ _ e]at hp3;cases hp3
 . rw[List.map_append];exact(r2.app (r1.mono s2)).mono (ah hp3 _)
def spJoi:Sp:=fun vs H Q Fc=>∃(q q':Addr) (z r:S4),vs=[.ref q,.ref q']/\H q=some (.tup (tv z))/\H q'=some (.tup (tv r))/\∀t,H t=none->Q (.ref t) (aL H t (.tup (tv (z.1,z.2.1+r.2.1,z.2.2.1,z.2.2.2))))
theorem Bx:aq DK DK (ai we):=⟨rfl,rfl,rfl,by decide +kernel,rfl,by decide +kernel,by decide +kernel⟩
theorem yN (F:bN K "joined" "joined" we f fd)(T:Txt mg):aj P w K mg base ay 1 f fd DK spJoi:=by
 refine F.ok Bx (fun vs H Q E h=>?_) (fun cdv A outer s H vs Q E hr h=>?_)
 . obtain⟨q,q',z,r,rfl,_⟩:=h;rfl
 obtain⟨q,q',z,r,rfl,hq,hq',qq⟩:=h;obtain⟨t1,at0⟩:=T.at0;obtain⟨t2,lg⟩:=T.lg;obtain⟨t3,pl2⟩:=T.pl2;obtain⟨t4,sk3⟩:=T.sk3;refine⟨_,(af (aw (bq (pc (au ap (pv 0) (aX (v:=.int 0) rfl at0 ⟨_,rfl⟩) (fun Fc Fc=>rfl)) (pc (ax a6 (au ap (pv 0) (aX (v:=.int 1) rfl lg ⟨_,rfl⟩) (fun Fc Fc=>rfl)) (au ap (pv 1) (aX (v:=.int 1) rfl lg ⟨_,rfl⟩) (fun Fc Fc=>rfl))) (pc (au ap (pv 0) (aX (v:=.int 2) rfl pl2 ⟨_,rfl⟩) (fun Fc Fc=>rfl)) (pc (au ap (pv 0) (aX (v:=.int 3) rfl sk3 ⟨_,rfl⟩) (fun Fc Fc=>rfl)) ac))))))),?_⟩;exact⟨_,rfl,q,_,_,.int z.1,rfl,rfl,a8.of hq,rfl,_,rfl,q,_,_,.int z.2.1,rfl,rfl,a8.of hq,rfl,_,rfl,q',_,_,.int r.2.1,rfl,rfl,a8.of hq',rfl,_,_,rfl,rfl,_,rfl,q,_,_,.int z.2.2.1,rfl,rfl,a8.of hq,rfl,_,rfl,q,_,_,.int z.2.2.2,rfl,rfl,a8.of hq,rfl,(by show 4<=sizeLine;decide),fun t ht=>qq t ht⟩
theorem sv (rs:List S4)(r:S4):b8 (rs++[r])=df (b8 rs) r:=by
 unfold b8;rw[List.foldl_append];rfl
def spTid:Sp:=fun vs H Q Fc=>∃(a:Addr) (tu:Bool) (rs:List S4),vs=[.ref a]/\cV tu H a rs/\rs.length<=1000/\∀p H',aE H H'->H p=none->cV false H' p (b8 rs)->Q (.ref p) H'
theorem uO:aq ["row","tidy","stretch"] DM (ai wf):=⟨rfl,rfl,rfl,by decide +kernel,rfl,by decide +kernel,by decide +kernel⟩
theorem yO (F:bN K "tidied" "tidied" wf f fd)(hGoe:bG K mg "goes_on" wc DK fGoe dGoe)(GGoe:aj P w K mg base ay 2 fGoe dGoe DK spGoe)
 (hJoi:bG K mg "joined" we DK fJoi dJoi) (GJoi:aj P w K mg base ay 1 fJoi dJoi DK spJoi) (T:Txt mg):aj P w K mg base ay 3 f fd DM spTid:=by
 refine F.ok uO (fun vs H Q E h=>?_) (fun cdv A outer s H vs Q E hr h=>?_)
 . obtain⟨a,tu,rs,rfl,_⟩:=h;rfl
 obtain⟨a,tu,rs,rfl,⟨ys,ha,hT⟩,hn,qq⟩:=h;refine⟨_,(ad (aA (i:=1) uO.nd rfl (Or.inl rfl) (bR ac))
  (ad (ck PassesOwn.never rfl (c8 (pv 0)) (aJ (i:=2) uO.nd rfl (Or.inl rfl))
  (af (aZ (PW.pt (fh (mO (pv 1) (fun Fc=>rfl)) (eB (dM (ar GGoe (hr.mono (by decide)) rfl hGoe.nm hGoe.fn.kp hGoe.bd .nil ao (pc (au cQ (pv 1) (ja f9 ae) (fun Fc Fc=>rfl)) (pc (pv 2) ac)))))))
  (af (ld (ar GJoi (hr.mono (by decide)) rfl hJoi.nm hJoi.fn.kp hJoi.bd .nil ao (pc (au cQ (pv 1) (ja f9 ae) (fun Fc Fc=>rfl)) (pc (pv 2) ac))) (sX (pv 1) (ja f9 ae) mU)))
  (af (aS (io PySem.F.plainAttrs_list PySem.F.slot_list_append PySem.F.type_list_append dS (pv 1) (pc (pv 2) ac)))))))
  (af (aw (pv 1))))),?_⟩
 refine⟨by decide,fun p hp=>?_⟩;have s1:=ah hp (HO.lst []);have ly:=bU hT;refine⟨_,rfl,a,tu,rfl,⟨_,Sq.of (s1 _ _ ha)⟩,eK (K:=K) (tu:=tu) (a:=a) (xs:=ys) (fun i σ H2=>∃(o:Option V) (zs:List V),σ=[some (.ref a),some (.ref p),o]/\aE H H2/\H2 p=some (.lst zs)/\aI H2 zs ((b8 (rs.take i)).map tv)) ⟨none,[],rfl,s1,aa,trivial⟩ (fun i σ H2 _ h2=>?_) ?_ ?_⟩
 . obtain⟨_,_,_,s2,_⟩:=h2;exact Sq.of (s2 _ _ ha)
 . rintro i x σ H2 hx ⟨o,zs,rfl,s2,e2,t2⟩;obtain⟨r,q,hr',rfl,hq⟩:=iR (hT.mono s2) hx;have tn:b8 (rs.take (i+1))=df (b8 (rs.take i)) r:=by rw[cp hr',sv]
   have lz:=bU t2;have lz2:=kG (rs.take i) [];have lz3:=List.length_take_le' i rs;have lz4:(b8 (rs.take i)).length<=rs.length:=by
    unfold b8;simp at lz2 ⊢;omega
   rw[tn];generalize b8 (rs.take i)=g at t2 lz lz4;rcases List.eq_nil_or_concat g with rfl|⟨g0,z,rfl⟩
   . have:zs=[]:=by
      cases zs with
      | nil=>rfl
      | cons=>exact t2.elim
     subst this;refine⟨_,rfl,false,.inl ⟨[],bh.of e2,rfl⟩,br (br ?_)⟩;refine⟨_,rfl,.inl ⟨rfl,_,bh.of e2⟩,_,rfl,p,_,_,rfl,rfl,e2,bg (by simp),_,_,rfl,ba s2 hp _,aa,?_⟩;exact(aI.snoc hq t2).upd (hU e2)
   . rw[List.concat_eq_append]at t2 lz lz4 ⊢;rw[List.map_append]at t2;obtain⟨zs0,qz,rfl,t3,e3⟩:=aI.last (ts:=g0.map tv) (t:=tv z) t2;refine⟨_,rfl,true,.inl ⟨_,bh.of e2,by simp⟩,c6 ?_⟩;refine⟨_,rfl,_,rfl,p,_,_,.ref qz,rfl,rfl,bh.of e2,mT _ _,_,rfl,qz,q,z,r,rfl,e3,hq,_,rfl,?_⟩;cases hg:bM z r with
     | true =>
      refine c6 ?_;refine⟨_,rfl,_,rfl,p,_,_,.ref qz,rfl,rfl,bh.of e2,mT _ _,_,rfl,qz,q,z,r,rfl,e3,hq,fun t ht=>?_⟩;have s3:=ah ht (HO.tup (tv (z.1,z.2.1+r.2.1,z.2.2.1,z.2.2.2)));refine⟨_,rfl,_,rfl,p,_,_,_,rfl,rfl,s3 _ _ e2,vQ,?_⟩;rw[vS];refine⟨_,_,rfl,ba (s2.trans s3) hp _,aa,?_⟩;rw[fA hg,List.map_append];exact((t3.mono s3).snoc aa).upd (hU (s3 _ _ e2))
     | false =>
      refine br ?_;refine⟨_,rfl,.inl ⟨rfl,_,bh.of e2⟩,_,rfl,p,_,_,rfl,rfl,e2,bg (by rw[lz];omega),_,_,rfl,ba s2 hp _,aa,?_⟩;rw[d5 hg,List.map_append];exact(aI.snoc hq (by rw[List.map_append];exact t2)).upd (hU e2)
 . rintro σ H2 ⟨o,zs,rfl,s2,e2,t2⟩;rw[ly,List.take_length]at t2;exact⟨_,rfl,qq p H2 s2 hp ⟨zs,e2,t2⟩⟩
theorem Cn {x qual:Str}{st:Stmt}{f:Addr}{fd:FuncData}{N ps:List Str}{k:Nat}{sp:Sp}(F:bN K x qual st f fd)(S:aq N ps (ai st))(len:∀vs H Q E,sp vs H Q E->vs.length=ps.length)
 (hbody:∀(cdv:Value) (A:Around) (outer:List Env) (s:Shared) (H:Hp) (vs:List V) (Q:VK) (E:XK),cdv=fd.code->bI k (A.deeper (PyProof.Rows.envOfC qual (ai st) s.heap.objs.size f cdv))->sp vs H Q E ->
  ∃t,qY (jd ay P w K mg base N qual (ai st) f cdv A outer s H E).nox (cB st) t/\t { nx:=fun Fc H'=>Q .non H',rt:=Q } (gz N vs) H):aj P w K mg base ay (k+1) f fd ps sp:=by
 obtain⟨oc,od,kV,doc,pm,an,cdv,ct,osl,rfl,lk,hcd⟩:=F.ex;refine xf lk hcd S len fun A outer s H vs Q E hr hsp=>?_;obtain⟨t,h,q⟩:=hbody cdv A outer s H vs Q E rfl hr hsp;exact⟨t,h.nox,q⟩
def lpos:Pos:=match sk with
 | .FunctionDef _ _ b _ _ _ _ _ _ _=>(match b.getD 1 (.Pass ⟨0,0,0,0⟩)with
  | .Return (some (.Call _ [.Call _ _ [⟨_,.Lambda _ _ _ lp,_⟩] _] _ _)) _=>lp
  | _=>⟨0,0,0,0⟩)
 | _=>⟨0,0,0,0⟩
def lqual:Str:=Str.ofString "laid.<locals>.<lambda>"
def uP (PP:Addr):Sp:=fun vs H Q Fc=>∃(a n:Addr) (tu tn:Bool) (rs new:List S4) (lo hi:Int),vs=[.ref a,.int lo,.int hi,.ref n]/\cV tu H a rs/\cV tn H n new/\bV 0 rs 40/\0<=lo/\hi<=40/\bV lo new hi/\bo H PP lpos lqual /\
 ∀p H',eX PP H H'->bo H' PP lpos lqual->H p=none->cV false H' p (b8 (cF rs lo hi new))->Q (.ref p) H'
theorem xo:aq EA Eg (ai sk):=⟨rfl,rfl,rfl,by decide +kernel,rfl,by decide +kernel,by decide +kernel⟩
theorem yP {cc PP:Addr}(F:bN K "laid" "laid" sk f fd)(hcode:fd.code = .ref cc)(C:W.CodeHd base cc PP)(B:d6 base mg)(hWo:bG K mg "without" Bn DH fWo dWo)(GWo:aj P w K mg base ay 2 fWo dWo DH spWo)
 (hTid:bG K mg "tidied" wf DM fTid dTid) (GTid:aj P w K mg base ay 3 fTid dTid DM spTid) (T:Txt mg):aj P w K mg base ay 4 f fd Eg (uP PP):=by
 refine Cn F xo (fun vs H Q E h=>?_) (fun cdv A outer s H vs Q E hcd' hr h=>?_)
 . obtain⟨a,n,tu,tn,rs,new,lo,hi,rfl,_⟩:=h;rfl
 obtain⟨a,n,tu,tn,rs,new,lo,hi,rfl,hR,hN,ho,h0,h40,hno,hTab,qq⟩:=h;obtain⟨t1,at0⟩:=T.at0;have hcd:cdv = .ref cc:=hcd'.trans hcode;subst hcd;have hcd:(jd ay P w K mg base EA "laid" (ai sk) f (.ref cc) A outer s H E).nox.env.code = .ref cc:=rfl;have lo1:=iT ho;have lon:=iT hno;refine⟨_,(ad (aA (i:=4) xo.nd rfl (Or.inl rfl) (ax gf (ar GWo (hr.mono (by decide)) rfl hWo.nm hWo.fn.kp hWo.bd .nil ao (pc (pv 0) (pc (pv 1) (pc (pv 2) ac)))) (cn eI rfl T.lst PyProof.Rows.boot_list (pc (pv 3) ac))))
  (af (aw (ar GTid (hr.mono (by decide)) rfl hTid.nm hTid.fn.kp hTid.bd .nil ao (qo (pQ (c:=cc) (P:=PP) rfl (hr.mono (by decide)) rfl T.srt hcd C B rfl rfl rfl (fun Fc Fc Fc Fc=>rfl) ⟨rfl,rfl,rfl,by decide,rfl⟩ (fun Fc Fc Fc=>rfl) (fun Fc Fc Fc=>rfl) (by decide) (by decide) at0 (pv 4)) ac))))),?_⟩
 refine⟨_,rfl,_,rfl,_,rfl,a,tu,rs,lo,hi,rfl,hR,by omega,fun p H1 s1 hp ⟨ys,e1,r1⟩=>?_⟩;obtain⟨zs,e2,r2⟩:=hN.mono s1;refine⟨_,rfl,n,zs,rfl,Sq.or e2,fun l hl=>?_⟩;have s2:=ah hl (HO.lst zs);have l1:=bU r1;have l2:=bU r2;have l3:=cM 0 lo rs;have l4:=cM hi 40 rs;rw[List.length_append]at l1;refine⟨p,l,ys,zs,rfl,rfl,s2 _ _ e1,aa,Nat.le_of_lt (bg (by omega)),fun b hb=>?_⟩;have s3:=ah hb (HO.lst (ys++zs));have sA:=s1.trans (s2.trans s3);have tb:aI (aL (aL H1 l (HO.lst zs)) b (HO.lst (ys++zs))) (ys++zs) ((aC rs 0 lo++aC rs hi 40++new).map tv):=by
  rw[List.map_append];exact(r2.app r1).mono (s2.trans s3)
 have oL:=nA ho h0 hno h40;have lL:=iT oL;have lp:=rQ (rs:=rs) (new:=new) (lo:=lo) (hi:=hi);have le:=lp.length_eq;have tab1:bo (aL (aL H1 l (HO.lst zs)) b (HO.lst (ys++zs))) PP lpos lqual:=by
  obtain⟨ps,hP,tr,hc⟩:=hTab;exact⟨ps,sA _ _ hP,tr,hc.imp id fun⟨c2,a1,a2⟩=>⟨c2,a1,sA _ _ a2⟩⟩
 refine⟨_,rfl,b,ys++zs,aC rs 0 lo++aC rs hi 40++new,rfl,aa,tb,by omega,tab1,fun D H2 ys' rs' sx tab2 hD eD tD pD wD=>?_⟩;have er:rs'=cF rs lo hi new:=kJ (pD.trans lp.symm) wD (ny oL);subst er;refine⟨D,false,_,rfl,⟨ys',eD,tD⟩,by omega,fun p' H3 s4 hp' r3=>?_⟩;refine qq p' H3 ((aE.sxP sA).trans (sx.trans s4.sxP)) ?_ ?_ r3
 . obtain⟨ps,hP,tr,hc⟩:=tab2;exact⟨ps,s4 _ _ hP,tr,hc.imp id fun⟨c2,a1,a2⟩=>⟨c2,a1,s4 _ _ a2⟩⟩
 . cases e:H p' with
   | none=>rfl
   | some o =>
    obtain⟨ps,hP,_⟩:=hTab;by_cases z:p'=PP
    . obtain⟨ps2,hP2,_⟩:=tab2;rw[<- z,hp']at hP2;cases hP2
    . rw[((aE.sxP sA).trans sx) p' o z e]at hp';cases hp'
end
section
variable {P:Program}{w:World}{K:W.Frag}{mg:Str->Option Value}{base:Heap}{f g fPts fEnd:Addr}{fd gd2 dPts dEnd:FuncData}
def spShi:Sp:=fun vs H Q Fc=>∃(a:Addr) (tu:Bool) (rs:List S4) (k:Int),vs=[.ref a,.int k]/\cV tu H a rs/\rs.length<=1000/\∀p H',aE H H'->H p=none->cV false H' p (bK rs k)->Q (.ref p) H'
theorem By:aq D8 D8 (ai wb):=⟨rfl,rfl,rfl,by decide +kernel,rfl,by decide +kernel,by decide +kernel⟩
theorem yQ (F:bN K "shifted" "shifted" wb f fd)(T:Txt mg):aj P w K mg base ay 1 f fd D8 spShi:=by
 refine F.ok By (fun vs H Q E h=>?_) (fun cdv A outer s H vs Q E hr h=>?_)
 . obtain⟨a,tu,rs,k,rfl,_⟩:=h;rfl
 obtain⟨a,tu,rs,k,rfl,⟨ys,ha,hT⟩,hn,qq⟩:=h;refine⟨_,(af (aw (nk (g:=g4 K) ["at","long","place","skip"] [1] ["by"] (c8 (pv 0)) (fun Fc Fc Fc Fc Fc Fc=>dN rfl (aR (aJ (i:=0) (show(Ew:List Str).Nodup by decide +kernel) rfl (Or.inl rfl)) (aR (aJ (i:=1) (show(Ew:List Str).Nodup by decide +kernel) rfl (Or.inl rfl)) (aR (aJ (i:=2) (show(Ew:List Str).Nodup by decide +kernel) rfl (Or.inl rfl)) (aR (aJ (i:=3) (show(Ew:List Str).Nodup by decide +kernel) rfl (Or.inl rfl)) cP))))) (fun Fc Fc Fc Fc Fc Fc=>cD)
         (fun Fc Fc Fc Fc Fc Fc=>(bq (pc (ax a6 (pv 0) (pv 4)) (pc (pv 1) (pc (pv 2) (pc (pv 3) ac))))))
         rfl (by decide +kernel) (by decide +kernel) (by decide +kernel) (fun j y hj=>by
          match j,hj with
          | 0,hj=>cases hj;exact⟨1,rfl,rfl,rfl,.inl rfl⟩) rfl rfl))),?_⟩
 have ly:=bU hT;refine⟨_,rfl,a,tu,rfl,⟨_,Sq.of ha⟩,fun p hp=>?_⟩;refine AV (K:=K) (tu:=tu) (a:=a) (xs:=ys) (fun i zs H2=>aE H H2/\H2 p=some (.lst zs)/\aI H2 zs ((bK (rs.take i) k).map tv)) ⟨ah hp _,aa,trivial⟩ (fun i zs H2 Fc h2=>Sq.of (h2.1 _ _ ha)) ?_ ?_
 . rintro i x zs H2 hx ⟨s2,e2,t2⟩;obtain⟨r,q,hr',rfl,hq⟩:=iR (hT.mono s2) hx;refine⟨q,_,_,_,_,rfl,a8.of hq,tM ?_⟩;refine⟨_,rfl,_,rfl,_,_,rfl,rfl,_,rfl,_,rfl,_,rfl,(by show 4<=sizeLine;decide),fun q2 hq2=>?_⟩;have s3:=ah hq2 (HO.tup (tv (r.1+k,r.2.1,r.2.2.1,r.2.2.2)));have e3:=s3 _ _ e2;have lz:=bU t2;have lz2:(bK (rs.take i) k).length<=rs.length:=by
    unfold bK;rw[List.length_map];exact List.length_take_le' i rs
   refine⟨e3,bg (by omega),ba (s2.trans s3) hp _,aa,?_⟩;have tn:bK (rs.take (i+1)) k=bK (rs.take i) k++[(r.1+k,r.2.1,r.2.2.1,r.2.2.2)]:=by
    unfold bK;rw[cp hr',List.map_append];rfl
   rw[tn,List.map_append];exact((t2.mono s3).snoc aa).upd (hU e3)
 . rintro zs H2 ⟨s2,e2,t2⟩;rw[ly,List.take_length]at t2;exact qq p H2 s2 hp ⟨zs,e2,t2⟩
end
def bw (cs:List Int)(i:Nat):List Int:=(cs.drop (8 * i)).take 8
theorem sw (cs:List Int)(i:Nat)(h:8 * i < cs.length):dR (cs.map V.int) (some (0+(i:Int) * 8)) (some (0+(i:Int) * 8+8))=(bw cs i).map V.int:=by
 have e1:(0:Int)+(i:Int) * 8=((8 * i:Nat):Int):=by omega
 have e2:((8 * i:Nat):Int)+8=((8 * i+8:Nat):Int):=by omega
 unfold dR bw;rw[e1,e2,HT.dI,HT.dI,List.length_map,<- List.map_drop,<- List.map_take,Nat.min_eq_left (by omega:8 * i<=cs.length)]
 congr 1
 rcases Nat.le_total (8 * i+8) cs.length with z|z
 . rw[Nat.min_eq_left z]
   congr 1
   omega
 . rw[Nat.min_eq_right z,List.take_of_length_le (by rw[List.length_drop];omega),List.take_of_length_le (by rw[List.length_drop];omega)]
def iD (H:Hp)(at':Int)(cs:List Int)(zs:List V):Prop:=∀k,k < zs.length->∃t q,zs[k]? = some (.ref t)/\H t=some (.tup [.int (at'+8 * (k:Int)),.ref q])/\H q=some (.tup ((bw cs k).map V.int))
theorem iD.keep {H H':Hp}{at':Int}{cs:List Int}{zs:List V}(h:iD H at' cs zs)(kp:∀q t,H q=some (.tup t)->H' q=some (.tup t)):iD H' at' cs zs:=fun k hk=>by
 obtain⟨t,q,h1,h2,h3⟩:=h k hk;exact⟨t,q,h1,kp _ _ h2,kp _ _ h3⟩
theorem iD.mono {H H':Hp}{at':Int}{cs:List Int}{zs:List V}(h:iD H at' cs zs)(s:aE H H'):iD H' at' cs zs:=h.keep fun q t e=>s _ _ e
section
variable {P:Program}{w:World}{K:W.Frag}{mg:Str->Option Value}{base:Heap}{f fPts:Addr}{fd dPts:FuncData}
def spSpl:Sp:=fun vs H Q Fc=>∃(c:Addr) (at':Int) (cs:List Int),vs=[.int at',.ref c]/\H c=some (.lst (cs.map V.int))/\cs.length<=1000 /\
 ∀p H' zs,aE H H'->H p=none->H' p=some (.lst zs)->zs.length=(cs.length+7) / 8->iD H' at' cs zs->Q (.ref p) H'
theorem Bz:aq D0 D0 (ai wj):=⟨rfl,rfl,rfl,by decide +kernel,rfl,by decide +kernel,by decide +kernel⟩
theorem yR (F:bN K "split_up" "split_up" wj f fd)(T:Txt mg):aj P w K mg base ay 1 f fd D0 spSpl:=by
 refine F.ok Bz (fun vs H Q E h=>?_) (fun cdv A outer s H vs Q E hr h=>?_)
 . obtain⟨c,at',cs,rfl,_⟩:=h;rfl
 obtain⟨c,at',cs,rfl,hc,hl,qq⟩:=h;obtain⟨t1,pc8⟩:=T.pc8;refine⟨_,(af (aw (cW [0,1] D0 (kK rfl T.rng (pc ae (pc (aF aO rfl T.len PySem.boot_len (pc (pv 1) ac)) (pc (aX (v:=.int 8) rfl pc8 ⟨_,rfl⟩) ac)))) (fun Fc Fc Fc Fc Fc Fc=>cD)
         (fun Fc Fc Fc Fc Fc Fc=>(bq (pc (ax a6 (pv 1) (pv 0)) (pc (cn (jp (K:=K) rfl) rfl T.tup PyProof.Rows.boot_tuple (pc (bX (ub (K:=K) rfl) (pv 2) (bJ (pv 0)) (bJ (ax a6 (pv 0) (aX (v:=.int 8) rfl pc8 ⟨_,rfl⟩)))) ac)) ac))))
         rfl (by decide +kernel) (by decide +kernel) rfl (by decide +kernel) (fun j y hj=>by
          match j,hj with
          | 0,hj=>cases hj;exact⟨0,rfl,rfl,rfl,.inl rfl⟩
          | 1,hj=>cases hj;exact⟨1,rfl,rfl,rfl,.inl rfl⟩) rfl (by decide +kernel) rfl))),?_⟩
 have lm:(cs.map V.int).length=cs.length:=List.length_map _;refine⟨_,rfl,c,_,rfl,.inl (bh.of hc),0,_,rfl,⟨by decide,by decide,by rw[lm];omega,by rw[lm];omega⟩,fun p hp=>?_⟩;rw[lm];have en:(if(0:Int) < (cs.length:Int)then((cs.length:Int) - 0 - 1) / 8+1 else 0).toNat=(cs.length+7) / 8:=by
  split <;> omega
 rw[en];refine iB (fun i zs H2=>aE H H2/\H2 p=some (.lst zs)/\zs.length=i/\iD H2 at' cs zs) ⟨ah hp _,aa,rfl,fun k hk=>absurd hk (by simp)⟩ ?_ ?_
 . rintro i zs H2 hi ⟨s2,e2,l2,p2⟩;have h8:8 * i < cs.length:=by omega
   refine tM ⟨_,rfl,_,rfl,_,_,rfl,rfl,_,rfl,_,rfl,_,rfl,_,rfl,_,_,rfl,rfl,_,rfl,c,_,rfl,bh.of (s2 _ _ hc),fun b hb=>?_⟩;rw[sw cs i h8];have s3:=ah hb (HO.lst ((bw cs i).map V.int));refine⟨b,_,rfl,.inl ⟨bh.of aa,fun q hq=>?_⟩⟩;have s4:=ah hq (HO.tup ((bw cs i).map V.int));refine⟨(by show 2<=sizeLine;decide),fun t ht=>?_⟩;have s5:=ah ht (HO.tup [V.int (at'+(0+(i:Int) * 8)),V.ref q]);have sB:=s3.trans (s4.trans s5);have e5:=sB _ _ e2;refine⟨e5,bg (by omega),ba (s2.trans sB) hp _,aa,by simp[l2],?_⟩;have kp:∀q0 t0,aL (aL (aL H2 b (HO.lst ((bw cs i).map V.int))) q (HO.tup ((bw cs i).map V.int))) t (HO.tup [V.int (at'+(0+(i:Int) * 8)),V.ref q]) q0=some (.tup t0)->aL (aL (aL (aL H2 b (HO.lst ((bw cs i).map V.int))) q (HO.tup ((bw cs i).map V.int))) t (HO.tup [V.int (at'+(0+(i:Int) * 8)),V.ref q])) p (.lst (zs++[.ref t])) q0=some (.tup t0):=fun q0 t0 e=>by
    rw[am (fun z=>by rw[z,e5]at e;cases e)];exact e
   intro k hk;rw[List.length_append]at hk;by_cases z:k < zs.length
   . obtain⟨t0,q0,h1,h2,h3⟩:=((p2.mono sB).keep kp) k z;exact⟨t0,q0,by rw[List.getElem?_append_left z];exact h1,h2,h3⟩
   . have ek:k=i:=by
      have:[V.ref t].length=1:=rfl;omega
     subst ek;refine⟨t,q,by rw[List.getElem?_append_right (by omega),l2];simp,?_,kp _ _ (s5 _ _ aa)⟩;have e8:at'+(0+(k:Int) * 8)=at'+8 * (k:Int):=by omega
     rw[<- e8];exact kp _ _ aa
 . rintro zs H2 ⟨s2,e2,l2,p2⟩;exact qq p H2 zs s2 hp e2 l2 p2
end
abbrev Ent:=Str×Str×Int
def sT (r:S4):Tr:=.tup [.int r.1,.int r.2.1,.int r.2.2.1,.int r.2.2.2]
def pW (e:Ent):Tr:=.tup [.str e.1,.str e.2.1,.int e.2.2]
inductive Kn where
 | cel (b:Int) (cs:List Int)
 | fil (b s:Int) (r:List S4)
 | fol (b m:Int) (es:List Ent)
def kw:Kn->Str
 | .cel ..=>Str.ofString "cells"
 | .fil ..=>Str.ofString "file"
 | .fol ..=>Str.ofString "folder"
def Dl:Kn->List Tr
 | .cel b cs=>[.str (Str.ofString "cells"),.int b,.tup (cs.map .int)]
 | .fil b s r=>[.str (Str.ofString "file"),.int b,.int s,.tup (r.map sT)]
 | .fol b m es=>[.str (Str.ofString "folder"),.int b,.int m,.tup (es.map pW)]
theorem eQ (l:List Int):rV (l.map Tr.int)=true:=jr fun t ht=>by
 obtain⟨n,_,rfl⟩:=List.mem_map.mp ht;rfl
theorem jB (l:List S4):rV (l.map sT)=true:=jr fun t ht=>by
 obtain⟨n,_,rfl⟩:=List.mem_map.mp ht;rfl
theorem kQ (l:List Ent):rV (l.map pW)=true:=jr fun t ht=>by
 obtain⟨n,_,rfl⟩:=List.mem_map.mp ht;rfl
structure Cl where
 K0:Addr
 KC:Addr
 KF:Addr
 KD:Addr
 DE:Addr
structure CF (K:W.Frag)(mg:Str->Option Value)(c:Cl):Prop where
 clC:iO K c.KC
 clF:iO K c.KF
 clD:iO K c.KD
 bC:be K c.KC "born"
 cC:be K c.KC "cells"
 bF:be K c.KF "born"
 sF:be K c.KF "size"
 rF:be K c.KF "row"
 bD:be K c.KD "born"
 lD:be K c.KD "limit"
 eD:be K c.KD "entries"
 nK0:mg "Knot" = some (.ref c.K0)
 nKC:mg "CellsKnot" = some (.ref c.KC)
 nKF:mg "FileKnot" = some (.ref c.KF)
 nKD:mg "FolderKnot" = some (.ref c.KD)
 clE:iO K c.DE
 kE:be K c.DE "look"
 rE:be K c.DE "root"
 nE:be K c.DE "now"
 fE:be K c.DE "fresh"
 nDE:mg "Deed" = some (.ref c.DE)
def bT (c:Cl)(H:Hp):Kn->V->Prop
 | .cel b cs,x=>∃p dx v,x = .ref p/\H p=some (.ins c.KC dx [("born",.int b),("cells",v)])/\At H (.tup (cs.map .int)) v
 | .fil b s r,x=>∃p dx v,x = .ref p/\H p=some (.ins c.KF dx [("born",.int b),("size",.int s),("row",v)])/\At H (.tup (r.map sT)) v
 | .fol b m es,x=>∃p dx v,x = .ref p/\H p=some (.ins c.KD dx [("born",.int b),("limit",.int m),("entries",v)])/\At H (.tup (es.map pW)) v
theorem bT.mono {c:Cl}{H H':Hp}(s:aE H H'):∀{k:Kn} {x:V},bT c H k x->bT c H' k x
 | .cel ..,_,⟨p,dx,v,e,h,a⟩=>⟨p,dx,v,e,s _ _ h,a.mono s⟩
 | .fil ..,_,⟨p,dx,v,e,h,a⟩=>⟨p,dx,v,e,s _ _ h,a.mono s⟩
 | .fol ..,_,⟨p,dx,v,e,h,a⟩=>⟨p,dx,v,e,s _ _ h,a.mono s⟩
def Kp (p:Addr)(H H':Hp):Prop:=∀q u,q≠p->H q=some u->H' q=some u
theorem Kp.put {p:Addr}{H H':Hp}{o:HO}(h:Kp p H H'):Kp p H (aL H' p o):=fun q u n e=>by
 rw[am n];exact h q u n e
theorem Kp.tup {p C dx:Addr}{fs:List (Str×V)}{H H':Hp}(h:Kp p H H')(e:H p=some (.ins C dx fs)):∀q u,H q=some (.tup u)->H' q=some (.tup u):=fun q u eq=>h q _ (fun z=>by rw[z,e]at eq;cases eq) eq
theorem d7 {x dx:Addr}{H H':Hp}{C:Addr}(hx:H x=none)(hd:H dx=none)(k:Kp x (aL (aL H dx (.own x)) x (.ins C dx [])) H'):aE H H':=fun q u e=>by
 have n1:=a9 e hx;refine k q u n1 ?_;rw[am n1,am (a9 e hd)];exact e
section
variable {P:Program}{w:World}{K:W.Frag}{mg:Str->Option Value}{base:Heap}{f fKIn:Addr}{fd dKIn:FuncData}{c:Cl}
def oj (K:W.Frag):Sp:=fun vs H Q Fc=>∃p C dx x,vs=[.ref p,x]/\H p=some (.ins C dx [])/\iO K C/\be K C "born"/\Q .non (aL H p (.ins C dx [("born",x)]))
theorem BB:aq DQ DQ (ai yt):=⟨rfl,rfl,rfl,by decide +kernel,rfl,by decide +kernel,by decide +kernel⟩
theorem yS (F:bN K "__init__" "Knot.__init__" yt f fd):aj P w K mg base ay 1 f fd DQ (oj K):=by
 refine F.ok BB (fun vs H Q E h=>?_) (fun cdv A outer s H vs Q E hr h=>?_)
 . obtain⟨p,C,dx,x,rfl,_⟩:=h;rfl
 obtain⟨p,C,dx,x,rfl,hp,cl,na,q⟩:=h;refine⟨_,(af (dz (pv 0) (pv 1) rfl)),?_⟩;exact⟨_,rfl,_,rfl,p,C,dx,_,rfl,hp,cl,na,by decide,q⟩
def TL (H:Hp)(l:List Tr)(v:V):Prop:=At H (.tup l) v\/At H (.lst l) v
theorem mh {H H':Hp}{p C dx:Addr}{fs:List (Str×V)}(e:H p=some (.ins C dx fs))(k:Kp p H H'){l:List Tr}{v:V}(hn:rV l=true)(h:TL H l v):TL H' l v:=by
 rcases h with h|h
 . exact .inl (At.keepT (Kp.tup k e) (by unfold nl;exact hn) h)
 . obtain⟨a,vs,rfl,ea,ka⟩:=h.lst;exact .inr (At.mkL (k a _ (fun z=>by rw[z,e]at ea;cases ea) ea) (bi.keepT (Kp.tup k e) hn ka))
def kR (c:Cl):Sp:=fun vs H Q Fc=>∃(p dx:Addr) (b  v:V) (l:List Tr),vs=[.ref p,b,v]/\H p=some (.ins c.KC dx [])/\TL H l v/\rV l=true/\∀v' H',Kp p H H'->H' p=some (.ins c.KC dx [("born",b),("cells",v')])->At H' (.tup l) v'->Q .non H'
theorem BC:aq DW DW (ai yu):=⟨rfl,rfl,rfl,by decide +kernel,rfl,by decide +kernel,by decide +kernel⟩
theorem yT (F:bN K "__init__" "CellsKnot.__init__" yu f fd)(cf:CF K mg c)(KIncm:nK K c.K0 "__init__" fKIn)(GKIn:aj P w K mg base ay 1 fKIn dKIn DQ (oj K))(KInbd:bE K dKIn DQ [])(T:Txt mg):aj P w K mg base ay 2 f fd DW (kR c):=by
 refine F.ok BC (fun vs H Q E h=>?_) (fun cdv A outer s H vs Q E hr h=>?_)
 . obtain⟨p,dx,b,v,l,rfl,_⟩:=h;rfl
 obtain⟨p,dx,b,v,l,rfl,hp,hv,hn,q⟩:=h;refine⟨_,(ad (aS (jt (aX (v:=.ref c.K0) rfl cf.nK0 rfl) KIncm GKIn (hr.mono (by decide)) KInbd .nil ao (pc (pv 0) (pc (pv 1) ac))))
  (af (dz (pv 0) (cn cR rfl T.tup PyProof.Rows.boot_tuple (pc (pv 2) ac)) rfl))),?_⟩
 refine⟨rfl,_,rfl,_,rfl,p,c.KC,dx,b,rfl,hp,cf.clC,cf.bC,?_⟩;have k1:Kp p H (aL H p (.ins c.KC dx [("born",b)])):=Kp.put fun q u Fc e=>e;have hv1:=mh hp k1 hn hv;have hp1:(aL H p (.ins c.KC dx [("born",b)])) p=some (.ins c.KC dx [("born",b)]):=aa;have fin:∀v' H',aE (aL H p (.ins c.KC dx [("born",b)])) H'->At H' (.tup l) v'->Q .non (aL H' p (.ins c.KC dx [("born",b),("cells",v')])):=fun v' H' s' hv'=>by
  have hp':H' p=some (.ins c.KC dx [("born",b)]):=s' _ _ hp1;refine q v' _ (Kp.put fun q u n e=>s' _ _ (k1 q u n e)) aa ?_;exact At.keepT (Kp.tup (Kp.put fun q u Fc e=>e) hp') (by unfold nl;exact hn) hv'
 rcases hv1 with h|h
 . obtain⟨a,ys,rfl,ea,ka⟩:=h.tup;exact⟨_,rfl,a,ys,rfl,.inr ⟨a8.of ea,_,rfl,p,c.KC,dx,_,rfl,hp1,cf.clC,cf.cC,by simp,fin _ _ (aE.refl _) h⟩⟩
 . obtain⟨a,ys,rfl,ea,ka⟩:=h.lst;exact⟨_,rfl,a,ys,rfl,.inl ⟨bh.of ea,fun t ht=>⟨_,rfl,p,c.KC,dx,_,rfl,ah ht _ _ _ hp1,cf.clC,cf.cC,by simp,fin _ _ (ah ht _) (At.mkT aa (ka.mono (ah ht _)))⟩⟩⟩
theorem C0 {H:Hp}{Q:VK}{v:V}{b:Int}{cs:List Int}(hv:TL H (cs.map .int) v)(q:∀x H',aE H H'->bT c H' (.cel b cs) x->Q x H'):∀x dx,H x=none->H dx=none->dx≠x ->
 kR c (.ref x :: ([.int b,v]++[])) (aL (aL H dx (.own x)) x (.ins c.KC dx [])) (fun u H2=>u = .non/\Q (.ref x) H2) E0:=by
 intro x dx hx hd ne;have s0:aE H (aL (aL H dx (.own x)) x (.ins c.KC dx [])):=fun q u e=>by
  rw[am (a9 e hx),am (a9 e hd)];exact e
 refine⟨x,dx,.int b,v,cs.map .int,rfl,aa,?_,eQ cs,fun v' H' k e a=>⟨rfl,q _ H' (d7 hx hd k) ⟨x,dx,v',rfl,e,a⟩⟩⟩;rcases hv with h|h
 . exact .inl (h.mono s0)
 . exact .inr (h.mono s0)
def kS (c:Cl):Sp:=fun vs H Q Fc=>∃(p dx:Addr) (b m0 v:V) (l:List Tr),vs=[.ref p,b,m0,v]/\H p=some (.ins c.KF dx [])/\TL H l v/\rV l=true/\∀v' H',Kp p H H'->H' p=some (.ins c.KF dx [("born",b),("size",m0),("row",v')])->At H' (.tup l) v'->Q .non H'
theorem BD:aq DR DR (ai yx):=⟨rfl,rfl,rfl,by decide +kernel,rfl,by decide +kernel,by decide +kernel⟩
theorem yU (F:bN K "__init__" "FileKnot.__init__" yx f fd)(cf:CF K mg c)(KIncm:nK K c.K0 "__init__" fKIn)(GKIn:aj P w K mg base ay 1 fKIn dKIn DQ (oj K))(KInbd:bE K dKIn DQ [])(T:Txt mg):aj P w K mg base ay 2 f fd DR (kS c):=by
 refine F.ok BD (fun vs H Q E h=>?_) (fun cdv A outer s H vs Q E hr h=>?_)
 . obtain⟨p,dx,b,m0,v,l,rfl,_⟩:=h;rfl
 obtain⟨p,dx,b,m0,v,l,rfl,hp,hv,hn,q⟩:=h;refine⟨_,(ad (aS (jt (aX (v:=.ref c.K0) rfl cf.nK0 rfl) KIncm GKIn (hr.mono (by decide)) KInbd .nil ao (pc (pv 0) (pc (pv 1) ac))))
  (ad (dz (pv 0) (pv 2) rfl)
  (af (dz (pv 0) (cn cR rfl T.tup PyProof.Rows.boot_tuple (pc (pv 3) ac)) rfl)))),?_⟩
 refine⟨rfl,_,rfl,_,rfl,p,c.KF,dx,b,rfl,hp,cf.clF,cf.bF,?_⟩;have k1:Kp p H (aL H p (.ins c.KF dx [("born",b)])):=Kp.put fun q u Fc e=>e;refine⟨_,rfl,_,rfl,p,c.KF,dx,_,rfl,aa,cf.clF,cf.sF,by simp,?_⟩;have k2:Kp p H (aL (aL H p (.ins c.KF dx [("born",b)])) p (.ins c.KF dx [("born",b),("size",m0)])):=Kp.put k1;have hv1:=mh hp k2 hn hv;have hp1:(aL (aL H p (.ins c.KF dx [("born",b)])) p (.ins c.KF dx [("born",b),("size",m0)])) p=some (.ins c.KF dx [("born",b),("size",m0)]):=aa;have fin:∀v' H',aE (aL (aL H p (.ins c.KF dx [("born",b)])) p (.ins c.KF dx [("born",b),("size",m0)])) H'->At H' (.tup l) v'->Q .non (aL H' p (.ins c.KF dx [("born",b),("size",m0),("row",v')])):=fun v' H' s' hv'=>by
  have hp':H' p=some (.ins c.KF dx [("born",b),("size",m0)]):=s' _ _ hp1;refine q v' _ (Kp.put fun q u n e=>s' _ _ (k2 q u n e)) aa ?_;exact At.keepT (Kp.tup (Kp.put fun q u Fc e=>e) hp') (by unfold nl;exact hn) hv'
 rcases hv1 with h|h
 . obtain⟨a,ys,rfl,ea,ka⟩:=h.tup;exact⟨_,rfl,a,ys,rfl,.inr ⟨a8.of ea,_,rfl,p,c.KF,dx,_,rfl,hp1,cf.clF,cf.rF,by simp,fin _ _ (aE.refl _) h⟩⟩
 . obtain⟨a,ys,rfl,ea,ka⟩:=h.lst;exact⟨_,rfl,a,ys,rfl,.inl ⟨bh.of ea,fun t ht=>⟨_,rfl,p,c.KF,dx,_,rfl,ah ht _ _ _ hp1,cf.clF,cf.rF,by simp,fin _ _ (ah ht _) (At.mkT aa (ka.mono (ah ht _)))⟩⟩⟩
theorem yV {H:Hp}{Q:VK}{v:V}{b s:Int}{r:List S4}(hv:TL H (r.map sT) v)(q:∀x H',aE H H'->bT c H' (.fil b s r) x->Q x H'):∀x dx,H x=none->H dx=none->dx≠x ->
 kS c (.ref x :: ([.int b,.int s,v]++[])) (aL (aL H dx (.own x)) x (.ins c.KF dx [])) (fun u H2=>u = .non/\Q (.ref x) H2) E0:=by
 intro x dx hx hd ne;have s0:aE H (aL (aL H dx (.own x)) x (.ins c.KF dx [])):=fun q u e=>by
  rw[am (a9 e hx),am (a9 e hd)];exact e
 refine⟨x,dx,.int b,.int s,v,r.map sT,rfl,aa,?_,jB r,fun v' H' k e a=>⟨rfl,q _ H' (d7 hx hd k) ⟨x,dx,v',rfl,e,a⟩⟩⟩;rcases hv with h|h
 . exact .inl (h.mono s0)
 . exact .inr (h.mono s0)
def oo (c:Cl):Sp:=fun vs H Q Fc=>∃(p dx:Addr) (b m0 v:V) (l:List Tr),vs=[.ref p,b,m0,v]/\H p=some (.ins c.KD dx [])/\TL H l v/\rV l=true/\∀v' H',Kp p H H'->H' p=some (.ins c.KD dx [("born",b),("limit",m0),("entries",v')])->At H' (.tup l) v'->Q .non H'
theorem BE:aq DX DX (ai yz):=⟨rfl,rfl,rfl,by decide +kernel,rfl,by decide +kernel,by decide +kernel⟩
theorem yW (F:bN K "__init__" "FolderKnot.__init__" yz f fd)(cf:CF K mg c)(KIncm:nK K c.K0 "__init__" fKIn)(GKIn:aj P w K mg base ay 1 fKIn dKIn DQ (oj K))(KInbd:bE K dKIn DQ [])(T:Txt mg):aj P w K mg base ay 2 f fd DX (oo c):=by
 refine F.ok BE (fun vs H Q E h=>?_) (fun cdv A outer s H vs Q E hr h=>?_)
 . obtain⟨p,dx,b,m0,v,l,rfl,_⟩:=h;rfl
 obtain⟨p,dx,b,m0,v,l,rfl,hp,hv,hn,q⟩:=h;refine⟨_,(ad (aS (jt (aX (v:=.ref c.K0) rfl cf.nK0 rfl) KIncm GKIn (hr.mono (by decide)) KInbd .nil ao (pc (pv 0) (pc (pv 1) ac))))
  (ad (dz (pv 0) (pv 2) rfl)
  (af (dz (pv 0) (cn cR rfl T.tup PyProof.Rows.boot_tuple (pc (pv 3) ac)) rfl)))),?_⟩
 refine⟨rfl,_,rfl,_,rfl,p,c.KD,dx,b,rfl,hp,cf.clD,cf.bD,?_⟩;have k1:Kp p H (aL H p (.ins c.KD dx [("born",b)])):=Kp.put fun q u Fc e=>e;refine⟨_,rfl,_,rfl,p,c.KD,dx,_,rfl,aa,cf.clD,cf.lD,by simp,?_⟩;have k2:Kp p H (aL (aL H p (.ins c.KD dx [("born",b)])) p (.ins c.KD dx [("born",b),("limit",m0)])):=Kp.put k1;have hv1:=mh hp k2 hn hv;have hp1:(aL (aL H p (.ins c.KD dx [("born",b)])) p (.ins c.KD dx [("born",b),("limit",m0)])) p=some (.ins c.KD dx [("born",b),("limit",m0)]):=aa;have fin:∀v' H',aE (aL (aL H p (.ins c.KD dx [("born",b)])) p (.ins c.KD dx [("born",b),("limit",m0)])) H'->At H' (.tup l) v'->Q .non (aL H' p (.ins c.KD dx [("born",b),("limit",m0),("entries",v')])):=fun v' H' s' hv'=>by
  have hp':H' p=some (.ins c.KD dx [("born",b),("limit",m0)]):=s' _ _ hp1;refine q v' _ (Kp.put fun q u n e=>s' _ _ (k2 q u n e)) aa ?_;exact At.keepT (Kp.tup (Kp.put fun q u Fc e=>e) hp') (by unfold nl;exact hn) hv'
 rcases hv1 with h|h
 . obtain⟨a,ys,rfl,ea,ka⟩:=h.tup;exact⟨_,rfl,a,ys,rfl,.inr ⟨a8.of ea,_,rfl,p,c.KD,dx,_,rfl,hp1,cf.clD,cf.eD,by simp,fin _ _ (aE.refl _) h⟩⟩
 . obtain⟨a,ys,rfl,ea,ka⟩:=h.lst;exact⟨_,rfl,a,ys,rfl,.inl ⟨bh.of ea,fun t ht=>⟨_,rfl,p,c.KD,dx,_,rfl,ah ht _ _ _ hp1,cf.clD,cf.eD,by simp,fin _ _ (ah ht _) (At.mkT aa (ka.mono (ah ht _)))⟩⟩⟩
theorem BF {H:Hp}{Q:VK}{v:V}{b m:Int}{es:List Ent}(hv:TL H (es.map pW) v)(q:∀x H',aE H H'->bT c H' (.fol b m es) x->Q x H'):∀x dx,H x=none->H dx=none->dx≠x ->
 oo c (.ref x :: ([.int b,.int m,v]++[])) (aL (aL H dx (.own x)) x (.ins c.KD dx [])) (fun u H2=>u = .non/\Q (.ref x) H2) E0:=by
 intro x dx hx hd ne;have s0:aE H (aL (aL H dx (.own x)) x (.ins c.KD dx [])):=fun q u e=>by
  rw[am (a9 e hx),am (a9 e hd)];exact e
 refine⟨x,dx,.int b,.int m,v,es.map pW,rfl,aa,?_,kQ es,fun v' H' k e a=>⟨rfl,q _ H' (d7 hx hd k) ⟨x,dx,v',rfl,e,a⟩⟩⟩;rcases hv with h|h
 . exact .inl (h.mono s0)
 . exact .inr (h.mono s0)
end
theorem jC {H:Hp}{y:Ent}{v:V}(h:At H (pW y) v):∃b c1 c2 c3,v = .ref b/\H b=some (.tup [c1,c2,c3])/\c1 = .str y.1/\c2 = .str y.2.1/\c3 = .int y.2.2:=by
 obtain⟨b,ws,rfl,eb,kb⟩:=At.tup h
 match ws,kb.len,kb with
 | [c1,c2,c3],_,kb =>
  obtain⟨_,h0,a0⟩:=kb.get (i:=0) rfl;obtain⟨_,h1,a1⟩:=kb.get (i:=1) rfl;obtain⟨_,h2,a2⟩:=kb.get (i:=2) rfl;cases h0;cases h1;cases h2;unfold At at a0 a1 a2;exact⟨b,c1,c2,c3,rfl,eb,a0,a1,a2⟩
theorem uQ {H:Hp}{y:S4}{v:V}(h:At H (sT y) v):∃b,v = .ref b/\H b=some (.tup [.int y.1,.int y.2.1,.int y.2.2.1,.int y.2.2.2]):=by
 obtain⟨b,ws,rfl,eb,kb⟩:=At.tup h
 match ws,kb.len,kb with
 | [c1,c2,c3,c4],_,kb =>
  obtain⟨_,h0,a0⟩:=kb.get (i:=0) rfl;obtain⟨_,h1,a1⟩:=kb.get (i:=1) rfl;obtain⟨_,h2,a2⟩:=kb.get (i:=2) rfl;obtain⟨_,h3,a3⟩:=kb.get (i:=3) rfl;cases h0;cases h1;cases h2;cases h3;unfold At at a0 a1 a2 a3;subst a0 a1 a2 a3;exact⟨b,rfl,eb⟩
theorem BG {H:Hp}{p:Addr}{a b:List V}(h:H p=some (.lst a)):∀q u,H q=some (.tup u)->aL H p (.lst b) q=some (.tup u):=fun q u e=>by
 rw[am (w5 e h (by intro z;cases z))];exact e
section
variable {P:Program}{w:World}{K:W.Frag}{mg:Str->Option Value}{base:Heap}{f fCIn fFIn fDIn:Addr}{fd dCIn dFIn dDIn:FuncData}{c:Cl}
def bO (es:List Ent)(n:Str):Option Ent:=es.find? fun e=>decide (e.1=n)
def C1 (H:Hp)(o:Option Ent)(v:V):Prop:=match o with
 | none=>v = .non
 | some e=>At H (.tup [.str e.2.1,.int e.2.2]) v
def qB (c:Cl):Sp:=fun vs H Q Fc=>∃b m es x n,vs=[x,.str n]/\bT c H (.fol b m es) x/\∀v H',aE H H'->C1 H' (bO es n) v->Q v H'
theorem uR {es:List Ent}{n:Str}{i:Nat}{y:Ent}(hy:es[i]? = some y)(h:bO es n=bO (es.drop i) n):bO es n=if decide (y.1=n)=true then some y else bO (es.drop (i+1)) n:=by
 rw[h];have li:i < es.length:=(List.getElem?_eq_some_iff.mp hy).1;rw[List.drop_eq_getElem_cons li];have ey:es[i]=y:=(List.getElem?_eq_some_iff.mp hy).2;rw[ey];unfold bO;rw[List.find?_cons];cases decide (y.1=n) <;> rfl
theorem qC:aq ["self","name","known","kind","place"] DI (ai uC):=⟨rfl,rfl,rfl,by decide +kernel,rfl,by decide +kernel,by decide +kernel⟩
theorem yX (F:bN K "entry" "FolderKnot.entry" uC f fd)(cf:CF K mg c):aj P w K mg base ay 1 f fd DI (qB c):=by
 refine F.ok qC (fun vs H Q E h=>?_) (fun cdv A outer s H vs Q E hr h=>?_)
 . obtain⟨b,m,es,x,n,rfl,_⟩:=h;rfl
 obtain⟨b,m,es,x,n,rfl,hk,q⟩:=h;obtain⟨p0,dx,v,rfl,e,hx⟩:=hk;obtain⟨a,vs,rfl,ea,ka⟩:=hx.tup;have ln:=ka.len;rw[List.length_map]at ln;refine⟨_,(ad (ck PassesOwn.never rfl (c8 (a7 (pv 0) rfl)) (dN rfl (aR (aJ (i:=2) qC.nd rfl (Or.inl rfl)) (aR (aJ (i:=3) qC.nd rfl (Or.inl rfl)) (aR (aJ (i:=4) qC.nd rfl (Or.inl rfl)) cP))))
  (af (aZ (aB bW (pv 2) (pv 1) (aH _))
  (af (aw (bq (pc (pv 3) (pc (pv 4) ac)))))
  aM)))
  (af (aw ej))),?_⟩
 refine⟨_,rfl,p0,c.KD,dx,_,_,rfl,e,cf.clD,cf.eD,rfl,a,true,rfl,⟨_,Sq.of (tu:=true) ea⟩,?_⟩;refine eK (K:=K) (tu:=true) (a:=a) (xs:=vs) (fun i σ H2=>H2=H/\(∃o1 o2 o3,σ=[some (.ref p0),some (.str n),o1,o2,o3])/\bO es n=bO (es.drop i) n) ⟨rfl,⟨_,_,_,rfl⟩,rfl⟩ (fun i σ H2 _ h2=>by rw[h2.1];exact Sq.of (tu:=true) ea) ?_ ?_
 . rintro i v σ H2 hv ⟨rfl,⟨o1,o2,o3,rfl⟩,hf⟩;obtain⟨t,ht,hat⟩:=ka.get hv;rw[List.getElem?_map]at ht;obtain⟨y,hy,rfl⟩:=Option.map_eq_some_iff.mp ht;obtain⟨q1,c1,c2,c3,rfl,eb,rfl,rfl,rfl⟩:=jC hat;have fd:=uR hy hf;refine⟨q1,_,rfl,a8.of eb,rfl,_,_,rfl,_,_,rfl,_,_,rfl,rfl,?_⟩;refine⟨_,rfl,_,rfl,rfl,_,rfl,?_⟩;have ed:decide (V.str y.1=V.str n)=decide (y.1=n):=decide_eq_decide.mpr ⟨fun h=>by injection h,fun h=>by rw[h]⟩;rw[ed];refine dl (fun k=>?_) (fun k=>?_)
   . rw[if_pos k]at fd;refine⟨_,rfl,_,rfl,(by show 2<=sizeLine;decide),fun t ht=>q _ _ (ah ht _) ?_⟩;rw[fd];exact At.mkT aa (bi.cons (At.str _) (bi.cons (At.int _) (bi.nil _)))
   . rw[if_neg k]at fd;exact⟨rfl,⟨_,_,_,rfl⟩,fd⟩
 . rintro σ H2 ⟨rfl,⟨o1,o2,o3,rfl⟩,hf⟩;refine q _ _ (aE.refl _) ?_;rw[hf,ln,List.drop_length];rfl
def uS (c:Cl):Sp:=fun vs H Q Fc=>∃(k:Kn) (t:V),vs=[t]/\At H (.tup (Dl k)) t/\∀z H',aE H H'->bT c H' k z->Q z H'
theorem BH:aq D9 D9 (ai wp):=⟨rfl,rfl,rfl,by decide +kernel,rfl,by decide +kernel,by decide +kernel⟩
theorem yY (F:bN K "knot_of" "knot_of" wp f fd)(cf:CF K mg c)(CInmk:Mk K c.KC fCIn)(CInnm:mg "CellsKnot" = some (.ref c.KC))(CInbd:bE K dCIn DW [])(GCIn:aj P w K mg base ay 2 fCIn dCIn DW (kR c))
 (FInmk:Mk K c.KF fFIn) (FInnm:mg "FileKnot" = some (.ref c.KF)) (FInbd:bE K dFIn DR []) (GFIn:aj P w K mg base ay 2 fFIn dFIn DR (kS c))
 (DInmk:Mk K c.KD fDIn) (DInnm:mg "FolderKnot" = some (.ref c.KD)) (DInbd:bE K dDIn DX []) (GDIn:aj P w K mg base ay 2 fDIn dDIn DX (oo c)):aj P w K mg base ay 4 f fd D9 (uS c):=by
 refine F.ok BH (fun vs H Q E h=>?_) (fun cdv A outer s H vs Q E hr h=>?_)
 . obtain⟨k,t,rfl,_⟩:=h;rfl
 obtain⟨k,t,rfl,ht,q⟩:=h;obtain⟨a,vs,rfl,ea,ka⟩:=ht.tup;refine⟨_,(ad (aZ (aB bW (au ap (pv 0) ae (fun Fc Fc=>rfl)) a5 (aH _))
  (af (aw (di CInmk GCIn (hr.mono (by decide)) rfl CInnm CInbd .nil ao (pc (au ap (pv 0) ae (fun Fc Fc=>rfl)) (pc (au ap (pv 0) ae (fun Fc Fc=>rfl)) ac)))))
  aM)
  (ad (aZ (aB bW (au ap (pv 0) ae (fun Fc Fc=>rfl)) a5 (aH _))
  (af (aw (di FInmk GFIn (hr.mono (by decide)) rfl FInnm FInbd .nil ao (pc (au ap (pv 0) ae (fun Fc Fc=>rfl)) (pc (au ap (pv 0) ae (fun Fc Fc=>rfl)) (pc (au ap (pv 0) ae (fun Fc Fc=>rfl)) ac))))))
  aM)
  (af (aw (di DInmk GDIn (hr.mono (by decide)) rfl DInnm DInbd .nil ao (pc (au ap (pv 0) ae (fun Fc Fc=>rfl)) (pc (au ap (pv 0) ae (fun Fc Fc=>rfl)) (pc (au ap (pv 0) ae (fun Fc Fc=>rfl)) ac)))))))),?_⟩
 cases k with
 | cel b cs =>
  obtain⟨v0,h0,a0⟩:=ka.at (i:=0) rfl;obtain⟨v1,h1,a1⟩:=ka.at (i:=1) rfl;obtain⟨v2,h2,a2⟩:=ka.at (i:=2) rfl;have e0:v0 = .str (Str.ofString "cells"):=by unfold At at a0;exact a0
  have e1:v1 = .int b:=by unfold At at a1;exact a1
  subst e0 e1;refine⟨_,rfl,a,_,0,_,rfl,rfl,a8.of ea,aP h0,rfl,_,rfl,?_⟩;rw[decide_eq_true rfl];exact c6 ⟨_,rfl,a,_,1,_,rfl,rfl,a8.of ea,aP h1,_,rfl,a,_,2,_,rfl,rfl,a8.of ea,aP h2,C0 (.inl a2) q⟩
 | fil b s' r =>
  obtain⟨v0,h0,a0⟩:=ka.at (i:=0) rfl;obtain⟨v1,h1,a1⟩:=ka.at (i:=1) rfl;obtain⟨v2,h2,a2⟩:=ka.at (i:=2) rfl;obtain⟨v3,h3,a3⟩:=ka.at (i:=3) rfl;have e0:v0 = .str (Str.ofString "file"):=by unfold At at a0;exact a0
  have e1:v1 = .int b:=by unfold At at a1;exact a1
  have e2:v2 = .int s':=by unfold At at a2;exact a2
  subst e0 e1 e2;refine⟨_,rfl,a,_,0,_,rfl,rfl,a8.of ea,aP h0,rfl,_,rfl,?_⟩;rw[decide_eq_false (show ¬ V.str (Str.ofString "file")=V.str (Str.ofString "cells")from fun z=>by injection z with z;revert z;decide +kernel)];refine br ⟨_,rfl,a,_,0,_,rfl,rfl,a8.of ea,aP h0,rfl,_,rfl,?_⟩;rw[decide_eq_true rfl];exact c6 ⟨_,rfl,a,_,1,_,rfl,rfl,a8.of ea,aP h1,_,rfl,a,_,2,_,rfl,rfl,a8.of ea,aP h2,_,rfl,a,_,3,_,rfl,rfl,a8.of ea,aP h3,yV (.inl a3) q⟩
 | fol b m es =>
  obtain⟨v0,h0,a0⟩:=ka.at (i:=0) rfl;obtain⟨v1,h1,a1⟩:=ka.at (i:=1) rfl;obtain⟨v2,h2,a2⟩:=ka.at (i:=2) rfl;obtain⟨v3,h3,a3⟩:=ka.at (i:=3) rfl;have e0:v0 = .str (Str.ofString "folder"):=by unfold At at a0;exact a0
  have e1:v1 = .int b:=by unfold At at a1;exact a1
  have e2:v2 = .int m:=by unfold At at a2;exact a2
  subst e0 e1 e2;refine⟨_,rfl,a,_,0,_,rfl,rfl,a8.of ea,aP h0,rfl,_,rfl,?_⟩;rw[decide_eq_false (show ¬ V.str (Str.ofString "folder")=V.str (Str.ofString "cells")from fun z=>by injection z with z;revert z;decide +kernel)];refine br ⟨_,rfl,a,_,0,_,rfl,rfl,a8.of ea,aP h0,rfl,_,rfl,?_⟩;rw[decide_eq_false (show ¬ V.str (Str.ofString "folder")=V.str (Str.ofString "file")from fun z=>by injection z with z;revert z;decide +kernel)];exact br ⟨_,rfl,a,_,1,_,rfl,rfl,a8.of ea,aP h1,_,rfl,a,_,2,_,rfl,rfl,a8.of ea,aP h2,_,rfl,a,_,3,_,rfl,rfl,a8.of ea,aP h3,BF (.inl a3) q⟩
end
section
variable {P:Program}{w:World}{K:W.Frag}{mg:Str->Option Value}{base:Heap}{f fCIn fFIn fDIn fPin fDOt:Addr}{fd dCIn dFIn dDIn dPin dDOt:FuncData}{c:Cl}
def iK (c:Cl)(k0:Kn->Prop):Sp:=fun vs H Q Fc=>∃k x,vs=[x]/\bT c H k x/\k0 k/\∀t H',aE H H'->At H' (.tup (Dl k)) t->Q t H'
def sU (k:Kn):Prop:=∃b cs,k = .cel b cs
def uT (k:Kn):Prop:=∃b s r,k = .fil b s r
def uU (k:Kn):Prop:=∃b m es,k = .fol b m es
theorem BI:aq DB DB (ai uz):=⟨rfl,rfl,rfl,by decide +kernel,rfl,by decide +kernel,by decide +kernel⟩
theorem yZ (F:bN K "stuff" "CellsKnot.stuff" uz f fd)(cf:CF K mg c):aj P w K mg base ay 1 f fd DB (iK c sU):=by
 refine F.ok BI (fun vs H Q E h=>?_) (fun cdv A outer s H vs Q E hr h=>?_)
 . obtain⟨k,x,rfl,_⟩:=h;rfl
 obtain⟨k,x,rfl,hk,⟨b,cs,rfl⟩,q⟩:=h;obtain⟨p,dx,v,rfl,e,a⟩:=hk;refine⟨_,(af (aw (bq (pc a5 (pc (a7 (pv 0) rfl) (pc (a7 (pv 0) rfl) ac)))))),?_⟩;refine⟨_,rfl,p,c.KC,dx,_,_,rfl,e,cf.clC,cf.bC,rfl,_,rfl,p,c.KC,dx,_,_,rfl,e,cf.clC,cf.cC,rfl,(by show 3<=sizeLine;decide),fun t ht=>?_⟩;exact q _ _ (ah ht _) (At.mkT aa (bi.cons (At.str _) (bi.cons (At.int _) (bi.cons (a.mono (ah ht _)) (bi.nil _)))))
theorem BJ:aq DB DB (ai uA):=⟨rfl,rfl,rfl,by decide +kernel,rfl,by decide +kernel,by decide +kernel⟩
theorem y3 (F:bN K "stuff" "FileKnot.stuff" uA f fd)(cf:CF K mg c):aj P w K mg base ay 1 f fd DB (iK c uT):=by
 refine F.ok BJ (fun vs H Q E h=>?_) (fun cdv A outer s H vs Q E hr h=>?_)
 . obtain⟨k,x,rfl,_⟩:=h;rfl
 obtain⟨k,x,rfl,hk,⟨b,s',r,rfl⟩,q⟩:=h;obtain⟨p,dx,v,rfl,e,a⟩:=hk;refine⟨_,(af (aw (bq (pc a5 (pc (a7 (pv 0) rfl) (pc (a7 (pv 0) rfl) (pc (a7 (pv 0) rfl) ac))))))),?_⟩;refine⟨_,rfl,p,c.KF,dx,_,_,rfl,e,cf.clF,cf.bF,rfl,_,rfl,p,c.KF,dx,_,_,rfl,e,cf.clF,cf.sF,rfl,_,rfl,p,c.KF,dx,_,_,rfl,e,cf.clF,cf.rF,rfl,(by show 4<=sizeLine;decide),fun t ht=>?_⟩;exact q _ _ (ah ht _) (At.mkT aa (bi.cons (At.str _) (bi.cons (At.int _) (bi.cons (At.int _) (bi.cons (a.mono (ah ht _)) (bi.nil _))))))
theorem BK:aq DB DB (ai uB):=⟨rfl,rfl,rfl,by decide +kernel,rfl,by decide +kernel,by decide +kernel⟩
theorem y4 (F:bN K "stuff" "FolderKnot.stuff" uB f fd)(cf:CF K mg c):aj P w K mg base ay 1 f fd DB (iK c uU):=by
 refine F.ok BK (fun vs H Q E h=>?_) (fun cdv A outer s H vs Q E hr h=>?_)
 . obtain⟨k,x,rfl,_⟩:=h;rfl
 obtain⟨k,x,rfl,hk,⟨b,s',r,rfl⟩,q⟩:=h;obtain⟨p,dx,v,rfl,e,a⟩:=hk;refine⟨_,(af (aw (bq (pc a5 (pc (a7 (pv 0) rfl) (pc (a7 (pv 0) rfl) (pc (a7 (pv 0) rfl) ac))))))),?_⟩;refine⟨_,rfl,p,c.KD,dx,_,_,rfl,e,cf.clD,cf.bD,rfl,_,rfl,p,c.KD,dx,_,_,rfl,e,cf.clD,cf.lD,rfl,_,rfl,p,c.KD,dx,_,_,rfl,e,cf.clD,cf.eD,rfl,(by show 4<=sizeLine;decide),fun t ht=>?_⟩;exact q _ _ (ah ht _) (At.mkT aa (bi.cons (At.str _) (bi.cons (At.int _) (bi.cons (At.int _) (bi.cons (a.mono (ah ht _)) (bi.nil _))))))
def C2:Kn->List Int
 | .cel ..=>[]
 | .fil _ _ r=>r.map (·.2.2.1)
 | .fol _ _ es=>es.map (·.2.2)
def Co (ns ms:List Int):Prop:=ms.Pairwise (· < ·)/\∀k,k∈ms↔k∈ns
def Dm:Kn->Nat
 | .cel _ cs=>cs.length
 | .fil _ _ r=>r.length
 | .fol _ _ es=>es.length
def oq (c:Cl)(k0:Kn->Prop):Sp:=fun vs H Q Fc=>∃k x,vs=[x]/\bT c H k x/\k0 k/\Dm k<=20/\∀p H' ms,aE H H'->H p=none->H' p=some (.lst (ms.map V.int))->Co (C2 k) ms->Q (.ref p) H'
theorem BL:aq DB DB (ai yw):=⟨rfl,rfl,rfl,by decide +kernel,rfl,by decide +kernel,by decide +kernel⟩
theorem y7 (F:bN K "points" "CellsKnot.points" yw f fd):aj P w K mg base ay 1 f fd DB (oq c sU):=by
 refine F.ok BL (fun vs H Q E h=>?_) (fun cdv A outer s H vs Q E hr h=>?_)
 . obtain⟨k,x,rfl,_⟩:=h;rfl
 obtain⟨k,x,rfl,hk,⟨b,cs,rfl⟩,_,q⟩:=h;refine⟨_,(af (aw (bR ac))),?_⟩;exact⟨by decide,fun p hp=>q p _ [] (ah hp _) hp aa ⟨List.Pairwise.nil,fun k=>Iff.rfl⟩⟩
def spPin:Sp:=fun vs H Q Fc=>∃(r:List S4) (x:V),vs=[x]/\At H (.tup (r.map sT)) x/\r.length<=20/\∀p H' ms,aE H H'->H p=none->H' p=some (.lst (ms.map V.int))->Co (r.map (·.2.2.1)) ms->Q (.ref p) H'
theorem BM:aq DM DM (ai wg):=⟨rfl,rfl,rfl,by decide +kernel,rfl,by decide +kernel,by decide +kernel⟩
theorem y8 (F:bN K "places_in" "places_in" wg f fd)(T:Txt mg):aj P w K mg base ay 1 f fd DM spPin:=by
 refine F.ok BM (fun vs H Q E h=>?_) (fun cdv A outer s H vs Q E hr h=>?_)
 . obtain⟨r,x,rfl,_⟩:=h;rfl
 obtain⟨r,x,rfl,hx,hl,q⟩:=h;obtain⟨t1,pl2⟩:=T.pl2;obtain⟨a,vs,rfl,ea,ka⟩:=hx.tup;have ln:=ka.len;rw[List.length_map]at ln;refine⟨_,(af (aw (qv rfl rfl T.srt rfl T.set (cW [] [] (c8 (pv 0)) (fun Fc Fc Fc Fc Fc Fc=>cD)
         (fun Fc Fc Fc Fc Fc Fc=>(au (gH (K:=K) rfl) (pv 0) (aX (v:=.int 2) rfl pl2 ⟨_,rfl⟩) (fun Fc Fc=>rfl)))
         rfl (by decide +kernel) (by decide +kernel) rfl (by decide +kernel) (fun Fc Fc z=>nomatch z) rfl (by decide +kernel) rfl)))),?_⟩
 refine⟨_,rfl,a,true,rfl,⟨_,Sq.of (tu:=true) ea⟩,fun p hp=>?_⟩;refine jo (K:=K) (tu:=true) (a:=a) (xs:=vs) (fun i us H2=>aE H H2/\H2 p=some (.lst us)/\us=((r.take i).map (·.2.2.1)).map V.int) ⟨ah hp _,aa,rfl⟩ (fun i us H2 Fc h2=>Sq.of (tu:=true) (h2.1 _ _ ea)) ?_ ?_
 . rintro i v us H2 hv ⟨s2,e2,rfl⟩;obtain⟨t,ht,hat⟩:=(ka.mono s2).get hv;rw[List.getElem?_map]at ht;obtain⟨y,hy,rfl⟩:=Option.map_eq_some_iff.mp ht;obtain⟨b,ws,rfl,eb,kb⟩:=hat.tup;obtain⟨u,hu,hau⟩:=kb.at (i:=2) rfl;unfold At at hau;subst hau;have li:i < r.length:=(List.getElem?_eq_some_iff.mp hy).1;refine tM ⟨_,rfl,b,ws,2,_,rfl,rfl,a8.of eb,aP hu,e2,bg (by simp;omega),ba s2 hp _,aa,?_⟩;rw[List.take_add_one,hy,List.map_append,List.map_append];rfl
 . rintro us H2 ⟨s2,e2,rfl⟩;rw[ln,List.take_length]at e2;refine⟨p,r.map (·.2.2.1),rfl,bh.of e2,by rw[List.length_map];omega,fun l ms h1 h2 hn=>?_⟩;exact q l _ ms (s2.trans (ah hn _)) (s2.free hn) aa ⟨h1,h2⟩
theorem BN:aq DB DB (ai yy):=⟨rfl,rfl,rfl,by decide +kernel,rfl,by decide +kernel,by decide +kernel⟩
theorem y9 (F:bN K "points" "FileKnot.points" yy f fd)(cf:CF K mg c)(hPin:bG K mg "places_in" wg DM fPin dPin)(GPin:aj P w K mg base ay 1 fPin dPin DM spPin):aj P w K mg base ay 2 f fd DB (oq c uT):=by
 refine F.ok BN (fun vs H Q E h=>?_) (fun cdv A outer s H vs Q E hr h=>?_)
 . obtain⟨k,x,rfl,_⟩:=h;rfl
 obtain⟨k,x,rfl,hk,⟨b,s',r,rfl⟩,hz,q⟩:=h;obtain⟨p,dx,v,rfl,e,a⟩:=hk;refine⟨_,(af (aw (ar GPin (hr.mono (by decide)) rfl hPin.nm hPin.fn.kp hPin.bd .nil ao (pc (a7 (pv 0) rfl) ac)))),?_⟩;exact⟨_,rfl,p,c.KF,dx,_,v,rfl,e,cf.clF,cf.rF,rfl,r,v,rfl,a,hz,q⟩
theorem BO:aq DB DB (ai wk):=⟨rfl,rfl,rfl,by decide +kernel,rfl,by decide +kernel,by decide +kernel⟩
theorem za (F:bN K "points" "FolderKnot.points" wk f fd)(cf:CF K mg c)(T:Txt mg):aj P w K mg base ay 1 f fd DB (oq c uU):=by
 refine F.ok BO (fun vs H Q E h=>?_) (fun cdv A outer s H vs Q E hr h=>?_)
 . obtain⟨k,x,rfl,_⟩:=h;rfl
 obtain⟨k,x,rfl,hk,⟨b,s',es,rfl⟩,hz,q⟩:=h;obtain⟨p0,dx,v,rfl,e,hx⟩:=hk;obtain⟨a,vs,rfl,ea,ka⟩:=hx.tup;have ln:=ka.len;rw[List.length_map]at ln;have hz':es.length<=20:=hz;refine⟨_,(af (aw (qv rfl rfl T.srt rfl T.set (nk (g:=g3 K) Ex [] [] (c8 (a7 (pv 0) rfl)) (fun Fc Fc Fc Fc Fc Fc=>dN rfl (aR (aJ (i:=0) (show(Ex:List Str).Nodup by decide +kernel) rfl (Or.inl rfl)) (aR (aJ (i:=1) (show(Ex:List Str).Nodup by decide +kernel) rfl (Or.inl rfl)) (aR (aJ (i:=2) (show(Ex:List Str).Nodup by decide +kernel) rfl (Or.inl rfl)) cP)))) (fun Fc Fc Fc Fc Fc Fc=>cD)
         (fun Fc Fc Fc Fc Fc Fc=>(pv 2))
         rfl (by decide +kernel) (by decide +kernel) (by decide +kernel) (fun Fc Fc z=>nomatch z) rfl rfl)))),?_⟩
 refine⟨_,rfl,p0,c.KD,dx,_,_,rfl,e,cf.clD,cf.eD,rfl,a,true,rfl,⟨_,Sq.of (tu:=true) ea⟩,fun p hp=>?_⟩;refine Bj (K:=K) (tu:=true) (a:=a) (xs:=vs) (fun i us H2=>aE H H2/\H2 p=some (.lst us)/\us=((es.take i).map (·.2.2)).map V.int) ⟨ah hp _,aa,rfl⟩ (fun i us H2 Fc h2=>Sq.of (tu:=true) (h2.1 _ _ ea)) ?_ ?_
 . rintro i v us H2 hv ⟨s2,e2,rfl⟩;obtain⟨t,ht,hat⟩:=(ka.mono s2).get hv;rw[List.getElem?_map]at ht;obtain⟨y,hy,rfl⟩:=Option.map_eq_some_iff.mp ht;obtain⟨b,c1,c2,c3,rfl,eb,rfl,rfl,rfl⟩:=jC hat;have li:i < es.length:=(List.getElem?_eq_some_iff.mp hy).1;refine⟨b,_,_,_,rfl,a8.of eb,tM ⟨_,rfl,e2,bg (by simp;omega),ba s2 hp _,aa,?_⟩⟩;rw[List.take_add_one,hy,List.map_append,List.map_append];rfl
 . rintro us H2 ⟨s2,e2,rfl⟩;rw[ln,List.take_length]at e2;refine⟨p,es.map (·.2.2),rfl,bh.of e2,by rw[List.length_map];omega,fun l ms h1 h2 hn=>?_⟩;exact q l _ ms (s2.trans (ah hn _)) (s2.free hn) aa ⟨h1,h2⟩
def jT (es:List Ent)(n:Str):List Ent:=es.filter fun e=>decide (e.1≠n)
def uV (c:Cl):Sp:=fun vs H Q Fc=>∃b m es x n,vs=[x,.str n]/\bT c H (.fol b m es) x/\es.length<=20/\∀p H' us,aE H H'->H p=none->H' p=some (.lst us)->bi H' ((jT es n).map pW) us->Q (.ref p) H'
theorem BP:aq DI DI (ai wm):=⟨rfl,rfl,rfl,by decide +kernel,rfl,by decide +kernel,by decide +kernel⟩
theorem zb (F:bN K "others" "FolderKnot.others" wm f fd)(cf:CF K mg c):aj P w K mg base ay 1 f fd DI (uV c):=by
 refine F.ok BP (fun vs H Q E h=>?_) (fun cdv A outer s H vs Q E hr h=>?_)
 . obtain⟨b,m,es,x,n,rfl,_⟩:=h;rfl
 obtain⟨b,m,es,x,n,rfl,hk,hz,q⟩:=h;obtain⟨p0,dx,v,rfl,e,hx⟩:=hk;obtain⟨a,vs,rfl,ea,ka⟩:=hx.tup;have ln:=ka.len;rw[List.length_map]at ln;refine⟨_,(af (aw (cW [1] ["name"] (c8 (a7 (pv 0) rfl)) (fun Fc Fc Fc Fc Fc Fc=>(qt (aB gx (au (gH (K:=K) rfl) (pv 0) ae (fun Fc Fc=>rfl)) (pv 1) (aH _))))
         (fun Fc Fc Fc Fc Fc Fc=>(pv 0))
         rfl (by decide +kernel) (by decide +kernel) rfl (by decide +kernel) (fun j y hj=>by
          match j,hj with
          | 0,hj=>cases hj;exact⟨1,rfl,rfl,rfl,.inl rfl⟩) rfl (by decide +kernel) rfl))),?_⟩
 refine⟨_,rfl,p0,c.KD,dx,_,_,rfl,e,cf.clD,cf.eD,rfl,a,true,rfl,⟨_,Sq.of (tu:=true) ea⟩,fun p hp=>?_⟩;refine jo (K:=K) (tu:=true) (a:=a) (xs:=vs) (fun i us H2=>aE H H2/\H2 p=some (.lst us)/\bi H2 ((jT (es.take i) n).map pW) us) ⟨ah hp _,aa,bi.nil _⟩ (fun i us H2 Fc h2=>Sq.of (tu:=true) (h2.1 _ _ ea)) ?_ ?_
 . rintro i v us H2 hv ⟨s2,e2,k2⟩;obtain⟨t,ht,hat⟩:=(ka.mono s2).get hv;rw[List.getElem?_map]at ht;obtain⟨y,hy,rfl⟩:=Option.map_eq_some_iff.mp ht;have hat':=hat;obtain⟨q1,c1,c2,c3,rfl,eb,rfl,rfl,rfl⟩:=jC hat;have li:i < es.length:=(List.getElem?_eq_some_iff.mp hy).1;have lu:=k2.len;have lf:=List.length_filter_le (fun e:Ent=>decide (e.1≠n)) (es.take i);rw[List.length_map]at lu;unfold jT at lu;rw[List.length_take]at lf;refine⟨_,rfl,q1,_,0,_,rfl,rfl,a8.of eb,aP (j:=0) rfl,_,rfl,rfl,_,rfl,?_⟩;have ed:decide (V.str y.1=V.str n)=decide (y.1=n):=decide_eq_decide.mpr ⟨fun h=>by injection h,fun h=>by rw[h]⟩;rw[ed];have et:jT (es.take (i+1)) n=jT (es.take i) n++(if decide (y.1≠n)=true then [y]else []):=by
    unfold jT;rw[List.take_add_one,hy,List.filter_append]
    congr 1
    show List.filter _ [y]=_;rw[List.filter_cons];rfl
   rw[et,show(!decide (y.1=n))=decide (y.1≠n) by rw[decide_not]];refine dl (fun k=>?_) (fun k=>?_)
   . rw[if_pos k,List.map_append];refine⟨_,rfl,e2,bg (by omega),ba s2 hp _,aa,?_⟩;exact bi.keepT (BG e2) (jr fun t m=>by
      rcases List.mem_append.mp m with m|m
      . obtain⟨z,_,rfl⟩:=List.mem_map.mp m;rfl
      . rw[List.mem_singleton.mp m];rfl) (bi.app (bi.cons hat' (bi.nil _)) k2)
   . rw[if_neg k,List.append_nil];exact⟨s2,e2,k2⟩
 . rintro us H2 ⟨s2,e2,k2⟩;rw[ln,List.take_length]at k2;exact q p H2 us s2 hp e2 k2
end
def e0:Ent:=(Str.empty,Str.empty,0)
def fG (l:List Ent):List Ent:=(eW (l.map (·.1))).map fun i=>l.getD i e0
theorem ou {H:Hp}{l:List Ent}{vs:List V}(k:bi H (l.map pW) vs):∀ix:List Nat,(∀i∈ix,i < l.length)->bi H ((ix.map fun i=>l.getD i e0).map pW) (ix.map fun i=>vs.getD i V.non)
 | [],_=>bi.nil _
 | i :: ix,h=>by
  have hi:=h i (List.mem_cons_self ..);have lv:=k.len;rw[List.length_map]at lv;obtain⟨v,hv,hat⟩:=k.at (i:=i) (t:=pW l[i]) (by rw[List.getElem?_map,List.getElem?_eq_getElem hi];rfl);refine bi.cons ?_ (ou k ix fun j hj=>h j (List.mem_cons_of_mem _ hj));dsimp only;rw[List.getD_eq_getElem?_getD,List.getD_eq_getElem?_getD,hv,List.getElem?_eq_getElem hi];exact hat
theorem wL {H:Hp}{l:List Ent}{vs:List V}(k:bi H (l.map pW) vs):bi H ((fG l).map pW) (rX (l.map (·.1)) vs):=by
 refine ou k _ fun i hi=>?_;have:=(fP (l.map (·.1))).mem_iff.mp hi;rw[List.length_map]at this;exact List.mem_range.mp this
theorem sy {H:Hp}{l:List Ent}{vs:List V}(k:bi H (l.map pW) vs):∀(i:Nat) v z,vs[i]? = some v->(l.map (·.1))[i]? = some z->∃b ws,v = .ref b/\H b=some (.tup (.str z :: ws)):=by
 intro i v z hv hz;obtain⟨t,ht,hat⟩:=k.get hv;rw[List.getElem?_map]at ht hz;obtain⟨y,hy,rfl⟩:=Option.map_eq_some_iff.mp ht;rw[hy]at hz;cases hz;obtain⟨b,c1,c2,c3,rfl,eb,rfl,rfl,rfl⟩:=jC hat;exact⟨b,_,rfl,eb⟩
def dE (es:List Ent)(y:Ent):List Ent:=jT es y.1++[y]
theorem wM (es:List Ent)(y:Ent):(dE es y).length<=es.length+1:=by
 unfold dE jT;rw[List.length_append];have:=List.length_filter_le (fun e:Ent=>decide (e.1≠y.1)) es;simp only[List.length_cons,List.length_nil];omega
theorem kT {es:List Ent}{y:Ent}(h:(es.map (·.1)).Nodup):((dE es y).map (·.1)).Nodup:=by
 unfold dE;rw[List.map_append];refine List.nodup_append.mpr ⟨?_,by simp,fun a ha b hb=>?_⟩
 . exact h.sublist ((List.filter_sublist ..).map _)
 . obtain⟨e,he,rfl⟩:=List.mem_map.mp ha;have:=(List.mem_filter.mp he).2;have ne:e.1≠y.1:=of_decide_eq_true this;have:b=y.1:=by simpa using hb
   rw[this];exact ne
section
variable {P:Program}{w:World}{K:W.Frag}{mg:Str->Option Value}{base:Heap}{f fCIn fFIn fDIn fPin fDOt:Addr}{fd dCIn dFIn dDIn dPin dDOt:FuncData}{c:Cl}
def uW (c:Cl):Sp:=fun vs H Q Fc=>∃(b m b2:Int) (es:List Ent) (x:V) (y:Ent),vs=[x,.int b2,.str y.1,.str y.2.1,.int y.2.2]/\bT c H (.fol b m es) x/\es.length<=20/\(es.map (·.1)).Nodup/\∀z H',aE H H'->bT c H' (.fol b2 m (fG (dE es y))) z->Q z H'
theorem BQ:aq Ea Ea (ai wl):=⟨rfl,rfl,rfl,by decide +kernel,rfl,by decide +kernel,by decide +kernel⟩
theorem zc (F:bN K "with_entry" "FolderKnot.with_entry" wl f fd)(cf:CF K mg c)(DInmk:Mk K c.KD fDIn)(DInnm:mg "FolderKnot" = some (.ref c.KD))(DInbd:bE K dDIn DX [])(GDIn:aj P w K mg base ay 2 fDIn dDIn DX (oo c))
 (hDOt:aU K c.KD "others" "FolderKnot.others" wm DI fDOt dDOt) (GDOt:aj P w K mg base ay 1 fDOt dDOt DI (uV c)) (T:Txt mg):aj P w K mg base ay 4 f fd Ea (uW c):=by
 refine F.ok BQ (fun vs H Q E h=>?_) (fun cdv A outer s H vs Q E hr h=>?_)
 . obtain⟨b,m,b2,es,x,y,rfl,_⟩:=h;rfl
 obtain⟨b,m,b2,es,x,y,rfl,hk,hz,nd,q⟩:=h;have hk0:=hk;obtain⟨p0,dx,v,rfl,e,hx⟩:=hk;refine⟨_,(af (aw (di DInmk GDIn (hr.mono (by decide)) rfl DInnm DInbd .nil ao (pc (pv 1) (pc (a7 (pv 0) rfl) (pc (aF (lV (tu:=false)) rfl T.srt PyProof.Rows.boot_sorted (pc (ax gf (aD (pv 0) cf.clD hDOt.me GDOt (hr.mono (by decide)) hDOt.bd .nil ao (pc (pv 2) ac)) (bR (pc (bq (pc (pv 2) (pc (pv 3) (pc (pv 4) ac)))) ac))) ac)) ac)))))),?_⟩;refine⟨_,rfl,_,rfl,p0,c.KD,dx,_,_,rfl,e,cf.clD,cf.lD,rfl,?_⟩;refine⟨_,rfl,p0,dx,_,rfl,e,rfl,_,rfl,b,m,es,_,_,rfl,hk0,hz,fun p H1 us s1 hp e1 k1=>?_⟩;refine⟨_,rfl,_,rfl,_,rfl,(by show 3<=sizeLine;decide),fun t ht=>⟨(by show 1<=sizeLine;decide),fun l hl=>?_⟩⟩;have lo:us.length<=20:=by
  have:=k1.len;have lf:=List.length_filter_le (fun e:Ent=>decide (e.1≠y.1)) es;rw[List.length_map]at this;unfold jT at this;omega
 have sA:=(ah ht (HO.tup [V.str y.1,V.str y.2.1,V.int y.2.2])).trans (ah hl (HO.lst [V.ref t]));have el:aL (aL H1 t (.tup [.str y.1,.str y.2.1,.int y.2.2])) l (.lst [.ref t]) l=some (.lst [.ref t]):=aa;refine⟨p,l,us,[.ref t],rfl,rfl,sA _ _ e1,el,Nat.le_of_lt (bg (by simp;omega)),fun r hr'=>?_⟩;have sB:=sA.trans (ah hr' (HO.lst (us++[V.ref t])));have kA:bi (aL (aL (aL H1 t (.tup [.str y.1,.str y.2.1,.int y.2.2])) l (.lst [.ref t])) r (.lst (us++[.ref t]))) ((dE es y).map pW) (us++[.ref t]):=by
  unfold dE;rw[List.map_append];refine bi.app (bi.cons (At.mkT (vs:=[.str y.1,.str y.2.1,.int y.2.2]) ?_ (bi.cons (At.str _) (bi.cons (At.str _) (bi.cons (At.int _) (bi.nil _))))) (bi.nil _)) (k1.mono sB);exact ah hr' _ _ _ (ah hl _ _ _ aa)
 have lA:=kA.len;have al:=wM es y;rw[List.length_map]at lA;refine⟨r,us++[.ref t],(dE es y).map (·.1),rfl,bh.of aa,by omega,by rw[List.length_map];exact lA,sy kA,kT nd,fun o ho=>?_⟩;have sC:=sB.trans (ah ho (HO.lst (rX ((dE es y).map (·.1)) (us++[V.ref t]))));exact BF (.inr (At.mkL aa ((wL kA).mono (ah ho _)))) fun z H' s' hz=>q z H' (s1.trans (sC.trans s')) hz
end
structure DS where
 root:Int
 ks:List Kn
def DS.view (D:DS)(p:Int):Kn:=if 1000<=p then(D.ks[(p - 1000).toNat]?).getD (.fol 1 0 [])else .fol 1 0 []
def cI:Pos:=⟨0,0,0,0⟩
def pX:Stmt->List Stmt
 | .FunctionDef _ _ b _ _ _ _ _ _ _=>b
 | _=>[]
def BR:Stmt->Expr
 | .Assign _ (.Call _ (e :: _) _ _) _=>e
 | _=>.Name "" cI
def C4 (q x:Str):Expr->L0T
 | .Lambda ps b sc p=>⟨q,ps,x,b,sc⟩
 | _=>⟨q,⟨[],[],none,[],[],none,[]⟩,x,.Name "" cI,ai sh⟩
def sG (j:Bool):L0T:=C4 "law.<locals>.<lambda>" "_law_place" (BR ((pX sr).getD (if j then 2 else 1) (.Pass cI)))
theorem Dw:∀j,(sG j).Ok:=fun j=>by
 cases j
 . exact⟨⟨rfl,rfl,rfl,by decide +kernel,rfl⟩,fun z h=>absurd rfl ((show ∀y∈(sG false).scope.names,y.2≠NameKind.free by decide +kernel) _ (PySem.mem_of_lookup h)),fun Fc Fc Fc Fc=>rfl⟩
 . exact⟨⟨rfl,rfl,rfl,by decide +kernel,rfl⟩,fun z h=>absurd rfl ((show ∀y∈(sG true).scope.names,y.2≠NameKind.free by decide +kernel) _ (PySem.mem_of_lookup h)),fun Fc Fc Fc Fc=>rfl⟩
def z8 (H:Hp)(f:Addr):Prop:=∃j,jw (sG j) H f
def pY:Nat->List V->List (Key×V)
 | _,[]=>[]
 | n,x :: xs=>(Sum.inl (1000+(n:Int)),x) :: pY (n+1) xs
theorem gO (p:Int):∀(xs:List V) (n:Nat),bB (pY n xs) (Sum.inl p)=if 1000+(n:Int)<=p then xs[(p - 1000 - n).toNat]? else none
 | [],n=>by
  show none=_;split <;> rfl
 | x :: xs,n=>by
  have ih:=gO p xs (n+1);unfold bB at ih ⊢;show((((Sum.inl (1000+(n:Int)),x) :: pY (n+1) xs:List (Key×V)).find? fun kv=>decide (kv.1=Sum.inl p)).map (·.2))=_;rw[List.find?_cons];by_cases e:1000+(n:Int)=p
  . have:decide ((Sum.inl (1000+(n:Int)):Key)=Sum.inl p)=true:=decide_eq_true (by rw[e]);rw[this,if_pos (by omega),show(p - 1000 - (n:Int)).toNat=0 by omega];rfl
  . have:decide ((Sum.inl (1000+(n:Int)):Key)=Sum.inl p)=false:=decide_eq_false (fun z=>e (by injection z));rw[this];show Option.map (·.2) (List.find? (fun kv=>decide (kv.1=Sum.inl p)) (pY (n+1) xs))=_;rw[ih];by_cases h:1000+(n:Int)<=p
    . rw[if_pos h,if_pos (by omega),show(p - 1000 - (n:Int)).toNat=(p - 1000 - ((n+1:Nat):Int)).toNat+1 by omega,List.getElem?_cons_succ]
    . rw[if_neg h,if_neg (by omega)]
theorem qD (y:V):∀(xs:List V) (n:Nat),pY n (xs++[y])=pY n xs++[(Sum.inl (1000+((n+xs.length:Nat):Int)),y)]
 | [],n=>rfl
 | x :: xs,n=>by
  show _ :: pY (n+1) (xs++[y])=_ :: (pY (n+1) xs++_);rw[qD y xs (n+1),List.length_cons,show n+1+xs.length=n+(xs.length+1) by omega]
theorem mi:∀(xs:List V) (n:Nat),(pY n xs).length=xs.length
 | [],_=>rfl
 | _ :: xs,n=>by
  show(pY (n+1) xs).length+1=xs.length+1;rw[mi xs (n+1)]
structure dF (c:Cl)(H:Hp)(d lk fr:Addr)(D:DS):Prop where
 at_:∃dx,H d=some (.ins c.DE dx [("look",.ref lk),("root",.int D.root),("now",.int 5),("fresh",.ref fr)])
 fr_:∃xs:List V,H fr=some (.dK (pY 0 xs))/\xs.length=D.ks.length/\∀(i:Nat) k x,D.ks[i]? = some k->xs[i]? = some x->bT c H k x
 lk_:z8 H lk
theorem dF.mono {c:Cl}{H H':Hp}{d lk fr:Addr}{D:DS}(h:dF c H d lk fr D)(s:aE H H'):dF c H' d lk fr D:=by
 obtain⟨⟨dx,e⟩,⟨xs,e2,l,k⟩,⟨j,g⟩⟩:=h;exact⟨⟨dx,s _ _ e⟩,⟨xs,s _ _ e2,l,fun i k' x h1 h2=>(k i k' x h1 h2).mono s⟩,⟨j,g.mono s⟩⟩
end K41
namespace L2
open PySem PySem.Spec PyProof.Rows
theorem iE {X:Cx}:cT X (.builtin "len") (fun xs H Q=>∃p kvs,xs=[.ref p]/\H p=some (.dK kvs)/\Q (.int (kvs.length:Int)) H):=by
 intro pins s σ H xs us Q I r h;obtain⟨p,kvs,rfl,e,q⟩:=h;obtain⟨u,rfl,rx⟩:=gy r;cases rx;obtain⟨z,nd,vs,rk,dd⟩:=qu I.hok e;have hs:sizeLine=16777216:=sizeLine_eq;have hl:=rk.length;exact PySem.call_len_dict nd dd (by omega) ⟨.int kvs.length,H,I.tok _,⟨_,by rw[hl]⟩,q⟩
end L2
namespace K41
open PySem L2
section
variable {P:Program}{w:World}{K:W.Frag}{mg:Str->Option Value}{base:Heap}{f fKof:Addr}{fd dKof:FuncData}{c:Cl}
def xp (c:Cl):V->Hp->VK->Prop:=fun Fc H Q=>∀z H',aE H H'->bT c H' (.fol 1 0 []) z->Q z H'
theorem zd (hKof:bG K mg "knot_of" wp D9 fKof dKof)(GKof:aj P w K mg base ay 4 fKof dKof D9 (uS c)):∀j,ut P w K mg base 4 (sG j) (xp c):=fun j=>by
 refine⟨Dw j,fun f c' A outer s H v Q hr h=>?_⟩;cases j
 all_goals refine⟨_,ar GKof hr rfl hKof.nm hKof.fn.kp hKof.bd .nil ao (pc (bq (pc a5 (pc ae (pc ae (pc (bq ac) ac))))) ac),?_⟩
 all_goals
  refine⟨(by show 0<=sizeLine;decide),fun p1 h1=>⟨(by show 4<=sizeLine;decide),fun p2 h2=>?_⟩⟩;refine⟨.fol 1 0 [],_,rfl,At.mkT aa (bi.cons (At.str _) (bi.cons (At.int _) (bi.cons (At.int _) (bi.cons (At.mkT (ah h2 _ _ _ aa) (bi.nil _)) (bi.nil _))))),fun z H' s' k=>h z H' ((ah h1 _).trans ((ah h2 _).trans s')) k⟩
def Kf (fr:Addr)(H H':Hp):Prop:=∀q u,q≠fr->H q=some u->H' q=some u
theorem bT.kf {H H':Hp}{fr:Addr}{kvs:List (Key×V)}(hf:H fr=some (.dK kvs))(kp:Kf fr H H'):∀{k:Kn} {x:V},bT c H k x->bT c H' k x:=by
 have ins:∀{q C dx:Addr} {fs:List (Str×V)},H q=some (.ins C dx fs)->H' q=some (.ins C dx fs):=fun {q C dx fs} e=>kp q _ (fun z=>by rw[z,hf]at e;cases e) e;have tup:∀q u,H q=some (.tup u)->H' q=some (.tup u):=fun q u e=>kp q _ (fun z=>by rw[z,hf]at e;cases e) e;intro k x h;cases k with
 | cel b cs =>
  obtain⟨p,dx,v,e,h,a⟩:=h;exact⟨p,dx,v,e,ins h,At.keepT tup (by unfold nl;exact eQ cs) a⟩
 | fil b s r =>
  obtain⟨p,dx,v,e,h,a⟩:=h;exact⟨p,dx,v,e,ins h,At.keepT tup (by unfold nl;exact jB r) a⟩
 | fol b m es =>
  obtain⟨p,dx,v,e,h,a⟩:=h;exact⟨p,dx,v,e,ins h,At.keepT tup (by unfold nl;exact kQ es) a⟩
def dC (c:Cl):Sp:=fun vs H Q Fc=>∃d lk fr D p,vs=[.ref d,.int p]/\dF c H d lk fr D/\∀z H',aE H H'->bT c H' (D.view p) z->Q z H'
theorem xr:aq ["self","place","look"] DD (ai fC):=⟨rfl,rfl,rfl,by decide +kernel,rfl,by decide +kernel,by decide +kernel⟩
theorem ze (F:bN K "view" "Deed.view" fC f fd)(cf:CF K mg c)(LF:∀j,ut P w K mg base 4 (sG j) (xp c)):aj P w K mg base ay 6 f fd DD (dC c):=by
 refine F.ok xr (fun vs H Q E h=>?_) (fun cdv A outer s H vs Q E hr h=>?_)
 . obtain⟨d,lk,fr,D,p,rfl,_⟩:=h;rfl
 obtain⟨d,lk,fr,D,p,rfl,de,q⟩:=h;have hu:(A.deeper (PyProof.Rows.envOfC "Deed.view" (ai fC) s.heap.objs.size f cdv)).units+1 < cLine:=dU hr;obtain⟨dx,hd⟩:=de.at_;obtain⟨xs,hf,lx,kx⟩:=de.fr_;refine⟨_,(ad (aZ (fg (pi hu (pv 1) (a7 (pv 0) rfl)))
  (af (aw (dJ hu (a7 (pv 0) rfl) (pv 1) (fun Fc Fc=>rfl))))
  aM)
  (ad (aA (i:=2) xr.nd rfl (Or.inl rfl) (a7 (pv 0) rfl))
  (af (aw (yp (i:=2) LF (hr.mono (by decide)) (pv 2) (pv 1)))))),?_⟩
 refine⟨_,rfl,_,rfl,d,c.DE,dx,_,_,rfl,hd,cf.clE,cf.fE,rfl,fr,_,rfl,cK.k (k:=.inl p) hf,_,rfl,?_⟩;have ev:=gO p xs 0;rw[show(1000+((0:Nat):Int))=1000 by omega,show p - 1000 - ((0:Nat):Int)=p - 1000 by omega]at ev;cases e:bB (pY 0 xs) (Sum.inl p)with
 | some x =>
  rw[e]at ev;by_cases h:1000<=p
  . rw[if_pos h]at ev;have hi:=ev.symm;have li:=(List.getElem?_eq_some_iff.mp hi).1;rw[lx]at li;have vk:D.view p=D.ks[(p - 1000).toNat]:=by
     unfold DS.view;rw[if_pos h,List.getElem?_eq_getElem li];rfl
    have kn:=kx _ _ x (List.getElem?_eq_getElem li) hi;rw[<- vk]at kn;have dg:=cK.k (k:=.inl p) hf;rw[e]at dg;exact c6 ⟨_,rfl,d,c.DE,dx,_,_,rfl,hd,cf.clE,cf.fE,rfl,_,rfl,fr,x,rfl,dg,q x H (aE.refl H) kn⟩
  . rw[if_neg h]at ev;cases ev
 | none =>
  rw[e]at ev;have vk:D.view p = .fol 1 0 []:=by
   unfold DS.view;split
   . next h =>
     rw[if_pos h]at ev;have:=List.getElem?_eq_none_iff.mp ev.symm;rw[List.getElem?_eq_none (by omega)];rfl
   . rfl
  rw[vk]at q;exact br ⟨_,rfl,d,c.DE,dx,_,_,rfl,hd,cf.clE,cf.kE,rfl,lk,rfl,de.lk_,_,rfl,de.lk_,q⟩
theorem i3 {kvs:List (Key×V)}{k:Key}{v:V}(h:bB kvs k=none):c7 kvs k v=kvs++[(k,v)]:=by
 unfold c7;rw[if_neg];intro z;obtain⟨kv,m,e⟩:=List.any_eq_true.mp z;unfold bB at h;rw[Option.map_eq_none_iff,List.find?_eq_none]at h;exact h kv m e
def kU (c:Cl):Sp:=fun vs H Q Fc=>∃d lk fr D k x,vs=[.ref d,x]/\dF c H d lk fr D/\bT c H k x/\D.ks.length<=5000/\∀H',Kf fr H H'->dF c H' d lk fr ⟨D.root,D.ks++[k]⟩->Q (.int (1000+(D.ks.length:Int))) H'
theorem xt:aq ["self","knot","place"] DV (ai pS):=⟨rfl,rfl,rfl,by decide +kernel,rfl,by decide +kernel,by decide +kernel⟩
theorem zf (F:bN K "grow" "Deed.grow" pS f fd)(cf:CF K mg c)(T:Txt mg):aj P w K mg base ay 1 f fd DV (kU c):=by
 refine F.ok xt (fun vs H Q E h=>?_) (fun cdv A outer s H vs Q E hr h=>?_)
 . obtain⟨d,lk,fr,D,k,x,rfl,_⟩:=h;rfl
 obtain⟨d,lk,fr,D,k,x,rfl,de,kn,l5,q⟩:=h;have hu:(A.deeper (PyProof.Rows.envOfC "Deed.grow" (ai pS) s.heap.objs.size f cdv)).units+1 < cLine:=dU hr;obtain⟨dx,hd⟩:=de.at_;obtain⟨xs,hf,lx,kx⟩:=de.fr_;obtain⟨t1,fnw⟩:=T.fnw;refine⟨_,(ad (aA (i:=2) xt.nd rfl (Or.inl rfl) (ax a6 (aX (v:=.int 1000) rfl fnw ⟨_,rfl⟩) (aF iE rfl T.len PySem.boot_len (pc (a7 (pv 0) rfl) ac))))
  (ad (cS hu (a7 (pv 0) rfl) (pv 2) (pv 1) rfl)
  (af (aw (pv 2))))),?_⟩
 refine⟨_,rfl,d,c.DE,dx,_,_,rfl,hd,cf.clE,cf.fE,rfl,fr,_,rfl,hf,_,_,rfl,rfl,?_⟩;rw[mi,lx];have ev:=gO (1000+(D.ks.length:Int)) xs 0;rw[if_pos (by omega),show(1000+(D.ks.length:Int) - 1000 - ((0:Nat):Int)).toNat=D.ks.length by omega,List.getElem?_eq_none (by omega)]at ev;have kp:Kf fr H (aL H fr (.dK (pY 0 (xs++[x])))):=fun q u n e=>by rw[am n];exact e
 have ep:c7 (pY 0 xs) (Sum.inl (1000+(D.ks.length:Int))) x=pY 0 (xs++[x]):=by
  rw[i3 ev,qD,Nat.zero_add,lx]
 have nd:d≠fr:=fun z=>by rw[z,hf]at hd;cases hd
 refine⟨_,rfl,_,rfl,d,c.DE,dx,_,_,rfl,hd,cf.clE,cf.fE,rfl,_,rfl,fr,_,rfl,.inl ⟨_,.inl (1000+(D.ks.length:Int)),hf,rfl,?_,rfl⟩,?_⟩
 . rw[mi,lx];exact bg (by omega)
 . rw[ep];refine⟨_,rfl,q _ kp ⟨⟨dx,by rw[am nd];exact hd⟩,⟨xs++[x],aa,by simp[lx],fun i k' y h1 h2=>?_⟩,?_⟩⟩
   . rcases Nat.lt_or_ge i D.ks.length with li|li
     . rw[List.getElem?_append_left li]at h1;rw[List.getElem?_append_left (by omega)]at h2;exact(kx i k' y h1 h2).kf hf kp
     . rw[List.getElem?_append_right li]at h1;rw[List.getElem?_append_right (by omega)]at h2;cases ei:i - D.ks.length with
       | zero =>
        rw[ei]at h1;rw[lx,ei]at h2;cases h1;cases h2;exact kn.kf hf kp
       | succ m =>
        rw[ei]at h1;cases h1
   . obtain⟨j,pm,c',ctv,g1,g2⟩:=de.lk_;exact⟨j,pm,c',ctv,kp _ _ (fun z=>by rw[z,hf]at g1;cases g1) g1,kp _ _ (fun z=>by rw[z,hf]at g2;cases g2) g2⟩
end
def wFo:Str:=Str.ofString "folder"
def BS (H:Hp)(o:Option (Str×Int))(x:V):Prop:=match o with
 | none=>x = .non
 | some e=>At H (.tup [.str e.1,.int e.2]) x
def DS.step (D:DS)(o:Option (Str×Int))(n:Str):Option (Str×Int):=match o with
 | none=>none
 | some e=>if e.1=wFo then(match D.view e.2 with
  | .fol _ _ es=>(bO es n).map fun y=>(y.2.1,y.2.2)
  | _=>none)else none
section
variable {P:Program}{w:World}{K:W.Frag}{mg:Str->Option Value}{base:Heap}{f fEvi fDEn fSdn:Addr}{fd dEvi dDEn dSdn:FuncData}{c:Cl}
def uX (c:Cl):Sp:=fun vs H Q Fc=>∃fl d lk fr D x n o,vs=[.ref fl,x,.str n]/\gj "view" H fl d/\dF c H d lk fr D/\BS H o x/\(∀p,o=some (wFo,p)->∃b m es,D.view p = .fol b m es)/\∀v H',aE H H'->BS H' (D.step o n) v->Q v H'
theorem BT:aq Eb Eb (ai wq):=⟨rfl,rfl,rfl,by decide +kernel,rfl,by decide +kernel,by decide +kernel⟩
theorem zg (F:bN K "step_down" "step_down" wq f fd)(cf:CF K mg c)(hEvi:aU K c.DE "view" "Deed.view" fC DD fEvi dEvi)(GEvi:aj P w K mg base ay 6 fEvi dEvi DD (dC c))
 (hDEn:aU K c.KD "entry" "FolderKnot.entry" uC DI fDEn dDEn) (GDEn:aj P w K mg base ay 1 fDEn dDEn DI (qB c)):aj P w K mg base ay 8 f fd Eb (uX c):=by
 refine F.ok BT (fun vs H Q E h=>?_) (fun cdv A outer s H vs Q E hr h=>?_)
 . obtain⟨fl,d,lk,fr,D,x,n,o,rfl,_⟩:=h;rfl
 obtain⟨fl,d,lk,fr,D,x,n,o,rfl,vw,de,hx,hf,q⟩:=h;refine⟨_,(ad (aZ (PW.pt (dG (aB oP (pv 1) ej (aH _)) (cZ (aB gx (au ap (pv 1) ae (fun Fc Fc=>rfl)) a5 (aH _)))))
  (af (aw ej))
  aM)
  (af (aw (aD (lZ (i:=0) GEvi hEvi.bd cf.clE hEvi.me (hr.mono (by decide)) (pv 0) (au ap (pv 1) ae (fun Fc Fc=>rfl))) cf.clD hDEn.me GDEn (hr.mono (by decide)) hDEn.bd .nil ao (pc (pv 2) ac))))),?_⟩
 cases o with
 | none =>
  obtain rfl:x = .non:=hx;exact⟨_,rfl,rfl,_,rfl,c6 (c6 (q _ _ (aE.refl H) rfl))⟩
 | some o =>
  obtain⟨k,pl⟩:=o;obtain⟨a,vs,rfl,ea,ka⟩:=At.tup hx;obtain⟨v0,h0,a0⟩:=ka.at (i:=0) rfl;obtain⟨v1,h1,a1⟩:=ka.at (i:=1) rfl;have e0:v0 = .str k:=by unfold At at a0;exact a0
  have e1:v1 = .int pl:=by unfold At at a1;exact a1
  subst e0 e1;refine⟨_,rfl,rfl,_,rfl,br ⟨_,rfl,a,_,0,_,rfl,rfl,a8.of ea,aP h0,rfl,_,rfl,?_⟩⟩;refine dl (fun d=>?_) (fun d'=>?_)
  . have ne:k≠wFo:=fun z=>by rw[z]at d;revert d;decide +kernel
    have e:D.step (some (k,pl)) n=none:=if_neg ne;exact q _ _ (aE.refl H) (by rw[e];rfl)
  . have ek:k=wFo:=by
     by_cases z:k=wFo
     . exact z
     . exact absurd (by have:V.str k≠V.str (Str.ofString "folder"):=fun y=>z (by injection y);simp[this]) d'
    subst ek;obtain⟨b,l,es,hm⟩:=hf pl rfl;obtain⟨dx,hd⟩:=de.at_;refine⟨fl,rfl,⟨d,vw⟩,_,rfl,a,_,1,_,rfl,rfl,a8.of ea,aP h1,d,dx,_,vw,hd,rfl,d,lk,fr,D,pl,rfl,de,fun z H' s' hz=>?_⟩;rw[hm]at hz;have hz0:=hz;obtain⟨p0,dx',v,rfl,e,hx'⟩:=hz;refine⟨p0,dx',_,rfl,e,rfl,_,rfl,b,l,es,_,n,rfl,hz0,fun v2 H2 s2 hv=>q v2 H2 (s'.trans s2) ?_⟩;have es':D.step (some (wFo,pl)) n=(bO es n).map fun y=>(y.2.1,y.2.2):=by
     unfold DS.step;dsimp only;rw[hm];exact if_pos rfl
    rw[es'];cases hfn:bO es n with
    | none=>rw[hfn]at hv;exact hv
    | some y=>rw[hfn]at hv;exact hv
def DS.at_ (D:DS):List Str->Option (Str×Int)->Option (Str×Int)
 | [],o=>o
 | n :: ns,o=>D.at_ ns (D.step o n)
theorem DS.at_snoc (D:DS)(n:Str):∀(ns:List Str) (o:Option (Str×Int)),D.at_ (ns++[n]) o=D.step (D.at_ ns o) n
 | [],o=>rfl
 | m :: ns,o=>DS.at_snoc D n ns (D.step o m)
def uY (c:Cl):Sp:=fun vs H Q Fc=>∃fl d lk fr D pn ns,vs=[.ref fl,.int D.root,.ref pn]/\gj "view" H fl d/\dF c H d lk fr D/\H pn=some (.lst (ns.map V.str))/\(∀k≤ns.length,∀p,D.at_ (ns.take k) (some (wFo,D.root))=some (wFo,p)->∃b m es,D.view p = .fol b m es)/\∀v H',aE H H'->BS H' (D.at_ ns (some (wFo,D.root))) v->Q v H'
theorem qE:aq ["look","root","names","found","name"] Eh (ai wt):=⟨rfl,rfl,rfl,by decide +kernel,rfl,by decide +kernel,by decide +kernel⟩
theorem zh (F:bN K "found_at" "found_at" wt f fd)(hSdn:bG K mg "step_down" wq Eb fSdn dSdn)(GSdn:aj P w K mg base ay 8 fSdn dSdn Eb (uX c)):aj P w K mg base ay 9 f fd Eh (uY c):=by
 refine F.ok qE (fun vs H Q E h=>?_) (fun cdv A outer s H vs Q E hr h=>?_)
 . obtain⟨fl,d,lk,fr,D,pn,ns,rfl,_⟩:=h;rfl
 obtain⟨fl,d,lk,fr,D,pn,ns,rfl,vw,de,hp,hf,q⟩:=h;refine⟨_,(ad (aA (i:=3) qE.nd rfl (Or.inl rfl) (bq (pc a5 (pc (pv 1) ac))))
  (ad (ck PassesOwn.never rfl (eC (pv 2)) (aJ (i:=4) qE.nd rfl (Or.inl rfl))
  (af (aA (i:=3) qE.nd rfl (Or.inl rfl) (ar GSdn (hr.mono (by decide)) rfl hSdn.nm hSdn.fn.kp hSdn.bd .nil ao (pc (pv 0) (pc (pv 3) (pc (pv 4) ac)))))))
  (af (aw (pv 3))))),?_⟩
 refine⟨_,rfl,(by show 2<=sizeLine;decide),fun t ht=>?_⟩;refine⟨_,rfl,pn,rfl,⟨_,bh.of (ah ht _ _ _ hp)⟩,?_⟩;refine fm (K:=K) (xs:=ns.map V.str) (fun i σ H2=>aE H H2/\∃x o4,σ=[some (.ref fl),some (.int D.root),some (.ref pn),some x,o4]/\BS H2 (D.at_ (ns.take i) (some (wFo,D.root))) x) ⟨ah ht _,_,_,rfl,At.mkT aa (bi.cons (At.str _) (bi.cons (At.int _) (bi.nil _)))⟩ (fun i σ H2 _ h2=>bh.of (h2.1 _ _ hp)) ?_ ?_
 . rintro i y σ H2 hi ⟨s2,x,o4,rfl,hx⟩;rw[List.getElem?_map]at hi;obtain⟨n,h1,rfl⟩:=Option.map_eq_some_iff.mp hi;obtain⟨li,e4⟩:=List.getElem?_eq_some_iff.mp h1;refine⟨_,rfl,_,rfl,_,rfl,fl,d,lk,fr,D,x,n,_,rfl,vw.mono s2,de.mono s2,hx,fun p hp'=>hf i (by omega) p hp',fun v H3 s3 hv=>⟨s2.trans s3,v,_,rfl,?_⟩⟩;rw[List.take_succ_eq_append_getElem li,e4,DS.at_snoc];exact hv
 . rintro σ H2 ⟨s2,x,o4,rfl,hx⟩;rw[List.take_of_length_le (by simp)]at hx;exact⟨_,rfl,q _ _ s2 hx⟩
end
theorem qF {P:Addr}{o:Obj}{ps:Array Value}(nf:o.isFreed=false)(e:eY P o=cN P ps):o=W.tabObj ps:=by
 let h:Heap:={ objs:=Array.replicate P o }
 have g:(h.push o).get? P=some o:=by
  have:=Heap.get?_push_size (h:=h) (o:=o) nf
  rwa [show h.objs.size=P from Array.size_replicate ..]at this
 have c:eY P o (h.push o):=g;rw[e]at c;have c':(h.push o).get? P=some (W.tabObj ps):=c;rw[g]at c';exact Option.some.inj c'
theorem i4 (P:Addr)(ps:Array Value)(q:Str):hW P q≠cN P ps:=fun e=>by
 let o:Obj:={ cls:=.type "list",data:=.fields #[.none,.str q 0] }
 let h:Heap:={ objs:=Array.replicate P o }
 have g:(h.push o).get? P=some o:=by
  have:=Heap.get?_push_size (h:=h) (o:=o) rfl
  rwa [show h.objs.size=P from Array.size_replicate ..]at this
 have c:hW P q (h.push o):=⟨P,o,_,0,rfl,g,rfl,rfl⟩;rw[e]at c;have c':(h.push o).get? P=some (W.tabObj ps):=c;rw[g]at c';have z:o.cls=(W.tabObj ps).cls:=congrArg (fun x=>(Option.getD x o).cls) c';cases z
def cu (H:Hp)(P:Addr):Prop:=∃ps,H P=some (.ext (cN P ps))
theorem aW {H:Hp}{P:Addr}{pos:Pos}{q:Str}(t:bo H P pos q):cu H P:=⟨t.choose,t.choose_spec.1⟩
theorem mj {H:Hp}{P b:Addr}{φ:Heap->Prop}(t:cu H P)(h:H b=some (.ext φ))(n:∀ps,φ≠cN b ps):b≠P:=fun z=>by
 obtain⟨ps,e⟩:=t;subst z;rw[e]at h;injection h with h;injection h with h;exact n ps h.symm
theorem bf {H H':Hp}{P:Addr}{pos:Pos}{q:Str}(t:bo H P pos q)(s:aE H H'):bo H' P pos q:=by
 obtain⟨qs,e,tr,hc⟩:=t;exact⟨qs,s _ _ e,tr,hc.imp id fun⟨c2,a1,a2⟩=>⟨c2,a1,s _ _ a2⟩⟩
def zi:Stmt->Expr
 | .Return (some (.Call _ l _ _)) _=>l.getD 0 (.Name "" cI)
 | _=>.Name "" cI
def BU (q:Str):Expr->LvT×Pos
 | .Lambda ps (.Call (.Attribute (.Name y p1) m p2) [.Name x p3] [] p4) sc p=>(⟨q,ps,x,y,m,p1,p2,p3,p4,sc⟩,p)
 | _=>(⟨q,⟨[],[],none,[],[],none,[]⟩,"","","",cI,cI,cI,cI,ai sh⟩,cI)
def Dn:LvT×Pos:=BU "Deed.standing.<locals>.<lambda>" (zi ((pX ma).getD 0 (.Pass cI)))
def lamS:LvT:=Dn.1
def dP:Pos:=Dn.2
theorem C5:lamS.Ok:=⟨⟨rfl,rfl,rfl,by decide +kernel,rfl⟩,fun Fc Fc Fc Fc=>rfl,fun Fc Fc Fc Fc=>rfl,fun Fc Fc Fc Fc Fc=>rfl,by decide +kernel,by decide +kernel,by decide +kernel,fun Fc=>⟨_,rfl⟩⟩
section
variable {P:Program}{w:World}{K:W.Frag}{mg:Str->Option Value}{base:Heap}{f fFat:Addr}{fd dFat:FuncData}{c:Cl}{cc PS:Addr}
theorem dF.sx {H H':Hp}{d lk fr:Addr}{D:DS}(h:dF c H d lk fr D)(t:cu H PS)(s:eX PS H H'):dF c H' d lk fr D:=by
 obtain⟨⟨dx,e⟩,⟨xs,e2,l,k⟩,⟨j,pm,c',ctv,g1,g2⟩⟩:=h;have up:∀b o,(∀ φ,o≠HO.ext φ)->H b=some o->H' b=some o:=fun b o no e=>s b o (fun z=>by
  obtain⟨ps,hp⟩:=t;rw[z,hp]at e;cases e;exact no _ rfl) e
 refine⟨⟨dx,up _ _ (by intro φ z;cases z) e⟩,⟨xs,up _ _ (by intro φ z;cases z) e2,l,fun i k' x h1 h2=>?_⟩,⟨j,pm,c',ctv,s _ _ (mj t g1 fun ps z=>by have:=qF rfl z;have:=congrArg Obj.data this;cases this) g1,s _ _ (mj t g2 fun ps z=>i4 _ _ _ z) g2⟩⟩;have kn:=k i k' x h1 h2;have tup:∀q u,H q=some (.tup u)->H' q=some (.tup u):=fun q u e=>up _ _ (by intro φ z;cases z) e;cases k' with
 | cel b cs =>
  obtain⟨p,dx,v,e,h,a⟩:=kn;exact⟨p,dx,v,e,up _ _ (by intro φ z;cases z) h,At.keepT tup (by unfold nl;exact eQ cs) a⟩
 | fil b s r =>
  obtain⟨p,dx,v,e,h,a⟩:=kn;exact⟨p,dx,v,e,up _ _ (by intro φ z;cases z) h,At.keepT tup (by unfold nl;exact jB r) a⟩
 | fol b m es =>
  obtain⟨p,dx,v,e,h,a⟩:=kn;exact⟨p,dx,v,e,up _ _ (by intro φ z;cases z) h,At.keepT tup (by unfold nl;exact kQ es) a⟩
def kX (c:Cl)(PS:Addr):Sp:=fun vs H Q Fc=>∃d lk fr D pn ns,vs=[.ref d,.ref pn]/\dF c H d lk fr D/\H pn=some (.lst (ns.map V.str))/\(∀k≤ns.length,∀p,D.at_ (ns.take k) (some (wFo,D.root))=some (wFo,p)->∃b m es,D.view p = .fol b m es)/\bo H PS dP lamS.qual /\
 ∀v H',eX PS H H'->bo H' PS dP lamS.qual->BS H' (D.at_ ns (some (wFo,D.root))) v->Q v H'
theorem BV:aq DL DL (ai ma):=⟨rfl,rfl,rfl,by decide +kernel,rfl,by decide +kernel,by decide +kernel⟩
theorem zj (F:bN K "standing" "Deed.standing" ma f fd)(hcode:fd.code = .ref cc)(C:W.CodeHd base cc PS)(B:d6 base mg)(cf:CF K mg c)
 (hFat:bG K mg "found_at" wt Eh fFat dFat) (GFat:aj P w K mg base ay 9 fFat dFat Eh (uY c)):aj P w K mg base ay 10 f fd DL (kX c PS):=by
 refine Cn F BV (fun vs H Q E h=>?_) (fun cdv A outer s H vs Q E hcd' hr h=>?_)
 . obtain⟨d,lk,fr,D,pn,ns,rfl,_⟩:=h;rfl
 obtain⟨d,lk,fr,D,pn,ns,rfl,de,hp,hf,tb,q⟩:=h;have hcd:cdv = .ref cc:=hcd'.trans hcode;subst hcd;have hcd:(jd ay P w K mg base DL "Deed.standing" (ai ma) f (.ref cc) A outer s H E).nox.env.code = .ref cc:=rfl;refine⟨_,(af (aw (nV (y:="self") (i:=0) GFat (hr.mono (by decide)) rfl hFat.nm hFat.fn.kp hFat.bd (pc (iW hcd C B rfl rfl rfl) (pc (a7 (pv 0) rfl) (pc (pv 1) ac))) rfl rfl rfl rfl (by first | exact Or.inl rfl | exact Or.inr (Or.inl rfl) | exact Or.inr (Or.inr rfl))))),?_⟩;have it:=aW tb;refine⟨tb,fun g c' pm ctv H1 sx tb1 ot hg hg' hc'=>?_⟩;have de1:=de.sx it sx;obtain⟨dx,hd⟩:=de1.at_;have hp1:H1 pn=some (.lst (ns.map V.str)):=sx _ _ (fun z=>by obtain⟨ps,e⟩:=it;rw[z,e]at hp;cases hp) hp;refine⟨_,rfl,d,c.DE,dx,_,_,rfl,hd,cf.clE,cf.rE,rfl,_,rfl,d,rfl,fun oc hc1 dc=>?_⟩;have sN:=ah hc1 (HO.ext (eY (s.heap.objs.size+1) oc));refine⟨g,d,lk,fr,D,pn,ns,rfl,gj.mk (t:=lamS) C5 rfl hc1 hg' hc' dc,de1.mono sN,sN _ _ hp1,hf,fun v H2 s2 hv=>?_⟩;have sD:=nU hc1 s2;refine⟨s2 _ _ aa,q v _ (fun b o nb hb=>sD _ _ (sx b o nb hb)) (bf tb1 sD) ?_⟩;cases ho:D.at_ ns (some (wFo,D.root))with
 | none =>
  rw[ho]at hv;exact hv
 | some e =>
  rw[ho]at hv;refine At.keepT (fun q u e=>?_) rfl hv;have n:q≠s.heap.objs.size+1:=fun z=>by rw[z,s2 _ _ aa]at e;cases e
  rw[dO n];exact e
end
def wFi:Str:=Str.ofString "file"
section
variable {P:Program}{w:World}{K:W.Frag}{mg:Str->Option Value}{base:Heap}{f fEst fEnt:Addr}{fd dEst dEnt:FuncData}{c:Cl}{PS:Addr}
structure Sg (c:Cl)(PS:Addr)(H:Hp)(d lk fr:Addr)(D:DS)(pn:Addr)(ns:List Str):Prop where
 de:dF c H d lk fr D
 hp:H pn=some (.lst (ns.map V.str))
 hf:∀k≤ns.length,∀p,D.at_ (ns.take k) (some (wFo,D.root))=some (wFo,p)->∃b m es,D.view p = .fol b m es
 tb:bo H PS dP lamS.qual
def uZ (c:Cl)(PS:Addr):Sp:=fun vs H Q Fc=>∃d lk fr D pn ns x e,vs=[.ref d,x,.ref pn]/\Sg c PS H d lk fr D pn ns/\D.at_ ns (some (wFo,D.root))=some e/\∀v H',eX PS H H'->bo H' PS dP lamS.qual->At H' (.tup [.str e.1,.int e.2]) v->Q v H'
theorem xu:aq Ey DC (ai wA):=⟨rfl,rfl,rfl,by decide +kernel,rfl,by decide +kernel,by decide +kernel⟩
theorem zk (F:bN K "need_there" "Deed.need_there" wA f fd)(cf:CF K mg c)(hEst:aU K c.DE "standing" "Deed.standing" ma DL fEst dEst)(GEst:aj P w K mg base ay 10 fEst dEst DL (kX c PS)):aj P w K mg base ay 11 f fd DC (uZ c PS):=by
 refine F.ok xu (fun vs H Q E h=>?_) (fun cdv A outer s H vs Q E hr h=>?_)
 . obtain⟨d,lk,fr,D,pn,ns,x,e,rfl,_⟩:=h;rfl
 obtain⟨d,lk,fr,D,pn,ns,x,e,rfl,g,ee,q⟩:=h;obtain⟨dx,hd⟩:=g.de.at_;refine⟨_,(ad (aA (i:=3) xu.nd rfl (Or.inl rfl) (aD (pv 0) cf.clE hEst.me GEst (hr.mono (by decide)) hEst.bd .nil ao (pc (pv 2) ac)))
  (ad (aZ (aB oP (pv 3) ej (aH _))
  (af bH)
  aM)
  (af (aw (pv 3))))),?_⟩
 refine⟨_,rfl,d,dx,_,rfl,hd,rfl,_,rfl,d,lk,fr,D,pn,ns,rfl,g.de,g.hp,g.hf,g.tb,fun v H1 sx tb hv=>?_⟩;rw[ee]at hv;obtain⟨a,vs,rfl,ea,ka⟩:=At.tup hv;exact⟨_,rfl,rfl,_,rfl,br ⟨_,rfl,q _ H1 sx tb hv⟩⟩
def jD (c:Cl)(PS:Addr):Sp:=fun vs H Q Fc=>∃d lk fr D pn ns x p,vs=[.ref d,x,.ref pn]/\Sg c PS H d lk fr D pn ns/\D.at_ ns (some (wFo,D.root))=some (wFi,p)/\∀H',eX PS H H'->bo H' PS dP lamS.qual->Q (.int p) H'
theorem xv:aq Ey DC (ai og):=⟨rfl,rfl,rfl,by decide +kernel,rfl,by decide +kernel,by decide +kernel⟩
theorem zl (F:bN K "need_file" "Deed.need_file" og f fd)(cf:CF K mg c)(hEnt:aU K c.DE "need_there" "Deed.need_there" wA DC fEnt dEnt)(GEnt:aj P w K mg base ay 11 fEnt dEnt DC (uZ c PS)):aj P w K mg base ay 12 f fd DC (jD c PS):=by
 refine F.ok xv (fun vs H Q E h=>?_) (fun cdv A outer s H vs Q E hr h=>?_)
 . obtain⟨d,lk,fr,D,pn,ns,x,p,rfl,_⟩:=h;rfl
 obtain⟨d,lk,fr,D,pn,ns,x,p,rfl,g,ee,q⟩:=h;obtain⟨dx,hd⟩:=g.de.at_;refine⟨_,(ad (aA (i:=3) xv.nd rfl (Or.inl rfl) (aD (pv 0) cf.clE hEnt.me GEnt (hr.mono (by decide)) hEnt.bd .nil ao (pc (pv 1) (pc (pv 2) ac))))
  (ad (aZ (aB gx (au ap (pv 3) ae (fun Fc Fc=>rfl)) a5 (aH _))
  (af bH)
  aM)
  (af (aw (au ap (pv 3) ae (fun Fc Fc=>rfl)))))),?_⟩
 refine⟨_,rfl,d,dx,_,rfl,hd,rfl,_,rfl,_,rfl,d,lk,fr,D,pn,ns,x,(wFi,p),rfl,g,ee,fun v H1 sx tb hv=>?_⟩;obtain⟨a,vs,rfl,ea,ka⟩:=At.tup hv;obtain⟨v0,h0,a0⟩:=ka.at (i:=0) rfl;obtain⟨v1,h1,a1⟩:=ka.at (i:=1) rfl;have e0:v0 = .str wFi:=by unfold At at a0;exact a0
 have e1:v1 = .int p:=by unfold At at a1;exact a1
 subst e0 e1;refine⟨_,rfl,a,_,0,_,rfl,rfl,a8.of ea,aP h0,rfl,_,rfl,br ?_⟩;exact⟨_,rfl,a,_,1,_,rfl,rfl,a8.of ea,aP h1,q H1 sx tb⟩
end
section
variable {P:Program}{w:World}{K:W.Frag}{mg:Str->Option Value}{base:Heap}{f fEst fEvi fEno fDEn:Addr}{fd dEst dEvi dEno dDEn:FuncData}{c:Cl}{PS:Addr}
structure S1 (c:Cl)(PS:Addr)(H:Hp)(d lk fr:Addr)(D:DS)(pn:Addr)(n:Str)(b m:Int)(es:List Ent):Prop where
 de:dF c H d lk fr D
 hp:H pn=some (.lst [.str n])
 rt:D.view D.root = .fol b m es
 tb:bo H PS dP lamS.qual
theorem dh {H H':Hp}(t:cu H PS)(s:eX PS H H'):∀b o,(∀ φ,o≠HO.ext φ)->H b=some o->H' b=some o:=fun b o no e=>s b o (fun z=>by
 obtain⟨ps,hp⟩:=t;rw[z,hp]at e;cases e;exact no _ rfl) e
theorem S1.sx {H H':Hp}{d lk fr pn:Addr}{D:DS}{n:Str}{b m:Int}{es:List Ent}(g:S1 c PS H d lk fr D pn n b m es)(s:eX PS H H')(tb:bo H' PS dP lamS.qual):S1 c PS H' d lk fr D pn n b m es:=⟨g.de.sx (aW g.tb) s,dh (aW g.tb) s _ _ (by intro φ z;cases z) g.hp,g.rt,tb⟩
theorem gQ {H H1 H2:Hp}(s:eX PS H H1)(s2:aE H1 H2):eX PS H H2:=fun b o n e=>s2 _ _ (s b o n e)
theorem xw {H H1 H2:Hp}(s:eX PS H H1)(s2:eX PS H1 H2):eX PS H H2:=fun b o n e=>s2 b o n (s b o n e)
theorem mm {H H1 H2:Hp}(s:aE H H1)(s2:eX PS H1 H2):eX PS H H2:=fun b o n e=>s2 b o n (s b o e)
def u1 (c:Cl)(PS:Addr):Sp:=fun vs H Q Fc=>∃d lk fr D pn n x b m es,vs=[.ref d,x,.ref pn]/\S1 c PS H d lk fr D pn n b m es/\∀z H',eX PS H H'->bo H' PS dP lamS.qual->bT c H' (.fol b m es) z->Q z H'
theorem xx:aq Ey DC (ai wB):=⟨rfl,rfl,rfl,by decide +kernel,rfl,by decide +kernel,by decide +kernel⟩
theorem zm (F:bN K "need_folder_of" "Deed.need_folder_of" wB f fd)(cf:CF K mg c)(hEst:aU K c.DE "standing" "Deed.standing" ma DL fEst dEst)(GEst:aj P w K mg base ay 10 fEst dEst DL (kX c PS))
 (hEvi:aU K c.DE "view" "Deed.view" fC DD fEvi dEvi) (GEvi:aj P w K mg base ay 6 fEvi dEvi DD (dC c)):aj P w K mg base ay 11 f fd DC (u1 c PS):=by
 refine F.ok xx (fun vs H Q E h=>?_) (fun cdv A outer s H vs Q E hr h=>?_)
 . obtain⟨d,lk,fr,D,pn,n,x,b,m,es,rfl,_⟩:=h;rfl
 obtain⟨d,lk,fr,D,pn,n,x,b,m,es,rfl,g,q⟩:=h;obtain⟨dx,hd⟩:=g.de.at_;refine⟨_,(ad (aA (i:=3) xx.nd rfl (Or.inl rfl) (aD (pv 0) cf.clE hEst.me GEst (hr.mono (by decide)) hEst.bd .nil ao (pc (bX cA (pv 2) eG (bJ (ja f9 ae))) ac)))
  (ad (aZ (PW.pt (dG (aB oP (pv 3) ej (aH _)) (cZ (aB gx (au ap (pv 3) ae (fun Fc Fc=>rfl)) a5 (aH _)))))
  (af bH)
  aM)
  (af (aw (aD (pv 0) cf.clE hEvi.me GEvi (hr.mono (by decide)) hEvi.bd .nil ao (pc (au ap (pv 3) ae (fun Fc Fc=>rfl)) ac)))))),?_⟩
 refine⟨_,rfl,d,dx,_,rfl,hd,rfl,_,rfl,1,rfl,-1,rfl,pn,_,rfl,bh.of g.hp,fun p1 h1=>?_⟩;have ec:dR [V.str n] none (some (-1))=[]:=rfl;rw[ec];have s1:=ah h1 (HO.lst []);refine⟨d,lk,fr,D,p1,[],rfl,g.de.mono s1,aa,fun k hk p hp=>?_,bf g.tb s1,fun v H1 sx tb hv=>?_⟩
 . have e0:D.at_ (([]:List Str).take k) (some (wFo,D.root))=some (wFo,D.root):=by rw[List.take_nil];rfl
   rw[e0]at hp;cases hp;exact⟨b,m,es,g.rt⟩
 . obtain⟨a,vs,rfl,ea,ka⟩:=At.tup (show At H1 (.tup [.str wFo,.int D.root]) v from hv);obtain⟨v0,h0,a0⟩:=ka.at (i:=0) rfl;obtain⟨v1,h1',a1⟩:=ka.at (i:=1) rfl;have e0:v0 = .str wFo:=by unfold At at a0;exact a0
   have e1:v1 = .int D.root:=by unfold At at a1;exact a1
   subst e0 e1;refine⟨_,rfl,rfl,_,rfl,br ⟨_,rfl,a,_,0,_,rfl,rfl,a8.of ea,aP h0,rfl,_,rfl,br ?_⟩⟩;have de1:=(g.de.mono s1).sx (aW (bf g.tb s1)) sx;obtain⟨dx1,hd1⟩:=de1.at_;refine⟨_,rfl,d,dx1,_,rfl,hd1,rfl,_,rfl,a,_,1,_,rfl,rfl,a8.of ea,aP h1',d,lk,fr,D,D.root,rfl,de1,fun z H2 s2 kn=>?_⟩;rw[g.rt]at kn;exact q z H2 (gQ (mm s1 sx) s2) (bf tb s2) kn
def qG (c:Cl)(PS:Addr):Sp:=fun vs H Q Fc=>∃d lk fr D pn n x b m es,vs=[.ref d,x,.ref pn,.int 0]/\S1 c PS H d lk fr D pn n b m es/\bO es n=none/\es.length < 8/\∀H',eX PS H H'->bo H' PS dP lamS.qual->Q .non H'
theorem xy:aq ["self","path","names","leaving","above"] D3 (ai uF):=⟨rfl,rfl,rfl,by decide +kernel,rfl,by decide +kernel,by decide +kernel⟩
theorem zn (F:bN K "need_spot" "Deed.need_spot" uF f fd)(cf:CF K mg c)(hEno:aU K c.DE "need_folder_of" "Deed.need_folder_of" wB DC fEno dEno)(GEno:aj P w K mg base ay 11 fEno dEno DC (u1 c PS))
 (hDEn:aU K c.KD "entry" "FolderKnot.entry" uC DI fDEn dDEn) (GDEn:aj P w K mg base ay 1 fDEn dDEn DI (qB c)) (T:Txt mg):aj P w K mg base ay 12 f fd D3 (qG c PS):=by
 refine F.ok xy (fun vs H Q E h=>?_) (fun cdv A outer s H vs Q E hr h=>?_)
 . obtain⟨d,lk,fr,D,pn,n,x,b,m,es,rfl,_⟩:=h;rfl
 obtain⟨d,lk,fr,D,pn,n,x,b,m,es,rfl,g,hn,l8,q⟩:=h;obtain⟨dx,hd⟩:=g.de.at_;obtain⟨t1,moe⟩:=T.moe;refine⟨_,(ad (aA (i:=4) xy.nd rfl (Or.inl rfl) (aD (pv 0) cf.clE hEno.me GEno (hr.mono (by decide)) hEno.bd .nil ao (pc (pv 1) (pc (pv 2) ac))))
  (ad (aZ (aB ql (aD (pv 4) cf.clD hDEn.me GDEn (hr.mono (by decide)) hDEn.bd .nil ao (pc (au cQ (pv 2) (ja f9 ae) (fun Fc Fc=>rfl)) ac)) ej (aH _))
  (af bH)
  aM)
  (af (aZ (aB Al (ax c5 (aF aO rfl T.len PySem.boot_len (pc (a7 (pv 4) rfl) ac)) (pv 3)) (aX (v:=.int 8) rfl moe ⟨_,rfl⟩) (aH _))
  (af bH)
  aM)))),?_⟩
 refine⟨_,rfl,d,dx,_,rfl,hd,rfl,_,rfl,_,rfl,d,lk,fr,D,pn,n,x,b,m,es,rfl,g,fun z H1 sx tb kn=>?_⟩;have g1:=g.sx sx tb;have kn0:=kn;obtain⟨p0,dx',v,rfl,e,hv⟩:=kn;refine⟨_,rfl,p0,dx',_,rfl,e,rfl,_,rfl,1,rfl,pn,_,-1,.str n,rfl,rfl,bh.of g1.hp,rfl,b,m,es,_,n,rfl,kn0,fun v2 H2 s2 hv2=>?_⟩;rw[hn]at hv2;obtain rfl:v2 = .non:=hv2;refine⟨rfl,_,rfl,br ?_⟩;obtain⟨a,vs,rfl,ea,ka⟩:=At.tup (hv.mono s2);have ln:=ka.len;rw[List.length_map]at ln;refine⟨_,rfl,p0,c.KD,dx',_,_,rfl,s2 _ _ e,cf.clD,cf.eD,rfl,a,vs,rfl,.inr (a8.of ea),_,rfl,_,_,rfl,rfl,_,_,rfl,rfl,_,rfl,?_⟩;rw[decide_eq_false (show ¬ (8:Int)<=(vs.length:Int) - 0 by omega)];exact br (q H2 (gQ sx s2) (bf tb s2))
end
def DS.file (D:DS)(es:List Ent)(n:Str):Kn:=match bO es n with
 | some y=>D.view y.2.2
 | none=>.fil 5 0 []
theorem DS.at_one {D:DS}{b m:Int}{es:List Ent}(rt:D.view D.root = .fol b m es)(n:Str):D.at_ [n] (some (wFo,D.root))=(bO es n).map fun y=>(y.2.1,y.2.2):=by
 show D.step (some (wFo,D.root)) n=_;unfold DS.step;dsimp only;rw[rt];exact if_pos rfl
section
variable {P:Program}{w:World}{K:W.Frag}{mg:Str->Option Value}{base:Heap}{f fEst fEvi fEnf fEns fFIn:Addr}{fd dEst dEvi dEnf dEns dFIn:FuncData}{c:Cl}{PS:Addr}
theorem S1.sg {H:Hp}{d lk fr pn:Addr}{D:DS}{n:Str}{b m:Int}{es:List Ent}(g:S1 c PS H d lk fr D pn n b m es)(hk:∀y,bO es n=some y->y.2.1=wFi):Sg c PS H d lk fr D pn [n]:=by
 refine⟨g.de,g.hp,fun k hk' p hp=>?_,g.tb⟩
 match k with
 | 0 =>
  have hp':some (wFo,D.root)=some (wFo,p):=hp;cases hp';exact⟨b,m,es,g.rt⟩
 | k+1 =>
  have e1:([n]:List Str).take (k+1)=[n]:=by simp
  rw[e1,DS.at_one g.rt]at hp;cases hn:bO es n with
  | none=>rw[hn]at hp;cases hp
  | some y =>
   rw[hn]at hp;have h2:some (y.2.1,y.2.2)=some (wFo,p):=hp;have h3:=hk y hn;injection h2 with h2;injection h2 with h4 h5;rw[h3]at h4;exact absurd h4 (by decide +kernel)
def qH (c:Cl)(PS:Addr):Sp:=fun vs H Q Fc=>∃d lk fr D pn n x b m es,vs=[.ref d,x,.ref pn]/\S1 c PS H d lk fr D pn n b m es/\(∀y,bO es n=some y->y.2.1=wFi)/\(bO es n=none->es.length < 8)/\∀z H',eX PS H H'->bo H' PS dP lamS.qual->bT c H' (D.file es n) z->Q z H'
theorem BW:aq DC DC (ai uG):=⟨rfl,rfl,rfl,by decide +kernel,rfl,by decide +kernel,by decide +kernel⟩
theorem zq (F:bN K "file_to_fill" "Deed.file_to_fill" uG f fd)(cf:CF K mg c)(hEst:aU K c.DE "standing" "Deed.standing" ma DL fEst dEst)(GEst:aj P w K mg base ay 10 fEst dEst DL (kX c PS))
 (hEvi:aU K c.DE "view" "Deed.view" fC DD fEvi dEvi) (GEvi:aj P w K mg base ay 6 fEvi dEvi DD (dC c))
 (hEnf:aU K c.DE "need_file" "Deed.need_file" og DC fEnf dEnf) (GEnf:aj P w K mg base ay 12 fEnf dEnf DC (jD c PS))
 (hEns:aU K c.DE "need_spot" "Deed.need_spot" uF D3 fEns dEns) (GEns:aj P w K mg base ay 12 fEns dEns D3 (qG c PS))
 (FInmk:Mk K c.KF fFIn) (FInnm:mg "FileKnot" = some (.ref c.KF)) (FInbd:bE K dFIn DR []) (GFIn:aj P w K mg base ay 2 fFIn dFIn DR (kS c)):aj P w K mg base ay 13 f fd DC (qH c PS):=by
 refine F.ok BW (fun vs H Q E h=>?_) (fun cdv A outer s H vs Q E hr h=>?_)
 . obtain⟨d,lk,fr,D,pn,n,x,b,m,es,rfl,_⟩:=h;rfl
 obtain⟨d,lk,fr,D,pn,n,x,b,m,es,rfl,g,hk,h8,q⟩:=h;obtain⟨dx,hd⟩:=g.de.at_;have sg:=g.sg hk;refine⟨_,(ad (aZ (aB ql (aD (pv 0) cf.clE hEst.me GEst (hr.mono (by decide)) hEst.bd .nil ao (pc (pv 2) ac)) ej (aH _))
  (af (aw (aD (pv 0) cf.clE hEvi.me GEvi (hr.mono (by decide)) hEvi.bd .nil ao (pc (aD (pv 0) cf.clE hEnf.me GEnf (hr.mono (by decide)) hEnf.bd .nil ao (pc (pv 1) (pc (pv 2) ac))) ac))))
  aM)
  (ad (aS (aD (pv 0) cf.clE hEns.me GEns (hr.mono (by decide)) hEns.bd .nil ao (pc (pv 1) (pc (pv 2) (pc ae ac)))))
  (af (aw (di FInmk GFIn (hr.mono (by decide)) rfl FInnm FInbd .nil ao (pc (a7 (pv 0) rfl) (pc ae (pc (bq ac) ac)))))))),?_⟩
 refine⟨_,rfl,d,dx,_,rfl,hd,rfl,_,rfl,d,lk,fr,D,pn,[n],rfl,sg.de,sg.hp,sg.hf,sg.tb,fun v H1 sx tb hv=>?_⟩;have g1:=g.sx sx tb;obtain⟨dx1,hd1⟩:=g1.de.at_;rw[DS.at_one g.rt]at hv;unfold DS.file at q;cases hn:bO es n with
 | some y =>
  rw[hn]at hv q;obtain⟨a,vs,rfl,ea,ka⟩:=At.tup (show At H1 (.tup [.str y.2.1,.int y.2.2]) v from hv);refine⟨rfl,_,rfl,c6 ?_⟩;refine⟨_,rfl,d,dx1,_,rfl,hd1,rfl,_,rfl,d,dx1,_,rfl,hd1,rfl,_,rfl,_,rfl,d,lk,fr,D,pn,[n],x,y.2.2,rfl,g1.sg hk,?_,fun H2 sx2 tb2=>?_⟩
  . rw[DS.at_one g.rt,hn,<- hk y hn];rfl
  . have g2:=g1.sx sx2 tb2;exact⟨d,lk,fr,D,y.2.2,rfl,g2.de,fun z H3 s3 kn=>q z H3 (gQ (xw sx sx2) s3) (bf tb2 s3) kn⟩
 | none =>
  rw[hn]at hv q;obtain rfl:v = .non:=hv;refine⟨rfl,_,rfl,br ?_⟩;refine⟨_,rfl,d,dx1,_,rfl,hd1,rfl,_,rfl,_,rfl,d,lk,fr,D,pn,n,x,b,m,es,rfl,g1,hn,h8 hn,fun H2 sx2 tb2=>?_⟩;have g2:=g1.sx sx2 tb2;obtain⟨dx2,hd2⟩:=g2.de.at_;refine⟨_,rfl,d,c.DE,dx2,_,_,rfl,hd2,cf.clE,cf.nE,rfl,(by show 0<=sizeLine;decide),fun p hp=>?_⟩;have s3:=ah hp (HO.tup []);exact yV (r:=[]) (.inl (At.mkT aa (bi.nil _))) fun z H4 s4 kn=>q z H4 (gQ (gQ (xw sx sx2) s3) s4) (bf (bf tb2 s3) s4) kn
end
end K41
namespace L2
open PySem PySem.Spec PyProof.Rows
theorem u2 (a b:Int):Builtin.Range.rangeSize a b (-1)=if b < a then(a - b - 1) / 1+1 else 0:=by
 unfold Builtin.Range.rangeSize;rw[if_neg (by decide)];rfl
theorem wN {a b:Int}(ha:-(2 ^ 60)<=a)(ha':a < 2 ^ 60)(hb:-(2 ^ 60)<=b)(hb':b < 2 ^ 60):Builtin.Range.small a b (-1)=true:=by
 unfold Builtin.Range.small;rw[u2];simp only[Builtin.Range.rangeFitsLong,Bool.and_eq_true,Bool.or_eq_true,decide_eq_true_eq,beq_iff_eq,show ¬ ((-1:Int) > 0) by decide,if_false];split <;> omega
section
variable {X:Cx}{tg:Expr}
def BX (ta:TA):TI:=fun σ H R=>ta σ H fun vs H1=>∃i j:Int,vs=[.int i,.int j,.int (-1)]/\(-(2 ^ 60)<=i/\i < 2 ^ 60/\-(2 ^ 60)<=j/\j < 2 ^ 60)/\R (vW i (-1) (if j < i then(i - j - 1) / 1+1 else 0).toNat) H1
theorem sH {hb:Bool}{pins:List (Addr×Obj)}{σ:St}{H:Hp}{s:Shared}{R:It->Hp->Prop}{E:Value->Shared->Prop}{lo hi:Int}{t u v:Tok}{tk:Nat}(I:aG X pins σ H s)(h1:-(2 ^ 60)<=lo)(h2:lo < 2 ^ 60)(h3:-(2 ^ 60)<=hi)(h4:hi < 2 ^ 60)
 (q:R (vW lo (-1) (if hi < lo then(lo - hi - 1) / 1+1 else 0).toNat) H):wpAny (model X.prog X.w) X.A (pyIter (.ref s.heap.objs.size)) (Ci X pins σ tg R hb) E { s with heap:=s.heap.push { cls:=.type "range",data:=.fields #[.int lo t,.int hi u,.int (-1) v] },toks:=tk }:=by
 refine wpAny_pyIter_range (IsRange.new ..) (wN h1 h2 h3 h4) ?_;have I1:aG X pins σ H { s with heap:=s.heap.push { cls:=.type "range",data:=.fields #[.int lo t,.int hi u,.int (-1) v] },toks:=tk }:=I.kept fun b o e=>Heap.get?_push_of_some _ e;refine⟨(s.heap.push { cls:=.type "range",data:=.fields #[.int lo t,.int hi u,.int (-1) v] }).objs.size,[(s.heap.push { cls:=.type "range",data:=.fields #[.int lo t,.int hi u,.int (-1) v] }).objs.size],_,_,H,rfl,
  I1.kept (t':=tk) fun b o e=>Heap.get?_push_of_some _ e,iA _ lo (-1) _,?_,fun b hb=>?_,q⟩
 . have e1:lo+((0:Nat):Int) * (-1)=lo:=by simp
   have e2:(((if hi < lo then(lo - hi - 1) / 1+1 else 0).toNat:Nat):Int) - ((0:Nat):Int)=Builtin.Range.rangeSize lo hi (-1):=by
    rw[u2];split <;> omega
   show IsRangeIter _ _ (lo+((0:Nat):Int) * (-1)) ((((if hi < lo then(lo - hi - 1) / 1+1 else 0).toNat:Nat):Int) - ((0:Nat):Int)) (-1);rw[e1,e2];exact Heap.get?_push_size _ rfl
 . have e:b=(s.heap.push { cls:=.type "range",data:=.fields #[.int lo t,.int hi u,.int (-1) v] }).objs.size:=by simpa using hb
   subst e;exact I1.fpOk (Nat.le_refl _) (I1.hok.fresh (Nat.le_refl _))
theorem sI {hb:Bool}{a b c:Expr}{ta:TA}{p pos:Pos}(hg:Gl X "range")(hm:X.mg "range" = none)(ha:PA X [a,b,c] ta)(hs:starEach [a,b,c] X.env=[(false,eval a X.env),(false,eval b X.env),(false,eval c X.env)]:=by rfl)(hs2:starEach [b,c] X.env=[(false,eval b X.env),(false,eval c X.env)]:=by rfl) :
 PI X tg (.Call (.Name "range" p) [a,b,c] [] pos) (BX ta) hb:=by
 intro pins s σ H R I h;refine Call_ (eA I hg hm boot_range (PyProof.Rows.callWith_type1 (bj (ha pos pins s σ H _ I h) fun us s1 ⟨vs,H1,I1,r1,q1⟩=>?_) (by rw[hs,hs2]) (by rw[hs2];rfl)));obtain⟨i,j,e,⟨q1,q2,q3,q4⟩,q⟩:=q1;subst e;cases r1 with
 | cons r rr =>
  cases rr with
  | cons r' rr =>
   cases rr with
   | cons r'' rr =>
    cases rr;obtain⟨t,rfl⟩:=r;obtain⟨t',rfl⟩:=r';obtain⟨t'',rfl⟩:=r'';exact call_range_3 (by decide) (sH I1 q1 q2 q3 q4 q) (.inl (PyProof.noPylong_small (by omega)))
end
end L2
namespace K41
open PySem L2
def Kg (fr PS:Addr)(H H':Hp):Prop:=∀q u,q≠fr->q≠PS->H q=some u->H' q=some u
def Kh (d fr PS:Addr)(H H':Hp):Prop:=∀q u,q≠d->q≠fr->q≠PS->H q=some u->H' q=some u
def DS.hung (D:DS)(m:Int)(es:List Ent)(y:Ent):DS:=⟨1000+(D.ks.length:Int),D.ks++[.fol 5 m (fG (dE es y))]⟩
section
variable {P:Program}{w:World}{K:W.Frag}{mg:Str->Option Value}{base:Heap}{f fEst fEvi fEgr fDWe:Addr}{fd dEst dEvi dEgr dDWe:FuncData}{c:Cl}{PS:Addr}
theorem wO {H:Hp}{d C dx:Addr}{fs:List (Str×V)}{o:HO}(hd:H d=some (.ins C dx fs))(t:bo H PS dP lamS.qual):bo (aL H d o) PS dP lamS.qual:=by
 obtain⟨qs,e1,tr,hc⟩:=t;exact⟨qs,by rw[am (fun z=>by rw[z,hd]at e1;cases e1)];exact e1,tr,hc.imp id fun⟨c2,a1,a2⟩=>⟨c2,a1,by rw[am (fun z=>by rw[z,hd]at a2;cases a2)];exact a2⟩⟩
theorem dF.rooted {H:Hp}{d lk fr dx:Addr}{D:DS}{r:Int}(h:dF c H d lk fr D)(hd:H d=some (.ins c.DE dx [("look",.ref lk),("root",.int D.root),("now",.int 5),("fresh",.ref fr)])):dF c (aL H d (.ins c.DE dx [("look",.ref lk),("root",.int r),("now",.int 5),("fresh",.ref fr)])) d lk fr ⟨r,D.ks⟩:=by
 obtain⟨_,⟨xs,e2,l,k⟩,⟨j,pm,c',ctv,g1,g2⟩⟩:=h;have tup:∀q u,H q=some (.tup u)->aL H d (.ins c.DE dx [("look",.ref lk),("root",.int r),("now",.int 5),("fresh",.ref fr)]) q=some (.tup u):=fun q u e=>by
  rw[am (fun z=>by rw[z,hd]at e;cases e)];exact e
 have kne:∀{p C dx':Addr} {x:V} {fs:List (Str×V)},H p=some (.ins C dx' (("born",x) :: fs))->p≠d:=fun {p C dx' x fs} e z=>by
  rw[z,hd]at e;injection e with e;injection e with _ _ e;injection e with e _;injection e with e _;exact absurd e (by decide +kernel)
 refine⟨⟨dx,aa⟩,⟨xs,by rw[am (fun z=>by rw[z,hd]at e2;cases e2)];exact e2,l,fun i k' x h1 h2=>?_⟩,⟨j,pm,c',ctv,by rw[am (fun z=>by rw[z,hd]at g1;cases g1)];exact g1,by rw[am (fun z=>by rw[z,hd]at g2;cases g2)];exact g2⟩⟩;have kn:=k i k' x h1 h2;cases k' with
 | cel b cs =>
  obtain⟨p,dx',v,e,h,a⟩:=kn;exact⟨p,dx',v,e,by rw[am (kne h)];exact h,At.keepT tup (by unfold nl;exact eQ cs) a⟩
 | fil b s r =>
  obtain⟨p,dx',v,e,h,a⟩:=kn;exact⟨p,dx',v,e,by rw[am (kne h)];exact h,At.keepT tup (by unfold nl;exact jB r) a⟩
 | fol b m es =>
  obtain⟨p,dx',v,e,h,a⟩:=kn;exact⟨p,dx',v,e,by rw[am (kne h)];exact h,At.keepT tup (by unfold nl;exact kQ es) a⟩
def ow (c:Cl)(PS:Addr):Sp:=fun vs H Q Fc=>∃d lk fr D pn b m es y,vs=[.ref d,.ref pn,.str y.2.1,.int y.2.2]/\S1 c PS H d lk fr D pn y.1 b m es/\es.length<=20/\(es.map (·.1)).Nodup/\D.ks.length<=4000/\∀H',Kh d fr PS H H'->bo H' PS dP lamS.qual->dF c H' d lk fr (D.hung m es y)->Q .non H'
theorem oy:aq ["self","names","kind","place","hung","many","above"] D4 (ai uI):=⟨rfl,rfl,rfl,by decide +kernel,rfl,by decide +kernel,by decide +kernel⟩
theorem zr (F:bN K "hang" "Deed.hang" uI f fd)(cf:CF K mg c)(hEst:aU K c.DE "standing" "Deed.standing" ma DL fEst dEst)(GEst:aj P w K mg base ay 10 fEst dEst DL (kX c PS))
 (hEvi:aU K c.DE "view" "Deed.view" fC DD fEvi dEvi) (GEvi:aj P w K mg base ay 6 fEvi dEvi DD (dC c))
 (hEgr:aU K c.DE "grow" "Deed.grow" pS DV fEgr dEgr) (GEgr:aj P w K mg base ay 1 fEgr dEgr DV (kU c))
 (hDWe:aU K c.KD "with_entry" "FolderKnot.with_entry" wl Ea fDWe dDWe) (GDWe:aj P w K mg base ay 4 fDWe dDWe Ea (uW c)) (T:Txt mg):aj P w K mg base ay 11 f fd D4 (ow c PS):=by
 refine F.ok oy (fun vs H Q E h=>?_) (fun cdv A outer s H vs Q E hr h=>?_)
 . obtain⟨d,lk,fr,D,pn,b,m,es,y,rfl,_⟩:=h;rfl
 obtain⟨d,lk,fr,D,pn,b,m,es,y,rfl,g,l20,nd,l4,q⟩:=h;refine⟨_,(ad (aA (i:=4) oy.nd rfl (Or.inl rfl) (bq (pc (pv 2) (pc (pv 3) ac))))
  (ad (ck PassesOwn.never rfl (sI rfl T.rng (pc (ax c5 (aF aO rfl T.len PySem.boot_len (pc (pv 1) ac)) ae) (pc (ja f9 ae) (pc (ja f9 ae) ac)))) (aJ (i:=5) oy.nd rfl (Or.inl rfl))
  (ad (aA (i:=6) oy.nd rfl (Or.inl rfl) (aD (pv 0) cf.clE hEvi.me GEvi (hr.mono (by decide)) hEvi.bd .nil ao (pc (au ap (aD (pv 0) cf.clE hEst.me GEst (hr.mono (by decide)) hEst.bd .nil ao (pc (bX cA (pv 1) eG (bJ (pv 5))) ac)) ae (fun Fc Fc=>rfl)) ac)))
  (af (aA (i:=4) oy.nd rfl (Or.inl rfl) (bq (pc a5 (pc (aD (pv 0) cf.clE hEgr.me GEgr (hr.mono (by decide)) hEgr.bd .nil ao (pc (aD (pv 6) cf.clD hDWe.me GDWe (hr.mono (by decide)) hDWe.bd .nil ao (pc (a7 (pv 0) rfl) (pc (au cQ (pv 1) (pv 5) (fun Fc Fc=>rfl)) (pc (au ap (pv 4) ae (fun Fc Fc=>rfl)) (pc (au ap (pv 4) ae (fun Fc Fc=>rfl)) ac))))) ac)) ac)))))))
  (af (dz (pv 0) (au ap (pv 4) ae (fun Fc Fc=>rfl)) rfl)))),?_⟩
 refine⟨_,rfl,_,rfl,(by show 2<=sizeLine;decide),fun t0 h0=>?_⟩;have s0:=ah h0 (HO.tup [V.str y.2.1,V.int y.2.2]);have et0:aL H t0 (HO.tup [V.str y.2.1,V.int y.2.2]) t0=some (HO.tup [V.str y.2.1,V.int y.2.2]):=aa;revert s0 et0;generalize aL H t0 (HO.tup [V.str y.2.1,V.int y.2.2])=H0;intro s0 et0;refine⟨_,rfl,pn,_,rfl,.inl (bh.of (s0 _ _ g.hp)),_,_,rfl,rfl,1,rfl,1,rfl,0,-1,rfl,⟨by decide,by decide,by decide,by decide⟩,?_⟩;refine pP (lo:=0) (c:=-1) (n:=1) (fun i σ H2=>if i=0 then σ=[some (.ref d),some (.ref pn),some (.str y.2.1),some (.int y.2.2),some (.ref t0),none,none]/\H2=H0 else ∃t1 o5 o6,σ=[some (.ref d),some (.ref pn),some (.str y.2.1),some (.int y.2.2),some (.ref t1),o5,o6]/\H2 t1=some (.tup [.str wFo,.int (1000+(D.ks.length:Int))])/\Kg fr PS H H2/\bo H2 PS dP lamS.qual/\dF c H2 d lk fr ⟨D.root,D.ks++[.fol 5 m (fG (dE es y))]⟩) ⟨rfl,rfl⟩ ?_ ?_
 . rintro i σ H2 hi pv;obtain rfl:i=0:=by omega
   obtain⟨rfl,rfl⟩:=pv;have de0:=g.de.mono s0;obtain⟨dx,hd⟩:=de0.at_;refine lN ?_;dsimp only;refine cY fun D' tD=>?_;refine aK fun N tl=>?_;refine⟨_,rfl,d,dx,_,rfl,hd,rfl,_,rfl,d,dx,_,rfl,hd,rfl,_,rfl,_,rfl,0,rfl,pn,_,rfl,bh.of (s0 _ _ g.hp),fun p1 h1=>?_⟩;have ec:dR [V.str y.1] none (some (0+((0:Nat):Int) * -1))=[]:=rfl;have s1:=ah h1 (HO.lst []);have tb1:=bf (bf g.tb s0) s1;refine⟨d,lk,fr,D,p1,[],rfl,de0.mono s1,aa,fun k hk p hp=>?_,tb1,fun v H3 sx tb hv=>?_⟩
   . have e0:D.at_ (([]:List Str).take k) (some (wFo,D.root))=some (wFo,D.root):=by rw[List.take_nil];rfl
     rw[e0]at hp;cases hp;exact⟨b,m,es,g.rt⟩
   have de3:=(de0.mono s1).sx (aW tb1) sx;have sxH:=mm (s0.trans s1) sx;have up:=dh (aW tb1) sx;have ht3:=up _ _ (by intro φ z;cases z) (s1 _ _ et0);have hp3:=up _ _ (by intro φ z;cases z) (s1 _ _ (s0 _ _ g.hp));obtain⟨dx3,hd3⟩:=de3.at_;obtain⟨a,vs,rfl,ea,ka⟩:=At.tup (show At H3 (.tup [.str wFo,.int D.root]) v from hv);obtain⟨v1,h1',a1⟩:=ka.at (i:=1) rfl;have e1:v1 = .int D.root:=by unfold At at a1;exact a1
   subst e1;refine⟨a,vs,1,_,rfl,rfl,a8.of ea,aP h1',d,lk,fr,D,D.root,rfl,de3,fun z H4 s4 kn=>?_⟩;rw[g.rt]at kn;have kn0:=kn;obtain⟨pk,dk,vk,rfl,ek,hvk⟩:=kn;refine tl _ _ ?_;clear tl N;refine⟨_,rfl,d,dx3,_,rfl,s4 _ _ hd3,rfl,_,rfl,pk,dk,_,rfl,ek,rfl,_,rfl,d,c.DE,dx3,_,_,rfl,s4 _ _ hd3,cf.clE,cf.nE,rfl,_,rfl,_,rfl,pn,_,_,.str y.1,rfl,rfl,bh.of (s4 _ _ hp3),rfl,_,rfl,t0,_,0,_,rfl,rfl,a8.of (s4 _ _ ht3),rfl,_,rfl,t0,_,1,_,rfl,rfl,a8.of (s4 _ _ ht3),rfl,b,m,5,es,_,y,rfl,kn0,l20,nd,fun z2 H5 s5 kn5=>?_⟩;refine⟨d,lk,fr,D,_,z2,rfl,(de3.mono s4).mono s5,kn5,by omega,fun H6 kf de6=>⟨(by show 2<=sizeLine;decide),fun t1 ht1=>?_⟩⟩;have s7:=ah ht1 (HO.tup [V.str (Str.ofString "folder"),V.int (1000+(D.ks.length:Int))]);obtain⟨xs5,hf5,_⟩:=((de3.mono s4).mono s5).fr_;have tb6:bo H6 PS dP lamS.qual:=by
    obtain⟨qs,e1,tr,hc⟩:=bf (bf tb s4) s5;exact⟨qs,kf _ _ (fun z=>by rw[z,hf5]at e1;cases e1) e1,tr,hc.imp id fun⟨c2,a1,a2⟩=>⟨c2,a1,kf _ _ (fun z=>by rw[z,hf5]at a2;cases a2) a2⟩⟩
   refine tD _ _ ?_;exact⟨t1,_,_,rfl,aa,fun q u n1 n2 e=>s7 _ _ (kf q u n1 (s5 _ _ (s4 _ _ (sxH q u n2 e)))),bf tb6 s7,de6.mono s7⟩
 . rintro σ H2 ⟨t1,o5,o6,rfl,et1,kg,tb,de⟩;obtain⟨dx,hd⟩:=de.at_;refine⟨_,rfl,t1,_,1,_,rfl,rfl,a8.of et1,rfl,_,rfl,d,c.DE,dx,_,rfl,hd,cf.clE,cf.rE,(by show 4 < 1000;decide),q _ (fun q u n1 n2 n3 e=>by rw[am n1];exact kg q u n2 n3 e) (wO hd tb) (de.rooted hd)⟩
end
theorem DS.view_app {D:DS}{l:List Kn}{r p:Int}(h:p < 1000+(D.ks.length:Int)):(⟨r,D.ks++l⟩:DS).view p=D.view p:=by
 unfold DS.view;by_cases z:1000<=p
 . rw[if_pos z,if_pos z];dsimp only;rw[List.getElem?_append_left (by omega)]
 . rw[if_neg z,if_neg z]
def DS.filed (D:DS)(m:Int)(es:List Ent)(n:Str)(size:Int)(r:List S4):DS:=DS.hung ⟨D.root,D.ks++[.fil 5 size r]⟩ m es (n,wFi,1000+(D.ks.length:Int))
section
variable {P:Program}{w:World}{K:W.Frag}{mg:Str->Option Value}{base:Heap}{f fEha fEgr fFIn:Addr}{fd dEha dEgr dFIn:FuncData}{c:Cl}{PS:Addr}
theorem S1.kf {H H':Hp}{d lk fr pn:Addr}{D:DS}{n:Str}{b m:Int}{es:List Ent}{k:Kn}(g:S1 c PS H d lk fr D pn n b m es)(hr:D.root < 1000+(D.ks.length:Int))(kf:Kf fr H H')(de:dF c H' d lk fr ⟨D.root,D.ks++[k]⟩):S1 c PS H' d lk fr ⟨D.root,D.ks++[k]⟩ pn n b m es:=by
 obtain⟨xs,hf,_⟩:=g.de.fr_;refine⟨de,kf _ _ (fun z=>by have:=g.hp;rw[z,hf]at this;cases this) g.hp,(DS.view_app hr).trans g.rt,?_⟩;obtain⟨qs,e1,tr,hc⟩:=g.tb;exact⟨qs,kf _ _ (fun z=>by rw[z,hf]at e1;cases e1) e1,tr,hc.imp id fun⟨c2,a1,a2⟩=>⟨c2,a1,kf _ _ (fun z=>by rw[z,hf]at a2;cases a2) a2⟩⟩
def oz (c:Cl)(PS:Addr):Sp:=fun vs H Q Fc=>∃d lk fr D pn n b m es size v r,vs=[.ref d,.ref pn,.int size,v]/\S1 c PS H d lk fr D pn n b m es/\TL H (r.map sT) v/\es.length<=20/\(es.map (·.1)).Nodup/\D.ks.length<=3900/\D.root < 1000+(D.ks.length:Int)/\∀H',Kh d fr PS H H'->bo H' PS dP lamS.qual->dF c H' d lk fr (D.filed m es n size r)->Q .non H'
theorem BY:aq DT DT (ai sq):=⟨rfl,rfl,rfl,by decide +kernel,rfl,by decide +kernel,by decide +kernel⟩
theorem zt (F:bN K "hang_file" "Deed.hang_file" sq f fd)(cf:CF K mg c)(hEha:aU K c.DE "hang" "Deed.hang" uI D4 fEha dEha)(GEha:aj P w K mg base ay 11 fEha dEha D4 (ow c PS))
 (hEgr:aU K c.DE "grow" "Deed.grow" pS DV fEgr dEgr) (GEgr:aj P w K mg base ay 1 fEgr dEgr DV (kU c))
 (FInmk:Mk K c.KF fFIn) (FInnm:mg "FileKnot" = some (.ref c.KF)) (FInbd:bE K dFIn DR []) (GFIn:aj P w K mg base ay 2 fFIn dFIn DR (kS c)):aj P w K mg base ay 12 f fd DT (oz c PS):=by
 refine F.ok BY (fun vs H Q E h=>?_) (fun cdv A outer s H vs Q E hr h=>?_)
 . obtain⟨d,lk,fr,D,pn,n,b,m,es,size,v,r,rfl,_⟩:=h;rfl
 obtain⟨d,lk,fr,D,pn,n,b,m,es,size,v,r,rfl,g,hv,l20,nd,l4,hrt,q⟩:=h;obtain⟨dx,hd⟩:=g.de.at_;refine⟨_,(af (aS (aD (pv 0) cf.clE hEha.me GEha (hr.mono (by decide)) hEha.bd .nil ao (pc (pv 1) (pc a5 (pc (aD (pv 0) cf.clE hEgr.me GEgr (hr.mono (by decide)) hEgr.bd .nil ao (pc (di FInmk GFIn (hr.mono (by decide)) rfl FInnm FInbd .nil ao (pc (a7 (pv 0) rfl) (pc (pv 2) (pc (pv 3) ac)))) ac)) ac)))))),?_⟩;refine⟨_,rfl,d,dx,_,rfl,hd,rfl,_,rfl,_,rfl,d,dx,_,rfl,hd,rfl,_,rfl,d,c.DE,dx,_,_,rfl,hd,cf.clE,cf.nE,rfl,_,rfl,_,rfl,yV (Q:=fun z H1=>kU c [.ref d,z] H1 (fun v H2=>ow c PS [.ref d,.ref pn,.str (Str.ofString "file"),v] H2 (fun Fc H3=>Q .non H3) E0) E0) hv fun z H1 s1 kn=>?_⟩;have g1:S1 c PS H1 d lk fr D pn n b m es:=⟨g.de.mono s1,s1 _ _ g.hp,g.rt,bf g.tb s1⟩;refine⟨d,lk,fr,D,_,z,rfl,g1.de,kn,by omega,fun H2 kf de2=>?_⟩;refine⟨d,lk,fr,_,pn,b,m,es,(n,wFi,1000+(D.ks.length:Int)),rfl,g1.kf hrt kf de2,l20,nd,(by simp;omega),fun H3 kh tb de3=>q H3 (fun q u n1 n2 n3 e=>kh q u n1 n2 n3 (kf q u n2 (s1 _ _ e))) tb de3⟩
end
theorem cv (cs:List Int)(k:Nat):(bw cs k).length=min 8 (cs.length - 8 * k):=by
 unfold bw;rw[List.length_take,List.length_drop]
def mn (a:Int)(N:Nat)(cs:List Int)(k:Nat):S4:=(a+8 * (k:Int),((bw cs k).length:Int),2+(N:Int)+(k:Int),0)
def fH (a:Int)(N:Nat)(cs:List Int)(m:Nat):List S4:=(List.range m).map (mn a N cs)
def gk (N L:Nat):List Src:=(List.range L).map fun k=>some (2+(N:Int)+((k / 8:Nat):Int),((k % 8:Nat):Int))
def Do (pc:Int->List Int)(N:Nat)(cs:List Int)(m:Nat)(p:Int):List Int:=if 2+(N:Int)<=p/\p < 2+(N:Int)+(m:Int)then bw cs (p - 2 - (N:Int)).toNat else pc p
theorem jE (a:Int)(N:Nat)(cs:List Int)(m:Nat):fH a N cs (m+1)=fH a N cs m++[mn a N cs m]:=by
 unfold fH;rw[List.range_succ,List.map_append];rfl
theorem d8 (N L:Nat):(gk N L).length=L:=by
 unfold gk;rw[List.length_map,List.length_range]
theorem src_srcs {N L:Nat}{k:Int}{p s:Int}:eZ (gk N L) k=some (p,s)↔∃i:Nat,k=(i:Int)/\i < L/\p=2+(N:Int)+((i / 8:Nat):Int)/\s=((i % 8:Nat):Int):=by
 constructor
 . intro h;obtain⟨h0,h1,h2⟩:=gL h;rw[d8]at h1;unfold gk at h2;rw[List.getElem?_map,List.getElem?_range (by omega)]at h2;injection h2 with h2;injection h2 with h2;injection h2 with h3 h4;exact⟨k.toNat,by omega,by omega,h3.symm,h4.symm⟩
 . rintro⟨i,rfl,hi,rfl,rfl⟩;rw[cH,List.getD_eq_getElem?_getD];unfold gk;rw[List.getElem?_map,List.getElem?_range hi];rfl
theorem oA {a:Int}{N:Nat}{cs:List Int}{k p s:Int}:(k,p,s)∈aQ (fH a N cs ((cs.length+7) / 8))↔a<=k/\k < a+(cs.length:Int)/\eZ (gk N cs.length) (k - a)=some (p,s):=by
 constructor
 . intro h;obtain⟨r,hr,h1,h2,h3,h4⟩:=gM h;unfold fH at hr;obtain⟨j,hj,rfl⟩:=List.mem_map.mp hr;have hj:=List.mem_range.mp hj;unfold mn at h1 h2 h3 h4;simp only at h1 h2 h3 h4;rw[cv]at h2;refine⟨by omega,by omega,src_srcs.mpr ⟨(k - a).toNat,by omega,by omega,?_,?_⟩⟩
   . rw[h3];have:(k - a).toNat / 8=j:=by omega
     omega
   . rw[h4];omega
 . rintro⟨h1,h2,h3⟩;obtain⟨i,e,hi,rfl,rfl⟩:=src_srcs.mp h3;have hm:mn a N cs (i / 8)∈fH a N cs ((cs.length+7) / 8):=List.mem_map.mpr ⟨i / 8,List.mem_range.mpr (by omega),rfl⟩;have c:=dL (k:=k) hm (by unfold mn;simp only;omega) (by unfold mn;simp only;rw[cv];omega);unfold mn at c;simp only at c;have e2:(0:Int)+(k - (a+8 * ((i / 8:Nat):Int)))=((i % 8:Nat):Int):=by omega
   rw[e2]at c;exact c
theorem ia (a:Int)(N:Nat)(cs:List Int):∀m:Nat,m<=(cs.length+7) / 8->bV a (fH a N cs m) (a+((min (8 * m) cs.length:Nat):Int))
 | 0,_=>by
  show a<=_;omega
 | m+1,h=>by
  rw[jE];refine(ia a N cs m (by omega)).snoc ?_ ?_ ?_
  . show _<=a+8 * (m:Int);omega
  . show 0 < ((bw cs m).length:Int);rw[cv];omega
  . show a+8 * (m:Int)+((bw cs m).length:Int)<=_;rw[cv];omega
theorem wP {pc:Int->List Int}{N:Nat}{cs:List Int}:GS (Do pc N cs ((cs.length+7) / 8)) (N+(cs.length+7) / 8) (gk N cs.length):=fun p s h=>by
 obtain⟨k,hk⟩:=fQ h;obtain⟨i,_,hi,rfl,rfl⟩:=src_srcs.mp hk;unfold Do;rw[if_pos (by omega),cv];refine⟨by omega,by omega,by omega,by omega⟩
theorem ib {d:Int}:∀{rs:List S4} {lo hi:Int},bV lo rs hi->bV (lo+d) (bK rs d) (hi+d)
 | [],lo,hi,h=>by
  have h':lo<=hi:=h;show lo+d<=hi+d;omega
 | r :: t,lo,hi,h=>by
  refine⟨by have:=h.1;show lo+d<=r.1+d;omega,h.2.1,?_⟩;have ih:=ib (d:=d) h.2.2;have e:r.1+d+r.2.1=r.1+r.2.1+d:=by omega
  show bV (r.1+d+r.2.1) (bK t d) (hi+d);rw[e];exact ih
theorem oB {rs:List S4}{d k p s:Int}:(k,p,s)∈aQ (bK rs d)↔(k - d,p,s)∈aQ rs:=by
 constructor
 . intro h;obtain⟨r,hr,h1,h2,h3,h4⟩:=gM h;unfold bK at hr;obtain⟨r0,hr0,rfl⟩:=List.mem_map.mp hr;simp only at h1 h2 h3 h4;have c:=dL (k:=k - d) hr0 (by omega) (by omega);rw[h3,h4];have e:r0.2.2.2+(k - (r0.1+d))=r0.2.2.2+(k - d - r0.1):=by omega
   rw[e];exact c
 . intro h;obtain⟨r,hr,h1,h2,h3,h4⟩:=gM h;simp only at h1 h2 h3 h4;have hm:(r.1+d,r.2.1,r.2.2.1,r.2.2.2)∈bK rs d:=List.mem_map.mpr ⟨r,hr,rfl⟩;have c:=dL (k:=k) hm (by show r.1+d<=k;omega) (by show k < r.1+d+r.2.1;omega);rw[h3,h4];have e:r.2.2.2+(k - d - r.1)=r.2.2.2+(k - (r.1+d)):=by omega
   rw[e];exact c
theorem wQ {os:List Src}{a L:Nat}{k:Int}:eZ ((os.drop a).take L) k=if k < (L:Int)/\0<=k then eZ os ((a:Int)+k)else none:=by
 by_cases z:k < 0
 . unfold eZ;rw[if_pos z,if_neg (by omega)]
 obtain⟨j,rfl⟩:=Int.eq_ofNat_of_zero_le (Int.not_lt.mp z);show eZ _ ((j:Nat):Int)=if((j:Nat):Int) < (L:Int)/\0<=((j:Nat):Int)then eZ os ((a:Int)+((j:Nat):Int))else none
 have e:(a:Int)+((j:Nat):Int)=((a+j:Nat):Int):=by omega
 rw[e,cH,cH,hX,kM];by_cases y:j < L
 . rw[if_pos y,if_pos (by omega)]
 . rw[if_neg y,if_neg (by omega)]
theorem _root_.L2.FI.shared {pc:Int->List Int}{N n n2 a L to:Nat}{rs rs2:List S4}{os os2:List Src}(h:FI pc N (n,rs,os))(h2:FI pc N (n2,rs2,os2))(ha:a+L<=n2)(ht:to+L<=40) :
 FI pc N (max n (to+L),b8 (cF rs (to:Int) ((to:Int)+(L:Int)) (bK (aC rs2 (a:Int) ((a:Int)+(L:Int))) ((to:Int) - (a:Int)))),nY os to L ((os2.drop a).take L)):=by
 have hl2:os2.length=n2:=h2.len;have ml:((os2.drop a).take L).length=L:=by
  rw[List.length_take,List.length_drop];omega
 refine h.laid ?_ ht ml (fun p s m=>h2.gs p s (List.mem_of_mem_drop (List.mem_of_mem_take m))) fun k p s=>?_
 . have o:=ib (d:=(to:Int) - (a:Int)) (cq (lo:=(a:Int)) (hi:=(a:Int)+(L:Int)) (e:=(a:Int)) h2.ord (by omega) (.inr (Int.le_refl _)));have e1:(a:Int)+((to:Int) - (a:Int))=(to:Int):=by omega
   have e2:(a:Int)+(L:Int)+((to:Int) - (a:Int))=(to:Int)+(L:Int):=by omega
   rw[e1,e2]at o;exact o
 . rw[oB,dv,wQ];show((k - ((to:Int) - (a:Int)),p,s)∈aQ rs2/\(a:Int)<=k - ((to:Int) - (a:Int))/\k - ((to:Int) - (a:Int)) < (a:Int)+(L:Int))↔_;rw[h2.cel];show(eZ os2 (k - ((to:Int) - (a:Int)))=some (p,s)/\_)↔_;have e:(a:Int)+(k - (to:Int))=k - ((to:Int) - (a:Int)):=by omega
   rw[e];by_cases z:k - (to:Int) < (L:Int)/\0<=k - (to:Int)
   . rw[if_pos z];exact⟨fun y=>⟨by omega,by omega,y.1⟩,fun y=>⟨y.2.2,by omega,by omega⟩⟩
   . rw[if_neg z];exact⟨fun y=>by omega,fun y=>by omega⟩
theorem pZ {pc:Int->List Int}{k:Int}:∀{rs:List S4} {v:Int},(∀r∈rs,¬ (r.1<=k/\k < r.1+r.2.1))->rs.foldl (vR pc k) v=v
 | [],_,_=>rfl
 | r :: t,v,h=>by
  rw[List.foldl_cons];have e:vR pc k v r=v:=by
   unfold vR;rw[if_neg (h r (List.mem_cons_self ..))]
  rw[e];exact pZ fun x hx=>h x (List.mem_cons_of_mem _ hx)
theorem u3 {pc:Int->List Int}{k:Int}:∀{rs:List S4} {lo hi v:Int} {r:S4},bV lo rs hi->r∈rs->r.1<=k->k < r.1+r.2.1->rs.foldl (vR pc k) v=(pc r.2.2.1).getD (r.2.2.2+k - r.1).toNat 0
 | x :: t,lo,hi,v,r,o,hr,h1,h2=>by
  rw[List.foldl_cons];cases hr with
  | head =>
   rw[pZ fun y hy=>by have:=(o.2.2.mem hy).1;omega];unfold vR;rw[if_pos ⟨h1,h2⟩]
  | tail _ hr=>exact u3 o.2.2 hr h1 h2
def gl (pc:Int->List Int):Src->Int
 | none=>0
 | some (p,s)=>(pc p).getD s.toNat 0
theorem _root_.L2.FI.vals {pc:Int->List Int}{N:Nat}{x:Fl}(h:FI pc N x):b9 pc x.2.1 x.1=x.2.2.map (gl pc):=by
 unfold b9;refine List.ext_getElem (by simp[h.len]) fun i h1 h2=>?_;have hi:i < x.1:=by simpa using h1
 have hi2:i < x.2.2.length:=by simpa using h2
 rw[List.getElem_map,List.getElem_range,List.getElem_map];have es:eZ x.2.2 (i:Int)=x.2.2[i]:=by
  rw[cH,List.getD_eq_getElem?_getD,List.getElem?_eq_getElem hi2];rfl
 unfold yq;cases e:x.2.2[i]with
 | none =>
  rw[pZ fun r hr c=>?_]
  . rfl
  . have c:=dL hr c.1 c.2;rw[h.cel,es,e]at c;cases c
 | some ps =>
  obtain⟨p,s⟩:=ps;obtain⟨r,hr,h1,h2,h3,h4⟩:=gM ((h.cel (i:Int) p s).mpr (es.trans e));simp only at h1 h2 h3 h4;rw[u3 h.ord hr h1 h2,h3,h4];show _=(pc r.2.2.1).getD (r.2.2.2+((i:Int) - r.1)).toNat 0
  congr 2
  omega
theorem _root_.L2.FI.places {pc:Int->List Int}{N:Nat}{x:Fl}(h:FI pc N x)(p:Int):p∈x.2.1.map (·.2.2.1)↔∃s,some (p,s)∈x.2.2:=by
 constructor
 . intro z;obtain⟨r,hr,rfl⟩:=List.mem_map.mp z;have b:=h.ord.mem hr;exact⟨_,dr ((h.cel _ _ _).mp (dL (k:=r.1) hr (Int.le_refl _) (by omega)))⟩
 . rintro⟨s,z⟩;obtain⟨k,hk⟩:=fQ z;obtain⟨r,hr,_,_,h3,_⟩:=gM ((h.cel _ _ _).mpr hk);exact List.mem_map.mpr ⟨r,hr,h3.symm⟩
theorem _root_.L2.FI.good {pc:Int->List Int}{N:Nat}{x:Fl}(h:FI pc N x){r:S4}(hr:r∈x.2.1):2<=r.2.2.1/\r.2.2.1 < 2+(N:Int)/\0<=r.2.2.2/\r.2.2.2+r.2.1<=((pc r.2.2.1).length:Int):=by
 have b:=h.ord.mem hr;have c1:=h.gs _ _ (dr ((h.cel _ _ _).mp (dL (k:=r.1) hr (Int.le_refl _) (by omega))));have c2:=h.gs _ _ (dr ((h.cel _ _ _).mp (dL (k:=r.1+r.2.1 - 1) hr (by omega) (by omega))));exact⟨c1.1,c1.2.1,by omega,by omega⟩
theorem jF {H:Hp}:∀cs:List Int,bi H (cs.map Tr.int) (cs.map V.int)
 | []=>bi.nil _
 | c :: cs=>bi.cons (At.int c) (jF cs)
def sl:Str:=Str.ofString "/"
theorem u4 {x:Str}(h:gI x=true):x≠Str.ofString "":=fun e=>by
 rw[e]at h;revert h;decide +kernel
theorem zu {x:Str}(h:gI x=true):x.length<=8:=by
 unfold gI at h;rw[Bool.and_eq_true,Bool.and_eq_true]at h;exact of_decide_eq_true h.1.2
theorem p7 {z:Str}(h:gI z=true):Txt.split z sl=[z]:=by
 have e:=ph z sl;have no:47 ∉ z.cps.toList:=fun m=>by
  unfold gI at h;rw[Bool.and_eq_true]at h;have:=List.all_eq_true.mp h.2 47 m;revert this;decide
 cases hl:Txt.split z sl with
 | nil =>
  rw[hl]at e;exact absurd (e.symm.trans (by decide +kernel)) (u4 h)
 | cons a l =>
  cases l with
  | nil =>
   rw[hl,show Txt.join sl [a]=Str.join sl [a]from StrLaws.glued_eq_join sl _]at e;have e':a=z:=e;rw[e']
  | cons b l =>
   rw[hl,show Txt.join sl (a :: b :: l)=Str.join sl (a :: b :: l)from StrLaws.glued_eq_join sl _]at e;have e':a++sl++Str.join sl (b :: l)=z:=e;have e2:=congrArg (fun x:Str=>x.cps.toList) e';simp only[hZ]at e2;refine absurd ?_ no;rw[<- e2];refine List.mem_append_left _ (List.mem_append_right _ ?_);decide +kernel
section
variable {P:Program}{w:World}{K:W.Frag}{mg:Str->Option Value}{base:Heap}{f fWrd fNof fWth fCll:Addr}{fd dWrd dNof dWth dCll:FuncData}{c:Cl}
def spNof:Sp:=fun vs H Q Fc=>∃z,vs=[.str z]/\gI z=true/\∀p H',aE H H'->H' p=some (.lst [.str z])->Q (.ref p) H'
theorem xz:aq ["path","names"] DG (ai v8):=⟨rfl,rfl,rfl,by decide +kernel,rfl,by decide +kernel,by decide +kernel⟩
theorem zv (F:bN K "names_of" "names_of" v8 f fd)(hWrd:bG K mg "is_word" v5 DF fWrd dWrd)(GWrd:aj P w K mg base ay 1 fWrd dWrd DF spWrd)(T:Txt mg):aj P w K mg base ay 4 f fd DG spNof:=by
 refine F.ok xz (fun vs H Q E h=>?_) (fun cdv A outer s H vs Q E hr h=>?_)
 . obtain⟨z,rfl,_⟩:=h;rfl
 obtain⟨z,rfl,hw,q⟩:=h;obtain⟨t2,mon⟩:=T.mon;have hx:At H (.str z) (.str z):=At.str _;obtain⟨ty,ht,_,k3,_⟩:=hx.ty (K:=K);have hz:=zu hw;refine⟨_,(ad (aZ (c0 (dM (aF cU rfl T.isi PyProof.Rows.boot_isinstance (pc (pv 0) (pc (gu (v:=.ty "str") rfl T.str PyProof.Rows.boot_str rfl) ac)))))
  (af bH)
  aM)
  (ad (aZ (aB bW (pv 0) a5 (aH _))
  (af (aw (bR ac)))
  aM)
  (ad (aA (i:=1) xz.nd rfl (Or.inl rfl) (io PySem.F.plainAttrs_str PySem.F.slot_str_split PySem.F.type_str_split tO (pv 0) (pc a5 ac)))
  (ad (aZ (PW.pt (dG (aB mM (aF aO rfl T.len PySem.boot_len (pc (pv 1) ac)) (aX (v:=.int 6) rfl mon ⟨_,rfl⟩) (aH _)) (cZ (c0 (dM (aF (jh hr.hd) rfl T.all PyProof.Rows.boot_all (pc (cW [] [] (eC (pv 1)) (fun Fc Fc Fc Fc Fc Fc=>cD)
        (fun Fc Fc Fc Fc Fc Fc=>(ar GWrd (hr.mono (by decide)) rfl hWrd.nm hWrd.fn.kp hWrd.bd .nil ao (pc (pv 0) ac)))
        rfl (by decide +kernel) (by decide +kernel) rfl (by decide +kernel) (fun Fc Fc z=>nomatch z) rfl (by decide +kernel) rfl) ac)))))))
  (af bH)
  aM)
  (af (aw (pv 1))))))),?_⟩
 refine⟨_,rfl,.str z,"str",ty,true,rfl,ht,k3,_,rfl,br ⟨_,rfl,rfl,_,rfl,?_⟩⟩;have cz:=u4 hw;refine dl (fun c=>absurd (by have:=of_decide_eq_true c;injection this) cz) (fun c=>?_);have hsl:(sl.length == 0)=false:=by decide +kernel
 refine⟨_,rfl,rfl,z,sl,rfl,rfl,hsl,Nat.le_of_lt (bg (by omega)),fun p hp=>?_⟩;rw[p7 hw];refine⟨_,rfl,p,_,rfl,.inl (bh.of aa),_,_,rfl,rfl,_,rfl,br ?_⟩;refine⟨_,rfl,p,rfl,⟨_,bh.of aa⟩,fun p2 hp2=>?_⟩;obtain⟨n1,n2⟩:=gB hp2;refine kq (K:=K) (xs:=[V.str z]) (fun i ys H2=>ys=([z].take i).map (fun y=>V.bl (gI y))/\aE H H2/\H2 p=some (.lst [V.str z])/\H2 p2=some (.lst ys)) ?_ (fun i ys H2 Fc h2=>bh.of h2.2.2.1) ?_ ?_
 . exact⟨rfl,(ah hp _).trans (ah hp2 _),by rw[am n1.symm];exact aa,aa⟩
 . rintro i y ys H2 hi ⟨rfl,s2,e2,e3⟩;have hi':([z].map V.str)[i]? = some y:=hi;rw[List.getElem?_map]at hi';obtain⟨y',h1,rfl⟩:=Option.map_eq_some_iff.mp hi';have ey:y'=z:=List.mem_singleton.mp (List.mem_of_getElem? h1);refine tM ?_;refine⟨_,rfl,.str y',.str y',rfl,At.str _,(by rw[ey];unfold sm;exact decide_eq_true (by omega)),fun H3 s3=>⟨s3 _ _ e3,?_,(g7 (fun y=>V.bl (gI y)) h1).symm,ba (s2.trans s3) n2 _,by rw[am n1.symm];exact s3 _ _ e2,aa⟩⟩;rw[List.length_map,List.length_take];exact bg (by show min i 1<=100000;omega)
 . rintro ys H2 ⟨rfl,s2,e2,e3⟩;refine⟨p2,[true],rfl,bh.of (e3.trans (by show some (HO.lst [V.bl (gI z)])=_;rw[hw];rfl)),_,rfl,br ⟨_,rfl,q p H2 s2 e2⟩⟩
theorem xA:aq ["path","names"] DG (ai oa):=⟨rfl,rfl,rfl,by decide +kernel,rfl,by decide +kernel,by decide +kernel⟩
theorem zw (F:bN K "names_below_top" "names_below_top" oa f fd)(hNof:bG K mg "names_of" v8 DG fNof dNof)(GNof:aj P w K mg base ay 4 fNof dNof DG spNof):aj P w K mg base ay 5 f fd DG spNof:=by
 refine F.ok xA (fun vs H Q E h=>?_) (fun cdv A outer s H vs Q E hr h=>?_)
 . obtain⟨z,rfl,_⟩:=h;rfl
 obtain⟨z,rfl,hw,q⟩:=h;refine⟨_,(ad (aA (i:=1) xA.nd rfl (Or.inl rfl) (ar GNof (hr.mono (by decide)) rfl hNof.nm hNof.fn.kp hNof.bd .nil ao (pc (pv 0) ac)))
  (ad (aZ (c0 (mO (pv 1) (fun Fc=>rfl)))
  (af bH)
  aM)
  (af (aw (pv 1))))),?_⟩
 exact⟨_,rfl,z,rfl,hw,fun p H' s' hp=>⟨_,rfl,true,.inl ⟨_,bh.of hp,rfl⟩,br ⟨_,rfl,q p H' s' hp⟩⟩⟩
def spNsp:Sp:=fun vs H Q Fc=>∃a b:Int,vs=[.int a,.int b]/\0<=a/\1<=b/\a+b<=40/\Q .non H
theorem BZ:aq DU DU (ai so):=⟨rfl,rfl,rfl,by decide +kernel,rfl,by decide +kernel,by decide +kernel⟩
theorem zx (F:bN K "need_span" "need_span" so f fd)(hWth:bG K mg "is_within" si DP fWth dWth)(GWth:aj P w K mg base ay 2 fWth dWth DP spWth0)(T:Txt mg):aj P w K mg base ay 4 f fd DU spNsp:=by
 refine F.ok BZ (fun vs H Q E h=>?_) (fun cdv A outer s H vs Q E hr h=>?_)
 . obtain⟨a,b,rfl,_⟩:=h;rfl
 obtain⟨a,b,rfl,h0,h1,h2,q⟩:=h;obtain⟨t2,mc⟩:=T.mc;refine⟨_,(af (aZ (PW.pt (dG (c0 (dM (ar GWth (hr.mono (by decide)) rfl hWth.nm hWth.fn.kp hWth.bd .nil ao (pc (pv 0) (pc ae (pc (aX (v:=.int 40) rfl mc ⟨_,rfl⟩) ac)))))) (cZ (c0 (dM (ar GWth (hr.mono (by decide)) rfl hWth.nm hWth.fn.kp hWth.bd .nil ao (pc (pv 1) (pc ae (pc (ax c5 (aX (v:=.int 40) rfl mc ⟨_,rfl⟩) (pv 0)) ac)))))))))
  (af bH)
  aM)),?_⟩
 have ha:At H (.int a) (.int a):=At.int _;have hb:At H (.int b) (.int b):=At.int _;have e1:rR (.int a) 0 40=true:=by show(decide (0<=a) && decide (a<=40))=true;rw[decide_eq_true h0,decide_eq_true (show a<=40 by omega)];rfl
 have e2:rR (.int b) 1 (40 - a)=true:=by show(decide (1<=b) && decide (b<=40 - a))=true;rw[decide_eq_true h1,decide_eq_true (show b<=40 - a by omega)];rfl
 refine⟨_,rfl,.int a,0,40,rfl,ha.ty0,_,rfl,?_⟩;rw[ha.wth,e1];refine br ⟨_,rfl,_,rfl,_,_,rfl,rfl,.int b,1,40 - a,rfl,hb.ty0,_,rfl,?_⟩;rw[hb.wth,e2];exact br q
def spNcl:Sp:=fun vs H Q Fc=>∃(p:Addr) (cs:List Int),vs=[.ref p]/\H p=some (.lst (cs.map V.int))/\1<=cs.length/\cs.length<=40/\(∀x∈cs,0<=x/\x<=999999)/\∀H',aE H H'->Q .non H'
theorem B0:aq Ec Ec (ai wu):=⟨rfl,rfl,rfl,by decide +kernel,rfl,by decide +kernel,by decide +kernel⟩
theorem zy (F:bN K "need_cells" "need_cells" wu f fd)(hCll:bG K mg "is_cell" wo DF fCll dCll)(GCll:aj P w K mg base ay 3 fCll dCll DF spCll)(T:Txt mg):aj P w K mg base ay 4 f fd Ec spNcl:=by
 refine F.ok B0 (fun vs H Q E h=>?_) (fun cdv A outer s H vs Q E hr h=>?_)
 . obtain⟨p,cs,rfl,_⟩:=h;rfl
 obtain⟨p,cs,rfl,hp,l1,l2,hc,q⟩:=h;obtain⟨t2,mc⟩:=T.mc;have ka:bi H (cs.map Tr.int) (cs.map V.int):=jF cs;have hx:At H (.lst (cs.map Tr.int)) (.ref p):=At.mkL hp ka;obtain⟨ty,ht,_,_,k3⟩:=hx.ty (K:=K);refine⟨_,(ad (aZ (PW.pt (dG (c0 (dM (aF cU rfl T.isi PyProof.Rows.boot_isinstance (pc (pv 0) (pc (gu (v:=.ty "list") rfl T.lst PyProof.Rows.boot_list rfl) ac))))) (cZ (c0 (mN jZ jZ ae (aF aO rfl T.len PySem.boot_len (pc (pv 0) ac)) (aX (v:=.int 40) rfl mc ⟨_,rfl⟩))))))
  (af bH)
  aM)
  (af (aZ (c0 (dM (aF (jh hr.hd) rfl T.all PyProof.Rows.boot_all (pc (cW [] [] (eC (pv 0)) (fun Fc Fc Fc Fc Fc Fc=>cD)
        (fun Fc Fc Fc Fc Fc Fc=>(ar GCll (hr.mono (by decide)) rfl hCll.nm hCll.fn.kp hCll.bd .nil ao (pc (pv 0) ac)))
        rfl (by decide +kernel) (by decide +kernel) rfl (by decide +kernel) (fun Fc Fc z=>nomatch z) rfl (by decide +kernel) rfl) ac))))
  (af bH)
  aM))),?_⟩
 have lm:(cs.map V.int).length=cs.length:=List.length_map _;refine⟨_,rfl,.ref p,"list",ty,true,rfl,ht,k3,_,rfl,br ⟨_,rfl,p,_,rfl,.inl (bh.of hp),_,_,rfl,rfl,_,rfl,?_⟩⟩;rw[lm];rw[decide_eq_true (show(1:Int)<=((cs.length:Nat):Int) by omega)];refine c6 ⟨_,_,rfl,rfl,_,rfl,?_⟩;rw[decide_eq_true (show((cs.length:Nat):Int)<=40 by omega)];refine br ⟨_,rfl,p,rfl,⟨_,bh.of hp⟩,fun p2 hp2=>?_⟩;refine kq (K:=K) (xs:=cs.map V.int) (fun i ys H2=>ys=(cs.take i).map (fun Fc=>V.bl true)/\aE H H2/\H2 p2=some (.lst ys)) ⟨rfl,ah hp2 _,aa⟩ (fun i ys H2 Fc h2=>bh.of (h2.2.1 _ _ hp)) ?_ ?_
 . rintro i y ys H2 hi ⟨rfl,s2,e3⟩;rw[List.getElem?_map]at hi;obtain⟨y',h1,rfl⟩:=Option.map_eq_some_iff.mp hi;refine tM ?_;have hy:=hc y' (List.mem_of_getElem? h1);have ew:rR (.int y') 0 999999=true:=by show(decide (0<=y') && decide (y'<=999999))=true;rw[decide_eq_true hy.1,decide_eq_true hy.2];rfl
   refine⟨_,rfl,.int y',.int y',rfl,At.int _,e3,?_,?_,ba s2 hp2 _,aa⟩
   . rw[List.length_map,List.length_take];exact bg (by omega)
   . rw[ew];exact(g7 (fun Fc=>V.bl true) h1).symm
 . rintro ys H2 ⟨rfl,s2,e3⟩;rw[lm,List.take_length]at e3;refine⟨p2,cs.map fun Fc=>true,rfl,bh.of (by rw[e3,List.map_map];rfl),_,rfl,?_⟩;have:(cs.map fun Fc=>true).all id=true:=by simp
   rw[this];exact br (q H2 s2)
def qI (c:Cl):Sp:=fun vs H Q Fc=>∃x b s r a l,vs=[x,.int a,.int l]/\bT c H (.fil b s r) x/\a+l<=s/\Q .non H
theorem B3:aq DY DY (ai uD):=⟨rfl,rfl,rfl,by decide +kernel,rfl,by decide +kernel,by decide +kernel⟩
theorem zz (F:bN K "need_within_size" "need_within_size" uD f fd)(cf:CF K mg c):aj P w K mg base ay 4 f fd DY (qI c):=by
 refine F.ok B3 (fun vs H Q E h=>?_) (fun cdv A outer s H vs Q E hr h=>?_)
 . obtain⟨x,b,s',r,a,l,rfl,_⟩:=h;rfl
 obtain⟨x,b,sz,r,a,l,rfl,⟨p,dx,v,rfl,e,hv⟩,hl,q⟩:=h;refine⟨_,(af (aZ (aB mM (ax a6 (pv 1) (pv 2)) (a7 (pv 0) rfl) (aH _))
  (af bH)
  aM)),?_⟩
 refine⟨_,rfl,_,rfl,_,_,rfl,rfl,_,rfl,p,c.KF,dx,_,_,rfl,e,cf.clF,cf.sF,rfl,_,_,rfl,rfl,_,rfl,?_⟩;rw[decide_eq_false (by omega)];exact br q
end
def Ki (d fr PS PP:Addr)(H H':Hp):Prop:=∀q u,q≠d->q≠fr->q≠PS->q≠PP->H q=some u->H' q=some u
structure T2 (PS PP:Addr)(H:Hp):Prop where
 tb:bo H PS dP lamS.qual
 tp:bo H PP lpos lqual
 ne:PS≠PP
theorem d9 {H H':Hp}{PR:Addr}{pos:Pos}{q:Str}(t:bo H PR pos q)(k:∀b φ,H b=some (.ext φ)->(b=PR\/∃q,φ=hW b q)->H' b=some (.ext φ)):bo H' PR pos q:=by
 obtain⟨qs,e,tr,hc⟩:=t;exact⟨qs,k _ _ e (.inl rfl),tr,hc.imp id fun⟨c2,a1,a2⟩=>⟨c2,a1,k _ _ a2 (.inr ⟨_,rfl⟩)⟩⟩
theorem ic {H H':Hp}{PP PR:Addr}{pos:Pos}{q:Str}(t:bo H PR pos q)(hP:cu H PP)(n:PR≠PP)(k:∀b φ,b≠PP->H b=some (.ext φ)->H' b=some (.ext φ)):bo H' PR pos q:=by
 refine d9 t fun b φ e h=>k b φ ?_ e;rcases h with rfl|⟨q',rfl⟩
 . exact n
 . exact mj hP e fun ps z=>i4 _ _ _ z
section
variable {P:Program}{w:World}{K:W.Frag}{mg:Str->Option Value}{base:Heap}{f fLad fEhf:Addr}{fd dLad dEhf:FuncData}{c:Cl}{PS PP:Addr}
theorem T2.sxS {H H':Hp}(t:T2 PS PP H)(s:eX PS H H')(tb:bo H' PS dP lamS.qual):T2 PS PP H':=⟨tb,ic t.tp (aW t.tb) t.ne.symm fun b φ n e=>s b _ n e,t.ne⟩
theorem T2.sxP {H H':Hp}(t:T2 PS PP H)(s:eX PP H H')(tp:bo H' PP lpos lqual):T2 PS PP H':=⟨ic t.tb (aW t.tp) t.ne fun b φ n e=>s b _ n e,tp,t.ne⟩
theorem T2.mono {H H':Hp}(t:T2 PS PP H)(s:aE H H'):T2 PS PP H':=⟨bf t.tb s,bf t.tp s,t.ne⟩
theorem T2.kf {H H':Hp}{fr:Addr}{kvs:List (Key×V)}(t:T2 PS PP H)(hf:H fr=some (.dK kvs))(k:Kf fr H H'):T2 PS PP H':=by
 have kk:∀b φ,H b=some (.ext φ)->H' b=some (.ext φ):=fun b φ e=>k b _ (fun z=>by rw[z,hf]at e;cases e) e;exact⟨d9 t.tb fun b φ e _=>kk b φ e,d9 t.tp fun b φ e _=>kk b φ e,t.ne⟩
theorem T2.kh {H H':Hp}{d lk fr:Addr}{D:DS}(t:T2 PS PP H)(de:dF c H d lk fr D)(k:Kh d fr PS H H')(tb:bo H' PS dP lamS.qual):T2 PS PP H':=by
 obtain⟨dx,hd⟩:=de.at_;obtain⟨xs,hf,_⟩:=de.fr_;exact⟨tb,ic t.tp (aW t.tb) t.ne.symm fun b φ n e=>k b _ (fun z=>by rw[z,hd]at e;cases e) (fun z=>by rw[z,hf]at e;cases e) n e,t.ne⟩
theorem S1.sxP {H H':Hp}{d lk fr pn:Addr}{D:DS}{n:Str}{b m:Int}{es:List Ent}(g:S1 c PS H d lk fr D pn n b m es)(t:T2 PS PP H)(s:eX PP H H')(tp:bo H' PP lpos lqual):S1 c PS H' d lk fr D pn n b m es :=
 ⟨g.de.sx (aW t.tp) s,dh (aW t.tp) s _ _ (by intro φ z;cases z) g.hp,g.rt,(t.sxP s tp).tb⟩
theorem qJ {H:Hp}:∀{r:List S4} {vs:List V},bi H (r.map sT) vs->aI H vs (r.map tv)
 | [],[],_=>trivial
 | [],_ :: _,h=>by unfold bi at h;cases h
 | x :: l,[],h=>by have:=h.len;simp at this
 | x :: l,v :: vs,h=>by
  rw[List.map_cons]at h;unfold bi at h;obtain⟨v',ws,e,h1,h2⟩:=h;cases e;obtain⟨b,rfl,eb⟩:=uQ h1;exact⟨⟨b,rfl,eb⟩,qJ h2⟩
theorem mo {H:Hp}{r:List S4}{v:V}(h:At H (.tup (r.map sT)) v):∃a,v = .ref a/\cV true H a r:=by
 obtain⟨a,vs,rfl,ea,ka⟩:=At.tup h;exact⟨a,rfl,vs,ea,qJ ka⟩
theorem qK {H:Hp}:∀{r:List S4} {vs:List V},aI H vs (r.map tv)->bi H (r.map sT) vs
 | [],[],_=>bi.nil _
 | [],_ :: _,h=>h.elim
 | _ :: _,[],h=>h.elim
 | x :: l,v :: vs,⟨⟨q,e,hq⟩,h⟩=>by
  subst e;exact bi.cons (At.mkT hq (bi.cons (by unfold At;rfl) (bi.cons (by unfold At;rfl) (bi.cons (by unfold At;rfl) (bi.cons (by unfold At;rfl) (bi.nil _)))))) (qK h)
theorem p8 {H:Hp}{r:List S4}{a:Addr}(h:cV false H a r):TL H (r.map sT) (.ref a):=by
 obtain⟨ys,e,t⟩:=h;exact .inr (At.mkL e (qK t))
def qL (c:Cl)(PS PP:Addr):Sp:=fun vs H Q Fc=>∃d lk fr D pn n b m es x b' s r lo hi a tu new,vs=[.ref d,.ref pn,x,.int lo,.int hi,.ref a]/\S1 c PS H d lk fr D pn n b m es/\T2 PS PP H/\bT c H (.fil b' s r) x/\cV tu H a new/\bV 0 r 40/\0<=lo/\hi<=40/\bV lo new hi/\es.length<=20/\(es.map (·.1)).Nodup/\D.ks.length<=3900/\D.root < 1000+(D.ks.length:Int) /\
 ∀H',Ki d fr PS PP H H'->T2 PS PP H'->dF c H' d lk fr (D.filed m es n (bz s hi) (b8 (cF r lo hi new)))->Q .non H'
theorem B4:aq DZ DZ (ai uH):=⟨rfl,rfl,rfl,by decide +kernel,rfl,by decide +kernel,by decide +kernel⟩
theorem zA (F:bN K "fill" "Deed.fill" uH f fd)(cf:CF K mg c)(hLad:bG K mg "laid" sk Eg fLad dLad)(GLad:aj P w K mg base ay 4 fLad dLad Eg (uP PP))
 (hEhf:aU K c.DE "hang_file" "Deed.hang_file" sq DT fEhf dEhf) (GEhf:aj P w K mg base ay 12 fEhf dEhf DT (oz c PS)) (T:Txt mg):aj P w K mg base ay 13 f fd DZ (qL c PS PP):=by
 refine F.ok B4 (fun vs H Q E h=>?_) (fun cdv A outer s H vs Q E hr h=>?_)
 . obtain⟨d,lk,fr,D,pn,n,b,m,es,x,b',s',r,lo,hi,a,tu,new,rfl,_⟩:=h;rfl
 obtain⟨d,lk,fr,D,pn,n,b,m,es,x,b',sz,r,lo,hi,a,tu,new,rfl,g,t,kn,ra,or,h0,h40,on,l20,nd,l4,hrt,q⟩:=h;obtain⟨dx,hd⟩:=g.de.at_;obtain⟨p,dk,v,rfl,ek,hv⟩:=kn;obtain⟨av,rfl,rv⟩:=mo hv;refine⟨_,(af (aS (aD (pv 0) cf.clE hEhf.me GEhf (hr.mono (by decide)) hEhf.bd .nil ao (pc (pv 1) (pc (aF (j4 rfl) rfl T.max PyProof.Rows.boot_max (pc (a7 (pv 2) rfl) (pc (pv 4) ac))) (pc (ar GLad (hr.mono (by decide)) rfl hLad.nm hLad.fn.kp hLad.bd .nil ao (pc (a7 (pv 2) rfl) (pc (pv 3) (pc (pv 4) (pc (pv 5) ac))))) ac)))))),?_⟩;refine⟨_,rfl,d,dx,_,rfl,hd,rfl,_,rfl,_,rfl,p,c.KF,dk,_,_,rfl,ek,cf.clF,cf.sF,rfl,_,rfl,_,_,rfl,_,rfl,p,c.KF,dk,_,_,rfl,ek,cf.clF,cf.rF,rfl,_,rfl,_,rfl,_,rfl,av,a,true,tu,r,new,lo,hi,rfl,rv,ra,or,h0,h40,on,t.tp,fun p1 H1 sx tp hp1 r1=>?_⟩;have t1:=t.sxP sx tp;have g1:=g.sxP t sx tp;refine⟨d,lk,fr,D,pn,n,b,m,es,_,_,_,rfl,g1,p8 r1,l20,nd,l4,hrt,fun H2 kh tb de2=>q H2 (fun q u n1 n2 n3 n4 e=>kh q u n1 n2 n3 (sx q u n4 e)) (t1.kh g1.de kh tb) de2⟩
end
def db (cs:List Int)(m:Nat):List Kn:=(List.range m).map fun k=>.cel 5 (bw cs k)
def DS.cut (D:DS)(cs:List Int)(m:Nat):DS:=⟨D.root,D.ks++db cs m⟩
theorem jG (cs:List Int)(m:Nat):(db cs m).length=m:=by
 unfold db;rw[List.length_map,List.length_range]
theorem sJ (cs:List Int)(m:Nat):db cs (m+1)=db cs m++[.cel 5 (bw cs m)]:=by
 unfold db;rw[List.range_succ,List.map_append];rfl
def DS.new (D:DS)(a:Int)(cs:List Int):List S4:=fH a (998+D.ks.length) cs ((cs.length+7) / 8)
def DS.put (D:DS)(m:Int)(es:List Ent)(n:Str)(s:Int)(r:List S4)(a:Int)(cs:List Int):DS :=
 (D.cut cs ((cs.length+7) / 8)).filed m es n (bz s (a+cs.length)) (b8 (cF r a (a+cs.length) (D.new a cs)))
def Cp (H H':Hp):Prop:=∀q u,(∀l,u≠HO.lst l)->H q=some u->H' q=some u
section
variable {P:Program}{w:World}{K:W.Frag}{mg:Str->Option Value}{base:Heap}{f fNbt fNcl fNsp fEff fSpl fEgr fEfi fCIn:Addr}{fd dNbt dNcl dNsp dEff dSpl dEgr dEfi dCIn:FuncData}{c:Cl}{PS PP:Addr}
theorem bT.nol {H H':Hp}(kp:Cp H H'):∀{k:Kn} {x:V},bT c H k x->bT c H' k x:=by
 have tup:∀q u,H q=some (.tup u)->H' q=some (.tup u):=fun q u e=>kp q _ (by intro l z;cases z) e;intro k x h;cases k with
 | cel b cs =>
  obtain⟨p,dx,v,e,h,a⟩:=h;exact⟨p,dx,v,e,kp _ _ (by intro l z;cases z) h,At.keepT tup (by unfold nl;exact eQ cs) a⟩
 | fil b s r =>
  obtain⟨p,dx,v,e,h,a⟩:=h;exact⟨p,dx,v,e,kp _ _ (by intro l z;cases z) h,At.keepT tup (by unfold nl;exact jB r) a⟩
 | fol b m es =>
  obtain⟨p,dx,v,e,h,a⟩:=h;exact⟨p,dx,v,e,kp _ _ (by intro l z;cases z) h,At.keepT tup (by unfold nl;exact kQ es) a⟩
theorem dF.nol {H H':Hp}{d lk fr:Addr}{D:DS}(h:dF c H d lk fr D)(kp:Cp H H'):dF c H' d lk fr D:=by
 obtain⟨⟨dx,e⟩,⟨xs,e2,l,k⟩,⟨j,pm,c',ctv,g1,g2⟩⟩:=h;exact⟨⟨dx,kp _ _ (by intro l z;cases z) e⟩,⟨xs,kp _ _ (by intro l z;cases z) e2,l,fun i k' x h1 h2=>(k i k' x h1 h2).nol kp⟩,⟨j,pm,c',ctv,kp _ _ (by intro l z;cases z) g1,kp _ _ (by intro l z;cases z) g2⟩⟩
theorem T2.nol {H H':Hp}(t:T2 PS PP H)(kp:Cp H H'):T2 PS PP H' :=
 ⟨d9 t.tb fun b φ e _=>kp _ _ (by intro l z;cases z) e,d9 t.tp fun b φ e _=>kp _ _ (by intro l z;cases z) e,t.ne⟩
theorem qM {H:Hp}{p:Addr}{l l':List V}(h:H p=some (.lst l)):Cp H (aL H p (.lst l')):=fun q u n e=>by
 rw[am (fun z=>by rw[z,h]at e;cases e;exact n _ rfl)];exact e
theorem B5 {H:Hp}{R:Addr->Hp->Prop}{v:V}{b:Int}{cs:List Int}(hv:TL H (cs.map .int) v)(q:∀x H',aE H H'->bT c H' (.cel b cs) (.ref x)->R x H'):∀x dx,H x=none->H dx=none->dx≠x ->
 kR c (.ref x :: ([.int b,v]++[])) (aL (aL H dx (.own x)) x (.ins c.KC dx [])) (fun u H2=>u = .non/\R x H2) E0:=by
 intro x dx hx hd ne;have s0:aE H (aL (aL H dx (.own x)) x (.ins c.KC dx [])):=fun q u e=>by
  rw[am (a9 e hx),am (a9 e hd)];exact e
 refine⟨x,dx,.int b,v,cs.map .int,rfl,aa,?_,eQ cs,fun v' H' k e a=>⟨rfl,q _ H' (d7 hx hd k) ⟨x,dx,v',rfl,e,a⟩⟩⟩;rcases hv with h|h
 . exact .inl (h.mono s0)
 . exact .inr (h.mono s0)
structure G0 (c:Cl)(PS PP:Addr)(H:Hp)(d lk fr:Addr)(D:DS)(b m:Int)(es:List Ent):Prop where
 de:dF c H d lk fr D
 rt:D.view D.root = .fol b m es
 t2:T2 PS PP H
 l7:es.length<=7
 nd:(es.map (·.1)).Nodup
 l3:D.ks.length<=3000
 hrt:D.root < 1000+(D.ks.length:Int)
 kd:∀y∈es,y.2.1=wFi
theorem G0.mono {H H':Hp}{d lk fr:Addr}{D:DS}{b m:Int}{es:List Ent}(g:G0 c PS PP H d lk fr D b m es)(s:aE H H'):G0 c PS PP H' d lk fr D b m es:=⟨g.de.mono s,g.rt,g.t2.mono s,g.l7,g.nd,g.l3,g.hrt,g.kd⟩
theorem G0.sx {H H':Hp}{d lk fr:Addr}{D:DS}{b m:Int}{es:List Ent}(g:G0 c PS PP H d lk fr D b m es)(s:eX PS H H')(tb:bo H' PS dP lamS.qual):G0 c PS PP H' d lk fr D b m es:=⟨g.de.sx (aW g.t2.tb) s,g.rt,g.t2.sxS s tb,g.l7,g.nd,g.l3,g.hrt,g.kd⟩
theorem G0.s1 {H:Hp}{d lk fr pn:Addr}{D:DS}{b m:Int}{es:List Ent}{n:Str}(g:G0 c PS PP H d lk fr D b m es)(hp:H pn=some (.lst [.str n])):S1 c PS H d lk fr D pn n b m es:=⟨g.de,hp,g.rt,g.t2.tb⟩
theorem i5 {es:List Ent}{n:Str}{y:Ent}(h:bO es n=some y):y∈es/\y.1=n:=by
 exact⟨List.mem_of_find?_eq_some h,of_decide_eq_true (List.find?_some (p:=fun e:Ent=>decide (e.1=n)) h)⟩
theorem G0.kn {H:Hp}{d lk fr:Addr}{D:DS}{b m:Int}{es:List Ent}(g:G0 c PS PP H d lk fr D b m es)(n:Str):∀y,bO es n=some y->y.2.1=wFi:=fun y h=>g.kd y (i5 h).1
def zB (c:Cl)(PS PP:Addr)(H:Hp)(d lk fr:Addr)(D':DS)(Q:VK):Prop:=∀H',Ki d fr PS PP H H'->T2 PS PP H'->dF c H' d lk fr D'->Q .non H'
def qN (c:Cl)(PS PP:Addr):Sp:=fun vs H Q Fc=>∃d lk fr D b m es n s r cl a cs,vs=[.ref d,.str n,.int a,.ref cl]/\G0 c PS PP H d lk fr D b m es/\gI n=true/\D.file es n = .fil 5 s r/\bV 0 r 40/\0<=a/\H cl=some (.lst (cs.map V.int))/\1<=cs.length/\a+cs.length<=40/\(∀x∈cs,0<=x/\x<=999999)/\zB c PS PP H d lk fr (D.put m es n s r a cs) Q
theorem kY:aq ["self","path","at","cells","names","knot","row","begin","some"] D5 (ai uE):=⟨rfl,rfl,rfl,by decide +kernel,rfl,by decide +kernel,by decide +kernel⟩
theorem zC (F:bN K "put" "Deed.put" uE f fd)(cf:CF K mg c)(hNbt:bG K mg "names_below_top" oa DG fNbt dNbt)(GNbt:aj P w K mg base ay 5 fNbt dNbt DG spNof)
 (hNcl:bG K mg "need_cells" wu Ec fNcl dNcl) (GNcl:aj P w K mg base ay 4 fNcl dNcl Ec spNcl) (hNsp:bG K mg "need_span" so DU fNsp dNsp) (GNsp:aj P w K mg base ay 4 fNsp dNsp DU spNsp)
 (hEff:aU K c.DE "file_to_fill" "Deed.file_to_fill" uG DC fEff dEff) (GEff:aj P w K mg base ay 13 fEff dEff DC (qH c PS))
 (hSpl:bG K mg "split_up" wj D0 fSpl dSpl) (GSpl:aj P w K mg base ay 1 fSpl dSpl D0 spSpl)
 (hEgr:aU K c.DE "grow" "Deed.grow" pS DV fEgr dEgr) (GEgr:aj P w K mg base ay 1 fEgr dEgr DV (kU c))
 (hEfi:aU K c.DE "fill" "Deed.fill" uH DZ fEfi dEfi) (GEfi:aj P w K mg base ay 13 fEfi dEfi DZ (qL c PS PP))
 (CInmk:Mk K c.KC fCIn) (CInnm:mg "CellsKnot" = some (.ref c.KC)) (CInbd:bE K dCIn DW []) (GCIn:aj P w K mg base ay 2 fCIn dCIn DW (kR c)) (T:Txt mg):aj P w K mg base ay 14 f fd D5 (qN c PS PP):=by
 refine F.ok kY (fun vs H Q E h=>?_) (fun cdv A outer s H vs Q E hr h=>?_)
 . obtain⟨d,lk,fr,D,b,m,es,n,s',r,cl,a,cs,rfl,_⟩:=h;rfl
 obtain⟨d,lk,fr,D,b,m,es,n,sz,r,cl,a,cs,rfl,g,hw,hfl,or,h0,hcl,l1,l40,hcs,q⟩:=h;refine⟨_,(ad (aA (i:=4) kY.nd rfl (Or.inl rfl) (ar GNbt (hr.mono (by decide)) rfl hNbt.nm hNbt.fn.kp hNbt.bd .nil ao (pc (pv 1) ac)))
  (ad (aS (ar GNcl (hr.mono (by decide)) rfl hNcl.nm hNcl.fn.kp hNcl.bd .nil ao (pc (pv 3) ac)))
  (ad (aS (ar GNsp (hr.mono (by decide)) rfl hNsp.nm hNsp.fn.kp hNsp.bd .nil ao (pc (pv 2) (pc (aF aO rfl T.len PySem.boot_len (pc (pv 3) ac)) ac))))
  (ad (aA (i:=5) kY.nd rfl (Or.inl rfl) (aD (pv 0) cf.clE hEff.me GEff (hr.mono (by decide)) hEff.bd .nil ao (pc (pv 1) (pc (pv 4) ac))))
  (ad (aA (i:=6) kY.nd rfl (Or.inl rfl) (bR ac))
  (ad (ck PassesOwn.never rfl (eC (ar GSpl (hr.mono (by decide)) rfl hSpl.nm hSpl.fn.kp hSpl.bd .nil ao (pc (pv 2) (pc (pv 3) ac)))) (dN rfl (aR (aJ (i:=7) kY.nd rfl (Or.inl rfl)) (aR (aJ (i:=8) kY.nd rfl (Or.inl rfl)) cP)))
  (af (aS (io PySem.F.plainAttrs_list PySem.F.slot_list_append PySem.F.type_list_append dS (pv 6) (pc (bq (pc (pv 7) (pc (aF aO rfl T.len PySem.boot_len (pc (pv 8) ac)) (pc (aD (pv 0) cf.clE hEgr.me GEgr (hr.mono (by decide)) hEgr.bd .nil ao (pc (di CInmk GCIn (hr.mono (by decide)) rfl CInnm CInbd .nil ao (pc (a7 (pv 0) rfl) (pc (pv 8) ac))) ac)) (pc ae ac))))) ac)))))
  (af (aS (aD (pv 0) cf.clE hEfi.me GEfi (hr.mono (by decide)) hEfi.bd .nil ao (pc (pv 4) (pc (pv 5) (pc (pv 2) (pc (ax a6 (pv 2) (aF aO rfl T.len PySem.boot_len (pc (pv 3) ac))) (pc (pv 6) ac)))))))))))))),?_⟩
 have lm:(cs.map V.int).length=cs.length:=List.length_map _;refine aK fun N tl=>?_;refine⟨_,rfl,n,rfl,hw,fun pn H1 s1 hpn=>?_⟩;refine tl _ _ ?_;clear tl N;refine aK fun N tl=>?_;refine⟨_,rfl,cl,cs,rfl,s1 _ _ hcl,l1,by omega,hcs,fun H2 s2=>?_⟩;refine tl _ _ ?_;clear tl N;refine aK fun N tl=>?_;refine⟨_,rfl,_,rfl,cl,_,rfl,.inl (bh.of (s2 _ _ (s1 _ _ hcl))),a,_,rfl,h0,by rw[lm];omega,by rw[lm];omega,?_⟩;refine tl _ _ ?_;clear tl N;have g2:=g.mono (s1.trans s2);obtain⟨dx,hd⟩:=g2.de.at_;have hcl2:=s2 _ _ (s1 _ _ hcl);have hpn2:=s2 _ _ hpn;refine aK fun N tl=>?_;refine⟨_,rfl,d,dx,_,rfl,hd,rfl,_,rfl,_,rfl,d,lk,fr,D,pn,n,_,b,m,es,rfl,g2.s1 hpn2,g2.kn n,fun Fc=>by have:=g2.l7;omega,fun x H3 sx tb kn=>?_⟩;refine tl _ _ ?_;clear tl N;have g3:=g2.sx sx tb;have up:=dh (aW g2.t2.tb) sx;have hcl3:=up _ _ (by intro φ z;cases z) hcl2;have hpn3:=up _ _ (by intro φ z;cases z) hpn2;rw[hfl]at kn;refine aK fun N tl=>?_;refine⟨by decide,fun pr hpr=>?_⟩;refine tl _ _ ?_;clear tl N;refine aK fun N tl=>?_;have s4:=ah hpr (HO.lst []);refine⟨_,rfl,_,rfl,cl,a,cs,rfl,s4 _ _ hcl3,by omega,fun ps H5 zs s5 hps0 hps lz sp=>?_⟩;have npr:ps≠pr:=fun z=>by rw[z,aa]at hps0;cases hps0
 have g5:=(g3.mono s4).mono s5;have hcl5:=s5 _ _ (s4 _ _ hcl3);have hpn5:=s5 _ _ (s4 _ _ hpn3);have kn5:=(kn.mono s4).mono s5;have hpr5:=s5 _ _ (show aL H3 pr (HO.lst []) pr=some (HO.lst [])from aa);have nz:zs.length=(cs.length+7) / 8:=lz;refine⟨ps,rfl,⟨_,bh.of hps⟩,?_⟩;refine fm (K:=K) (xs:=zs) (fun i σ H2=>∃o7 o8 ys,σ=[some (.ref d),some (.str n),some (.int a),some (.ref cl),some (.ref pn),some x,some (.ref pr),o7,o8]/\(∀q u,q≠fr->q≠pr->H5 q=some u->H2 q=some u)/\H2 pr=some (.lst ys)/\aI H2 ys ((fH a (998+D.ks.length) cs i).map tv)/\dF c H2 d lk fr (D.cut cs i)/\T2 PS PP H2/\bT c H2 (.fil 5 sz r) x) ⟨none,none,[],rfl,fun q u Fc Fc e=>e,hpr5,trivial,?_,g5.t2,kn5⟩ (fun i σ H2 _ h2=>?_) ?_ ?_
 . unfold DS.cut db;rw[List.range_zero,List.map_nil,List.append_nil];exact g5.de
 . obtain⟨_,_,_,_,kk,_⟩:=h2;obtain⟨xs,hf,_⟩:=g5.de.fr_;exact bh.of (kk _ _ (fun z=>by rw[z,hf]at hps;cases hps) npr hps)
 . intro i y σ H2 hi pvh;refine fX fun Nh th=>?_;obtain⟨o7,o8,ys,rfl,kk,hpr2,tu2,de2,t2,kn2⟩:=pvh;refine th ?_;clear th Nh;have hil:=(List.getElem?_eq_some_iff.mp hi).1;obtain⟨t,q',h1,h2,h3⟩:=sp i hil;rw[hi]at h1;cases h1;obtain⟨xs5,hf5,_⟩:=g5.de.fr_;have tup:∀q u,H5 q=some (.tup u)->H2 q=some (.tup u):=fun q u e=>kk _ _ (fun z=>by rw[z,hf5]at e;cases e) (fun z=>by rw[z,hpr5]at e;cases e) e;obtain⟨dx2,hd2⟩:=de2.at_;have lc:(bw cs i).length<=8:=by rw[cv];omega
   refine⟨t,_,rfl,a8.of (tup _ _ h2),rfl,_,_,rfl,_,_,rfl,rfl,?_⟩;refine cY fun D' tD=>?_;refine⟨_,rfl,.inl ⟨rfl,_,bh.of hpr2⟩,_,rfl,_,rfl,q',_,rfl,.inr (a8.of (tup _ _ h3)),_,rfl,d,dx2,_,rfl,hd2,rfl,_,rfl,d,c.DE,dx2,_,_,rfl,hd2,cf.clE,cf.nE,rfl,_,rfl,?_⟩;refine B5 (cs:=bw cs i) (.inl (At.mkT (tup _ _ h3) (jF _))) fun z H6 s6 kn6=>?_;have lk5:(D.cut cs i).ks.length=D.ks.length+i:=by
    show(D.ks++db cs i).length=_;rw[List.length_append,jG]
   have l3:=g.l3;refine⟨d,lk,fr,D.cut cs i,.cel 5 (bw cs i),.ref z,rfl,de2.mono s6,kn6,by omega,fun H7 kf de7=>⟨(by show 4<=sizeLine;decide),fun t7 ht7=>?_⟩⟩;rw[lk5];obtain⟨xs6,hf6,_⟩:=(de2.mono s6).fr_;have s7:=ah ht7 (HO.tup [V.int (a+8 * (i:Int)),V.int (((bw cs i).map V.int).length:Int),V.int (1000+((D.ks.length+i:Nat):Int)),V.int 0]);have pf:pr≠fr:=fun z=>by rw[z]at hpr2;obtain⟨xs2,hf2,_⟩:=de2.fr_;rw[hf2]at hpr2;cases hpr2
   have hpr7:=s7 _ _ (kf _ _ pf (s6 _ _ hpr2));have et:HO.tup [V.int (a+8 * (i:Int)),V.int (((bw cs i).map V.int).length:Int),V.int (1000+((D.ks.length+i:Nat):Int)),V.int 0]=HO.tup (tv (mn a (998+D.ks.length) cs i)):=by
    unfold tv mn;rw[List.length_map];simp only[HO.tup.injEq,List.cons.injEq,and_true,true_and,V.int.injEq];omega
   have ly:ys.length=i:=by
    have:=bU tu2;rw[this];unfold fH;rw[List.length_map,List.length_range]
   have tu7:aI (aL H7 t7 (HO.tup [V.int (a+8 * (i:Int)),V.int (((bw cs i).map V.int).length:Int),V.int (1000+((D.ks.length+i:Nat):Int)),V.int 0])) (ys++[V.ref t7]) ((fH a (998+D.ks.length) cs (i+1)).map tv):=by
    rw[jE,List.map_append];exact((tu2.keep fun q u e=>s7 _ _ (kf _ _ (fun z=>by have e:=s6 _ _ e;rw[z,hf6]at e;cases e) (s6 _ _ e))).snoc (by rw[<- et];exact aa))
   have nl7:=qM (l':=ys++[V.ref t7]) hpr7;have kn7:bT c H7 (.fil 5 sz r) x:=(kn2.mono s6).kf hf6 kf;refine⟨pr,ys,_,rfl,rfl,hpr7,bg (by omega),tD _ _ ?_⟩;refine⟨_,_,_,rfl,fun q u n1 n2 e=>?_,aa,tu7.upd (hU hpr7),?_,((((t2.mono s6).kf hf6 kf).mono s7).nol nl7),((kn7.mono s7).nol nl7)⟩
   . rw[am n2];exact s7 _ _ (kf _ _ n1 (s6 _ _ (kk q u n1 n2 e)))
   . have:dF c H7 d lk fr (D.cut cs (i+1)):=by
      unfold DS.cut at de7 ⊢;rw[sJ,<- List.append_assoc];exact de7
     exact(this.mono s7).nol nl7
 . intro σ H2 pvh;refine fX fun Nh th=>?_;obtain⟨o7,o8,ys,rfl,kk,hpr2,tu2,de2,t2,kn2⟩:=pvh;refine th ?_;clear th Nh;refine tl _ _ ?_;clear tl N;rw[nz]at tu2 de2;obtain⟨dx2,hd2⟩:=de2.at_;obtain⟨xs5,hf5,_⟩:=g5.de.fr_;have n3:∀q u,H3 q=some u->q≠pr:=fun q u e z=>by rw[z,hpr]at e;cases e
   have hcl2':=kk _ _ (fun z=>by rw[z,hf5]at hcl5;cases hcl5) (n3 _ _ hcl3) hcl5;have hpn2':=kk _ _ (fun z=>by rw[z,hf5]at hpn5;cases hpn5) (n3 _ _ hpn3) hpn5;have lk5:(D.cut cs ((cs.length+7) / 8)).ks.length=D.ks.length+(cs.length+7) / 8:=by
    show(D.ks++db cs _).length=_;rw[List.length_append,jG]
   have l3:=g.l3;have hrt:=g.hrt;have rt2:(D.cut cs ((cs.length+7) / 8)).view (D.cut cs ((cs.length+7) / 8)).root = .fol b m es:=(DS.view_app hrt).trans g.rt;have oN:=ia a (998+D.ks.length) cs ((cs.length+7) / 8) (Nat.le_refl _);rw[show min (8 * ((cs.length+7) / 8)) cs.length=cs.length by omega]at oN;refine⟨_,rfl,d,dx2,_,rfl,hd2,rfl,_,rfl,_,rfl,_,rfl,_,rfl,_,rfl,cl,_,rfl,.inl (bh.of hcl2'),_,_,rfl,rfl,_,rfl,d,lk,fr,D.cut cs ((cs.length+7) / 8),pn,n,b,m,es,x,5,sz,r,a,_,pr,false,D.new a cs,rfl,⟨de2,hpn2',rt2,t2.tb⟩,t2,kn2,⟨ys,hpr2,tu2⟩,or,h0,?_,?_,by have:=g.l7;omega,g.nd,by omega,?_,fun H8 ki8 t8 de8=>q H8 (fun q u n1 n2 n3' n4 e=>?_) t8 ?_⟩
   . rw[lm];omega
   . rw[lm];exact oN
   . show D.root < _;rw[lk5];omega
   . have e3:=sx q u n3' (s2 _ _ (s1 _ _ e));exact ki8 q u n1 n2 n3' n4 (kk q u n2 (n3 _ _ e3) (s5 _ _ (s4 _ _ e3)))
   . rw[lm]at de8;exact de8
end
section
variable {P:Program}{w:World}{K:W.Frag}{mg:Str->Option Value}{base:Heap}{f fNbt fWth fNsp fEff fEvi fEnf fPts fWo fShi fNws fEhf fEfi fEns fEha:Addr}{fd dNbt dWth dNsp dEff dEvi dEnf dPts dWo dShi dNws dEhf dEfi dEns dEha:FuncData}{c:Cl}{PS PP:Addr}
theorem G0.sg {H:Hp}{d lk fr pn:Addr}{D:DS}{b m:Int}{es:List Ent}{n:Str}(g:G0 c PS PP H d lk fr D b m es)(hp:H pn=some (.lst [.str n])):Sg c PS H d lk fr D pn [n]:=(g.s1 hp).sg (g.kn n)
theorem G0.at1 {H:Hp}{d lk fr:Addr}{D:DS}{b m:Int}{es:List Ent}{n:Str}{y:Ent}(g:G0 c PS PP H d lk fr D b m es)(hy:bO es n=some y):D.at_ [n] (some (wFo,D.root))=some (wFi,y.2.2):=by
 rw[DS.at_one g.rt,hy,<- g.kn n y hy];rfl
theorem zB.hf {H H1:Hp}{d lk fr pn:Addr}{D D':DS}{b m:Int}{es:List Ent}{n:Str}{Q:VK}(q:zB c PS PP H d lk fr D' Q)(g1:G0 c PS PP H1 d lk fr D b m es)(k:∀q u,q≠PS->q≠PP->H q=some u->H1 q=some u):∀H',Kh d fr PS H1 H'->bo H' PS dP lamS.qual->dF c H' d lk fr D'->Q .non H':=fun H' kh tb de=>q H' (fun q u n1 n2 n3 n4 e=>kh q u n1 n2 n3 (k q u n3 n4 e)) (g1.t2.kh g1.de kh tb) de
def u5 (c:Cl)(PS PP:Addr):Sp:=fun vs H Q Fc=>∃d lk fr D b m es n y b' s r z,vs=[.ref d,.str n,.int z]/\G0 c PS PP H d lk fr D b m es/\gI n=true/\bO es n=some y/\D.view y.2.2 = .fil b' s r/\r.length<=1000/\0<=z/\z<=40/\zB c PS PP H d lk fr (D.filed m es n z (aC r 0 z)) Q
theorem u6:aq ["self","path","size","names","knot"] Ei (ai wv):=⟨rfl,rfl,rfl,by decide +kernel,rfl,by decide +kernel,by decide +kernel⟩
theorem zD (F:bN K "trim" "Deed.trim" wv f fd)(cf:CF K mg c)(hNbt:bG K mg "names_below_top" oa DG fNbt dNbt)(GNbt:aj P w K mg base ay 5 fNbt dNbt DG spNof)
 (hWth:bG K mg "is_within" si DP fWth dWth) (GWth:aj P w K mg base ay 2 fWth dWth DP spWth0)
 (hEvi:aU K c.DE "view" "Deed.view" fC DD fEvi dEvi) (GEvi:aj P w K mg base ay 6 fEvi dEvi DD (dC c))
 (hEnf:aU K c.DE "need_file" "Deed.need_file" og DC fEnf dEnf) (GEnf:aj P w K mg base ay 12 fEnf dEnf DC (jD c PS))
 (hPts:bG K mg "parts" sj DH fPts dPts) (GPts:aj P w K mg base ay 1 fPts dPts DH spPts)
 (hEhf:aU K c.DE "hang_file" "Deed.hang_file" sq DT fEhf dEhf) (GEhf:aj P w K mg base ay 12 fEhf dEhf DT (oz c PS)) (T:Txt mg):aj P w K mg base ay 14 f fd Ei (u5 c PS PP):=by
 refine F.ok u6 (fun vs H Q E h=>?_) (fun cdv A outer s H vs Q E hr h=>?_)
 . obtain⟨d,lk,fr,D,b,m,es,n,y,b',s',r,z,rfl,_⟩:=h;rfl
 obtain⟨d,lk,fr,D,b,m,es,n,y,b',sz,r,z,rfl,g,hw,hy,hv,lr,z0,z40,q⟩:=h;obtain⟨t2,mc⟩:=T.mc;refine⟨_,(ad (aA (i:=3) u6.nd rfl (Or.inl rfl) (ar GNbt (hr.mono (by decide)) rfl hNbt.nm hNbt.fn.kp hNbt.bd .nil ao (pc (pv 1) ac)))
  (ad (aZ (c0 (dM (ar GWth (hr.mono (by decide)) rfl hWth.nm hWth.fn.kp hWth.bd .nil ao (pc (pv 2) (pc ae (pc (aX (v:=.int 40) rfl mc ⟨_,rfl⟩) ac))))))
  (af bH)
  aM)
  (ad (aA (i:=4) u6.nd rfl (Or.inl rfl) (aD (pv 0) cf.clE hEvi.me GEvi (hr.mono (by decide)) hEvi.bd .nil ao (pc (aD (pv 0) cf.clE hEnf.me GEnf (hr.mono (by decide)) hEnf.bd .nil ao (pc (pv 1) (pc (pv 3) ac))) ac)))
  (af (aS (aD (pv 0) cf.clE hEhf.me GEhf (hr.mono (by decide)) hEhf.bd .nil ao (pc (pv 3) (pc (pv 2) (pc (ar GPts (hr.mono (by decide)) rfl hPts.nm hPts.fn.kp hPts.bd .nil ao (pc (a7 (pv 4) rfl) (pc ae (pc (pv 2) ac)))) ac))))))))),?_⟩
 refine aK fun N tl=>?_;refine⟨_,rfl,n,rfl,hw,fun pn H1 s1 hpn=>?_⟩;refine tl _ _ ?_;clear tl N;have hz:At H1 (.int z) (.int z):=At.int _;have e1:rR (.int z) 0 40=true:=by show(decide (0<=z) && decide (z<=40))=true;rw[decide_eq_true z0,decide_eq_true z40];rfl
 refine⟨_,rfl,.int z,0,40,rfl,hz.ty0,_,rfl,?_⟩;rw[hz.wth,e1];have g1:=g.mono s1;obtain⟨dx,hd⟩:=g1.de.at_;refine br ?_;refine⟨_,rfl,d,dx,_,rfl,hd,rfl,_,rfl,d,dx,_,rfl,hd,rfl,_,rfl,_,rfl,d,lk,fr,D,pn,[n],_,y.2.2,rfl,g1.sg hpn,g1.at1 hy,fun H2 sx tb=>?_⟩;have g2:=g1.sx sx tb;have hpn2:=dh (aW g1.t2.tb) sx _ _ (by intro φ z;cases z) hpn;refine⟨d,lk,fr,D,y.2.2,rfl,g2.de,fun x H3 s3 kn=>?_⟩;rw[hv]at kn;obtain⟨p,dk,v,rfl,ek,hrv⟩:=kn;obtain⟨av,rfl,rv⟩:=mo hrv;have g3:=g2.mono s3;obtain⟨dx3,hd3⟩:=g3.de.at_;have kH:∀q u,q≠PS->q≠PP->H q=some u->H3 q=some u:=fun q u n1 Fc e=>s3 _ _ (sx q u n1 (s1 _ _ e));refine⟨_,rfl,d,dx3,_,rfl,hd3,rfl,_,rfl,_,rfl,_,rfl,p,c.KF,dk,_,_,rfl,ek,cf.clF,cf.rF,rfl,_,rfl,av,true,r,0,z,rfl,rv,lr,fun p4 H4 s4 hp4 r4=>?_⟩;have g4:=g3.mono s4;refine⟨d,lk,fr,D,pn,n,b,m,es,z,_,_,rfl,g4.s1 (s4 _ _ (s3 _ _ hpn2)),p8 r4,by have:=g.l7;omega,g.nd,by have:=g.l3;omega,g.hrt,q.hf g4 (n:=n) (pn:=pn) fun q u n1 n2 e=>s4 _ _ (kH q u n1 n2 e)⟩
def u7 (c:Cl)(PS PP:Addr):Sp:=fun vs H Q Fc=>∃d lk fr D b m es n y b' s r a l,vs=[.ref d,.str n,.int a,.int l]/\G0 c PS PP H d lk fr D b m es/\gI n=true/\bO es n=some y/\D.view y.2.2 = .fil b' s r/\r.length<=1000/\0<=a/\1<=l/\a+l<=s/\s<=40/\zB c PS PP H d lk fr (D.filed m es n s (aC r 0 a++aC r (a+l) 40)) Q
theorem u8:aq ["self","path","at","long","names","knot"] Ej (ai ww):=⟨rfl,rfl,rfl,by decide +kernel,rfl,by decide +kernel,by decide +kernel⟩
theorem zE (F:bN K "hollow" "Deed.hollow" ww f fd)(cf:CF K mg c)(hNbt:bG K mg "names_below_top" oa DG fNbt dNbt)(GNbt:aj P w K mg base ay 5 fNbt dNbt DG spNof)
 (hNsp:bG K mg "need_span" so DU fNsp dNsp) (GNsp:aj P w K mg base ay 4 fNsp dNsp DU spNsp)
 (hNws:bG K mg "need_within_size" uD DY fNws dNws) (GNws:aj P w K mg base ay 4 fNws dNws DY (qI c))
 (hEvi:aU K c.DE "view" "Deed.view" fC DD fEvi dEvi) (GEvi:aj P w K mg base ay 6 fEvi dEvi DD (dC c))
 (hEnf:aU K c.DE "need_file" "Deed.need_file" og DC fEnf dEnf) (GEnf:aj P w K mg base ay 12 fEnf dEnf DC (jD c PS))
 (hWo:bG K mg "without" Bn DH fWo dWo) (GWo:aj P w K mg base ay 2 fWo dWo DH spWo)
 (hEhf:aU K c.DE "hang_file" "Deed.hang_file" sq DT fEhf dEhf) (GEhf:aj P w K mg base ay 12 fEhf dEhf DT (oz c PS)):aj P w K mg base ay 14 f fd Ej (u7 c PS PP):=by
 refine F.ok u8 (fun vs H Q E h=>?_) (fun cdv A outer s H vs Q E hr h=>?_)
 . obtain⟨d,lk,fr,D,b,m,es,n,y,b',s',r,a,l,rfl,_⟩:=h;rfl
 obtain⟨d,lk,fr,D,b,m,es,n,y,b',sz,r,a,l,rfl,g,hw,hy,hv,lr,a0,l1,al,s40,q⟩:=h;refine⟨_,(ad (aA (i:=4) u8.nd rfl (Or.inl rfl) (ar GNbt (hr.mono (by decide)) rfl hNbt.nm hNbt.fn.kp hNbt.bd .nil ao (pc (pv 1) ac)))
  (ad (aS (ar GNsp (hr.mono (by decide)) rfl hNsp.nm hNsp.fn.kp hNsp.bd .nil ao (pc (pv 2) (pc (pv 3) ac))))
  (ad (aA (i:=5) u8.nd rfl (Or.inl rfl) (aD (pv 0) cf.clE hEvi.me GEvi (hr.mono (by decide)) hEvi.bd .nil ao (pc (aD (pv 0) cf.clE hEnf.me GEnf (hr.mono (by decide)) hEnf.bd .nil ao (pc (pv 1) (pc (pv 4) ac))) ac)))
  (ad (aS (ar GNws (hr.mono (by decide)) rfl hNws.nm hNws.fn.kp hNws.bd .nil ao (pc (pv 5) (pc (pv 2) (pc (pv 3) ac)))))
  (af (aS (aD (pv 0) cf.clE hEhf.me GEhf (hr.mono (by decide)) hEhf.bd .nil ao (pc (pv 4) (pc (a7 (pv 5) rfl) (pc (ar GWo (hr.mono (by decide)) rfl hWo.nm hWo.fn.kp hWo.bd .nil ao (pc (a7 (pv 5) rfl) (pc (pv 2) (pc (ax a6 (pv 2) (pv 3)) ac)))) ac)))))))))),?_⟩
 refine aK fun N tl=>?_;refine⟨_,rfl,n,rfl,hw,fun pn H1 s1 hpn=>?_⟩;refine tl _ _ ?_;clear tl N;refine aK fun N tl=>?_;refine⟨_,rfl,_,rfl,a,l,rfl,a0,l1,by omega,?_⟩;refine tl _ _ ?_;clear tl N;have g1:=g.mono s1;obtain⟨dx,hd⟩:=g1.de.at_;refine aK fun N tl=>?_;refine⟨_,rfl,d,dx,_,rfl,hd,rfl,_,rfl,d,dx,_,rfl,hd,rfl,_,rfl,_,rfl,d,lk,fr,D,pn,[n],_,y.2.2,rfl,g1.sg hpn,g1.at1 hy,fun H2 sx tb=>?_⟩;have g2:=g1.sx sx tb;have hpn2:=dh (aW g1.t2.tb) sx _ _ (by intro φ z;cases z) hpn;refine⟨d,lk,fr,D,y.2.2,rfl,g2.de,fun x H3 s3 kn=>?_⟩;refine tl _ _ ?_;clear tl N;rw[hv]at kn;have kn0:=kn;obtain⟨p,dk,v,rfl,ek,hrv⟩:=kn;obtain⟨av,rfl,rv⟩:=mo hrv;have g3:=g2.mono s3;obtain⟨dx3,hd3⟩:=g3.de.at_;have kH:∀q u,q≠PS->q≠PP->H q=some u->H3 q=some u:=fun q u n1 Fc e=>s3 _ _ (sx q u n1 (s1 _ _ e));refine aK fun N tl=>?_;refine⟨_,rfl,_,rfl,_,rfl,_,b',sz,r,a,l,rfl,kn0,al,?_⟩;refine tl _ _ ?_;clear tl N;refine⟨_,rfl,d,dx3,_,rfl,hd3,rfl,_,rfl,_,rfl,p,c.KF,dk,_,_,rfl,ek,cf.clF,cf.sF,rfl,_,rfl,p,c.KF,dk,_,_,rfl,ek,cf.clF,cf.rF,rfl,_,rfl,_,rfl,_,rfl,_,_,rfl,rfl,av,true,r,a,a+l,rfl,rv,lr,fun p4 H4 s4 hp4 r4=>?_⟩;have g4:=g3.mono s4;refine⟨d,lk,fr,D,pn,n,b,m,es,sz,_,_,rfl,g4.s1 (s4 _ _ (s3 _ _ hpn2)),p8 r4,by have:=g.l7;omega,g.nd,by have:=g.l3;omega,g.hrt,q.hf g4 (n:=n) (pn:=pn) fun q u n1 n2 e=>s4 _ _ (kH q u n1 n2 e)⟩
def u9 (c:Cl)(PS PP:Addr):Sp:=fun vs H Q Fc=>∃d lk fr D b m es n y b' s r a l n2 s2 r2 to,vs=[.ref d,.str n,.int a,.int l,.str n2,.int to]/\G0 c PS PP H d lk fr D b m es/\gI n=true/\gI n2=true/\bO es n=some y/\D.view y.2.2 = .fil b' s r/\r.length<=1000/\D.file es n2 = .fil 5 s2 r2/\bV 0 r2 40/\0<=a/\1<=l/\a+l<=s/\s<=40/\0<=to/\to+l<=40/\bV to (bK (aC r a (a+l)) (to - a)) (to+l)/\zB c PS PP H d lk fr (D.filed m es n2 (bz s2 (to+l)) (b8 (cF r2 to (to+l) (bK (aC r a (a+l)) (to - a))))) Q
theorem kZ:aq ["self","path","at","long","to","to_at","names","to_names","knot","to_knot","row"] Ek (ai wx):=⟨rfl,rfl,rfl,by decide +kernel,rfl,by decide +kernel,by decide +kernel⟩
theorem zF (F:bN K "share" "Deed.share" wx f fd)(cf:CF K mg c)(hNbt:bG K mg "names_below_top" oa DG fNbt dNbt)(GNbt:aj P w K mg base ay 5 fNbt dNbt DG spNof)
 (hNsp:bG K mg "need_span" so DU fNsp dNsp) (GNsp:aj P w K mg base ay 4 fNsp dNsp DU spNsp)
 (hNws:bG K mg "need_within_size" uD DY fNws dNws) (GNws:aj P w K mg base ay 4 fNws dNws DY (qI c))
 (hEvi:aU K c.DE "view" "Deed.view" fC DD fEvi dEvi) (GEvi:aj P w K mg base ay 6 fEvi dEvi DD (dC c))
 (hEnf:aU K c.DE "need_file" "Deed.need_file" og DC fEnf dEnf) (GEnf:aj P w K mg base ay 12 fEnf dEnf DC (jD c PS))
 (hEff:aU K c.DE "file_to_fill" "Deed.file_to_fill" uG DC fEff dEff) (GEff:aj P w K mg base ay 13 fEff dEff DC (qH c PS))
 (hShi:bG K mg "shifted" wb D8 fShi dShi) (GShi:aj P w K mg base ay 1 fShi dShi D8 spShi)
 (hPts:bG K mg "parts" sj DH fPts dPts) (GPts:aj P w K mg base ay 1 fPts dPts DH spPts)
 (hEfi:aU K c.DE "fill" "Deed.fill" uH DZ fEfi dEfi) (GEfi:aj P w K mg base ay 13 fEfi dEfi DZ (qL c PS PP)):aj P w K mg base ay 14 f fd Ek (u9 c PS PP):=by
 refine F.ok kZ (fun vs H Q E h=>?_) (fun cdv A outer s H vs Q E hr h=>?_)
 . obtain⟨d,lk,fr,D,b,m,es,n,y,b',s',r,a,l,n2,s2,r2,to,rfl,_⟩:=h;rfl
 obtain⟨d,lk,fr,D,b,m,es,n,y,b',sz,r,a,l,n2,sz2,r2,to,rfl,g,hw,hw2,hy,hv,lr,hf2,or2,a0,l1,al,s40,t0,tl,on,q⟩:=h;refine⟨_,(ad (aA (i:=6) kZ.nd rfl (Or.inl rfl) (ar GNbt (hr.mono (by decide)) rfl hNbt.nm hNbt.fn.kp hNbt.bd .nil ao (pc (pv 1) ac)))
  (ad (aA (i:=7) kZ.nd rfl (Or.inl rfl) (ar GNbt (hr.mono (by decide)) rfl hNbt.nm hNbt.fn.kp hNbt.bd .nil ao (pc (pv 4) ac)))
  (ad (aS (ar GNsp (hr.mono (by decide)) rfl hNsp.nm hNsp.fn.kp hNsp.bd .nil ao (pc (pv 2) (pc (pv 3) ac))))
  (ad (aS (ar GNsp (hr.mono (by decide)) rfl hNsp.nm hNsp.fn.kp hNsp.bd .nil ao (pc (pv 5) (pc (pv 3) ac))))
  (ad (aA (i:=8) kZ.nd rfl (Or.inl rfl) (aD (pv 0) cf.clE hEvi.me GEvi (hr.mono (by decide)) hEvi.bd .nil ao (pc (aD (pv 0) cf.clE hEnf.me GEnf (hr.mono (by decide)) hEnf.bd .nil ao (pc (pv 1) (pc (pv 6) ac))) ac)))
  (ad (aS (ar GNws (hr.mono (by decide)) rfl hNws.nm hNws.fn.kp hNws.bd .nil ao (pc (pv 8) (pc (pv 2) (pc (pv 3) ac)))))
  (ad (aA (i:=9) kZ.nd rfl (Or.inl rfl) (aD (pv 0) cf.clE hEff.me GEff (hr.mono (by decide)) hEff.bd .nil ao (pc (pv 4) (pc (pv 7) ac))))
  (ad (aA (i:=10) kZ.nd rfl (Or.inl rfl) (ar GShi (hr.mono (by decide)) rfl hShi.nm hShi.fn.kp hShi.bd .nil ao (pc (ar GPts (hr.mono (by decide)) rfl hPts.nm hPts.fn.kp hPts.bd .nil ao (pc (a7 (pv 8) rfl) (pc (pv 2) (pc (ax a6 (pv 2) (pv 3)) ac)))) (pc (ax c5 (pv 5) (pv 2)) ac))))
  (af (aS (aD (pv 0) cf.clE hEfi.me GEfi (hr.mono (by decide)) hEfi.bd .nil ao (pc (pv 7) (pc (pv 9) (pc (pv 5) (pc (ax a6 (pv 5) (pv 3)) (pc (pv 10) ac)))))))))))))))),?_⟩
 refine aK fun N tl=>?_;refine⟨_,rfl,n,rfl,hw,fun pn H1 s1 hpn=>?_⟩;refine tl _ _ ?_;clear tl N;refine aK fun N tl=>?_;refine⟨_,rfl,n2,rfl,hw2,fun pm H1' s1' hpm=>?_⟩;refine tl _ _ ?_;clear tl N;refine aK fun N tl=>?_;refine⟨_,rfl,_,rfl,a,l,rfl,a0,l1,by omega,?_⟩;refine tl _ _ ?_;clear tl N;refine aK fun N tl=>?_;refine⟨_,rfl,_,rfl,to,l,rfl,t0,l1,by omega,?_⟩;refine tl _ _ ?_;clear tl N;have g1:=g.mono (s1.trans s1');have hpn1:=s1' _ _ hpn;obtain⟨dx,hd⟩:=g1.de.at_;refine aK fun N tl=>?_;refine⟨_,rfl,d,dx,_,rfl,hd,rfl,_,rfl,d,dx,_,rfl,hd,rfl,_,rfl,_,rfl,d,lk,fr,D,pn,[n],_,y.2.2,rfl,g1.sg hpn1,g1.at1 hy,fun H2 sx tb=>?_⟩;have g2:=g1.sx sx tb;have up:=dh (aW g1.t2.tb) sx;have hpm2:=up _ _ (by intro φ z;cases z) hpm;refine⟨d,lk,fr,D,y.2.2,rfl,g2.de,fun x H3 s3 kn=>?_⟩;refine tl _ _ ?_;clear tl N;rw[hv]at kn;have kn0:=kn;obtain⟨p,dk,v,rfl,ek,hrv⟩:=kn;have g3:=g2.mono s3;obtain⟨dx3,hd3⟩:=g3.de.at_;refine aK fun N tl=>?_;refine⟨_,rfl,_,rfl,_,rfl,_,b',sz,r,a,l,rfl,kn0,al,?_⟩;refine tl _ _ ?_;clear tl N;refine⟨_,rfl,d,dx3,_,rfl,hd3,rfl,_,rfl,_,rfl,d,lk,fr,D,pm,n2,_,b,m,es,rfl,g3.s1 (s3 _ _ hpm2),g3.kn n2,fun Fc=>by have:=g.l7;omega,fun x2 H4 sx4 tb4 kn2=>?_⟩;rw[hf2]at kn2;have g4:=g3.sx sx4 tb4;have up4:=dh (aW g3.t2.tb) sx4;have ek4:=up4 _ _ (by intro φ z;cases z) ek;have hpm4:=up4 _ _ (by intro φ z;cases z) (s3 _ _ hpm2);have hrv4:=At.keepT (fun q u e=>up4 _ _ (by intro φ z;cases z) e) (by unfold nl;exact jB r) hrv;obtain⟨av,rfl,rv⟩:=mo hrv4;refine⟨_,rfl,p,c.KF,dk,_,_,rfl,ek4,cf.clF,cf.rF,rfl,_,rfl,_,rfl,_,rfl,_,_,rfl,rfl,av,true,r,a,a+l,rfl,rv,lr,fun p5 H5 s5 hp5 r5=>?_⟩;refine⟨_,rfl,_,rfl,_,_,rfl,rfl,p5,false,_,to - a,rfl,r5,Nat.le_trans (cM a (a+l) r) lr,fun p6 H6 s6 hp6 r6=>?_⟩;have g6:=(g4.mono s5).mono s6;obtain⟨dx6,hd6⟩:=g6.de.at_;refine⟨_,rfl,d,dx6,_,rfl,hd6,rfl,_,rfl,_,rfl,_,rfl,_,rfl,_,rfl,_,_,rfl,rfl,_,rfl,d,lk,fr,D,pm,n2,b,m,es,x2,5,sz2,r2,to,to+l,p6,false,_,rfl,g6.s1 (s6 _ _ (s5 _ _ hpm4)),g6.t2,(kn2.mono s5).mono s6,r6,or2,t0,tl,on,by have:=g.l7;omega,g.nd,by have:=g.l3;omega,g.hrt,fun H8 ki8 t8 de8=>q H8 (fun q u n1 n2 n3 n4 e=>ki8 q u n1 n2 n3 n4 (s6 _ _ (s5 _ _ (sx4 q u n3 (s3 _ _ (sx q u n3 (s1' _ _ (s1 _ _ e)))))))) t8 de8⟩
def vb (c:Cl)(PS PP:Addr):Sp:=fun vs H Q Fc=>∃d lk fr D b m es n y n2,vs=[.ref d,.str n,.str n2]/\G0 c PS PP H d lk fr D b m es/\gI n=true/\gI n2=true/\bO es n=some y/\bO es n2=none/\zB c PS PP H d lk fr (D.hung m es (n2,wFi,y.2.2)) Q
theorem qO:aq ["self","path","to","names","to_names","place"] El (ai wy):=⟨rfl,rfl,rfl,by decide +kernel,rfl,by decide +kernel,by decide +kernel⟩
theorem zG (F:bN K "twin" "Deed.twin" wy f fd)(cf:CF K mg c)(hNbt:bG K mg "names_below_top" oa DG fNbt dNbt)(GNbt:aj P w K mg base ay 5 fNbt dNbt DG spNof)
 (hEnf:aU K c.DE "need_file" "Deed.need_file" og DC fEnf dEnf) (GEnf:aj P w K mg base ay 12 fEnf dEnf DC (jD c PS))
 (hEns:aU K c.DE "need_spot" "Deed.need_spot" uF D3 fEns dEns) (GEns:aj P w K mg base ay 12 fEns dEns D3 (qG c PS))
 (hEha:aU K c.DE "hang" "Deed.hang" uI D4 fEha dEha) (GEha:aj P w K mg base ay 11 fEha dEha D4 (ow c PS)):aj P w K mg base ay 14 f fd El (vb c PS PP):=by
 refine F.ok qO (fun vs H Q E h=>?_) (fun cdv A outer s H vs Q E hr h=>?_)
 . obtain⟨d,lk,fr,D,b,m,es,n,y,n2,rfl,_⟩:=h;rfl
 obtain⟨d,lk,fr,D,b,m,es,n,y,n2,rfl,g,hw,hw2,hy,hn,q⟩:=h;refine⟨_,(ad (aA (i:=3) qO.nd rfl (Or.inl rfl) (ar GNbt (hr.mono (by decide)) rfl hNbt.nm hNbt.fn.kp hNbt.bd .nil ao (pc (pv 1) ac)))
  (ad (aA (i:=4) qO.nd rfl (Or.inl rfl) (ar GNbt (hr.mono (by decide)) rfl hNbt.nm hNbt.fn.kp hNbt.bd .nil ao (pc (pv 2) ac)))
  (ad (aA (i:=5) qO.nd rfl (Or.inl rfl) (aD (pv 0) cf.clE hEnf.me GEnf (hr.mono (by decide)) hEnf.bd .nil ao (pc (pv 1) (pc (pv 3) ac))))
  (ad (aS (aD (pv 0) cf.clE hEns.me GEns (hr.mono (by decide)) hEns.bd .nil ao (pc (pv 2) (pc (pv 4) (pc ae ac)))))
  (af (aS (aD (pv 0) cf.clE hEha.me GEha (hr.mono (by decide)) hEha.bd .nil ao (pc (pv 4) (pc a5 (pc (pv 5) ac)))))))))),?_⟩
 refine aK fun N tl=>?_;refine⟨_,rfl,n,rfl,hw,fun pn H1 s1 hpn=>?_⟩;refine tl _ _ ?_;clear tl N;refine aK fun N tl=>?_;refine⟨_,rfl,n2,rfl,hw2,fun pm H1' s1' hpm=>?_⟩;refine tl _ _ ?_;clear tl N;have g1:=g.mono (s1.trans s1');have hpn1:=s1' _ _ hpn;obtain⟨dx,hd⟩:=g1.de.at_;refine⟨_,rfl,d,dx,_,rfl,hd,rfl,_,rfl,_,rfl,d,lk,fr,D,pn,[n],_,y.2.2,rfl,g1.sg hpn1,g1.at1 hy,fun H2 sx tb=>?_⟩;have g2:=g1.sx sx tb;have up:=dh (aW g1.t2.tb) sx;have hpm2:=up _ _ (by intro φ z;cases z) hpm;obtain⟨dx2,hd2⟩:=g2.de.at_;refine⟨_,rfl,d,dx2,_,rfl,hd2,rfl,_,rfl,_,rfl,d,lk,fr,D,pm,n2,_,b,m,es,rfl,g2.s1 hpm2,hn,by have:=g.l7;omega,fun H3 sx3 xB=>?_⟩;have g3:=g2.sx sx3 xB;have hpm3:=dh (aW g2.t2.tb) sx3 _ _ (by intro φ z;cases z) hpm2;obtain⟨dx3,hd3⟩:=g3.de.at_;refine⟨_,rfl,d,dx3,_,rfl,hd3,rfl,_,rfl,_,rfl,d,lk,fr,D,pm,b,m,es,(n2,wFi,y.2.2),rfl,g3.s1 hpm3,by have:=g.l7;omega,g.nd,by have:=g.l3;omega,q.hf g3 (n:=n) (pn:=pn) fun q u n1 n2 e=>sx3 q u n1 (sx q u n1 (s1' _ _ (s1 _ _ e)))⟩
end
end K41
namespace L2
open PySem PySem.W
theorem k4 {α:Type}{n:Nat}{P:α->Prop}{lt lt':Nat->Nat->Bool}(h:∀i j,i < n->j < n->lt i j=lt' i j):∀(t:KasT α),gJ n P t->rW lt t=rW lt' t
 | .ret a,_=>rfl
 | .ask i j k,ok=>by
  show rW lt (k (lt i j))=rW lt' (k (lt' i j));rw[h i j ok.1 ok.2.1];exact k4 h _ (ok.2.2.2 _)
def xB (a b d:Bool)(i j:Nat):Bool:=if i=0 then(if j=1 then a else if j=2 then b else false)else if i=1 then(if j=0 then !a else if j=2 then d else false)else(if j=0 then !b else if j=1 then !d else false)
def zH (f:Nat->Nat->Bool)(l:List Nat):Bool:=match l with
 | [x,y]=>f x y
 | [x,y,z]=>f x y && f y z
 | _=>false
theorem wR:∀a b d:Bool,zH (xB a b d) (rW (xB a b d) (kas_sort 2)).toList=true:=by decide +kernel
theorem sK:∀a b d:Bool,(!(a && d) || b)=true->(a || d || !b)=true->zH (xB a b d) (rW (xB a b d) (kas_sort 3)).toList=true:=by decide +kernel
theorem sL {ss:List Str}(nd:ss.Nodup)(h3:ss.length<=3):jR ((eW ss).map fun i=>ss.getD i Str.empty):=by
 have asy:∀i j,eN ss i j=true->eN ss j i=false:=fun i j h=>by
  unfold eN at h ⊢;exact decide_eq_false (List.lt_asymm (of_decide_eq_true h))
 have irr:∀i,eN ss i i=false:=fun i=>by
  cases h:eN ss i i with
  | false=>rfl
  | true=>rw[asy i i h]at h;cases h
 have tot:∀i j,i < ss.length->j < ss.length->i≠j->eN ss j i = !eN ss i j:=fun i j hi hj hne=>by
  cases h:eN ss i j with
  | true=>exact asy i j h
  | false =>
   unfold eN at h ⊢;have hle:=List.not_lt.mp (of_decide_eq_false h);refine decide_eq_true (Decidable.byContradiction fun hn=>?_);have e:=List.le_antisymm hle (List.not_lt.mp hn);rw[List.getD_eq_getElem?_getD,List.getD_eq_getElem?_getD,List.getElem?_eq_getElem hi,List.getElem?_eq_getElem hj]at e;have e2:ss[j]=ss[i]:=n0 e;exact hne ((List.getElem_inj nd).mp e2.symm)
 have tr:∀i j k,eN ss i j=true->eN ss j k=true->eN ss i k=true:=fun i j k h1 h2=>by
  unfold eN at h1 h2 ⊢;exact decide_eq_true (List.lt_trans (of_decide_eq_true h1) (of_decide_eq_true h2))
 have le:∀i j,eN ss i j=true->(ss.getD i Str.empty).cps.toList<=(ss.getD j Str.empty).cps.toList:=fun i j h=>by
  unfold eN at h;exact List.le_of_lt (of_decide_eq_true h)
 have fin:∀l:List Nat,zH (eN ss) l=true->jR (l.map fun i=>ss.getD i Str.empty):=fun l h=>by
  unfold zH at h;split at h
  . exact List.pairwise_cons.mpr ⟨fun y hy=>by rw[List.mem_singleton.mp hy];exact le _ _ h,List.pairwise_singleton ..⟩
  . rw[Bool.and_eq_true]at h;refine List.pairwise_cons.mpr ⟨fun y hy=>?_,List.pairwise_cons.mpr ⟨fun y hy=>by rw[List.mem_singleton.mp hy];exact le _ _ h.2,List.pairwise_singleton ..⟩⟩;rcases List.mem_cons.mp hy with rfl|hy
    . exact le _ _ h.1
    . rw[List.mem_singleton.mp hy];exact le _ _ (tr _ _ _ h.1 h.2)
  . cases h
 by_cases h2:ss.length < 2
 . unfold jR eW;rw[if_pos h2,List.pairwise_iff_getElem];intro i j hi hj hij;simp at hi hj;omega
 . have ht:∀i j,i < ss.length->j < ss.length->eN ss i j=xB (eN ss 0 1) (eN ss 0 2) (eN ss 1 2) i j:=fun i j hi hj=>by
    have ci:i=0\/i=1\/i=2:=by omega
    have cj:j=0\/j=1\/j=2:=by omega
    rcases ci with rfl|rfl|rfl <;> rcases cj with rfl|rfl|rfl <;> first|exact irr _|rfl|exact tot _ _ hj hi (by decide)
   have cg:∀l:List Nat,(∀x∈l,x < ss.length)->zH (xB (eN ss 0 1) (eN ss 0 2) (eN ss 1 2)) l=true->zH (eN ss) l=true:=fun l hl h=>by
    unfold zH at h ⊢;split at h
    . rw[ht _ _ (hl _ (by simp)) (hl _ (by simp))];exact h
    . rename_i x y z
      rw[Bool.and_eq_true]at h ⊢;exact⟨(ht x y (hl _ (by simp)) (hl _ (by simp))).trans h.1,(ht y z (hl _ (by simp)) (hl _ (by simp))).trans h.2⟩
    . cases h
   unfold eW;rw[if_neg h2];have pm:=gJ.ev (eN ss) _ (iV (n:=ss.length) (by omega));refine fin _ (cg _ (fun x hx=>List.mem_range.mp (pm.mem_iff.mp hx)) ?_);rw[k4 ht _ (iV (n:=ss.length) (by omega))];rcases(show ss.length=2\/ss.length=3 by omega)with e|e
   . rw[e];exact wR _ _ _
   . rw[e];refine sK _ _ _ ?_ ?_
     . cases h1:eN ss 0 1 with
       | false=>rfl
       | true =>
        cases h4:eN ss 1 2 with
        | false=>rfl
        | true=>rw[tr 0 1 2 h1 h4];rfl
     . cases h1:eN ss 0 1 with
       | true=>rfl
       | false =>
        cases h4:eN ss 1 2 with
        | true=>rfl
        | false =>
         have a1:eN ss 1 0=true:=by rw[tot 0 1 (by omega) (by omega) (by decide),h1];rfl
         have a2:eN ss 2 1=true:=by rw[tot 1 2 (by omega) (by omega) (by decide),h4];rfl
         rw[asy 2 0 (tr 2 1 0 a2 a1)];rfl
end L2
namespace K41
open PySem L2
def DS.pc (D:DS)(p:Int):List Int:=match D.view p with
 | .cel _ cs=>cs
 | _=>[]
def DS.N (D:DS):Nat:=998+D.ks.length
abbrev Fm:=Str->Option (List Int)
def Fm.set (F:Fm)(n:Str)(l:List Int):Fm:=fun k=>if k=n then some l else F k
structure fb (D:DS)(p:Int)(s:Nat)(r:List S4)(os:List Src):Prop where
 vw:D.view p = .fil 5 (s:Int) r
 lt:p < 1000+(D.ks.length:Int)
 fi:FI D.pc D.N (s,r,os)
def DS.vals (D:DS)(os:List Src):List Int:=os.map (gl D.pc)
theorem mq {D:DS}{l:List Kn}{q p:Int}(h:p < 1000+(D.ks.length:Int)):(⟨q,D.ks++l⟩:DS).pc p=D.pc p:=by
 unfold DS.pc;rw[DS.view_app h]
theorem xC (D:DS)(l:List Kn)(q:Int):(⟨q,D.ks++l⟩:DS).N=D.N+l.length:=by
 unfold DS.N;rw[List.length_append];omega
theorem FI.app {D:DS}{l:List Kn}{q:Int}{x:Fl}(h:FI D.pc D.N x):FI (⟨q,D.ks++l⟩:DS).pc (⟨q,D.ks++l⟩:DS).N x :=
 h.mono (by rw[xC];omega) fun p Fc h2=>mq (by unfold DS.N at h2;omega)
theorem fb.app {D:DS}{l:List Kn}{q p:Int}{s:Nat}{r:List S4}{os:List Src}(h:fb D p s r os):fb ⟨q,D.ks++l⟩ p s r os :=
 ⟨(DS.view_app h.lt).trans h.vw,by have:=h.lt;show p < 1000+((D.ks++l).length:Int);rw[List.length_append];omega,FI.app h.fi⟩
theorem gR {D:DS}{l:List Kn}{q:Int}{x:Fl}(h:FI D.pc D.N x):(⟨q,D.ks++l⟩:DS).vals x.2.2=D.vals x.2.2:=by
 unfold DS.vals;refine List.map_congr_left fun o ho=>?_
 match o,ho with
 | none,_=>rfl
 | some (p,s),ho =>
  have:=h.gs p s ho;show(DS.pc _ p).getD s.toNat 0=(D.pc p).getD s.toNat 0;rw[mq (by unfold DS.N at this;omega)]
theorem jH (l:List Ent):(fG l).Perm l:=by
 unfold fG;have h:=(fP (l.map (·.1))).map fun i=>l.getD i e0;rw[List.length_map]at h;refine h.trans (List.Perm.of_eq ?_);refine List.ext_getElem (by simp) fun i h1 h2=>?_;rw[List.getElem_map,List.getElem_range,List.getD_eq_getElem?_getD,List.getElem?_eq_getElem h2];rfl
theorem wS {l:List Ent}(nd:(l.map (·.1)).Nodup)(h3:l.length<=3):jR ((fG l).map (·.1)):=by
 have h:=sL nd (by rw[List.length_map];exact h3);have e:(fG l).map (·.1)=(eW (l.map (·.1))).map fun i=>(l.map (·.1)).getD i Str.empty:=by
  unfold fG;rw[List.map_map];refine List.map_congr_left fun i Fc=>?_;show(l.getD i e0).1=_;rw[List.getD_eq_getElem?_getD,List.getD_eq_getElem?_getD,List.getElem?_map];cases l[i]? <;> rfl
 rw[e];exact h
theorem mem_add {es:List Ent}{y z:Ent}:z∈fG (dE es y)↔(z∈es/\z.1≠y.1)\/z=y:=by
 rw[(jH _).mem_iff];unfold dE jT;rw[List.mem_append,List.mem_filter,List.mem_singleton,decide_eq_true_iff]
structure Md (D:DS)(b m:Int)(es:List Ent)(ws:List Str)(F:Fm):Prop where
 w3:ws.length<=3
 rt:D.view D.root = .fol b m es
 hrt:D.root < 1000+(D.ks.length:Int)
 nd:(es.map (·.1)).Nodup
 asc:jR (es.map (·.1))
 sub:∀y∈es,y.1∈ws
 kd:∀y∈es,y.2.1=wFi
 fl:∀y∈es,∃s r os,fb D y.2.2 s r os/\F y.1=some (D.vals os)
 no:∀n,n ∉ es.map (·.1)->F n=none
theorem Md.len {D:DS}{b m:Int}{es:List Ent}{ws:List Str}{F:Fm}(h:Md D b m es ws F)(hw:ws.length<=3):es.length<=3:=by
 have:(es.map (·.1)).length<=ws.length:=List.Nodup.length_le_of_subset h.nd fun x hx=>by
  obtain⟨y,hy,rfl⟩:=List.mem_map.mp hx;exact h.sub y hy
 rw[List.length_map]at this;omega
theorem oC {es:List Ent}{n:Str}(h:bO es n=none):n ∉ es.map (·.1):=fun hm=>by
 obtain⟨y,hy,rfl⟩:=List.mem_map.mp hm;exact absurd (decide_eq_true rfl) (List.find?_eq_none.mp h y hy)
theorem Md.file {D:DS}{b m:Int}{es:List Ent}{ws:List Str}{F:Fm}(h:Md D b m es ws F){n:Str}{l:List Int}(hn:F n=some l):∃y s r os,bO es n=some y/\y∈es/\y.1=n/\fb D y.2.2 s r os/\l=D.vals os:=by
 cases e:bO es n with
 | none=>rw[h.no n (oC e)]at hn;cases hn
 | some y =>
  obtain⟨hy,rfl⟩:=i5 e;obtain⟨s,r,os,f,e2⟩:=h.fl y hy;rw[hn]at e2;cases e2;exact⟨y,s,r,os,rfl,hy,rfl,f,rfl⟩
theorem Md.noFile {D:DS}{b m:Int}{es:List Ent}{ws:List Str}{F:Fm}(h:Md D b m es ws F){n:Str}(hn:F n=none):bO es n=none:=by
 cases e:bO es n with
 | none=>rfl
 | some y =>
  obtain⟨hy,rfl⟩:=i5 e;obtain⟨s,r,os,f,e2⟩:=h.fl y hy;rw[hn]at e2;cases e2
theorem Md.slot {D:DS}{b m:Int}{es:List Ent}{ws:List Str}{F:Fm}(h:Md D b m es ws F)(n:Str):∃(s:Nat) (r:List S4) (os:List Src),D.file es n = .fil 5 (s:Int) r/\FI D.pc D.N (s,r,os)/\(F n).getD []=D.vals os/\(∀p t,some (p,t)∈os->∃y∈es,y.1=n/\fb D y.2.2 s r os):=by
 unfold DS.file;cases e:bO es n with
 | none =>
  refine⟨0,[],[],rfl,⟨rfl,by decide,?_,rfl,fun p s z=>(by cases z),fun k p s=>⟨fun z=>(by cases z),fun z=>?_⟩⟩,?_,fun p t z=>(by cases z)⟩
  . show(0:Int)<=((0:Nat):Int);exact Int.le_refl _
  . have:=dr z;cases this
  . rw[h.no n (oC e)];rfl
 | some y =>
  obtain⟨hy,rfl⟩:=i5 e;obtain⟨s,r,os,f,e2⟩:=h.fl y hy;exact⟨s,r,os,f.vw,f.fi,by rw[e2];rfl,fun Fc Fc Fc=>⟨y,hy,rfl,f⟩⟩
theorem Md.hung {D:DS}{b m:Int}{es:List Ent}{ws:List Str}{F:Fm}(h:Md D b m es ws F){l:List Kn}{n:Str}{p:Int}{s:Nat}{r:List S4}{os:List Src}(hn:n∈ws)(f:fb ⟨D.root,D.ks++l⟩ p s r os) :
 Md (DS.hung ⟨D.root,D.ks++l⟩ m es (n,wFi,p)) 5 m (fG (dE es (n,wFi,p))) ws (F.set n ((⟨D.root,D.ks++l⟩:DS).vals os)):=by
 have ndA:=kT (y:=(n,wFi,p)) h.nd;have vr:(DS.hung ⟨D.root,D.ks++l⟩ m es (n,wFi,p)).view (1000+((D.ks++l).length:Int)) = .fol 5 m (fG (dE es (n,wFi,p))):=by
  show DS.view ⟨_,D.ks++l++[_]⟩ _=_;unfold DS.view;rw[if_pos (by omega)];dsimp only;rw[show(1000+((D.ks++l).length:Int) - 1000).toNat=(D.ks++l).length by omega,List.getElem?_append_right (Nat.le_refl _),Nat.sub_self];rfl
 have fD:∀{q:Int} {s:Nat} {r:List S4} {os:List Src},fb ⟨D.root,D.ks++l⟩ q s r os->fb (DS.hung ⟨D.root,D.ks++l⟩ m es (n,wFi,p)) q s r os/\(DS.hung ⟨D.root,D.ks++l⟩ m es (n,wFi,p)).vals os=(⟨D.root,D.ks++l⟩:DS).vals os:=fun f=>⟨f.app,gR (x:=(_,_,_)) f.fi⟩;have l3:(dE es (n,wFi,p)).length<=3:=by
  have h1:((dE es (n,wFi,p)).map (·.1)).length<=ws.length:=List.Nodup.length_le_of_subset ndA fun x hx=>by
   obtain⟨y,hy,rfl⟩:=List.mem_map.mp hx;rcases mem_add.mp ((jH _).mem_iff.mpr hy)with⟨hy,_⟩|rfl
   . exact h.sub y hy
   . exact hn
  rw[List.length_map]at h1;exact Nat.le_trans h1 h.w3
 refine⟨h.w3,vr,?_,((jH _).map _).nodup_iff.mpr ndA,wS ndA l3,fun y hy=>?_,fun y hy=>?_,fun y hy=>?_,fun k hk=>?_⟩
 . show 1000+((D.ks++l).length:Int) < 1000+(((D.ks++l)++[_]).length:Int);rw[List.length_append (as:=D.ks++l)];simp only[List.length_cons,List.length_nil];omega
 . rcases mem_add.mp hy with⟨hy,_⟩|rfl
   . exact h.sub y hy
   . exact hn
 . rcases mem_add.mp hy with⟨hy,_⟩|rfl
   . exact h.kd y hy
   . rfl
 . rcases mem_add.mp hy with⟨hy,ne⟩|rfl
   . obtain⟨s,r,os,f,e⟩:=h.fl y hy;obtain⟨f2,e2⟩:=fD (f.app (l:=l) (q:=D.root));refine⟨s,r,os,f2,?_⟩;unfold Fm.set;rw[if_neg ne,e,e2,gR (x:=(_,_,_)) f.fi]
   . obtain⟨f2,e2⟩:=fD f;refine⟨s,r,os,f2,?_⟩;unfold Fm.set;rw[if_pos rfl,e2]
 . have hk2:∀z:Ent,z∈fG (dE es (n,wFi,p))->z.1≠k:=fun z hz e=>hk (List.mem_map.mpr ⟨z,hz,e⟩);unfold Fm.set;rw[if_neg (fun e=>hk2 (n,wFi,p) (mem_add.mpr (.inr rfl)) e.symm)];refine h.no k fun hm=>?_;obtain⟨y,hy,rfl⟩:=List.mem_map.mp hm;by_cases e:y.1=n
   . exact hk2 (n,wFi,p) (mem_add.mpr (.inr rfl)) e.symm
   . exact hk2 y (mem_add.mpr (.inl ⟨hy,e⟩)) rfl
theorem mr {D:DS}{l:List Kn}{s:Nat}{r:List S4}{os:List Src}(f:FI (⟨D.root,D.ks++l⟩:DS).pc (⟨D.root,D.ks++l⟩:DS).N (s,r,os)):fb ⟨D.root,D.ks++(l++[.fil 5 (s:Int) r])⟩ (1000+((D.ks++l).length:Int)) s r os:=by
 rw[<- List.append_assoc];refine⟨?_,?_,FI.app (D:=⟨D.root,D.ks++l⟩) f⟩
 . unfold DS.view;rw[if_pos (by omega)];dsimp only;rw[show(1000+((D.ks++l).length:Int) - 1000).toNat=(D.ks++l).length by omega,List.getElem?_append_right (Nat.le_refl _),Nat.sub_self];rfl
 . show 1000+((D.ks++l).length:Int) < 1000+(((D.ks++l)++[_]).length:Int);rw[List.length_append (as:=D.ks++l)];simp only[List.length_cons,List.length_nil];omega
theorem Md.filed {D:DS}{b m:Int}{es:List Ent}{ws:List Str}{F:Fm}(h:Md D b m es ws F){l:List Kn}{n:Str}{s:Nat}{r:List S4}{os:List Src}(hn:n∈ws)(f:FI (⟨D.root,D.ks++l⟩:DS).pc (⟨D.root,D.ks++l⟩:DS).N (s,r,os)) :
 Md (DS.filed ⟨D.root,D.ks++l⟩ m es n (s:Int) r) 5 m (fG (dE es (n,wFi,1000+((D.ks++l).length:Int)))) ws (F.set n ((⟨D.root,D.ks++l⟩:DS).vals os)):=by
 have ev:(⟨D.root,D.ks++l++[.fil 5 (s:Int) r]⟩:DS).vals os=(⟨D.root,D.ks++l⟩:DS).vals os:=gR (D:=⟨D.root,D.ks++l⟩) (x:=(_,_,_)) f;have q:=h.hung (l:=l++[.fil 5 (s:Int) r]) hn (mr f);rw[<- List.append_assoc,ev]at q;exact q
def vc (k:Kn):List Int:=match k with
 | .fil _ _ r=>r.map (·.2.2.1)
 | _=>[]
def DS.pl (D:DS)(es:List Ent):List Int:=es.flatMap fun y=>vc (D.view y.2.2)
theorem fb.pl {D:DS}{q p:Int}{s:Nat}{r:List S4}{os:List Src}(f:fb D q s r os):p∈vc (D.view q)↔∃t,some (p,t)∈os:=by
 rw[f.vw];exact f.fi.places p
theorem iF {D:DS}{es:List Ent}{y:Ent}{p t:Int}{s:Nat}{r:List S4}{os:List Src}(f:fb D y.2.2 s r os)(hy:y∈es)(h:some (p,t)∈os):p∈D.pl es:=List.mem_flatMap.mpr ⟨y,hy,f.pl.mpr ⟨t,h⟩⟩
theorem Md.pl_lt {D:DS}{b m:Int}{es:List Ent}{ws:List Str}{F:Fm}(h:Md D b m es ws F){p:Int}(hp:p∈D.pl es):p < 1000+(D.ks.length:Int):=by
 obtain⟨y,hy,hp⟩:=List.mem_flatMap.mp hp;obtain⟨s,r,os,f,_⟩:=h.fl y hy;obtain⟨t,ht⟩:=f.pl.mp hp;have:=f.fi.gs p t ht;unfold DS.N at this;omega
theorem Md.pl_hung {D:DS}{b m:Int}{es:List Ent}{ws:List Str}{F:Fm}(h:Md D b m es ws F){l:List Kn}{n:Str}{q p:Int}{s:Nat}{r:List S4}{os:List Src}(f:fb ⟨D.root,D.ks++l⟩ q s r os) :
 (p∈(DS.hung ⟨D.root,D.ks++l⟩ m es (n,wFi,q)).pl (fG (dE es (n,wFi,q)))->p∈D.pl es\/∃t,some (p,t)∈os)/\((∃t,some (p,t)∈os)->p∈(DS.hung ⟨D.root,D.ks++l⟩ m es (n,wFi,q)).pl (fG (dE es (n,wFi,q)))):=by
 have fD:∀{q:Int} {s:Nat} {r:List S4} {os:List Src} {y:Ent},fb ⟨D.root,D.ks++l⟩ q s r os->fb (DS.hung ⟨D.root,D.ks++l⟩ m es y) q s r os:=fun f=>f.app;constructor
 . intro hp;obtain⟨y,hy,hp⟩:=List.mem_flatMap.mp hp;rcases mem_add.mp hy with⟨hy,ne⟩|rfl
   . obtain⟨s,r,os,f,e⟩:=h.fl y hy;obtain⟨t,ht⟩:=(fD (f.app (l:=l) (q:=D.root))).pl.mp hp;exact .inl (iF f hy ht)
   . exact .inr ((fD f).pl.mp hp)
 . intro hp;exact List.mem_flatMap.mpr ⟨(n,wFi,q),mem_add.mpr (.inr rfl),(fD f).pl.mpr hp⟩
inductive Ask where
 | put (n:Str) (a:Nat) (cs:List Int)
 | trim (n:Str) (z:Nat)
 | hollow (n:Str) (a l:Nat)
 | share (n:Str) (a l:Nat) (n2:Str) (t:Nat)
 | twin (n n2:Str)
def Ask.ok (F:Fm)(ws:List Str):Ask->Prop
 | .put n a cs=>n∈ws/\1<=cs.length/\a+cs.length<=40/\∀x∈cs,0<=x/\x<=999999
 | .trim n z=>n∈ws/\z<=40/\∃xs,F n=some xs
 | .hollow n a l=>n∈ws/\1<=l/\∃xs,F n=some xs/\a+l<=xs.length
 | .share n a l n2 t=>n∈ws/\n2∈ws/\1<=l/\t+l<=40/\∃xs,F n=some xs/\a+l<=xs.length
 | .twin n n2=>n∈ws/\n2∈ws/\(∃xs,F n=some xs)/\F n2=none
def p9 (l:List Int)(a:Nat)(xs:List Int):List Int:=(l++List.replicate (a+xs.length - l.length) 0).take a++xs++(l++List.replicate (a+xs.length - l.length) 0).drop (a+xs.length)
def Ask.chg (F:Fm):Ask->Fm
 | .put n a cs=>F.set n (p9 ((F n).getD []) a cs)
 | .trim n z=>F.set n (((F n).getD []).take z++List.replicate (z - ((F n).getD []).length) 0)
 | .hollow n a l=>F.set n (p9 ((F n).getD []) a (List.replicate l 0))
 | .share n a l n2 t=>F.set n2 (p9 ((F n2).getD []) t ((((F n).getD []).drop a).take l))
 | .twin n n2=>F.set n2 ((F n).getD [])
theorem oE {pc:Int->List Int}{os mid:List Src}{lo L:Nat}(h:mid.length=L):(nY os lo L mid).map (gl pc)=p9 (os.map (gl pc)) lo (mid.map (gl pc)):=by
 subst h;unfold nY p9;simp only[List.map_append,List.map_take,List.map_drop,List.map_replicate,List.length_map];rfl
def jU (D:DS)(es:List Ent)(D':DS)(es':List Ent)(ns:List Int):Prop:=∀p,(p∈D'.pl es'/\p ∉ D.pl es)↔p∈ns
theorem qP {D D':DS}{es es':List Ent}(h:∀p,p∈D'.pl es'->p∈D.pl es):jU D es D' es' []:=fun p=>⟨fun z=>absurd (h p z.1) z.2,fun z=>by cases z⟩
theorem jI {D:DS}{cs:List Int}{m k:Nat}(hk:k < m):(D.cut cs m).pc (2+(D.N:Int)+(k:Int))=bw cs k:=by
 unfold DS.pc DS.view DS.cut DS.N;rw[if_pos (by omega)];dsimp only;rw[show(2+((998+D.ks.length:Nat):Int)+(k:Int) - 1000).toNat=D.ks.length+k by omega,List.getElem?_append_right (by omega),show D.ks.length+k - D.ks.length=k by omega];unfold db;rw[List.getElem?_map,List.getElem?_range hk];rfl
theorem vd {cs:List Int}{k:Nat}(h:k < cs.length):(bw cs (k / 8)).getD (k % 8) 0=cs[k]:=by
 unfold bw;rw[List.getD_eq_getElem?_getD,List.getElem?_take,if_pos (by omega),List.getElem?_drop,show 8 * (k / 8)+k % 8=k by omega,List.getElem?_eq_getElem h];rfl
theorem sM {D:DS}{cs:List Int}:(gk D.N cs.length).map (gl (D.cut cs ((cs.length+7) / 8)).pc)=cs:=by
 refine List.ext_getElem (by rw[List.length_map,d8]) fun i h1 h2=>?_;rw[List.getElem_map];unfold gk;rw[List.getElem_map,List.getElem_range];show((D.cut cs _).pc _).getD ((((i % 8:Nat):Int)).toNat) 0=_;rw[jI (by omega),Int.toNat_natCast,vd h2]
theorem Md.put {D:DS}{b m:Int}{es:List Ent}{ws:List Str}{F:Fm}(h:Md D b m es ws F){n:Str}{a:Nat}{cs:List Int}(ok:(Ask.put n a cs).ok F ws) :
 ∃(s:Int) (r:List S4),D.file es n = .fil 5 s r/\bV 0 r 40/\∃es',Md (D.put m es n s r (a:Int) cs) 5 m es' ws ((Ask.put n a cs).chg F) /\
  jU D es (D.put m es n s r (a:Int) cs) es' ((List.range ((cs.length+7) / 8)).map fun k:Nat=>2+(D.N:Int)+(k:Int))/\(∀k,k < (cs.length+7) / 8->(D.put m es n s r (a:Int) cs).pc (2+(D.N:Int)+(k:Int))=bw cs k) /\
  (D.put m es n s r (a:Int) cs).ks.length<=D.ks.length+7:=by
 obtain⟨hn,l1,l40,hc⟩:=ok;obtain⟨s,r,os,ef,fi,ev,em⟩:=h.slot n;have o40:bV 0 r 40:=fi.ord.up (by have:=fi.n40;show(s:Int)<=40;omega);refine⟨s,r,ef,o40,?_⟩;have eM:(db cs ((cs.length+7) / 8)).length=(cs.length+7) / 8:=jG ..;have fi1:FI (D.cut cs ((cs.length+7) / 8)).pc (D.cut cs ((cs.length+7) / 8)).N (s,r,os):=FI.app fi;have gs:GS (D.cut cs ((cs.length+7) / 8)).pc (D.cut cs ((cs.length+7) / 8)).N (gk D.N cs.length):=fun p t hp=>by
  have g0:=wP (pc:=D.pc) (N:=D.N) (cs:=cs) p t hp;obtain⟨k,hk⟩:=fQ hp;obtain⟨i,_,hi,rfl,rfl⟩:=src_srcs.mp hk;rw[show(D.cut cs ((cs.length+7) / 8)).N=D.N+(cs.length+7) / 8 by unfold DS.cut;rw[xC,eM],jI (by omega),cv];refine⟨by omega,by omega,by omega,by omega⟩
 have oN:=ia (a:Int) (998+D.ks.length) cs ((cs.length+7) / 8) (Nat.le_refl _);rw[show min (8 * ((cs.length+7) / 8)) cs.length=cs.length by omega]at oN;have fi2:=fi1.laid (lo:=a) (L:=cs.length) (new:=D.new (a:Int) cs) (mid:=gk D.N cs.length) oN l40 (d8 ..) gs fun k p t=>oA;have es1:((max s (a+cs.length):Nat):Int)=bz (s:Int) ((a:Int)+(cs.length:Int)):=by
  unfold bz;split <;> omega
 have q:=h.filed (l:=db cs ((cs.length+7) / 8)) hn fi2;have ff:=mr (D:=D) (l:=db cs ((cs.length+7) / 8)) fi2;rw[es1]at q ff;have eD:DS.filed ⟨D.root,D.ks++db cs ((cs.length+7) / 8)⟩ m es n (bz (s:Int) ((a:Int)+(cs.length:Int))) (b8 (cF r (a:Int) ((a:Int)+(cs.length:Int)) (D.new (a:Int) cs)))=D.put m es n (s:Int) r (a:Int) cs:=rfl;refine⟨fG (dE es (n,wFi,1000+((D.ks++db cs ((cs.length+7) / 8)).length:Int))),?_,?_,?_,?_⟩
 . rw[eD]at q;have ec:F.set n ((⟨D.root,D.ks++db cs ((cs.length+7) / 8)⟩:DS).vals (nY os a cs.length (gk D.N cs.length)))=(Ask.put n a cs).chg F:=by
    show _=F.set n (p9 ((F n).getD []) a cs);have e1:(⟨D.root,D.ks++db cs ((cs.length+7) / 8)⟩:DS).vals (nY os a cs.length (gk D.N cs.length))=p9 ((⟨D.root,D.ks++db cs ((cs.length+7) / 8)⟩:DS).vals os) a ((gk D.N cs.length).map (gl (D.cut cs ((cs.length+7) / 8)).pc)):=oE (d8 ..);rw[e1,sM,gR (x:=(_,_,_)) fi,ev]
   rw[ec]at q;exact q
 . intro p;have hh:=h.pl_hung (n:=n) (p:=p) ff;have eq2:DS.hung ⟨D.root,D.ks++(db cs ((cs.length+7) / 8)++[.fil 5 (bz (s:Int) ((a:Int)+(cs.length:Int))) (b8 (cF r (a:Int) ((a:Int)+(cs.length:Int)) (D.new (a:Int) cs)))])⟩ m es (n,wFi,1000+((D.ks++db cs ((cs.length+7) / 8)).length:Int))=D.put m es n (s:Int) r (a:Int) cs:=by
    rw[<- eD,<- List.append_assoc];rfl
   rw[eq2]at hh;constructor
   . rintro⟨h1,h2⟩;rcases hh.1 h1 with z|⟨t,z⟩
     . exact absurd z h2
     . rcases iY (d8 ..) z with z|z
       . obtain⟨k,hk⟩:=fQ z;obtain⟨i,_,hi,rfl,rfl⟩:=src_srcs.mp hk;exact List.mem_map.mpr ⟨i / 8,List.mem_range.mpr (by omega),rfl⟩
       . obtain⟨y,hy,_,f⟩:=em p t z;exact absurd (iF f hy z) h2
   . intro hp;obtain⟨k,hk,rfl⟩:=List.mem_map.mp hp;have hk:=List.mem_range.mp hk;refine⟨hh.2 ⟨((8 * k % 8:Nat):Int),?_⟩,fun z=>?_⟩
     . have e:eZ (nY os a cs.length (gk D.N cs.length)) ((a+8 * k:Nat):Int)=some (2+(D.N:Int)+(k:Int),((8 * k % 8:Nat):Int)):=by
        rw[iX (d8 ..),if_pos (by omega),src_srcs];exact⟨8 * k,by omega,by omega,by rw[show 8 * k / 8=k by omega],rfl⟩
       exact dr e
     . have:=h.pl_lt z;unfold DS.N at this;omega
 . intro k hk;have e:(D.put m es n (s:Int) r (a:Int) cs).pc (2+(D.N:Int)+(k:Int))=(D.cut cs ((cs.length+7) / 8)).pc (2+(D.N:Int)+(k:Int)):=by
    rw[<- eD];have lt:2+(D.N:Int)+(k:Int) < 1000+((D.ks++db cs ((cs.length+7) / 8)).length:Int):=by
     rw[List.length_append,eM];unfold DS.N;omega
    refine(mq (D:=⟨D.root,D.ks++db cs ((cs.length+7) / 8)++[.fil 5 (bz (s:Int) ((a:Int)+(cs.length:Int))) (b8 (cF r (a:Int) ((a:Int)+(cs.length:Int)) (D.new (a:Int) cs)))]⟩) ?_).trans (mq (D:=D.cut cs ((cs.length+7) / 8)) lt);show _ < 1000+((D.ks++db cs ((cs.length+7) / 8)++[_]).length:Int);rw[List.length_append (as:=D.ks++db cs ((cs.length+7) / 8))];omega
   rw[e,jI hk]
 . rw[<- eD];show((D.ks++db cs ((cs.length+7) / 8))++[_]++[_]).length<=_;simp only[List.length_append,eM,List.length_cons,List.length_nil];omega
theorem Md.refiled {D:DS}{b m:Int}{es:List Ent}{ws:List Str}{F:Fm}(h:Md D b m es ws F){n:Str}{s:Nat}{z:Int}{r:List S4}{os:List Src}(hn:n∈ws)(hz:(s:Int)=z)(f:FI D.pc D.N (s,r,os))(hs:∀p t,some (p,t)∈os->p∈D.pl es) :
 ∃es',Md (D.filed m es n z r) 5 m es' ws (F.set n (D.vals os))/\jU D es (D.filed m es n z r) es' []/\(D.filed m es n z r).ks.length<=D.ks.length+7:=by
 subst hz;have eD:(⟨D.root,D.ks++[]⟩:DS)=D:=by rw[List.append_nil]
 have f1:FI (⟨D.root,D.ks++[]⟩:DS).pc (⟨D.root,D.ks++[]⟩:DS).N (s,r,os):=by rw[eD];exact f
 have q:=h.filed (l:=[]) hn f1;have ff:=mr (D:=D) (l:=[]) f1;rw[eD]at q;rw[List.append_nil]at q ff;refine⟨_,q,qP fun p hp=>?_,?_⟩
 . rcases(h.pl_hung (n:=n) (p:=p) ff).1 hp with z|⟨t,z⟩
   . exact z
   . exact hs p t z
 . show((D.ks++[_])++[_]).length<=_;simp only[List.length_append,List.length_cons,List.length_nil];omega
theorem sO (rs:List S4):aC rs 40 40=[]:=by
 unfold aC;rw[List.flatMap_eq_nil_iff];intro r _;unfold d0;rw[if_neg];unfold bz c9;split <;> split <;> omega
theorem mt {pc:Int->List Int}{N:Nat}{x:Fl}(h:FI pc N x):x.2.1.length<=40:=by
 have key:∀(rs:List S4) (lo hi:Int),bV lo rs hi->lo+(rs.length:Int)<=hi:=by
  intro rs
  induction rs with
  | nil=>intro lo hi o;have:lo<=hi:=o;simp only[List.length_nil];omega
  | cons r t ih =>
   intro lo hi o;have:=ih _ _ o.2.2;have:=o.1;have:=o.2.1;simp only[List.length_cons];omega
 have:=key _ _ _ h.ord;have:=h.n40;omega
theorem Md.trim {D:DS}{b m:Int}{es:List Ent}{ws:List Str}{F:Fm}(h:Md D b m es ws F){n:Str}{z:Nat}(ok:(Ask.trim n z).ok F ws) :
 ∃y s r,bO es n=some y/\D.view y.2.2 = .fil 5 s r/\r.length<=1000/\∃es',Md (D.filed m es n (z:Int) (aC r 0 (z:Int))) 5 m es' ws ((Ask.trim n z).chg F)/\jU D es (D.filed m es n (z:Int) (aC r 0 (z:Int))) es' []/\(D.filed m es n (z:Int) (aC r 0 (z:Int))).ks.length<=D.ks.length+7:=by
 obtain⟨hn,h40,xs,hx⟩:=ok;obtain⟨y,s,r,os,hy,my,ey,f,rfl⟩:=h.file hx;have fl:=mt f.fi;refine⟨y,s,r,hy,f.vw,Nat.le_trans fl (by decide),?_⟩;have fi:=f.fi.cutA (m:=z) h40;rw[sO,List.append_nil]at fi;have q:=h.refiled hn rfl fi fun p t hp=>?_
 . have e:D.vals (os.take z++List.replicate (z - os.length) none)=((F n).getD []).take z++List.replicate (z - ((F n).getD []).length) 0:=by
    rw[hx];show(os.take z++List.replicate (z - os.length) none).map (gl D.pc)=(os.map (gl D.pc)).take z++List.replicate (z - (os.map (gl D.pc)).length) 0;rw[List.map_append,List.map_take,List.map_replicate,List.length_map];rfl
   rw[e]at q;exact q
 . rcases List.mem_append.mp hp with hp|hp
   . exact iF f my (List.mem_of_mem_take hp)
   . cases (List.mem_replicate.mp hp).2
theorem Md.hollow {D:DS}{b m:Int}{es:List Ent}{ws:List Str}{F:Fm}(h:Md D b m es ws F){n:Str}{a l:Nat}(ok:(Ask.hollow n a l).ok F ws) :
 ∃y s r,bO es n=some y/\D.view y.2.2 = .fil 5 s r/\r.length<=1000/\(a:Int)+(l:Int)<=s/\s<=40/\∃es',Md (D.filed m es n s (aC r 0 (a:Int)++aC r ((a:Int)+(l:Int)) 40)) 5 m es' ws ((Ask.hollow n a l).chg F)/\jU D es (D.filed m es n s (aC r 0 (a:Int)++aC r ((a:Int)+(l:Int)) 40)) es' []/\(D.filed m es n s (aC r 0 (a:Int)++aC r ((a:Int)+(l:Int)) 40)).ks.length<=D.ks.length+7:=by
 obtain⟨hn,h1,xs,hx,hl⟩:=ok;obtain⟨y,s,r,os,hy,my,ey,f,rfl⟩:=h.file hx;have fl:=mt f.fi;have n40:s<=40:=f.fi.n40;have el:os.length=s:=f.fi.len;have evl:(D.vals os).length=s:=by
  unfold DS.vals;rw[List.length_map,el]
 rw[evl]at hl;refine⟨y,s,r,hy,f.vw,Nat.le_trans fl (by decide),by omega,by omega,?_⟩;have fi:=f.fi.cutB (lo:=a) (hi:=a+l) (by omega) hl;rw[show((a+l:Nat):Int)=(a:Int)+(l:Int) by omega]at fi;have q:=h.refiled hn rfl fi fun p t hp=>?_
 . have e:D.vals (os.take a++List.replicate (a+l - a) none++os.drop (a+l))=p9 ((F n).getD []) a (List.replicate l 0):=by
    rw[hx];show(os.take a++List.replicate (a+l - a) none++os.drop (a+l)).map (gl D.pc)=p9 (os.map (gl D.pc)) a (List.replicate l 0);unfold p9;rw[List.length_replicate,List.length_map,show a+l - os.length=0 by omega,List.replicate_zero,List.append_nil,List.map_append,List.map_append,List.map_take,List.map_drop,List.map_replicate,show a+l - a=l by omega];rfl
   rw[e]at q;exact q
 . rcases List.mem_append.mp hp with hp|hp
   . rcases List.mem_append.mp hp with hp|hp
     . exact iF f my (List.mem_of_mem_take hp)
     . cases (List.mem_replicate.mp hp).2
   . exact iF f my (List.mem_of_mem_drop hp)
theorem Md.share {D:DS}{b m:Int}{es:List Ent}{ws:List Str}{F:Fm}(h:Md D b m es ws F){n n2:Str}{a l t:Nat}(ok:(Ask.share n a l n2 t).ok F ws) :
 ∃y s r s2 r2,bO es n=some y/\D.view y.2.2 = .fil 5 s r/\r.length<=1000/\D.file es n2 = .fil 5 s2 r2/\bV 0 r2 40/\(a:Int)+(l:Int)<=s/\s<=40/\bV (t:Int) (bK (aC r (a:Int) ((a:Int)+(l:Int))) ((t:Int) - (a:Int))) ((t:Int)+(l:Int)) /\
  ∃es',Md (D.filed m es n2 (bz s2 ((t:Int)+(l:Int))) (b8 (cF r2 (t:Int) ((t:Int)+(l:Int)) (bK (aC r (a:Int) ((a:Int)+(l:Int))) ((t:Int) - (a:Int)))))) 5 m es' ws ((Ask.share n a l n2 t).chg F)/\jU D es (D.filed m es n2 (bz s2 ((t:Int)+(l:Int))) (b8 (cF r2 (t:Int) ((t:Int)+(l:Int)) (bK (aC r (a:Int) ((a:Int)+(l:Int))) ((t:Int) - (a:Int)))))) es' []/\(D.filed m es n2 (bz s2 ((t:Int)+(l:Int))) (b8 (cF r2 (t:Int) ((t:Int)+(l:Int)) (bK (aC r (a:Int) ((a:Int)+(l:Int))) ((t:Int) - (a:Int)))))).ks.length<=D.ks.length+7:=by
 obtain⟨hn,hn2,h1,ht,xs,hx,hl⟩:=ok;obtain⟨y,s,r,os,hy,my,ey,f,rfl⟩:=h.file hx;obtain⟨s2,r2,os2,ef2,fi2,ev2,em2⟩:=h.slot n2;have fl:=mt f.fi;have n40:s<=40:=f.fi.n40;have el:os.length=s:=f.fi.len;have evl:(D.vals os).length=s:=by
  unfold DS.vals;rw[List.length_map,el]
 rw[evl]at hl;have o40:bV 0 r2 40:=fi2.ord.up (by have:=fi2.n40;show(s2:Int)<=40;omega);have oS:=ib (d:=(t:Int) - (a:Int)) (cq (lo:=(a:Int)) (hi:=(a:Int)+(l:Int)) (e:=(a:Int)) f.fi.ord (by omega) (.inr (Int.le_refl _)));rw[show(a:Int)+((t:Int) - (a:Int))=(t:Int) by omega,show(a:Int)+(l:Int)+((t:Int) - (a:Int))=(t:Int)+(l:Int) by omega]at oS;refine⟨y,s,r,s2,r2,hy,f.vw,Nat.le_trans fl (by decide),ef2,o40,by omega,by omega,oS,?_⟩;have fi:=fi2.shared (a:=a) (L:=l) (to:=t) f.fi hl ht;have ml:((os.drop a).take l).length=l:=by
  rw[List.length_take,List.length_drop];omega
 have es1:((max s2 (t+l):Nat):Int)=bz (s2:Int) ((t:Int)+(l:Int)):=by
  unfold bz;split <;> omega
 have q:=h.refiled hn2 es1 fi fun p u hp=>?_
 . have e:D.vals (nY os2 t l ((os.drop a).take l))=p9 ((F n2).getD []) t ((((F n).getD []).drop a).take l):=by
    rw[hx,ev2];show(nY os2 t l ((os.drop a).take l)).map (gl D.pc)=p9 (os2.map (gl D.pc)) t (((os.map (gl D.pc)).drop a).take l);rw[oE ml,List.map_take,List.map_drop]
   rw[e]at q;exact q
 . rcases iY ml hp with hp|hp
   . exact iF f my (List.mem_of_mem_drop (List.mem_of_mem_take hp))
   . obtain⟨y2,hy2,_,f2⟩:=em2 p u hp;exact iF f2 hy2 hp
theorem Md.twin {D:DS}{b m:Int}{es:List Ent}{ws:List Str}{F:Fm}(h:Md D b m es ws F){n n2:Str}(ok:(Ask.twin n n2).ok F ws) :
 ∃y,bO es n=some y/\bO es n2=none/\∃es',Md (D.hung m es (n2,wFi,y.2.2)) 5 m es' ws ((Ask.twin n n2).chg F)/\jU D es (D.hung m es (n2,wFi,y.2.2)) es' []/\(D.hung m es (n2,wFi,y.2.2)).ks.length<=D.ks.length+7:=by
 obtain⟨hn,hn2,⟨xs,hx⟩,h0⟩:=ok;obtain⟨y,s,r,os,hy,my,ey,f,rfl⟩:=h.file hx;refine⟨y,hy,h.noFile h0,?_⟩;have eD:(⟨D.root,D.ks++[]⟩:DS)=D:=by rw[List.append_nil]
 have f1:fb ⟨D.root,D.ks++[]⟩ y.2.2 s r os:=by rw[eD];exact f
 have q:=h.hung (l:=[]) hn2 f1;rw[eD]at q;refine⟨_,by
  have e:F.set n2 (D.vals os)=(Ask.twin n n2).chg F:=by
   show _=F.set n2 ((F n).getD []);rw[hx];rfl
  rw[e]at q;exact q,qP fun p hp=>?_,?_⟩
 . have hh:=(h.pl_hung (n:=n2) (p:=p) f1).1;rw[eD]at hh;rcases hh hp with z|⟨t,z⟩
   . exact z
   . exact iF f my z
 . show(D.ks++[_]).length<=_;simp only[List.length_append,List.length_cons,List.length_nil];omega
theorem Md.nil {ws:List Str}(hw:ws.length<=3):Md ⟨2,[]⟩ 1 0 [] ws fun Fc=>none:=⟨hw,rfl,by decide,by simp,List.Pairwise.nil,fun y hy=>(by cases hy),fun y hy=>(by cases hy),fun y hy=>(by cases hy),fun Fc Fc=>rfl⟩
theorem Md.l40 {D:DS}{b m:Int}{es:List Ent}{ws:List Str}{F:Fm}(h:Md D b m es ws F){n:Str}{l:List Int}(hn:F n=some l):l.length<=40:=by
 obtain⟨y,s,r,os,hy,my,ey,f,rfl⟩:=h.file hn;have n40:s<=40:=f.fi.n40;have el:os.length=s:=f.fi.len;unfold DS.vals;rw[List.length_map];omega
theorem ve (xs:List V)(n:Nat):dR xs (some (n:Int)) none=xs.drop n:=by
 unfold dR;rw[HT.mR,HT.dI];rcases Nat.le_total n xs.length with z|z
 . rw[Nat.min_eq_left z];exact List.take_of_length_le (by rw[List.length_drop];omega)
 . rw[Nat.min_eq_right z,List.drop_eq_nil_of_le z];simp
section
variable {P:Program}{w:World}{K:W.Frag}{mg:Str->Option Value}{base:Heap}{f fMix fSpa fRow fOvr:Addr}{fd dMix dSpa dRow dOvr:FuncData}{c:Cl}{PS PP:Addr}
def spRow:Sp:=fun vs H Q Fc=>∃(x:Int) (l:Nat),vs=[.int x,.int (l:Int)]/\l<=40/\∀(p:Addr) (cs:List Int) H',aE H H'->H' p=some (.lst (cs.map V.int))->cs.length=l->(∀z∈cs,0<=z/\z<=999999)->Q (.ref p) H'
theorem B6:aq Ed Ed (ai wG):=⟨rfl,rfl,rfl,by decide +kernel,rfl,by decide +kernel,by decide +kernel⟩
theorem zI (F:bN K "_law_row" "_law_row" wG f fd)(hMix:bG K mg "_law_mix" pT DO fMix dMix)(GMix:aj P w K mg base ay 1 fMix dMix DO spMix)(T:Txt mg):aj P w K mg base ay 2 f fd Ed spRow:=by
 refine F.ok B6 (fun vs H Q E h=>?_) (fun cdv A outer s H vs Q E hr h=>?_)
 . obtain⟨x,l,rfl,_⟩:=h;rfl
 obtain⟨x,l,rfl,l40,q⟩:=h;refine⟨_,(af (aw (cW [0] ["_law_cell"] (dQ rfl T.rng (pc (pv 1) ac)) (fun Fc Fc Fc Fc Fc Fc=>cD)
         (fun Fc Fc Fc Fc Fc Fc=>(ax bt (ar GMix (hr.mono (by decide)) rfl hMix.nm hMix.fn.kp hMix.bd .nil ao (pc (pv 1) (pc (ax a6 ae (pv 0)) ac))) (au (ua (K:=K) rfl) (bR (pc ae (pc ae ac))) (ax bt (ar GMix (hr.mono (by decide)) rfl hMix.nm hMix.fn.kp hMix.bd .nil ao (pc (pv 1) (pc ae ac))) ae) (fun Fc Fc=>rfl))))
         rfl (by decide +kernel) (by decide +kernel) rfl (by decide +kernel) (fun j y hj=>by
          match j,hj with
          | 0,hj=>cases hj;exact⟨0,rfl,rfl,rfl,.inl rfl⟩) rfl (by decide +kernel) rfl))),?_⟩
 refine⟨_,rfl,(l:Int),rfl,by omega,by omega,fun p hp=>?_⟩;refine oi (fun i us H2=>∃cs:List Int,aE H H2/\H2 p=some (.lst us)/\us=cs.map V.int/\cs.length=i/\∀z∈cs,0<=z/\z<=999999) ⟨[],ah hp _,aa,rfl,rfl,fun c h=>by cases h⟩ ?_ ?_
 . rintro i us H2 hi ⟨cs,s2,e2,rfl,lc,oc⟩;have hi':i < l:=by omega
   refine tM ⟨_,rfl,_,rfl,_,_,rfl,rfl,x,40+(0+(i:Int)),rfl,by omega,by omega,fun z0=>⟨(by show 2<=sizeLine;decide),fun p2 hp2=>⟨_,rfl,x,39,rfl,by decide,by decide,fun w0=>⟨_,_,rfl,rfl,(by show(0:Int) < 2;decide),?_⟩⟩⟩⟩;generalize cX x (40+(0+(i:Int)))=z at z0;generalize cX x 39=y at w0;have s3:=ah hp2 (HO.lst [V.int 1000000,V.int 3]);obtain⟨v,hv,v0,v1⟩:∃v:Int,qp [V.int 1000000,V.int 3] (y % 2)=some (V.int v)/\0 < v/\v<=1000000:=by
    rcases(show y % 2=0\/y % 2=1 by omega)with e|e
    . exact⟨1000000,by rw[e];rfl,by decide,by decide⟩
    . exact⟨3,by rw[e];rfl,by decide,by decide⟩
   refine⟨p2,_,_,V.int v,rfl,rfl,bh.of aa,hv,_,_,rfl,rfl,v0,s3 _ _ e2,bg (by simp;omega),cs++[z % v],ba (s2.trans s3) hp _,aa,by rw[List.map_append];rfl,by simp[lc],fun c hc=>?_⟩;rcases List.mem_append.mp hc with m|m
   . exact oc c m
   . rw[List.mem_singleton.mp m];have:=Int.emod_nonneg z (show v≠0 by omega);have:=Int.emod_lt_of_pos z v0;omega
 . rintro us H2 ⟨cs,s2,e2,rfl,lc,oc⟩;exact q p cs H2 s2 e2 (by omega) oc
def spSpa:Sp:=fun vs H Q Fc=>∃(x:Int) (m:Nat),vs=[.int x,.int (m:Int)]/\1<=m/\m<=40/\∀(t:Addr) (a l:Nat) H',aE H H'->H' t=some (.tup [.int (a:Int),.int (l:Int)])->1<=l->a+l<=m->Q (.ref t) H'
theorem xD:aq ["_law_cell","_law_most","_law_at_here"] Em (ai wH):=⟨rfl,rfl,rfl,by decide +kernel,rfl,by decide +kernel,by decide +kernel⟩
theorem zJ (F:bN K "_law_span" "_law_span" wH f fd)(hMix:bG K mg "_law_mix" pT DO fMix dMix)(GMix:aj P w K mg base ay 1 fMix dMix DO spMix)(T:Txt mg):aj P w K mg base ay 2 f fd Em spSpa:=by
 refine F.ok xD (fun vs H Q E h=>?_) (fun cdv A outer s H vs Q E hr h=>?_)
 . obtain⟨x,m,rfl,_⟩:=h;rfl
 obtain⟨x,m,rfl,m1,m40,q⟩:=h;refine⟨_,(ad (aA (i:=2) xD.nd rfl (Or.inl rfl) (ax bt (ar GMix (hr.mono (by decide)) rfl hMix.nm hMix.fn.kp hMix.bd .nil ao (pc (pv 0) (pc ae ac))) (pv 1)))
  (ad (aZ (aB bW (ax bt (ar GMix (hr.mono (by decide)) rfl hMix.nm hMix.fn.kp hMix.bd .nil ao (pc (pv 0) (pc ae ac))) ae) ae (aH _))
  (af (aw (bq (pc (pv 2) (pc (ax a6 ae (ax bt (ar GMix (hr.mono (by decide)) rfl hMix.nm hMix.fn.kp hMix.bd .nil ao (pc (pv 0) (pc ae ac))) (ax c5 (pv 1) (pv 2)))) ac)))))
  aM)
  (af (aw (bq (pc (pv 2) (pc (ax a6 ae (ax bt (ar GMix (hr.mono (by decide)) rfl hMix.nm hMix.fn.kp hMix.bd .nil ao (pc (pv 0) (pc ae ac))) (aF (fM rfl) rfl T.min PyProof.Rows.boot_min (pc ae (pc (ax c5 (pv 1) (pv 2)) ac))))) ac))))))),?_⟩
 refine⟨_,rfl,x,3,rfl,by decide,by decide,fun z0=>⟨_,rfl,_,_,rfl,rfl,(by show(0:Int) < (m:Int);omega),?_⟩⟩;generalize cX x 3=z at z0;have a0:=Int.emod_nonneg z (show(m:Int)≠0 by omega);have a1:=Int.emod_lt_of_pos z (show(0:Int) < (m:Int) by omega);obtain⟨a,ea⟩:=Int.eq_ofNat_of_zero_le a0;dsimp only;rw[ea]at a1 ⊢;have fin:∀(y v:Int),0 < v->v<=(m:Int) - (a:Int)->∀t,H t=none->Q (.ref t) (aL H t (.tup [.int (a:Int),.int (1+y % v)])):=fun y v v0 v1 t ht=>by
  have b0:=Int.emod_nonneg y (show v≠0 by omega);have b1:=Int.emod_lt_of_pos y v0;obtain⟨l,el⟩:=Int.eq_ofNat_of_zero_le (show 0<=1+y % v by omega);have e2:1+y % v=(l:Int):=el;rw[e2];exact q t a l _ (ah ht _) aa (by omega) (by omega)
 refine⟨_,rfl,x,4,rfl,by decide,by decide,fun w0=>⟨_,_,rfl,rfl,(by show(0:Int) < 2;decide),rfl,_,rfl,?_⟩⟩;refine dl (fun Fc=>?_) (fun Fc=>?_)
 . refine⟨_,rfl,_,rfl,x,5,rfl,by decide,by decide,fun y0=>⟨_,rfl,_,rfl,_,_,rfl,rfl,_,_,rfl,rfl,(by show(0:Int) < (m:Int) - (a:Int);have:(a:Int) < m:=a1;omega),_,_,rfl,rfl,(by show 2<=sizeLine;decide),fun t ht=>fin _ _ (by have:(a:Int) < m:=a1;omega) (Int.le_refl _) t ht⟩⟩
 . refine⟨_,rfl,_,rfl,x,5,rfl,by decide,by decide,fun y0=>⟨_,rfl,_,rfl,_,_,rfl,rfl,_,_,rfl,_,_,rfl,rfl,?_,_,_,rfl,rfl,(by show 2<=sizeLine;decide),fun t ht=>fin _ _ ?_ ?_ t ht⟩⟩
   all_goals
    have:(a:Int) < m:=a1
    first | (show(0:Int) < if _ then _ else _;split <;> omega) | (split <;> omega)
def spOvr:Sp:=fun vs H Q Fc=>∃(p r:Addr) (l xs:List Int) (a:Nat),vs=[.ref p,.int (a:Int),.ref r]/\H p=some (.lst (l.map V.int))/\H r=some (.lst (xs.map V.int))/\l.length<=100/\xs.length<=100/\a<=100/\∀t H',aE H H'->H' t=some (.lst ((p9 l a xs).map V.int))->Q (.ref t) H'
theorem xE:aq ["_law_cells_here","_law_at_here","_law_some","_law_longer"] En (ai wJ):=⟨rfl,rfl,rfl,by decide +kernel,rfl,by decide +kernel,by decide +kernel⟩
theorem zK (F:bN K "_law_over" "_law_over" wJ f fd)(T:Txt mg):aj P w K mg base ay 2 f fd En spOvr:=by
 refine F.ok xE (fun vs H Q E h=>?_) (fun cdv A outer s H vs Q E hr h=>?_)
 . obtain⟨p,r,l,xs,a,rfl,_⟩:=h;rfl
 obtain⟨p,r,l,xs,a,rfl,hp,hr',l1,l2,l3,q⟩:=h;refine⟨_,(ad (aA (i:=3) xE.nd rfl (Or.inl rfl) (ax gf (pv 0) (ax lI (bR (pc ae ac)) (ax c5 (ax a6 (pv 1) (aF aO rfl T.len PySem.boot_len (pc (pv 2) ac))) (aF aO rfl T.len PySem.boot_len (pc (pv 0) ac))))))
  (af (aw (ax gf (ax gf (bX cA (pv 3) eG (bJ (pv 1))) (pv 2)) (bX cA (pv 3) (bJ (ax a6 (pv 1) (aF aO rfl T.len PySem.boot_len (pc (pv 2) ac)))) eG))))),?_⟩
 have lml:(l.map V.int).length=l.length:=List.length_map _;have lmx:(xs.map V.int).length=xs.length:=List.length_map _;refine⟨_,rfl,(by show 1<=sizeLine;decide),fun p0 hp0=>?_⟩;have s0:=ah hp0 (HO.lst [V.int 0]);refine⟨_,rfl,_,rfl,r,_,rfl,.inl (bh.of (s0 _ _ hr')),_,_,rfl,rfl,_,rfl,p,_,rfl,.inl (bh.of (s0 _ _ hp)),_,_,rfl,rfl,p0,_,_,rfl,rfl,aa,?_,?_,?_,fun p1 hp1=>?_⟩
 . rw[lml,lmx];omega
 . rw[lml,lmx];omega
 . rw[lml,lmx];exact Nat.le_of_lt (bg (by show 1 * _<=100000;omega))
 rw[lml,lmx];have er:(List.replicate ((a:Int)+(xs.length:Int) - (l.length:Int)).toNat [V.int 0]).flatten=(List.replicate (a+xs.length - l.length) (0:Int)).map V.int:=by
  rw[show((a:Int)+(xs.length:Int) - (l.length:Int)).toNat=a+xs.length - l.length by omega];generalize a+xs.length - l.length=n
  induction n with
  | zero=>rfl
  | succ n ih=>rw[List.replicate_succ,List.flatten_cons,ih,List.replicate_succ,List.map_cons];rfl
 rw[er];have s1:=ah hp1 (HO.lst ((List.replicate (a+xs.length - l.length) (0:Int)).map V.int));refine⟨p,p1,_,_,rfl,rfl,s1 _ _ (s0 _ _ hp),aa,?_,fun p2 hp2=>?_⟩
 . rw[lml,List.length_map,List.length_replicate];exact Nat.le_of_lt (bg (by omega))
 rw[<- List.map_append];obtain⟨lg,elg⟩:∃lg,lg=l++List.replicate (a+xs.length - l.length) (0:Int):=⟨_,rfl⟩;rw[<- elg];have ll:lg.length<=400:=by
  rw[elg,List.length_append,List.length_replicate];omega
 have s2:=ah hp2 (HO.lst (lg.map V.int));refine⟨_,rfl,_,rfl,_,rfl,p2,_,rfl,bh.of aa,fun p3 hp3=>?_⟩;rw[mf,<- List.map_take];have s3:=ah hp3 (HO.lst ((lg.take a).map V.int));have hr3:=s3 _ _ (s2 _ _ (s1 _ _ (s0 _ _ hr')));refine⟨_,rfl,p3,r,_,_,rfl,rfl,aa,hr3,?_,fun p4 hp4=>?_⟩
 . rw[lmx,List.length_map,List.length_take];exact Nat.le_of_lt (bg (by omega))
 have s4:=ah hp4 (HO.lst ((lg.take a).map V.int++xs.map V.int));refine⟨_,rfl,_,rfl,_,rfl,r,_,rfl,.inl (bh.of (s4 _ _ hr3)),_,_,rfl,rfl,_,rfl,p2,_,rfl,bh.of (s4 _ _ (s3 _ _ aa)),fun p5 hp5=>?_⟩;rw[lmx,show(a:Int)+(xs.length:Int)=((a+xs.length:Nat):Int) by omega,ve,<- List.map_drop];have s5:=ah hp5 (HO.lst ((lg.drop (a+xs.length)).map V.int));refine⟨p4,p5,_,_,rfl,rfl,s5 _ _ aa,aa,?_,fun p6 hp6=>q p6 _ ((((((s0.trans s1).trans s2).trans s3).trans s4).trans s5).trans (ah hp6 _)) ?_⟩
 . simp only[List.length_append,List.length_map,List.length_take,List.length_drop];exact Nat.le_of_lt (bg (by omega))
 . rw[aa];unfold p9;rw[<- elg,List.map_append,List.map_append]
end
def dD (H:Hp):Ask->V->Prop
 | .put n a cs,v=>∃t pl,v = .ref t/\H t=some (.tup [.str (Str.ofString "put"),.str n,.int (a:Int),.ref pl])/\H pl=some (.lst (cs.map V.int))
 | .trim n z,v=>∃t,v = .ref t/\H t=some (.tup [.str (Str.ofString "trim"),.str n,.int (z:Int)])
 | .hollow n a l,v=>∃t,v = .ref t/\H t=some (.tup [.str (Str.ofString "hollow"),.str n,.int (a:Int),.int (l:Int)])
 | .share n a l n2 u,v=>∃t,v = .ref t/\H t=some (.tup [.str (Str.ofString "share"),.str n,.int (a:Int),.int (l:Int),.str n2,.int (u:Int)])
 | .twin n n2,v=>∃t,v = .ref t/\H t=some (.tup [.str (Str.ofString "twin"),.str n,.str n2])
theorem xF {ws:List Str}(h:ws.length=3)(z:Int):∃n,qp (ws.map V.str) (z % 3)=some (.str n)/\n∈ws:=by
 match ws,h with
 | [a,b,c],_ =>
  rcases(show z % 3=0\/z % 3=1\/z % 3=2 by omega)with e|e|e
  . exact⟨a,by rw[e];rfl,by simp⟩
  . exact⟨b,by rw[e];rfl,by simp⟩
  . exact⟨c,by rw[e];rfl,by simp⟩
def wT (H:Hp)(o:Option (List Int))(x:Option V):Prop:=match o with
 | none=>x=none
 | some l=>∃p,x=some (.ref p)/\H p=some (.lst (l.map V.int))
structure cO (H:Hp)(ff:Addr)(ws:List Str)(F:Fm):Prop where
 ex:∃(kvs:List (Key×V)) (ss:List Str),H ff=some (.dK kvs)/\kvs.map (·.1)=ss.map Sum.inr/\ss.Nodup/\(∀n∈ss,n∈ws)/\∀n,wT H (F n) (bB kvs (.inr n))
theorem cO.mono {H H':Hp}{ff:Addr}{ws:List Str}{F:Fm}(h:cO H ff ws F)(kd:∀kvs,H ff=some (.dK kvs)->H' ff=some (.dK kvs))(kl:∀p l,H p=some (.lst l)->H' p=some (.lst l)):cO H' ff ws F:=by
 obtain⟨kvs,ss,h1,h2,h3,h4,h5⟩:=h;refine⟨kvs,ss,kd _ h1,h2,h3,h4,fun n=>?_⟩;have:=h5 n;unfold wT at *;cases e:F n with
 | none=>rw[e]at this;exact this
 | some l =>
  rw[e]at this;obtain⟨p,e1,e2⟩:=this;exact⟨p,e1,kl _ _ e2⟩
theorem cO.same {H H':Hp}{ff:Addr}{ws:List Str}{F:Fm}(h:cO H ff ws F)(s:aE H H'):cO H' ff ws F:=h.mono (fun Fc e=>s _ _ e) fun Fc Fc e=>s _ _ e
section
variable {P:Program}{w:World}{K:W.Frag}{mg:Str->Option Value}{base:Heap}{f fMix fSpa fRow fOvr:Addr}{fd dMix dSpa dRow dOvr:FuncData}{c:Cl}{PS PP:Addr}
def spAsk:Sp:=fun vs H Q Fc=>∃(x:Int) (pn ff:Addr) (ws:List Str) (F:Fm),vs=[.int x,.ref pn,.ref ff]/\H pn=some (.lst (ws.map V.str))/\ws.length=3/\cO H ff ws F/\(∀n l,F n=some l->l.length<=40)/\∀v k H',aE H H'->dD H' k v->k.ok F ws->Q v H'
theorem iG:aq ["_law_cell","_law_names","_law_files","_law_path","_law_other","_law_way","_law_at_here","_law_long"] Eo (ai uJ):=⟨rfl,rfl,rfl,by decide +kernel,rfl,by decide +kernel,by decide +kernel⟩
theorem zL (F:bN K "_law_ask" "_law_ask" uJ f fd)(hMix:bG K mg "_law_mix" pT DO fMix dMix)(GMix:aj P w K mg base ay 1 fMix dMix DO spMix)
 (hSpa:bG K mg "_law_span" wH Em fSpa dSpa) (GSpa:aj P w K mg base ay 2 fSpa dSpa Em spSpa) (hRow:bG K mg "_law_row" wG Ed fRow dRow) (GRow:aj P w K mg base ay 2 fRow dRow Ed spRow) (T:Txt mg):aj P w K mg base ay 3 f fd Eo spAsk:=by
 refine F.ok iG (fun vs H Q E h=>?_) (fun cdv A outer s H vs Q E hr h=>?_)
 . obtain⟨x,pn,ff,ws,F,rfl,_⟩:=h;rfl
 obtain⟨x,pn,ff,ws,F,rfl,hpn,w3,fa,f40,q⟩:=h;have hu:(A.deeper (PyProof.Rows.envOfC "_law_ask" (ai uJ) s.heap.objs.size f cdv)).units+1 < cLine:=dU hr;refine⟨_,(ad (aA (i:=3) iG.nd rfl (Or.inl rfl) (au cQ (pv 1) (ax bt (ar GMix (hr.mono (by decide)) rfl hMix.nm hMix.fn.kp hMix.bd .nil ao (pc (pv 0) (pc ae ac))) ae) (fun Fc Fc=>rfl)))
  (ad (aA (i:=4) iG.nd rfl (Or.inl rfl) (au cQ (pv 1) (ax bt (ar GMix (hr.mono (by decide)) rfl hMix.nm hMix.fn.kp hMix.bd .nil ao (pc (pv 0) (pc ae ac))) ae) (fun Fc Fc=>rfl)))
  (ad (aA (i:=5) iG.nd rfl (Or.inl rfl) (ax bt (ar GMix (hr.mono (by decide)) rfl hMix.nm hMix.fn.kp hMix.bd .nil ao (pc (pv 0) (pc ae ac))) ae))
  (ad (aZ (PW.pt (dG (fg (dY hu (pv 3) (pv 2))) (cZ (aB jY (pv 5) ae (aH _)))))
  (ad (ld (ar GSpa (hr.mono (by decide)) rfl hSpa.nm hSpa.fn.kp hSpa.bd .nil ao (pc (pv 0) (pc ae ac))) (dN rfl (aR (aJ (i:=6) iG.nd rfl (Or.inl rfl)) (aR (aJ (i:=7) iG.nd rfl (Or.inl rfl)) cP))))
  (af (aw (bq (pc a5 (pc (pv 3) (pc (pv 6) (pc (ar GRow (hr.mono (by decide)) rfl hRow.nm hRow.fn.kp hRow.bd .nil ao (pc (pv 0) (pc (pv 7) ac))) ac))))))))
  aM)
  (ad (aZ (PW.pt (dG (aB bW (pv 5) ae (aH _)) (cZ (aB (yh (dU hr |> Nat.lt_of_succ_lt)) (dJ hu (pv 2) (pv 3) (fun Fc Fc=>rfl)) (bR ac) (aH _)))))
  (af (aw (bq (pc a5 (pc (pv 3) (pc (ax bt (ar GMix (hr.mono (by decide)) rfl hMix.nm hMix.fn.kp hMix.bd .nil ao (pc (pv 0) (pc ae ac))) ae) ac))))))
  aM)
  (ad (aZ (PW.pt (fh (aB bW (pv 5) ae (aH _)) (eB (fg (dY hu (pv 4) (pv 2))))))
  (af (aw (bq (pc a5 (pc (pv 3) (pc (pv 4) ac))))))
  aM)
  (ad (ld (ar GSpa (hr.mono (by decide)) rfl hSpa.nm hSpa.fn.kp hSpa.bd .nil ao (pc (pv 0) (pc (aF aO rfl T.len PySem.boot_len (pc (dJ hu (pv 2) (pv 3) (fun Fc Fc=>rfl)) ac)) ac))) (dN rfl (aR (aJ (i:=6) iG.nd rfl (Or.inl rfl)) (aR (aJ (i:=7) iG.nd rfl (Or.inl rfl)) cP))))
  (ad (aZ (aB jY (pv 5) ae (aH _))
  (af (aw (bq (pc a5 (pc (pv 3) (pc (pv 6) (pc (pv 7) ac)))))))
  aM)
  (af (aw (bq (pc a5 (pc (pv 3) (pc (pv 6) (pc (pv 7) (pc (pv 4) (pc (ax bt (ar GMix (hr.mono (by decide)) rfl hMix.nm hMix.fn.kp hMix.bd .nil ao (pc (pv 0) (pc ae ac))) (ax c5 ae (pv 7))) ac))))))))))))))))),?_⟩
 have fa0:=fa;obtain⟨kvs,ss,hff,hk,hn,hs,hv⟩:=fa0;refine⟨_,rfl,_,rfl,x,1,rfl,by decide,by decide,fun z0=>⟨_,_,rfl,rfl,(by show(0:Int) < 3;decide),?_⟩⟩;obtain⟨np,e1,m1⟩:=xF w3 (cX x 1);refine⟨pn,_,_,.str np,rfl,rfl,bh.of hpn,e1,?_⟩;refine⟨_,rfl,_,rfl,x,2,rfl,by decide,by decide,fun y0=>⟨_,_,rfl,rfl,(by show(0:Int) < 3;decide),?_⟩⟩;obtain⟨no,e2,m2⟩:=xF w3 (cX x 2);refine⟨pn,_,_,.str no,rfl,rfl,bh.of hpn,e2,?_⟩;refine⟨_,rfl,x,0,rfl,by decide,by decide,fun w0=>⟨_,_,rfl,rfl,(by show(0:Int) < 8;decide),?_⟩⟩;generalize cX x 0 % 8=way;have hvp:=hv np;refine⟨_,rfl,_,rfl,ff,_,rfl,cK.k (k:=.inr np) hff,_,rfl,?_⟩;cases hF:F np with
 | none =>
  rw[hF]at hvp;have hvp':bB kvs (.inr np)=none:=hvp;rw[hvp'];refine c6 (c6 ?p1)
  case p1=>exact⟨_,rfl,x,40,rfl,by decide,by decide,fun t a l H1 s1 ht l1 al=>⟨t,_,rfl,a8.of ht,rfl,_,_,rfl,_,_,rfl,rfl,_,rfl,_,rfl,_,rfl,_,rfl,x,l,rfl,by omega,fun p cs H2 s2 hp lc oc=>⟨(by show 4<=sizeLine;decide),fun t2 ht2=>q _ (.put np a cs) _ ((s1.trans s2).trans (ah ht2 _)) ⟨t2,p,rfl,aa,ah ht2 _ _ _ hp⟩ ⟨m1,by omega,by omega,oc⟩⟩⟩⟩
 | some l =>
  rw[hF]at hvp;obtain⟨pl,hvp',hpl⟩:=hvp;have dg:cK H ff (.str np) (some (.ref pl)):=by
   have:=cK.k (k:=.inr np) hff;rw[hvp']at this;exact this
  rw[hvp'];refine br ⟨_,rfl,_,_,rfl,rfl,_,rfl,dl (fun Fc=>?p2) (fun Fc=>?_)⟩
  case p2=>exact⟨_,rfl,x,40,rfl,by decide,by decide,fun t a l H1 s1 ht l1 al=>⟨t,_,rfl,a8.of ht,rfl,_,_,rfl,_,_,rfl,rfl,_,rfl,_,rfl,_,rfl,_,rfl,x,l,rfl,by omega,fun p cs H2 s2 hp lc oc=>⟨(by show 4<=sizeLine;decide),fun t2 ht2=>q _ (.put np a cs) _ ((s1.trans s2).trans (ah ht2 _)) ⟨t2,p,rfl,aa,ah ht2 _ _ _ hp⟩ ⟨m1,by omega,by omega,oc⟩⟩⟩⟩
  refine⟨_,rfl,rfl,_,rfl,dl (fun Fc=>c6 ?t1) (fun Fc=>?_)⟩
  case t1=>exact⟨_,rfl,_,rfl,x,6,rfl,by decide,by decide,fun z0=>⟨_,_,rfl,rfl,(by show(0:Int) < 41;decide),(by show 3<=sizeLine;decide),fun t ht=>by
   obtain⟨z,ez⟩:=Int.eq_ofNat_of_zero_le (Int.emod_nonneg (cX x 6) (show(41:Int)≠0 by decide));have ez:cX x 6 % 41=(z:Int):=ez;have:=Int.emod_lt_of_pos (cX x 6) (show(0:Int) < 41 by decide);dsimp only;rw[ez];exact q _ (.trim np z) _ (ah ht _) ⟨t,rfl,aa⟩ ⟨m1,by omega,l,hF⟩⟩⟩
  refine⟨_,rfl,_,rfl,ff,.ref pl,rfl,dg,by decide,fun p0 hp0=>?_⟩;have s0:=ah hp0 (HO.lst []);refine⟨pl,p0,_,rfl,rfl,bh.of (s0 _ _ hpl),bh.of aa,_,rfl,dl (fun Fc=>?t2) (fun cl=>?_)⟩
  case t2=>exact⟨_,rfl,_,rfl,x,6,rfl,by decide,by decide,fun z0=>⟨_,_,rfl,rfl,(by show(0:Int) < 41;decide),(by show 3<=sizeLine;decide),fun t ht=>by
   obtain⟨z,ez⟩:=Int.eq_ofNat_of_zero_le (Int.emod_nonneg (cX x 6) (show(41:Int)≠0 by decide));have ez:cX x 6 % 41=(z:Int):=ez;have:=Int.emod_lt_of_pos (cX x 6) (show(0:Int) < 41 by decide);dsimp only;rw[ez];exact q _ (.trim np z) _ (s0.trans (ah ht _)) ⟨t,rfl,aa⟩ ⟨m1,by omega,l,hF⟩⟩⟩
  have l1:1<=l.length:=by
   cases l with
   | nil=>exact absurd (decide_eq_true rfl) cl
   | cons a l=>exact Nat.succ_le_succ (Nat.zero_le _)
  have l40:=f40 np l hF;have hff0:=s0 _ _ hff;have dg0:cK (aL H p0 (HO.lst [])) ff (.str np) (some (.ref pl)):=by
   have:=cK.k (k:=.inr np) hff0;rw[hvp']at this;exact this
  have hpl0:=s0 _ _ hpl;have hvo:=hv no;revert s0 hff0 dg0 hpl0;generalize aL H p0 (HO.lst [])=H0;intro s0 hff0 dg0 hpl0;refine⟨_,rfl,rfl,_,rfl,dl (fun Fc=>?_) (fun Fc=>br ?s1)⟩
  . refine⟨_,rfl,_,rfl,ff,_,rfl,cK.k (k:=.inr no) hff0,_,rfl,?_⟩;cases hO:F no with
    | none =>
     rw[hO]at hvo;have hvo':bB kvs (.inr no)=none:=hvo;rw[hvo'];exact c6 ⟨_,rfl,_,rfl,(by show 3<=sizeLine;decide),fun t ht=>q _ (.twin np no) _ (s0.trans (ah ht _)) ⟨t,rfl,aa⟩ ⟨m1,m2,⟨l,hF⟩,hO⟩⟩
    | some lo =>
     rw[hO]at hvo;obtain⟨po,hvo',hpo⟩:=hvo;rw[hvo'];refine br ?_;exact⟨_,rfl,_,rfl,_,rfl,ff,.ref pl,rfl,dg0,pl,_,rfl,.inl (bh.of hpl0),x,l.length,by rw[List.length_map];rfl,l1,l40,fun t a k H1 s1 ht k1 ak=>⟨t,_,rfl,a8.of ht,rfl,_,_,rfl,_,_,rfl,rfl,_,rfl,_,_,rfl,rfl,_,rfl,dl (fun Fc=>⟨_,rfl,_,rfl,_,rfl,(by show 4<=sizeLine;decide),fun t2 ht2=>q _ (.hollow np a k) _ ((s0.trans s1).trans (ah ht2 _)) ⟨t2,rfl,aa⟩ ⟨m1,k1,l,hF,ak⟩⟩) (fun Fc=>⟨_,rfl,_,rfl,_,rfl,_,rfl,_,rfl,x,7,rfl,by decide,by decide,fun z0=>⟨_,rfl,_,_,rfl,rfl,_,_,rfl,rfl,(by show(0:Int) < 41 - (k:Int);omega),(by show 6<=sizeLine;decide),fun t2 ht2=>by
      have b0:=Int.emod_nonneg (cX x 7) (show 41 - (k:Int)≠0 by omega);have b1:=Int.emod_lt_of_pos (cX x 7) (show(0:Int) < 41 - (k:Int) by omega);obtain⟨z,ez⟩:=Int.eq_ofNat_of_zero_le b0;have ez:cX x 7 % (41 - (k:Int))=(z:Int):=ez;dsimp only;rw[ez];exact q _ (.share np a k no z) _ ((s0.trans s1).trans (ah ht2 _)) ⟨t2,rfl,aa⟩ ⟨m1,m2,k1,by omega,l,hF,ak⟩⟩⟩)⟩⟩
  . exact⟨_,rfl,_,rfl,_,rfl,ff,.ref pl,rfl,dg0,pl,_,rfl,.inl (bh.of hpl0),x,l.length,by rw[List.length_map];rfl,l1,l40,fun t a k H1 s1 ht k1 ak=>⟨t,_,rfl,a8.of ht,rfl,_,_,rfl,_,_,rfl,rfl,_,rfl,_,_,rfl,rfl,_,rfl,dl (fun Fc=>⟨_,rfl,_,rfl,_,rfl,(by show 4<=sizeLine;decide),fun t2 ht2=>q _ (.hollow np a k) _ ((s0.trans s1).trans (ah ht2 _)) ⟨t2,rfl,aa⟩ ⟨m1,k1,l,hF,ak⟩⟩) (fun Fc=>⟨_,rfl,_,rfl,_,rfl,_,rfl,_,rfl,x,7,rfl,by decide,by decide,fun z0=>⟨_,rfl,_,_,rfl,rfl,_,_,rfl,rfl,(by show(0:Int) < 41 - (k:Int);omega),(by show 6<=sizeLine;decide),fun t2 ht2=>by
     have b0:=Int.emod_nonneg (cX x 7) (show 41 - (k:Int)≠0 by omega);have b1:=Int.emod_lt_of_pos (cX x 7) (show(0:Int) < 41 - (k:Int) by omega);obtain⟨z,ez⟩:=Int.eq_ofNat_of_zero_le b0;have ez:cX x 7 % (41 - (k:Int))=(z:Int):=ez;dsimp only;rw[ez];exact q _ (.share np a k no z) _ ((s0.trans s1).trans (ah ht2 _)) ⟨t2,rfl,aa⟩ ⟨m1,m2,k1,by omega,l,hF,ak⟩⟩⟩)⟩⟩
end
def Ask.cs:Ask->List Int
 | .put _ _ cs=>cs
 | _=>[]
def Ask.many (k:Ask):Nat:=(k.cs.length+7) / 8
structure C6 (D:DS)(es:List Ent)(D':DS)(es':List Ent)(k:Ask):Prop where
 np:jU D es D' es' ((List.range k.many).map fun i:Nat=>2+(D.N:Int)+(i:Int))
 ch:∀i,i < k.many->D'.pc (2+(D.N:Int)+(i:Int))=bw k.cs i
theorem mw {D:DS}{es:List Ent}{D':DS}{es':List Ent}{k:Ask}(h:k.cs=[])(n:jU D es D' es' []):C6 D es D' es' k:=by
 have e:k.many=0:=by
  unfold Ask.many;rw[h];rfl
 exact⟨by rw[e];exact n,fun i hi=>by rw[e]at hi;exact absurd hi (Nat.not_lt_zero _)⟩
theorem bu {K:W.Frag}{i:Nat}{σ:St}{H:Hp}{t:Addr}{vs:List V}{w x:Str}{T E:TS}{D:f8}(hσ:σ[i]? = some (some (.ref t)))(ht:H t=some (.tup (.str w :: vs)))(n:w≠x)(h:E D σ H):xO (qm (w8 rEq (w8 (vH K) (k9 i) (tC (V.int 0))) (tC (V.str x)))) T E D σ H:=by
 refine⟨_,hσ,t,_,0,.str w,rfl,rfl,a8.of ht,aP (j:=0) rfl,rfl,_,rfl,?_⟩;rw[decide_eq_false (fun e=>n (by injection e))];exact br h
theorem eR {K:W.Frag}{i:Nat}{σ:St}{H:Hp}{t:Addr}{vs:List V}{x:Str}{T E:TS}{D:f8}(hσ:σ[i]? = some (some (.ref t)))(ht:H t=some (.tup (.str x :: vs)))(h:T D σ H):xO (qm (w8 rEq (w8 (vH K) (k9 i) (tC (V.int 0))) (tC (V.str x)))) T E D σ H:=by
 refine⟨_,hσ,t,_,0,.str x,rfl,rfl,a8.of ht,aP (j:=0) rfl,rfl,_,rfl,?_⟩;rw[decide_eq_true rfl];exact c6 h
structure G1 (c:Cl)(PS PP:Addr)(H:Hp)(d lk fr:Addr)(D:DS)(b m:Int)(es:List Ent)(ws:List Str)(F:Fm):Prop where
 de:dF c H d lk fr D
 t2:T2 PS PP H
 md:Md D b m es ws F
 w3:ws.length=3
 iw:∀n∈ws,gI n=true
section
variable {P:Program}{w:World}{K:W.Frag}{mg:Str->Option Value}{base:Heap}{f fEpu fEtr fEho fEsh fEtw fOvr:Addr}{fd dEpu dEtr dEho dEsh dEtw dOvr:FuncData}{c:Cl}{PS PP:Addr}
theorem G1.g0 {H:Hp}{d lk fr:Addr}{D:DS}{b m:Int}{es:List Ent}{ws:List Str}{F:Fm}(g:G1 c PS PP H d lk fr D b m es ws F)(h:D.ks.length<=3000):G0 c PS PP H d lk fr D b m es :=
 ⟨g.de,g.md.rt,g.t2,by have:=g.md.len (by have:=g.w3;omega);omega,g.md.nd,h,g.md.hrt,g.md.kd⟩
theorem dD.mono {H H':Hp}(s:aE H H'){k:Ask}{v:V}(h:dD H k v):dD H' k v:=by
 cases k with
 | put n a cs =>
  obtain⟨t,pl,e,h1,h2⟩:=h;exact⟨t,pl,e,s _ _ h1,s _ _ h2⟩
 | trim n z =>
  obtain⟨t,e,h1⟩:=h;exact⟨t,e,s _ _ h1⟩
 | hollow n a l =>
  obtain⟨t,e,h1⟩:=h;exact⟨t,e,s _ _ h1⟩
 | share n a l n2 u =>
  obtain⟨t,e,h1⟩:=h;exact⟨t,e,s _ _ h1⟩
 | twin n n2 =>
  obtain⟨t,e,h1⟩:=h;exact⟨t,e,s _ _ h1⟩
def vf (c:Cl)(PS PP:Addr):Sp:=fun vs H Q Fc=>∃d lk fr D b m es ws F v k,vs=[.ref d,v]/\G1 c PS PP H d lk fr D b m es ws F/\D.ks.length<=3000/\dD H k v/\k.ok F ws /\
 ∀H' D' es',Ki d fr PS PP H H'->G1 c PS PP H' d lk fr D' 5 m es' ws (k.chg F)->C6 D es D' es' k->D'.ks.length<=D.ks.length+7->Q .non H'
theorem xG:aq ["_law_deed","_law_ask_here","_law_handed"] Ep (ai wI):=⟨rfl,rfl,rfl,by decide +kernel,rfl,by decide +kernel,by decide +kernel⟩
theorem zM (F:bN K "_law_do" "_law_do" wI f fd)(cf:CF K mg c)(hEpu:aU K c.DE "put" "Deed.put" uE D5 fEpu dEpu)(GEpu:aj P w K mg base ay 14 fEpu dEpu D5 (qN c PS PP))
 (hEtr:aU K c.DE "trim" "Deed.trim" wv Ei fEtr dEtr) (GEtr:aj P w K mg base ay 14 fEtr dEtr Ei (u5 c PS PP))
 (hEho:aU K c.DE "hollow" "Deed.hollow" ww Ej fEho dEho) (GEho:aj P w K mg base ay 14 fEho dEho Ej (u7 c PS PP))
 (hEsh:aU K c.DE "share" "Deed.share" wx Ek fEsh dEsh) (GEsh:aj P w K mg base ay 14 fEsh dEsh Ek (u9 c PS PP))
 (hEtw:aU K c.DE "twin" "Deed.twin" wy El fEtw dEtw) (GEtw:aj P w K mg base ay 14 fEtw dEtw El (vb c PS PP)) (T:Txt mg):aj P w K mg base ay 15 f fd Ep (vf c PS PP):=by
 refine F.ok xG (fun vs H Q E h=>?_) (fun cdv A outer s H vs Q E hr h=>?_)
 . obtain⟨d,lk,fr,D,b,m,es,ws,F,v,k,rfl,_⟩:=h;rfl
 obtain⟨d,lk,fr,D,b,m,es,ws,F,v,k,rfl,g,l3,ha,ok,q⟩:=h;refine⟨_,(af (aZ (aB bW (au ap (pv 1) ae (fun Fc Fc=>rfl)) a5 (aH _))
  (ad (aA (i:=2) xG.nd rfl (Or.inl rfl) (cn eI rfl T.lst PyProof.Rows.boot_list (pc (au ap (pv 1) ae (fun Fc Fc=>rfl)) ac)))
  (ad (aS (aD (pv 0) cf.clE hEpu.me GEpu (hr.mono (by decide)) hEpu.bd .nil ao (pc (au ap (pv 1) ae (fun Fc Fc=>rfl)) (pc (au ap (pv 1) ae (fun Fc Fc=>rfl)) (pc (pv 2) ac)))))
  (af (aS (xX PySem.F.plainAttrs_list PySem.F.slot_list_clear PySem.F.type_list_clear tK (pv 2))))))
  (af (aZ (aB bW (au ap (pv 1) ae (fun Fc Fc=>rfl)) a5 (aH _))
  (af (aS (aD (pv 0) cf.clE hEtr.me GEtr (hr.mono (by decide)) hEtr.bd .nil ao (pc (au ap (pv 1) ae (fun Fc Fc=>rfl)) (pc (au ap (pv 1) ae (fun Fc Fc=>rfl)) ac)))))
  (af (aZ (aB bW (au ap (pv 1) ae (fun Fc Fc=>rfl)) a5 (aH _))
  (af (aS (aD (pv 0) cf.clE hEho.me GEho (hr.mono (by decide)) hEho.bd .nil ao (pc (au ap (pv 1) ae (fun Fc Fc=>rfl)) (pc (au ap (pv 1) ae (fun Fc Fc=>rfl)) (pc (au ap (pv 1) ae (fun Fc Fc=>rfl)) ac))))))
  (af (aZ (aB bW (au ap (pv 1) ae (fun Fc Fc=>rfl)) a5 (aH _))
  (af (aS (aD (pv 0) cf.clE hEsh.me GEsh (hr.mono (by decide)) hEsh.bd .nil ao (pc (au ap (pv 1) ae (fun Fc Fc=>rfl)) (pc (au ap (pv 1) ae (fun Fc Fc=>rfl)) (pc (au ap (pv 1) ae (fun Fc Fc=>rfl)) (pc (au ap (pv 1) ae (fun Fc Fc=>rfl)) (pc (au ap (pv 1) ae (fun Fc Fc=>rfl)) ac))))))))
  (af (aS (aD (pv 0) cf.clE hEtw.me GEtw (hr.mono (by decide)) hEtw.bd .nil ao (pc (au ap (pv 1) ae (fun Fc Fc=>rfl)) (pc (au ap (pv 1) ae (fun Fc Fc=>rfl)) ac))))))))))))),?_⟩
 have g0:=g.g0 l3;obtain⟨dx,hd⟩:=g.de.at_;cases k with
 | put n a cs =>
  obtain⟨t,pl,rfl,ht,hpl⟩:=ha;obtain⟨sz,r,ef,o40,es',md',np,ch,l7⟩:=g.md.put ok;refine eR rfl ht ?_;refine⟨_,rfl,t,_,3,_,rfl,rfl,a8.of ht,rfl,pl,_,rfl,.inl (bh.of hpl),fun h hh=>?_⟩;have s1:=ah hh (HO.lst (cs.map V.int));have g1:=g0.mono s1;have e1:aL H h (HO.lst (cs.map V.int)) h=some (HO.lst (cs.map V.int)):=aa;revert s1 g1 e1;generalize aL H h (HO.lst (cs.map V.int))=H1;intro s1 g1 e1;refine⟨_,rfl,d,dx,_,rfl,s1 _ _ hd,rfl,_,rfl,t,_,1,_,rfl,rfl,a8.of (s1 _ _ ht),rfl,_,rfl,t,_,2,_,rfl,rfl,a8.of (s1 _ _ ht),rfl,_,rfl,d,lk,fr,D,b,m,es,n,sz,r,h,a,cs,rfl,g1,g.iw n ok.1,ef,o40,by omega,e1,ok.2.1,by have:=ok.2.2.1;omega,ok.2.2.2,fun H2 ki t2' de'=>?_⟩;have e2:H2 h=some (HO.lst (cs.map V.int)):=by
   obtain⟨dx1,hd1⟩:=g1.de.at_;obtain⟨xs1,hf1,_⟩:=g1.de.fr_;obtain⟨p1,t1⟩:=aW g1.t2.tb;obtain⟨p2,t2⟩:=aW g1.t2.tp;exact ki h _ (fun z=>by rw[z,hd1]at e1;cases e1) (fun z=>by rw[z,hf1]at e1;cases e1) (fun z=>by rw[z,t1]at e1;cases e1) (fun z=>by rw[z,t2]at e1;cases e1) e1
  have nl2:=qM (l':=[]) e2;refine⟨_,rfl,.inl ⟨rfl,_,bh.of e2⟩,h,_,rfl,rfl,e2,q _ _ es' (fun q u n1 n2 n3 n4 e=>?_) ⟨de'.nol nl2,t2'.nol nl2,md',g.w3,g.iw⟩ ⟨np,ch⟩ l7⟩;rw[am (fun z=>by rw[z,hh]at e;cases e)];exact ki q u n1 n2 n3 n4 (s1 _ _ e)
 | trim n z =>
  obtain⟨t,rfl,ht⟩:=ha;obtain⟨y,sz,r,hy,hv,lr,es',md',np,l7⟩:=g.md.trim ok;refine bu rfl ht (by decide +kernel) ?_;refine eR rfl ht ?_;refine⟨_,rfl,d,dx,_,rfl,hd,rfl,_,rfl,t,_,1,_,rfl,rfl,a8.of ht,rfl,_,rfl,t,_,2,_,rfl,rfl,a8.of ht,rfl,d,lk,fr,D,b,m,es,n,y,5,sz,r,z,rfl,g0,g.iw n ok.1,hy,hv,lr,by omega,by have:=ok.2.1;omega,fun H' ki t2' de'=>q H' _ es' ki ⟨de',t2',md',g.w3,g.iw⟩ (mw rfl np) l7⟩
 | hollow n a l =>
  obtain⟨t,rfl,ht⟩:=ha;obtain⟨y,sz,r,hy,hv,lr,al,s40,es',md',np,l7⟩:=g.md.hollow ok;refine bu rfl ht (by decide +kernel) ?_;refine bu rfl ht (by decide +kernel) ?_;refine eR rfl ht ?_;refine⟨_,rfl,d,dx,_,rfl,hd,rfl,_,rfl,t,_,1,_,rfl,rfl,a8.of ht,rfl,_,rfl,t,_,2,_,rfl,rfl,a8.of ht,rfl,_,rfl,t,_,3,_,rfl,rfl,a8.of ht,rfl,d,lk,fr,D,b,m,es,n,y,5,sz,r,a,l,rfl,g0,g.iw n ok.1,hy,hv,lr,by omega,by have:=ok.2.1;omega,al,s40,fun H' ki t2' de'=>q H' _ es' ki ⟨de',t2',md',g.w3,g.iw⟩ (mw rfl np) l7⟩
 | share n a l n2 u =>
  obtain⟨t,rfl,ht⟩:=ha;obtain⟨y,sz,r,sz2,r2,hy,hv,lr,hf2,o2,al,s40,oS,es',md',np,l7⟩:=g.md.share ok;refine bu rfl ht (by decide +kernel) ?_;refine bu rfl ht (by decide +kernel) ?_;refine bu rfl ht (by decide +kernel) ?_;refine eR rfl ht ?_;refine⟨_,rfl,d,dx,_,rfl,hd,rfl,_,rfl,t,_,1,_,rfl,rfl,a8.of ht,rfl,_,rfl,t,_,2,_,rfl,rfl,a8.of ht,rfl,_,rfl,t,_,3,_,rfl,rfl,a8.of ht,rfl,_,rfl,t,_,4,_,rfl,rfl,a8.of ht,rfl,_,rfl,t,_,5,_,rfl,rfl,a8.of ht,rfl,d,lk,fr,D,b,m,es,n,y,5,sz,r,a,l,n2,sz2,r2,u,rfl,g0,g.iw n ok.1,g.iw n2 ok.2.1,hy,hv,lr,hf2,o2,by omega,by have:=ok.2.2.1;omega,al,s40,by omega,by have:=ok.2.2.2.1;omega,oS,fun H' ki t2' de'=>q H' _ es' ki ⟨de',t2',md',g.w3,g.iw⟩ (mw rfl np) l7⟩
 | twin n n2 =>
  obtain⟨t,rfl,ht⟩:=ha;obtain⟨y,hy,hn,es',md',np,l7⟩:=g.md.twin ok;refine bu rfl ht (by decide +kernel) ?_;refine bu rfl ht (by decide +kernel) ?_;refine bu rfl ht (by decide +kernel) ?_;refine bu rfl ht (by decide +kernel) ?_;refine⟨_,rfl,d,dx,_,rfl,hd,rfl,_,rfl,t,_,1,_,rfl,rfl,a8.of ht,rfl,_,rfl,t,_,2,_,rfl,rfl,a8.of ht,rfl,d,lk,fr,D,b,m,es,n,y,n2,rfl,g0,g.iw n ok.1,g.iw n2 ok.2.1,hy,hn,fun H' ki t2' de'=>q H' _ es' ki ⟨de',t2',md',g.w3,g.iw⟩ (mw rfl np) l7⟩
end
theorem oF {kvs:List (Key×V)}{k:Key}{u v:V}(h:bB kvs k=some u):(c7 kvs k v).map (·.1)=kvs.map (·.1):=by
 unfold c7;rw[dX,h];simp only[Option.isSome_some,if_true,List.map_map];exact List.map_congr_left fun kv Fc=>by
  show(if kv.1=k then(kv.1,v)else kv).1=kv.1;split <;> rfl
theorem vg (xs:List V)(n m:Nat)(h:n+m<=xs.length):dR xs (some (n:Int)) (some ((n:Int)+(m:Int)))=(xs.drop n).take m:=by
 unfold dR;have e:(n:Int)+(m:Int)=((n+m:Nat):Int):=by omega
 rw[e,HT.dI,HT.dI,Nat.min_eq_left h,Nat.min_eq_left (show n<=xs.length by omega)]
 congr 1
 omega
theorem zN (n:Nat):(List.replicate n [V.int 0]).flatten=(List.replicate n (0:Int)).map V.int:=by
 induction n with
 | zero=>rfl
 | succ n ih=>rw[List.replicate_succ,List.flatten_cons,ih,List.replicate_succ,List.map_cons];rfl
section
variable {P:Program}{w:World}{K:W.Frag}{mg:Str->Option Value}{base:Heap}{f fOvr:Addr}{fd dOvr:FuncData}{c:Cl}{PS PP:Addr}
theorem cO.put {H:Hp}{ff p:Addr}{ws:List Str}{F:Fm}{n:Str}{l:List Int}{kvs:List (Key×V)}(h:cO H ff ws F)(e:H ff=some (.dK kvs))(hn:n∈ws)(hp:H p=some (.lst (l.map V.int))) :
 cO (aL H ff (.dK (c7 kvs (.inr n) (.ref p)))) ff ws (F.set n l):=by
 obtain⟨kvs',ss,e',hk,nd,sub,hv⟩:=h;rw[e]at e';cases e';have nl:∀q l,H q=some (.lst l)->aL H ff (.dK (c7 kvs (.inr n) (.ref p))) q=some (.lst l):=fun q l e2=>by
  rw[am (fun z=>by rw[z,e]at e2;cases e2)];exact e2
 have vals:∀k,wT (aL H ff (.dK (c7 kvs (.inr n) (.ref p)))) (F.set n l k) (bB (c7 kvs (.inr n) (.ref p)) (.inr k)):=fun k=>by
  rw[tQ];unfold Fm.set;by_cases z:k=n
  . subst z;rw[if_pos rfl,if_pos rfl];exact⟨p,rfl,nl _ _ hp⟩
  . rw[if_neg z,if_neg (fun y=>z (by injection y))];have:=hv k;unfold wT at *;cases e3:F k with
    | none=>rw[e3]at this;exact this
    | some l=>rw[e3]at this;obtain⟨q,h1,h2⟩:=this;exact⟨q,h1,nl _ _ h2⟩
 cases ev:bB kvs (.inr n)with
 | none =>
  refine⟨_,ss++[n],aa,?_,?_,?_,vals⟩
  . rw[i3 ev,List.map_append,hk,List.map_append];rfl
  . refine List.nodup_append.mpr ⟨nd,by simp,fun a ha b hb=>?_⟩;rw[List.mem_singleton.mp hb];intro z;subst z;have:(Sum.inr a:Key)∈kvs.map (·.1):=by rw[hk];exact List.mem_map.mpr ⟨a,ha,rfl⟩
    obtain⟨kv,hm,he⟩:=List.mem_map.mp this;unfold bB at ev;rw[Option.map_eq_none_iff,List.find?_eq_none]at ev;exact ev kv hm (decide_eq_true he)
  . intro k hk';rcases List.mem_append.mp hk' with z|z
    . exact sub k z
    . rw[List.mem_singleton.mp z];exact hn
 | some u =>
  refine⟨_,ss,aa,?_,nd,sub,vals⟩;rw[<- hk];exact oF ev
def spChg:Sp:=fun vs H Q Fc=>∃(ff:Addr) (ws:List Str) (F:Fm) (v:V) (k:Ask),vs=[.ref ff,v]/\cO H ff ws F/\ws.length=3/\(∀n l,F n=some l->l.length<=40)/\dD H k v/\k.ok F ws/\∀H',(∀q u,q≠ff->H q=some u->H' q=some u)->cO H' ff ws (k.chg F)->Q .non H'
theorem vh:aq ["_law_files","_law_ask_here","_law_some"] Er (ai uK):=⟨rfl,rfl,rfl,by decide +kernel,rfl,by decide +kernel,by decide +kernel⟩
theorem zO (F:bN K "_law_change" "_law_change" uK f fd)(hOvr:bG K mg "_law_over" wJ En fOvr dOvr)(GOvr:aj P w K mg base ay 2 fOvr dOvr En spOvr)(T:Txt mg):aj P w K mg base ay 3 f fd Er spChg:=by
 refine F.ok vh (fun vs H Q E h=>?_) (fun cdv A outer s H vs Q E hr h=>?_)
 . obtain⟨ff,ws,F,v,k,rfl,_⟩:=h;rfl
 obtain⟨ff,ws,F,v,k,rfl,fa,w3,f40,ha,ok,q⟩:=h;have hu:(A.deeper (PyProof.Rows.envOfC "_law_change" (ai uK) s.heap.objs.size f cdv)).units+1 < cLine:=dU hr;refine⟨_,(af (aZ (aB bW (au ap (pv 1) ae (fun Fc Fc=>rfl)) a5 (aH _))
  (af (cS hu (pv 0) (au ap (pv 1) ae (fun Fc Fc=>rfl)) (ar GOvr (hr.mono (by decide)) rfl hOvr.nm hOvr.fn.kp hOvr.bd .nil ao (pc (mZ hu (pv 0) (au ap (pv 1) ae (fun Fc Fc=>rfl)) (bR ac) ⟨rfl,rfl,rfl,rfl⟩) (pc (au ap (pv 1) ae (fun Fc Fc=>rfl)) (pc (au ap (pv 1) ae (fun Fc Fc=>rfl)) ac)))) rfl))
  (af (aZ (aB bW (au ap (pv 1) ae (fun Fc Fc=>rfl)) a5 (aH _))
  (ad (aA (i:=2) vh.nd rfl (Or.inl rfl) (bX cA (dJ hu (pv 0) (au ap (pv 1) ae (fun Fc Fc=>rfl)) (fun Fc Fc=>rfl)) eG (bJ (au ap (pv 1) ae (fun Fc Fc=>rfl)))))
  (af (cS hu (pv 0) (au ap (pv 1) ae (fun Fc Fc=>rfl)) (ax gf (pv 2) (ax lI (bR (pc ae ac)) (ax c5 (au ap (pv 1) ae (fun Fc Fc=>rfl)) (aF aO rfl T.len PySem.boot_len (pc (pv 2) ac))))) rfl)))
  (af (aZ (aB bW (au ap (pv 1) ae (fun Fc Fc=>rfl)) a5 (aH _))
  (af (cS hu (pv 0) (au ap (pv 1) ae (fun Fc Fc=>rfl)) (ar GOvr (hr.mono (by decide)) rfl hOvr.nm hOvr.fn.kp hOvr.bd .nil ao (pc (dJ hu (pv 0) (au ap (pv 1) ae (fun Fc Fc=>rfl)) (fun Fc Fc=>rfl)) (pc (au ap (pv 1) ae (fun Fc Fc=>rfl)) (pc (ax lI (bR (pc ae ac)) (au ap (pv 1) ae (fun Fc Fc=>rfl))) ac)))) rfl))
  (af (aZ (aB bW (au ap (pv 1) ae (fun Fc Fc=>rfl)) a5 (aH _))
  (ad (aA (i:=2) vh.nd rfl (Or.inl rfl) (bX cA (dJ hu (pv 0) (au ap (pv 1) ae (fun Fc Fc=>rfl)) (fun Fc Fc=>rfl)) (bJ (au ap (pv 1) ae (fun Fc Fc=>rfl))) (bJ (ax a6 (au ap (pv 1) ae (fun Fc Fc=>rfl)) (au ap (pv 1) ae (fun Fc Fc=>rfl))))))
  (af (cS hu (pv 0) (au ap (pv 1) ae (fun Fc Fc=>rfl)) (ar GOvr (hr.mono (by decide)) rfl hOvr.nm hOvr.fn.kp hOvr.bd .nil ao (pc (mZ hu (pv 0) (au ap (pv 1) ae (fun Fc Fc=>rfl)) (bR ac) ⟨rfl,rfl,rfl,rfl⟩) (pc (au ap (pv 1) ae (fun Fc Fc=>rfl)) (pc (pv 2) ac)))) rfl)))
  (af (cS hu (pv 0) (au ap (pv 1) ae (fun Fc Fc=>rfl)) (cn eI rfl T.lst PyProof.Rows.boot_list (pc (dJ hu (pv 0) (au ap (pv 1) ae (fun Fc Fc=>rfl)) (fun Fc Fc=>rfl)) ac)) rfl)))))))))),?_⟩
 obtain⟨kvs,ss,hff,hk,hn,hs,hv⟩:=fa.ex;have lk:kvs.length<=3:=by
  have e1:(kvs.map (·.1)).length=(ss.map (Sum.inr:Str->Key)).length:=by rw[hk]
  rw[List.length_map,List.length_map]at e1;have:=List.Nodup.length_le_of_subset hn fun x hx=>hs x hx;omega
 have fin:∀{H1:Hp} {n:Str} {l:List Int} {p:Addr},aE H H1->n∈ws->k.chg F=F.set n l->H1 p=some (.lst (l.map V.int))->∃a H4,V.ref ff = .ref a/\lO H1 a (.str n) (.ref p) H4/\Q .non H4:=fun {H1 n l p} s1 hn' e hp=>by
  refine⟨ff,_,rfl,lO.k (k:=.inr n) (s1 _ _ hff) (bg (by omega)),q _ (fun r u nr er=>by rw[am nr];exact s1 _ _ er) ?_⟩;rw[e];exact(fa.same s1).put (s1 _ _ hff) hn' hp
 have rd:∀{n:Str} {l:List Int},F n=some l->∃pl,(∀H1,aE H H1->cK H1 ff (.str n) (some (.ref pl)))/\H pl=some (.lst (l.map V.int)):=fun {n l} e=>by
  have:=hv n;rw[e]at this;obtain⟨pl,e1,e2⟩:=this;refine⟨pl,fun H1 s1=>?_,e2⟩;have:=cK.k (k:=.inr n) (s1 _ _ hff);rw[e1]at this;exact this
 have rd2:∀(n:Str) (H1:Hp) (p0:Addr),aE H H1->H1 p0=some (.lst [])->∃o pl,cK H1 ff (.str n) o/\o.getD (.ref p0) = .ref pl/\H1 pl=some (.lst (((F n).getD []).map V.int)):=fun n H1 p0 s1 hp0=>by
  have h1:=cK.k (k:=.inr n) (s1 _ _ hff);have:=hv n;cases e:F n with
  | none =>
   rw[e]at this;have e1:bB kvs (.inr n)=none:=this;rw[e1]at h1;exact⟨none,p0,h1,rfl,hp0⟩
  | some l =>
   rw[e]at this;obtain⟨pl,e1,e2⟩:=this;rw[e1]at h1;exact⟨some (.ref pl),pl,h1,rfl,s1 _ _ e2⟩
 have l40:∀n,((F n).getD []).length<=40:=fun n=>by
  cases e:F n with
  | none=>exact Nat.zero_le _
  | some l=>exact f40 n l e
 cases k with
 | put n a cs =>
  obtain⟨t,pl,rfl,ht,hpl⟩:=ha;refine eR rfl ht ?_;refine⟨_,rfl,ff,rfl,.inl ⟨_,.inl hff⟩,_,rfl,t,_,1,_,rfl,rfl,a8.of ht,rfl,by decide,fun p0 hp0=>?_⟩;have s0:=ah hp0 (HO.lst []);obtain⟨o,p1,h1,h2,h3⟩:=rd2 n _ p0 s0 aa;refine⟨o,h1,_,rfl,t,_,2,_,rfl,rfl,a8.of (s0 _ _ ht),rfl,_,rfl,t,_,3,_,rfl,rfl,a8.of (s0 _ _ ht),rfl,p1,pl,_,cs,a,by rw[h2];rfl,h3,s0 _ _ hpl,by have:=l40 n;omega,by have:=ok.2.2.1;omega,by have:=ok.2.2.1;omega,fun t1 H1 s1 ht1=>?_⟩;have s2:=s0.trans s1;exact⟨_,rfl,_,rfl,t,_,1,_,rfl,rfl,a8.of (s2 _ _ ht),rfl,fin s2 ok.1 rfl ht1⟩
 | trim n z =>
  obtain⟨t,rfl,ht⟩:=ha;obtain⟨hn',z40,xs,hx⟩:=ok;obtain⟨pl,dg,hpl⟩:=rd hx;refine bu rfl ht (by decide +kernel) ?_;refine eR rfl ht ?_;refine⟨_,rfl,_,rfl,t,_,1,_,rfl,rfl,a8.of ht,rfl,ff,_,rfl,dg H (aE.refl H),_,rfl,t,_,2,_,rfl,rfl,a8.of ht,rfl,_,rfl,pl,_,rfl,bh.of hpl,fun p1 hp1=>?_⟩;rw[mf,<- List.map_take];have s1:=ah hp1 (HO.lst ((xs.take z).map V.int));refine⟨_,rfl,(by show 1<=sizeLine;decide),fun p2 hp2=>?_⟩;have s2:=ah hp2 (HO.lst [V.int 0]);have lt:((xs.take z).map V.int).length=min z xs.length:=by rw[List.length_map,List.length_take]
  refine⟨_,rfl,t,_,2,_,rfl,rfl,a8.of (s2 _ _ (s1 _ _ ht)),rfl,_,rfl,p1,_,rfl,.inl (bh.of (s2 _ _ aa)),_,_,rfl,rfl,p2,_,_,rfl,rfl,aa,?_,?_,?_,fun p3 hp3=>?_⟩
  . rw[lt];omega
  . rw[lt];omega
  . rw[lt];exact Nat.le_of_lt (bg (by show 1 * _<=100000;omega))
  rw[lt,zN,show((z:Int) - ((min z xs.length:Nat):Int)).toNat=z - xs.length by omega];have s3:=ah hp3 (HO.lst ((List.replicate (z - xs.length) (0:Int)).map V.int));refine⟨p1,p3,_,_,rfl,rfl,s3 _ _ (s2 _ _ aa),aa,?_,fun p4 hp4=>?_⟩
  . rw[lt,List.length_map,List.length_replicate];exact Nat.le_of_lt (bg (by omega))
  have s4:=((s1.trans s2).trans s3).trans (ah hp4 (HO.lst ((xs.take z).map V.int++(List.replicate (z - xs.length) (0:Int)).map V.int)));refine⟨_,rfl,_,rfl,t,_,1,_,rfl,rfl,a8.of (s4 _ _ ht),rfl,fin (l:=xs.take z++List.replicate (z - xs.length) 0) s4 hn' ?_ ?_⟩
  . show F.set n _=_;rw[hx];rfl
  . rw[aa,List.map_append]
 | hollow n a l =>
  obtain⟨t,rfl,ht⟩:=ha;obtain⟨hn',l1,xs,hx,al⟩:=ok;obtain⟨pl,dg,hpl⟩:=rd hx;have x40:=f40 n xs hx;refine bu rfl ht (by decide +kernel) ?_;refine bu rfl ht (by decide +kernel) ?_;refine eR rfl ht ?_;refine⟨_,rfl,_,rfl,t,_,1,_,rfl,rfl,a8.of ht,rfl,ff,_,rfl,dg H (aE.refl H),_,rfl,t,_,2,_,rfl,rfl,a8.of ht,rfl,(by show 1<=sizeLine;decide),fun p2 hp2=>?_⟩;have s2:=ah hp2 (HO.lst [V.int 0]);refine⟨_,rfl,t,_,3,_,rfl,rfl,a8.of (s2 _ _ ht),rfl,p2,_,_,rfl,rfl,aa,by omega,by omega,Nat.le_of_lt (bg (by show 1 * _<=100000;omega)),fun p3 hp3=>?_⟩;rw[zN,Int.toNat_natCast];have s3:=ah hp3 (HO.lst ((List.replicate l (0:Int)).map V.int));refine⟨pl,p3,xs,_,a,rfl,s3 _ _ (s2 _ _ hpl),aa,by omega,by rw[List.length_replicate];omega,by omega,fun t1 H1 s1 ht1=>?_⟩;have s4:=(s2.trans s3).trans s1;refine⟨_,rfl,_,rfl,t,_,1,_,rfl,rfl,a8.of (s4 _ _ ht),rfl,fin s4 hn' ?_ ht1⟩;show F.set n _=_;rw[hx];rfl
 | share n a l n2 u =>
  obtain⟨t,rfl,ht⟩:=ha;obtain⟨hn',hn2,l1,ul,xs,hx,al⟩:=ok;obtain⟨pl,dg,hpl⟩:=rd hx;have x40:=f40 n xs hx;refine bu rfl ht (by decide +kernel) ?_;refine bu rfl ht (by decide +kernel) ?_;refine bu rfl ht (by decide +kernel) ?_;refine eR rfl ht ?_;refine⟨_,rfl,_,rfl,t,_,1,_,rfl,rfl,a8.of ht,rfl,ff,_,rfl,dg H (aE.refl H),_,rfl,t,_,2,_,rfl,rfl,a8.of ht,rfl,_,rfl,_,rfl,t,_,2,_,rfl,rfl,a8.of ht,rfl,_,rfl,t,_,3,_,rfl,rfl,a8.of ht,rfl,_,_,rfl,rfl,_,rfl,pl,_,rfl,bh.of hpl,fun p1 hp1=>?_⟩;rw[vg _ _ _ (by rw[List.length_map];exact al),<- List.map_drop,<- List.map_take];have s1:=ah hp1 (HO.lst (((xs.drop a).take l).map V.int));refine⟨_,rfl,ff,rfl,.inl ⟨_,.inl (s1 _ _ hff)⟩,_,rfl,t,_,4,_,rfl,rfl,a8.of (s1 _ _ ht),rfl,by decide,fun p0 hp0=>?_⟩;have s0:=ah hp0 (HO.lst []);obtain⟨o,p5,h1,h2,h3⟩:=rd2 n2 _ p0 (s1.trans s0) aa;refine⟨o,h1,_,rfl,t,_,5,_,rfl,rfl,a8.of (s0 _ _ (s1 _ _ ht)),rfl,_,rfl,p5,p1,_,(xs.drop a).take l,u,by rw[h2];rfl,h3,s0 _ _ aa,by have:=l40 n2;omega,by rw[List.length_take];omega,by omega,fun t1 H1 s2 ht1=>?_⟩;have s4:=(s1.trans s0).trans s2;refine⟨_,rfl,_,rfl,t,_,4,_,rfl,rfl,a8.of (s4 _ _ ht),rfl,fin s4 hn2 ?_ ht1⟩;show F.set n2 _=_;rw[hx];rfl
 | twin n n2 =>
  obtain⟨t,rfl,ht⟩:=ha;obtain⟨hn',hn2,⟨xs,hx⟩,_⟩:=ok;obtain⟨pl,dg,hpl⟩:=rd hx;refine bu rfl ht (by decide +kernel) ?_;refine bu rfl ht (by decide +kernel) ?_;refine bu rfl ht (by decide +kernel) ?_;refine bu rfl ht (by decide +kernel) ?_;refine⟨_,rfl,_,rfl,t,_,1,_,rfl,rfl,a8.of ht,rfl,ff,_,rfl,dg H (aE.refl H),pl,_,rfl,.inl (bh.of hpl),fun p1 hp1=>?_⟩;have s1:=ah hp1 (HO.lst (xs.map V.int));refine⟨_,rfl,_,rfl,t,_,2,_,rfl,rfl,a8.of (s1 _ _ ht),rfl,fin (l:=xs) s1 hn2 ?_ aa⟩;show F.set n2 _=_;rw[hx];rfl
end
def Ks (kvs:List (Key×V))(ks:List Int)(S:Int->Prop):Prop:=kvs.map (·.1)=ks.map Sum.inl/\ks.Nodup/\∀x,x∈ks↔S x
theorem Ks.put {kvs:List (Key×V)}{ks:List Int}{S:Int->Prop}(h:Ks kvs ks S)(x:Int)(v:V):∃ks',Ks (c7 kvs (.inl x) v) ks' (fun z=>S z\/z=x):=by
 obtain⟨h1,h2,h3⟩:=h;cases e:bB kvs (.inl x)with
 | some u =>
  refine⟨ks,(oF e).trans h1,h2,fun z=>?_⟩;have hx:x∈ks:=by
   have:=iP e;rw[h1]at this;obtain⟨y,hy,ey⟩:=List.mem_map.mp this;injection ey with ey;rw[<- ey];exact hy
  exact⟨fun hz=>.inl ((h3 z).mp hz),fun hz=>hz.elim (h3 z).mpr fun e=>by rw[e];exact hx⟩
 | none =>
  have hx:x ∉ ks:=fun hx=>by
   have:(Sum.inl x:Key)∈kvs.map (·.1):=by rw[h1];exact List.mem_map.mpr ⟨x,hx,rfl⟩
   obtain⟨kv,hm,he⟩:=List.mem_map.mp this;unfold bB at e;rw[Option.map_eq_none_iff,List.find?_eq_none]at e;exact e kv hm (decide_eq_true he)
  refine⟨ks++[x],?_,?_,fun z=>?_⟩
  . rw[i3 e,List.map_append,h1,List.map_append];rfl
  . refine List.nodup_append.mpr ⟨h2,by simp,fun a ha b hb=>?_⟩;rw[List.mem_singleton.mp hb];exact fun z=>hx (z ▸ ha)
  . rw[List.mem_append,List.mem_singleton,h3]
theorem Ks.len {kvs:List (Key×V)}{ks:List Int}{S:Int->Prop}(h:Ks kvs ks S):kvs.length=ks.length:=by
 have:=congrArg List.length h.1
 rwa [List.length_map,List.length_map]at this
theorem Ks.le {kvs:List (Key×V)}{ks:List Int}{S:Int->Prop}(h:Ks kvs ks S){l:List Int}(hl:∀x,S x->x∈l):kvs.length<=l.length:=by
 rw[h.len];exact List.Nodup.length_le_of_subset h.2.1 fun x hx=>hl x ((h.2.2 x).mp hx)
theorem Ks.congr {kvs:List (Key×V)}{ks:List Int}{S S':Int->Prop}(h:Ks kvs ks S)(e:∀x,S x↔S' x):Ks kvs ks S':=⟨h.1,h.2.1,fun x=>(h.2.2 x).trans (e x)⟩
theorem vi {D:DS}{es:List Ent}(h:∀y∈es,(vc (D.view y.2.2)).length<=40):(D.pl es).length<=40 * es.length:=by
 unfold DS.pl
 induction es with
 | nil=>exact Nat.zero_le _
 | cons y t ih =>
  rw[List.flatMap_cons,List.length_append,List.length_cons];have:=h y (List.mem_cons_self ..);have:=ih fun z hz=>h z (List.mem_cons_of_mem _ hz);omega
section
variable {P:Program}{w:World}{K:W.Frag}{mg:Str->Option Value}{base:Heap}{f fEvi fDSt fFSt fCSt:Addr}{fd dEvi dDSt dFSt dCSt:FuncData}{c:Cl}{PS PP:Addr}
def vj (c:Cl):Sp:=fun vs H Q Fc=>∃d lk fr D b m es,vs=[.ref d]/\dF c H d lk fr D/\D.view D.root = .fol b m es/\es.length<=7/\(∀y∈es,∃s r,D.view y.2.2 = .fil 5 s r/\r.length<=40) /\
 ∀p H' kvs ks,aE H H'->H p=none->H' p=some (.dK kvs)->Ks kvs ks (fun x=>x∈D.pl es)->Q (.ref p) H'
theorem k6:aq ["_law_deed","_law_data_here","_law_name","_law_kind","_law_place","_law_stretch"] Es (ai uL):=⟨rfl,rfl,rfl,by decide +kernel,rfl,by decide +kernel,by decide +kernel⟩
theorem zP (F:bN K "_law_data" "_law_data" uL f fd)(cf:CF K mg c)(hEvi:aU K c.DE "view" "Deed.view" fC DD fEvi dEvi)(GEvi:aj P w K mg base ay 6 fEvi dEvi DD (dC c))
 (hDSt:aU K c.KD "stuff" "FolderKnot.stuff" uB DB fDSt dDSt) (GDSt:aj P w K mg base ay 1 fDSt dDSt DB (iK c uU)) (hFSt:aU K c.KF "stuff" "FileKnot.stuff" uA DB fFSt dFSt) (GFSt:aj P w K mg base ay 1 fFSt dFSt DB (iK c uT)) (T:Txt mg):aj P w K mg base ay 7 f fd Es (vj c):=by
 refine F.ok k6 (fun vs H Q E h=>?_) (fun cdv A outer s H vs Q E hr h=>?_)
 . obtain⟨d,lk,fr,D,b,m,es,rfl,_⟩:=h;rfl
 obtain⟨d,lk,fr,D,b,m,es,rfl,de,rt,l7,hfl,q⟩:=h;have hu:(A.deeper (PyProof.Rows.envOfC "_law_data" (ai uL) s.heap.objs.size f cdv)).units+1 < cLine:=dU hr;refine⟨_,(ad (aA (i:=1) k6.nd rfl (Or.inl rfl) fu)
  (ad (ck PassesOwn.never rfl (c8 (au ap (cw (aD (pv 0) cf.clE hEvi.me GEvi (hr.mono (by decide)) hEvi.bd .nil ao (pc (a7 (pv 0) rfl) ac)) cf.clD hDSt.me GDSt (hr.mono (by decide)) hDSt.bd .nil ao) ae (fun Fc Fc=>rfl))) (dN rfl (aR (aJ (i:=2) k6.nd rfl (Or.inl rfl)) (aR (aJ (i:=3) k6.nd rfl (Or.inl rfl)) (aR (aJ (i:=4) k6.nd rfl (Or.inl rfl)) cP))))
  (af (ck PassesOwn.never rfl (c8 (au ap (cw (aD (pv 0) cf.clE hEvi.me GEvi (hr.mono (by decide)) hEvi.bd .nil ao (pc (pv 4) ac)) cf.clF hFSt.me GFSt (hr.mono (by decide)) hFSt.bd .nil ao) ae (fun Fc Fc=>rfl))) (aJ (i:=5) k6.nd rfl (Or.inl rfl))
  (af (cS hu (pv 1) (au ap (pv 5) ae (fun Fc Fc=>rfl)) fY rfl)))))
  (af (aw (pv 1))))),?_⟩
 refine fun p hp=>?_;have s0:=ah hp (HO.dK []);have e0:aL H p (HO.dK []) p=some (HO.dK []):=aa;revert s0 e0;generalize aL H p (HO.dK [])=H0;intro s0 e0;obtain⟨dx,hd⟩:=(de.mono s0).at_;refine⟨_,rfl,d,dx,_,rfl,hd,rfl,_,rfl,d,c.DE,dx,_,_,rfl,hd,cf.clE,cf.rE,rfl,d,lk,fr,D,_,rfl,de.mono s0,fun z H1 s1 kn=>?_⟩;rw[rt]at kn;have kn0:=kn;obtain⟨pk,dk,vk,rfl,ek,hvk⟩:=kn;refine⟨pk,dk,_,rfl,ek,rfl,_,_,rfl,kn0,⟨_,_,_,rfl⟩,fun t H2 s2 ht=>?_⟩;obtain⟨ta,tvs,rfl,eta,kta⟩:=At.tup ht;obtain⟨v3,h3,a3⟩:=kta.at (i:=3) rfl;obtain⟨ea,evs,rfl,eea,kea⟩:=At.tup a3;refine⟨ta,_,3,_,rfl,rfl,a8.of eta,aP h3,?_⟩;have lev:evs.length=es.length:=by
  have:=kea.len;rw[List.length_map]at this;exact this
 have sH2:aE H H2:=(s0.trans s1).trans s2;refine⟨ea,true,rfl,⟨_,Sq.of eea⟩,?_⟩;refine eK (K:=K) (tu:=true) (a:=ea) (xs:=evs) (fun i σ H3=>∃o2 o3 o4 o5 kvs ks,σ=[some (.ref d),some (.ref p),o2,o3,o4,o5]/\aE H H3/\(∀q u,H2 q=some (.tup u)->H3 q=some (.tup u))/\H3 p=some (.dK kvs)/\Ks kvs ks (fun x=>x∈D.pl (es.take i))) ⟨none,none,none,none,[],[],rfl,sH2,fun q u e=>e,s2 _ _ (s1 _ _ e0),rfl,by simp,fun x=>by rw[List.take_zero];exact⟨fun z=>(by cases z),fun z=>(by cases z)⟩⟩ (fun i σ H3 _ h3'=>?_) ?_ ?_
 . obtain⟨_,_,_,_,_,_,_,_,tp,_⟩:=h3';exact Sq.of (tp _ _ eea)
 . intro i v σ H3 hi pvh;refine fX fun Nh th=>?_;obtain⟨o2,o3,o4,o5,kvs,ks,rfl,s3,tp,e3,hks⟩:=pvh;refine th ?_;clear th Nh;obtain⟨t,ht',hat⟩:=kea.get hi;rw[List.getElem?_map]at ht';obtain⟨y,hy,rfl⟩:=Option.map_eq_some_iff.mp ht';obtain⟨bb,c1,c2,c3,rfl,eb,rfl,rfl,rfl⟩:=jC hat;have my:=List.mem_of_getElem? hy;have hil:i < es.length:=(List.getElem?_eq_some_iff.mp hy).1;obtain⟨sz,r,hvr,lr⟩:=hfl y my;refine⟨bb,_,rfl,a8.of (tp _ _ eb),rfl,_,_,rfl,_,_,rfl,_,_,rfl,rfl,?_⟩;refine cY fun D' tD=>?_;have de3:=de.mono s3;obtain⟨dx3,hd3⟩:=de3.at_;refine⟨_,rfl,d,dx3,_,rfl,hd3,rfl,_,rfl,d,lk,fr,D,_,rfl,de3,fun z H4 s4 kn4=>?_⟩;rw[hvr]at kn4;have kn40:=kn4;obtain⟨pk4,dk4,vk4,rfl,ek4,hvk4⟩:=kn4;refine⟨pk4,dk4,_,rfl,ek4,rfl,_,_,rfl,kn40,⟨_,_,_,rfl⟩,fun t5 H5 s5 ht5=>?_⟩;obtain⟨ta5,tvs5,rfl,eta5,kta5⟩:=At.tup ht5;obtain⟨w3,hw3,aw3⟩:=kta5.at (i:=3) rfl;obtain⟨ra,rvs,rfl,era,kra⟩:=At.tup aw3;refine⟨ta5,_,3,_,rfl,rfl,a8.of eta5,aP hw3,?_⟩;have lrv:rvs.length=r.length:=by
    have:=kra.len;rw[List.length_map]at this;exact this
   have e5:=s5 _ _ (s4 _ _ e3);refine⟨ra,true,rfl,⟨_,Sq.of era⟩,?_⟩;refine eK (K:=K) (tu:=true) (a:=ra) (xs:=rvs) (fun j σ H6=>∃o5 kvs ks,σ=[some (.ref d),some (.ref p),some (.str y.1),some (.str y.2.1),some (.int y.2.2),o5]/\aE H H6/\(∀q u,H5 q=some (.tup u)->H6 q=some (.tup u))/\H6 p=some (.dK kvs)/\Ks kvs ks (fun x=>x∈D.pl (es.take i)\/x∈(r.take j).map (·.2.2.1))) ⟨_,kvs,ks,rfl,(s3.trans s4).trans s5,fun q u e=>e,e5,hks.congr fun x=>?_⟩ (fun j σ H6 _ h6=>?_) ?_ ?_
   . rw[List.take_zero];exact⟨fun z=>.inl z,fun z=>z.elim id fun z=>by cases z⟩
   . obtain⟨_,_,_,_,_,tp6,_⟩:=h6;exact Sq.of (tp6 _ _ era)
   . intro j v6 σ H6 hj pvh;refine fX fun Nh th=>?_;obtain⟨o6,kvs6,ks6,rfl,s6,tp6,e6,hks6⟩:=pvh;refine th ?_;clear th Nh;obtain⟨t6,ht6,hat6⟩:=kra.get hj;rw[List.getElem?_map]at ht6;obtain⟨x4,hx4,rfl⟩:=Option.map_eq_some_iff.mp ht6;obtain⟨b6,rfl,eb6⟩:=uQ hat6;refine lN ?_;dsimp only;refine cY fun D6 t6=>?_;obtain⟨ks7,hks7⟩:=hks6.put x4.2.2.1 (V.bl true);have l6:kvs6.length<=400:=by
      have:=hks6.le (l:=D.pl es++vc (D.view y.2.2)) fun x hx=>by
       rcases hx with hx|hx
       . refine List.mem_append_left _ ?_;obtain⟨y',hy',hp'⟩:=List.mem_flatMap.mp hx;exact List.mem_flatMap.mpr ⟨y',List.mem_of_mem_take hy',hp'⟩
       . refine List.mem_append_right _ ?_;rw[hvr];obtain⟨r',hr',e'⟩:=List.mem_map.mp hx;exact List.mem_map.mpr ⟨r',List.mem_of_mem_take hr',e'⟩
      have l1:(D.pl es).length<=40 * es.length:=vi fun y' hy'=>by
       obtain⟨_,r',e',l'⟩:=hfl y' hy';rw[e'];show(r'.map _).length<=40;rw[List.length_map];exact l'
      have l2:(vc (D.view y.2.2)).length<=40:=by
       rw[hvr];show(r.map _).length<=40;rw[List.length_map];exact lr
      rw[List.length_append]at this;omega
     refine⟨_,rfl,_,rfl,b6,_,2,_,rfl,rfl,a8.of (tp6 _ _ eb6),rfl,p,_,rfl,lO.k (k:=.inl x4.2.2.1) e6 (bg (by omega)),?_⟩;refine t6 _ _ ?_;refine⟨_,_,ks7,rfl,ba s6 hp _,fun q u e=>?_,aa,hks7.congr fun x=>?_⟩
     . rw[am (fun z=>by have:=tp6 _ _ e;rw[z,e6]at this;cases this)];exact tp6 _ _ e
     . rw[cp hx4,List.map_append,List.mem_append];show(_\/_)\/_↔_\/_\/x∈[x4.2.2.1];rw[List.mem_singleton,or_assoc]
   . intro σ H6 pvh;refine fX fun Nh th=>?_;obtain⟨o6,kvs6,ks6,rfl,s6,tp6,e6,hks6⟩:=pvh;refine th ?_;clear th Nh;refine tD _ _ ?_;refine⟨_,_,_,_,kvs6,ks6,rfl,s6,fun q u e=>tp6 _ _ (s5 _ _ (s4 _ _ (tp _ _ e))),e6,hks6.congr fun x=>?_⟩;rw[lrv,List.take_length,cp hy];unfold DS.pl;rw[List.flatMap_append,List.mem_append,List.flatMap_cons,List.flatMap_nil,List.append_nil,hvr];exact Iff.rfl
 . intro σ H3 pvh;refine fX fun Nh th=>?_;obtain⟨o2,o3,o4,o5,kvs,ks,rfl,s3,tp,e3,hks⟩:=pvh;refine th ?_;clear th Nh;rw[lev,List.take_length]at hks;exact⟨_,rfl,q p H3 kvs ks s3 hp e3 hks⟩
end
theorem jJ {H:Hp}:∀{l:List Int} {vs:List V},bi H (l.map Tr.int) vs->vs=l.map V.int
 | [],[],_=>rfl
 | [],_ :: _,h=>by unfold bi at h;cases h
 | x :: l,[],h=>by have:=h.len;simp at this
 | x :: l,v :: vs,h=>by
  obtain⟨_,e,a⟩:=h.at (i:=0) rfl;cases e;have e1:v = .int x:=by unfold At at a;exact a
  have h2:bi H (l.map Tr.int) vs:=by
   rw[List.map_cons]at h;unfold bi at h;obtain⟨_,_,hh,_,h2⟩:=h;cases hh;exact h2
  rw[e1,jJ h2];rfl
theorem vm {rs:List S4}:∀{lo hi:Int} {j:Nat} {a b:S4},bV lo rs hi->rs[j]? = some a->rs[j+1]? = some b->a.1+a.2.1<=b.1:=by
 induction rs with
 | nil=>intro lo hi j a b o ha;cases ha
 | cons r t ih =>
  intro lo hi j a b o ha hb;rw[List.getElem?_cons_succ]at hb;cases j with
  | zero =>
   rw[List.getElem?_cons_zero]at ha;cases ha;exact(o.2.2.mem (List.mem_of_getElem? hb)).1
  | succ j =>
   rw[List.getElem?_cons_succ]at ha;exact ih o.2.2 ha hb
def qa (r:List S4)(i:Nat)(z:S4):Prop:=(i=0/\z=(0,0,0,0))\/∃j,i=j+1/\r[j]? = some z
theorem qa.ok {pc:Int->List Int}{N:Nat}{x:Fl}(h:FI pc N x){i:Nat}{z y:S4}(hz:qa x.2.1 i z)(hy:x.2.1[i]? = some y):z.1+z.2.1<=y.1/\¬ (y.1=z.1+z.2.1/\y.2.2.1=z.2.2.1/\y.2.2.2=z.2.2.2+z.2.1):=by
 have my:=List.mem_of_getElem? hy;have g:=h.good my;have b:=h.ord.mem my;rcases hz with⟨rfl,rfl⟩|⟨j,rfl,hj⟩
 . simp only;omega
 . refine⟨vm h.ord hj hy,fun c=>?_⟩;have:=jA h.ord h.ng z (List.mem_of_getElem? hj) y my;have g2:bM z y=true:=goOn_iff.mpr ⟨by omega,by omega,by omega⟩;rw[g2]at this;cases this
theorem vn {D:DS}{p:Int}(h:0 < (D.pc p).length):∃b,D.view p = .cel b (D.pc p):=by
 unfold DS.pc at h ⊢;cases e:D.view p with
 | cel b cs=>exact⟨b,rfl⟩
 | fil b s r=>rw[e]at h;exact absurd h (Nat.lt_irrefl _)
 | fol b m es=>rw[e]at h;exact absurd h (Nat.lt_irrefl _)
section
variable {P:Program}{w:World}{K:W.Frag}{mg:Str->Option Value}{base:Heap}{f fEvi fDSt fFSt fCSt:Addr}{fd dEvi dDSt dFSt dCSt:FuncData}{c:Cl}{PS PP:Addr}
def vo (c:Cl):Sp:=fun vs H Q Fc=>∃fl d lk fr D p s r os,vs=[.ref fl,.int p]/\gj "view" H fl d/\dF c H d lk fr D/\fb D p s r os/\∀q H',aE H H'->H' q=some (.lst ((D.vals os).map V.int))->Q (.ref q) H'
theorem fJ:aq ["_law_view","_law_place","_law_stuff","_law_cells_here","_law_last","_law_at_here","_law_long","_law_piece","_law_skip","_law_data_here","_law_k"] Et (ai wF):=⟨rfl,rfl,rfl,by decide +kernel,rfl,by decide +kernel,by decide +kernel⟩
theorem zQ (F:bN K "_law_cells" "_law_cells" wF f fd)(cf:CF K mg c)(hEvi:aU K c.DE "view" "Deed.view" fC DD fEvi dEvi)(GEvi:aj P w K mg base ay 6 fEvi dEvi DD (dC c))
 (hCSt:aU K c.KC "stuff" "CellsKnot.stuff" uz DB fCSt dCSt) (GCSt:aj P w K mg base ay 1 fCSt dCSt DB (iK c sU)) (hFSt:aU K c.KF "stuff" "FileKnot.stuff" uA DB fFSt dFSt) (GFSt:aj P w K mg base ay 1 fFSt dFSt DB (iK c uT)) (T:Txt mg):aj P w K mg base ay 8 f fd Et (vo c):=by
 refine F.ok fJ (fun vs H Q E h=>?_) (fun cdv A outer s H vs Q E hr h=>?_)
 . obtain⟨fl,d,lk,fr,D,p,sz,r,os,rfl,_⟩:=h;rfl
 obtain⟨fl,d,lk,fr,D,p,sz,r,os,rfl,vw,de,fo,q⟩:=h;refine⟨_,(ad (aA (i:=2) fJ.nd rfl (Or.inl rfl) (cw (lZ (i:=0) GEvi hEvi.bd cf.clE hEvi.me (hr.mono (by decide)) (pv 0) (pv 1)) cf.clF hFSt.me GFSt (hr.mono (by decide)) hFSt.bd .nil ao))
  (ad (aA (i:=3) fJ.nd rfl (Or.inl rfl) (ax lI (bR (pc ae ac)) (au ap (pv 2) ae (fun Fc Fc=>rfl))))
  (ad (aA (i:=4) fJ.nd rfl (Or.inl rfl) (bq (pc ae (pc ae (pc ae (pc ae ac))))))
  (ad (ck PassesOwn.never rfl (c8 (au ap (pv 2) ae (fun Fc Fc=>rfl))) (dN rfl (aR (aJ (i:=5) fJ.nd rfl (Or.inl rfl)) (aR (aJ (i:=6) fJ.nd rfl (Or.inl rfl)) (aR (aJ (i:=7) fJ.nd rfl (Or.inl rfl)) (aR (aJ (i:=8) fJ.nd rfl (Or.inl rfl)) cP)))))
  (ad (aA (i:=9) fJ.nd rfl (Or.inl rfl) (cw (lZ (i:=0) GEvi hEvi.bd cf.clE hEvi.me (hr.mono (by decide)) (pv 0) (pv 7)) cf.clC hCSt.me GCSt (hr.mono (by decide)) hCSt.bd .nil ao))
  (ad (aZ (PW.pt (dG (aB gx (au ap (pv 9) ae (fun Fc Fc=>rfl)) a5 (aH _)) (dG (aB jY (pv 5) (ax a6 (au ap (pv 4) ae (fun Fc Fc=>rfl)) (au ap (pv 4) ae (fun Fc Fc=>rfl))) (aH _)) (dG (aB mM (ax a6 (pv 5) (pv 6)) (aF aO rfl T.len PySem.boot_len (pc (pv 3) ac)) (aH _)) (cZ (aB mM (ax a6 (pv 8) (pv 6)) (aF aO rfl T.len PySem.boot_len (pc (au ap (pv 9) ae (fun Fc Fc=>rfl)) ac)) (aH _)))))))
  (af (aw ej))
  aM)
  (ad (aZ (PW.pt (fh (aB bW (pv 5) (ax a6 (au ap (pv 4) ae (fun Fc Fc=>rfl)) (au ap (pv 4) ae (fun Fc Fc=>rfl))) (aH _)) (fh (aB bW (pv 7) (au ap (pv 4) ae (fun Fc Fc=>rfl)) (aH _)) (eB (aB bW (pv 8) (ax a6 (au ap (pv 4) ae (fun Fc Fc=>rfl)) (au ap (pv 4) ae (fun Fc Fc=>rfl))) (aH _))))))
  (af (aw ej))
  aM)
  (ad (ck PassesOwn.never rfl (dQ rfl T.rng (pc (pv 6) ac)) (aJ (i:=10) fJ.nd rfl (Or.inl rfl))
  (af (ld (au ap (au ap (pv 9) ae (fun Fc Fc=>rfl)) (ax a6 (pv 8) (pv 10)) (fun Fc Fc=>rfl)) (sX (pv 3) (ax a6 (pv 5) (pv 10)) mU))))
  (af (aA (i:=4) fJ.nd rfl (Or.inl rfl) (bq (pc (pv 5) (pc (pv 6) (pc (pv 7) (pc (pv 8) ac))))))))))))
  (af (aw (pv 3))))))),?_⟩
 have fi:=fo.fi;have n40:sz<=40:=fi.n40;obtain⟨dx,hd⟩:=de.at_;refine⟨fl,rfl,⟨d,vw⟩,_,rfl,d,dx,_,vw,hd,rfl,d,lk,fr,D,_,rfl,de,fun z H1 s1 kn=>?_⟩;rw[fo.vw]at kn;have kn0:=kn;obtain⟨pk,dk,vk,rfl,ek,hvk⟩:=kn;refine⟨pk,dk,_,rfl,ek,rfl,_,_,rfl,kn0,⟨_,_,_,rfl⟩,fun t H2 s2 ht=>?_⟩;obtain⟨ta,tvs,rfl,eta,kta⟩:=At.tup ht;obtain⟨v2,hv2,a2⟩:=kta.at (i:=2) rfl;have ev2:v2 = .int (sz:Int):=by unfold At at a2;exact a2
 subst ev2;obtain⟨v3,h3,a3⟩:=kta.at (i:=3) rfl;obtain⟨ra,rvs,rfl,era,kra⟩:=At.tup a3;have lrv:rvs.length=r.length:=by
  have:=kra.len;rw[List.length_map]at this;exact this
 refine⟨(by show 1<=sizeLine;decide),fun p0 hp0=>?_⟩;have s3:=ah hp0 (HO.lst [V.int 0]);refine⟨_,rfl,ta,_,2,_,rfl,rfl,a8.of (s3 _ _ eta),aP hv2,p0,_,_,rfl,rfl,aa,by omega,by omega,Nat.le_of_lt (bg (by show 1 * _<=100000;omega)),fun cl hcl=>?_⟩;rw[zN,Int.toNat_natCast];have s4:=ah hcl (HO.lst ((List.replicate sz (0:Int)).map V.int));refine⟨(by show 4<=sizeLine;decide),fun la hla=>?_⟩;have s5:=ah hla (HO.tup [V.int 0,V.int 0,V.int 0,V.int 0]);have sA:aE H2 _:=(s3.trans s4).trans s5;have ecl:=s5 _ _ (show aL _ cl (HO.lst ((List.replicate sz (0:Int)).map V.int)) cl=some _ from aa);have ela:aL (aL (aL H2 p0 (HO.lst [V.int 0])) cl (HO.lst ((List.replicate sz (0:Int)).map V.int))) la (HO.tup [V.int 0,V.int 0,V.int 0,V.int 0]) la=some (HO.tup (tv (0,0,0,0))):=aa;have clH:H cl=none:=by
  cases e:H cl with
  | none=>rfl
  | some o=>rw[s3 _ _ (s2 _ _ (s1 _ _ e))]at hcl;cases hcl
 revert sA ecl ela;generalize aL (aL (aL H2 p0 (HO.lst [V.int 0])) cl (HO.lst ((List.replicate sz (0:Int)).map V.int))) la (HO.tup [V.int 0,V.int 0,V.int 0,V.int 0])=H5;intro sA ecl ela;have sB:aE H H5:=(s1.trans s2).trans sA;refine⟨_,rfl,ta,_,3,_,rfl,rfl,a8.of (sA _ _ eta),aP h3,ra,true,rfl,⟨_,Sq.of (sA _ _ era)⟩,?_⟩;refine eK (K:=K) (tu:=true) (a:=ra) (xs:=rvs) (fun i σ H6=>∃la z o5 o6 o7 o8 o9 o10,σ=[some (.ref fl),some (.int p),some (.ref ta),some (.ref cl),some (.ref la),o5,o6,o7,o8,o9,o10]/\aE H H6/\(∀q u,q≠cl->H5 q=some u->H6 q=some u)/\H6 cl=some (.lst ((b9 D.pc (r.take i) sz).map V.int))/\H6 la=some (.tup (tv z))/\qa r i z) ⟨la,(0,0,0,0),none,none,none,none,none,none,rfl,sB,fun q u Fc e=>e,by rw[List.take_zero,pR];exact ecl,ela,.inl ⟨rfl,rfl⟩⟩ (fun i σ H6 _ h6=>?_) ?_ ?_
 . obtain⟨_,_,_,_,_,_,_,_,_,_,kk,_⟩:=h6;have:=sA _ _ era;exact Sq.of (kk _ _ (fun z=>by rw[z,ecl]at this;cases this) this)
 . intro i v σ H6 hi pvh;refine fX fun Nh th=>?_;obtain⟨la,z,o5,o6,o7,o8,o9,o10,rfl,s6,kk,e6,hla6,lo⟩:=pvh;refine th ?_;clear th Nh;obtain⟨t,ht',hat⟩:=kra.get hi;rw[List.getElem?_map]at ht';obtain⟨y,hy,rfl⟩:=Option.map_eq_some_iff.mp ht';obtain⟨bb,rfl,eb⟩:=uQ hat;have my:=List.mem_of_getElem? hy;have gd:=fi.good my;have om:=fi.ord.mem my;dsimp only at gd om;obtain⟨l1,l2⟩:=lo.ok fi hy;have tup6:∀q u,H5 q=some (.tup u)->H6 q=some (.tup u):=fun q u e=>kk _ _ (fun z=>by rw[z,ecl]at e;cases e) e;obtain⟨cb,hcv⟩:=vn (D:=D) (p:=y.2.2.1) (by omega);refine⟨bb,_,rfl,a8.of (tup6 _ _ (sA _ _ eb)),rfl,_,_,rfl,_,_,rfl,_,_,rfl,_,_,rfl,rfl,?_⟩;refine cY fun D' tD=>?_;refine aK fun N tl=>?_;have de6:=de.mono s6;obtain⟨dx6,hd6⟩:=de6.at_;refine⟨fl,rfl,⟨d,vw.mono s6⟩,_,rfl,d,dx6,_,vw.mono s6,hd6,rfl,d,lk,fr,D,_,rfl,de6,fun z7 H7 s7 kn7=>?_⟩;rw[hcv]at kn7;have kn70:=kn7;obtain⟨pk7,dk7,vk7,rfl,ek7,hvk7⟩:=kn7;refine⟨pk7,dk7,_,rfl,ek7,rfl,_,_,rfl,kn70,⟨_,_,rfl⟩,fun t8 H8 s8 ht8=>?_⟩;obtain⟨t9,vs9,rfl,et9,kt9⟩:=At.tup ht8;refine tl _ _ ?_;clear tl N;obtain⟨w0,hw0,aw0⟩:=kt9.at (i:=0) rfl;have ew0:w0 = .str (Str.ofString "cells"):=by unfold At at aw0;exact aw0
   subst ew0;obtain⟨w2,hw2,aw2⟩:=kt9.at (i:=2) rfl;obtain⟨dc,dvs,rfl,edc,kdc⟩:=At.tup aw2;have edv:=jJ kdc;subst edv;have sC:=s7.trans s8;have hla8:=sC _ _ hla6;have e8:=sC _ _ e6;have lcl:((b9 D.pc (r.take i) sz).map V.int).length=sz:=by rw[List.length_map,jy]
   have ldc:((D.pc y.2.2.1).map V.int).length=(D.pc y.2.2.1).length:=List.length_map _;refine aK fun N tl=>?_;refine⟨_,rfl,t9,_,0,_,rfl,rfl,a8.of et9,aP hw0,rfl,_,rfl,br ?_⟩;refine⟨_,rfl,_,rfl,la,_,0,_,rfl,rfl,a8.of hla8,rfl,_,rfl,la,_,1,_,rfl,rfl,a8.of hla8,rfl,_,_,rfl,rfl,_,_,rfl,rfl,_,rfl,?_⟩;rw[decide_eq_false (show ¬ y.1 < z.1+z.2.1 by omega)];refine br ⟨_,rfl,_,rfl,_,_,rfl,rfl,_,rfl,cl,_,rfl,.inl (bh.of e8),_,_,rfl,rfl,_,rfl,?_⟩;rw[lcl,decide_eq_false (show ¬ ((sz:Nat):Int) < y.1+y.2.1 by omega)];refine br ⟨_,rfl,_,rfl,_,_,rfl,rfl,_,rfl,t9,_,2,_,rfl,rfl,a8.of et9,aP hw2,dc,_,rfl,.inr (a8.of edc),_,_,rfl,rfl,_,rfl,?_⟩;rw[ldc,decide_eq_false (show ¬ (((D.pc y.2.2.1).length:Nat):Int) < y.2.2.2+y.2.1 by omega)];refine br (tl _ _ ?_);clear tl N;refine aK fun N tl=>?_;have fin:N [some (.ref fl),some (.int p),some (.ref ta),some (.ref cl),some (.ref la),some (.int y.1),some (.int y.2.1),some (.int y.2.2.1),some (.int y.2.2.2),some (.ref t9),o10] H8:=tl _ _ ?rest;clear tl
   case' rest=>clear N tl
   rotate_left
   . refine⟨_,rfl,_,rfl,la,_,0,_,rfl,rfl,a8.of hla8,rfl,_,rfl,la,_,1,_,rfl,rfl,a8.of hla8,rfl,_,_,rfl,rfl,rfl,_,rfl,?_⟩;refine dl (fun q1=>⟨_,rfl,_,rfl,la,_,2,_,rfl,rfl,a8.of hla8,rfl,rfl,_,rfl,dl (fun q2=>⟨_,rfl,_,rfl,la,_,3,_,rfl,rfl,a8.of hla8,rfl,_,rfl,la,_,1,_,rfl,rfl,a8.of hla8,rfl,_,_,rfl,rfl,rfl,_,rfl,dl (fun q3=>absurd ⟨?_,?_,?_⟩ l2) (fun Fc=>fin)⟩) (fun Fc=>br fin)⟩) (fun Fc=>br fin)
     . have:=of_decide_eq_true q1;injection this
     . have:=of_decide_eq_true q2;injection this
     . have:=of_decide_eq_true q3;injection this
   . refine aK fun N tl=>?_;refine⟨_,rfl,y.2.1,rfl,by omega,by omega,?_⟩;refine gT (lo:=0) (n:=y.2.1.toNat) (fun j σ H9=>∃o10,σ=[some (.ref fl),some (.int p),some (.ref ta),some (.ref cl),some (.ref la),some (.int y.1),some (.int y.2.1),some (.int y.2.2.1),some (.int y.2.2.2),some (.ref t9),o10]/\aE H H9/\(∀q u,q≠cl->H8 q=some u->H9 q=some u)/\H9 cl=some (.lst ((b9 D.pc (r.take i++[(y.1,(j:Int),y.2.2.1,y.2.2.2)]) sz).map V.int))) ⟨_,rfl,s6.trans sC,fun q u Fc e=>e,by rw[nX];exact e8⟩ ?_ ?_
     . intro j σ H9 hj pvh;refine fX fun Nh th=>?_;obtain⟨o10',rfl,s9,kk9,e9⟩:=pvh;refine th ?_;clear th Nh;have hj':j < y.2.1.toNat:=hj;have z0:(0:Int)+(j:Int)=(j:Int):=by omega
       have tup9:∀q u,H8 q=some (.tup u)->H9 q=some (.tup u):=fun q u e=>kk9 _ _ (fun z=>by rw[z,e8]at e;cases e) e;obtain⟨v,hv⟩:∃v,(D.pc y.2.2.1)[(y.2.2.2+(j:Int)).toNat]? = some v:=by
        have:(y.2.2.2+(j:Int)).toNat < (D.pc y.2.2.1).length:=by omega
        exact⟨_,List.getElem?_eq_getElem this⟩
       have hat9:qp ((D.pc y.2.2.1).map V.int) (y.2.2.2+(0+(j:Int)))=some (.int v):=by
        have e:y.2.2.2+(0+(j:Int))=(((y.2.2.2+(j:Int)).toNat:Nat):Int):=by omega
        rw[e];exact aP (by rw[List.getElem?_map,hv];rfl)
       have lc:((b9 D.pc (r.take i++[(y.1,(j:Int),y.2.2.1,y.2.2.2)]) sz).map V.int).length=sz:=by rw[List.length_map,jy]
       have hix:rg ((b9 D.pc (r.take i++[(y.1,(j:Int),y.2.2.1,y.2.2.2)]) sz).map V.int).length (y.1+(0+(j:Int)))=some (y.1+(j:Int)).toNat:=by
        rw[lc];unfold rg;rw[z0,if_pos (by omega),if_pos (by omega)]
       exact⟨_,rfl,t9,_,2,_,rfl,rfl,a8.of (tup9 _ _ et9),aP hw2,_,rfl,_,rfl,_,_,rfl,rfl,dc,_,_,.int v,rfl,rfl,a8.of (tup9 _ _ edc),hat9,_,rfl,_,rfl,_,rfl,_,_,rfl,rfl,cl,_,_,_,rfl,rfl,e9,hix,_,rfl,ba s9 clH _,fun q u n e=>by rw[am n];exact kk9 q u n e,by rw[aa,<- nW om.1 gd.2.2.1 hv,List.map_set]⟩
     . intro σ H9 pvh;refine fX fun Nh th=>?_;obtain⟨o10',rfl,s9,kk9,e9⟩:=pvh;refine th ?_;clear th Nh;refine tl _ _ ?_;refine⟨_,rfl,_,rfl,_,rfl,_,rfl,(by show 4<=sizeLine;decide),fun la2 hla2=>?_⟩;refine tD _ _ ?_;have sl:=ah hla2 (HO.tup [V.int y.1,V.int y.2.1,V.int y.2.2.1,V.int y.2.2.2]);refine⟨la2,y,_,_,_,_,_,_,rfl,s9.trans sl,fun q u n e=>sl _ _ (kk9 q u n (sC _ _ (kk q u n e))),?_,aa,.inr ⟨i,rfl,hy⟩⟩;rw[cp hy];have e10:((y.2.1.toNat:Nat):Int)=y.2.1:=by omega
       rw[e10]at e9;exact sl _ _ e9
 . intro σ H6 pvh;refine fX fun Nh th=>?_;obtain⟨la,z,o5,o6,o7,o8,o9,o10,rfl,s6,kk,e6,hla6,lo⟩:=pvh;refine th ?_;clear th Nh;rw[lrv,List.take_length]at e6;refine⟨_,rfl,q cl H6 s6 ?_⟩;have ev:=fi.vals;dsimp only at ev;rw[ev]at e6;exact e6
end
def wU:Stmt->List Stmt
 | .For _ _ b _ _=>b
 | _=>[]
def zR:Stmt->Expr
 | .If t _ _ _=>t
 | _=>.Name "" cI
def B7:Expr->Expr
 | .BoolOp _ es _=>es.getD 1 (.Name "" cI)
 | _=>.Name "" cI
def zS:Expr->Expr
 | .Compare a _ _ _=>a
 | _=>.Name "" cI
def wV:Expr->Expr
 | .Call _ l _ _=>l.getD 0 (.Name "" cI)
 | _=>.Name "" cI
def Dp:LvT×Pos:=BU "_law_right.<locals>.<lambda>" (wV (zS (B7 (zR ((wU ((pX pU).getD 2 (.Pass cI))).getD 0 (.Pass cI))))))
def lamR:LvT:=Dp.1
def sP:Pos:=Dp.2
theorem C7:lamR.Ok:=⟨⟨rfl,rfl,rfl,by decide +kernel,rfl⟩,fun Fc Fc Fc Fc=>rfl,fun Fc Fc Fc Fc=>rfl,fun Fc Fc Fc Fc Fc=>rfl,by decide +kernel,by decide +kernel,by decide +kernel,fun Fc=>⟨_,rfl⟩⟩
theorem fS (l:List Int):(l.map V.int).all im=true:=by
 rw[List.all_map,List.all_eq_true];intro x _;rfl
theorem k7 (l:List Str):(l.map V.str).all im=true:=by
 rw[List.all_map,List.all_eq_true];intro x _;rfl
theorem ie:∀ms:List Int,jL (ms.map V.int) (ms.map V.int)=true
 | []=>rfl
 | m :: ms=>by
  show(vI (.int m) (.int m) && jL (ms.map V.int) (ms.map V.int))=true;rw[ie ms];simp[vI]
theorem k8:∀ms:List Str,jL (ms.map V.str) (ms.map V.str)=true
 | []=>rfl
 | m :: ms=>by
  show(vI (.str m) (.str m) && jL (ms.map V.str) (ms.map V.str))=true;rw[k8 ms];simp[vI]
theorem mx {α:Type}[DecidableEq α]:∀{a b:List α},a.Nodup->b.Nodup->(∀x,x∈a↔x∈b)->a.Perm b
 | [],b,_,_,h=>by
  cases b with
  | nil=>exact List.Perm.nil
  | cons y t=>exact absurd ((h y).mpr (List.mem_cons_self ..)) (by simp)
 | x :: t,b,ha,hb,h=>by
  have hx:x∈b:=(h x).mp (List.mem_cons_self ..);have nx:x ∉ t:=(List.nodup_cons.mp ha).1;have ih:=mx (List.nodup_cons.mp ha).2 (hb.erase x) fun y=>by
   rw[hb.mem_erase_iff];constructor
   . intro hy;exact⟨fun e=>nx (e ▸ hy),(h y).mp (List.mem_cons_of_mem _ hy)⟩
   . rintro⟨ne,hy⟩;rcases List.mem_cons.mp ((h y).mpr hy)with e|e
     . exact absurd e ne
     . exact e
  exact(List.Perm.cons x ih).trans (List.perm_cons_erase hx).symm
section
variable {P:Program}{w:World}{K:W.Frag}{mg:Str->Option Value}{base:Heap}{f fEvi fDSt fLce:Addr}{fd dEvi dDSt dLce:FuncData}{c:Cl}{cc PR:Addr}
def vp (c:Cl)(PR:Addr):Sp:=fun vs H Q Fc=>∃d lk fr ff D b m es ws F,vs=[.ref d,.ref ff]/\dF c H d lk fr D/\Md D b m es ws F/\ws.length=3/\cO H ff ws F/\bo H PR sP lamR.qual/\∀H',eX PR H H'->bo H' PR sP lamR.qual->Q (.bl true) H'
theorem oG:aq EC Eu (ai pU):=⟨rfl,rfl,rfl,by decide +kernel,rfl,by decide +kernel,by decide +kernel⟩
theorem zT (F:bN K "_law_right" "_law_right" pU f fd)(hcode:fd.code = .ref cc)(C:W.CodeHd base cc PR)(B:d6 base mg)(cf:CF K mg c)(hEvi:aU K c.DE "view" "Deed.view" fC DD fEvi dEvi)(GEvi:aj P w K mg base ay 6 fEvi dEvi DD (dC c))
 (hDSt:aU K c.KD "stuff" "FolderKnot.stuff" uB DB fDSt dDSt) (GDSt:aj P w K mg base ay 1 fDSt dDSt DB (iK c uU)) (hLce:bG K mg "_law_cells" wF Et fLce dLce) (GLce:aj P w K mg base ay 8 fLce dLce Et (vo c)) (T:Txt mg):aj P w K mg base ay 9 f fd Eu (vp c PR):=by
 refine Cn F oG (fun vs H Q E h=>?_) (fun cdv A outer s H vs Q E hcd' hr h=>?_)
 . obtain⟨d,lk,fr,ff,D,b,m,es,ws,F,rfl,_⟩:=h;rfl
 obtain⟨d,lk,fr,ff,D,b,m,es,ws,F,rfl,de,md,w3,fa,tb,q⟩:=h;have hcd:cdv = .ref cc:=hcd'.trans hcode;subst hcd;have hcd:(jd ay P w K mg base EC "_law_right" (ai pU) f (.ref cc) A outer s H E).nox.env.code = .ref cc:=rfl;have hu:(A.deeper (PyProof.Rows.envOfC "_law_right" (ai pU) s.heap.objs.size f (.ref cc))).units+1 < cLine:=dU hr;refine⟨_,(ad (aA (i:=2) oG.nd rfl (Or.inl rfl) (cw (aD (pv 0) cf.clE hEvi.me GEvi (hr.mono (by decide)) hEvi.bd .nil ao (pc (a7 (pv 0) rfl) ac)) cf.clD hDSt.me GDSt (hr.mono (by decide)) hDSt.bd .nil ao))
  (ad (aZ (PW.pt (dG (aB gx (au ap (pv 2) ae (fun Fc Fc=>rfl)) a5 (aH _)) (cZ (aB (pe (dU hr |> Nat.lt_of_succ_lt)) (cW [] [] (c8 (au ap (pv 2) ae (fun Fc Fc=>rfl))) (fun Fc Fc Fc Fc Fc Fc=>cD)
        (fun Fc Fc Fc Fc Fc Fc=>(au (gH (K:=K) rfl) (pv 0) ae (fun Fc Fc=>rfl)))
        rfl (by decide +kernel) (by decide +kernel) rfl (by decide +kernel) (fun Fc Fc z=>nomatch z) rfl (by decide +kernel) rfl) (aF (jS rfl) rfl T.srt PyProof.Rows.boot_sorted (pc (pv 1) ac)) (aH _)))))
  (af (aw fY))
  aM)
  (ad (ck PassesOwn.never rfl (c8 (au ap (pv 2) ae (fun Fc Fc=>rfl))) (dN rfl (aR (aJ (i:=3) oG.nd rfl (Or.inl rfl)) (aR (aJ (i:=4) oG.nd rfl (Or.inl rfl)) (aR (aJ (i:=5) oG.nd rfl (Or.inl rfl)) cP))))
  (af (aZ (PW.pt (dG (aB gx (pv 4) a5 (aH _)) (cZ (aB (pe (dU hr |> Nat.lt_of_succ_lt)) (nV (y:="_law_deed") (i:=0) GLce (hr.mono (by decide)) rfl hLce.nm hLce.fn.kp hLce.bd (pc (iW hcd C B rfl rfl rfl) (pc (pv 5) ac)) rfl rfl rfl rfl (by first | exact Or.inl rfl | exact Or.inr (Or.inl rfl) | exact Or.inr (Or.inr rfl))) (dJ hu (pv 1) (pv 3) (fun Fc Fc=>rfl)) (aH _)))))
  (af (aw fY))
  aM)))
  (af (aw fY))))),?_⟩
 obtain⟨dx,hd⟩:=de.at_;obtain⟨kvs,ss,hff,hk,hn,hs,hv⟩:=fa.ex;have l3:=md.len (by omega);refine aK fun N tl=>?_;refine⟨_,rfl,d,dx,_,rfl,hd,rfl,_,rfl,d,c.DE,dx,_,_,rfl,hd,cf.clE,cf.rE,rfl,d,lk,fr,D,_,rfl,de,fun z H1 s1 kn=>?_⟩;rw[md.rt]at kn;have kn0:=kn;obtain⟨pk,dk,vk,rfl,ek,hvk⟩:=kn;refine⟨pk,dk,_,rfl,ek,rfl,_,_,rfl,kn0,⟨_,_,_,rfl⟩,fun t H2 s2 ht=>?_⟩;obtain⟨ta,tvs,rfl,eta,kta⟩:=At.tup ht;obtain⟨v0,h0,a0⟩:=kta.at (i:=0) rfl;have ev0:v0 = .str (Str.ofString "folder"):=by unfold At at a0;exact a0
 subst ev0;obtain⟨v3,h3,a3⟩:=kta.at (i:=3) rfl;obtain⟨ea,evs,rfl,eea,kea⟩:=At.tup a3;have lev:evs.length=es.length:=by
  have:=kea.len;rw[List.length_map]at this;exact this
 have s12:=s1.trans s2;refine tl _ _ ?_;clear tl N;refine aK fun N tl=>?_;refine⟨_,rfl,ta,_,0,_,rfl,rfl,a8.of eta,aP h0,rfl,_,rfl,br ?_⟩;refine⟨_,rfl,ta,_,3,_,rfl,rfl,a8.of eta,aP h3,ea,true,rfl,⟨_,Sq.of eea⟩,fun pc hpc=>?_⟩;refine jo (K:=K) (tu:=true) (a:=ea) (xs:=evs) (fun i us H3=>aE H2 H3/\us=((es.take i).map (·.1)).map V.str/\H3 pc=some (.lst us)) ⟨ah hpc _,rfl,aa⟩ (fun i us H3 Fc h3'=>Sq.of (h3'.1 _ _ eea)) ?_ ?_
 . rintro i v us H3 hi ⟨s3,rfl,e3⟩;obtain⟨t,ht',hat⟩:=kea.get hi;rw[List.getElem?_map]at ht';obtain⟨y,hy,rfl⟩:=Option.map_eq_some_iff.mp ht';obtain⟨bb,c1,c2,c3,rfl,eb,rfl,rfl,rfl⟩:=jC hat;refine tM ⟨_,rfl,bb,_,0,_,rfl,rfl,a8.of (s3 _ _ eb),rfl,e3,?_,ba s3 hpc _,?_,aa⟩
   . rw[List.length_map,List.length_map,List.length_take];exact bg (by omega)
   . rw[cp hy,List.map_append,List.map_append];rfl
 rintro us H3 ⟨s3,rfl,e3⟩;rw[lev,List.take_length]at e3;have hff3:=s3 _ _ (s12 _ _ hff);have ls:ss.length<=3:=by
  have:=List.Nodup.length_le_of_subset hn fun x hx=>hs x hx;omega
 refine⟨_,rfl,ff,kvs,ss,rfl,.inl hff3,hk,by omega,fun l zs pz az hl=>?_⟩;have ez:zs=es.map (·.1):=by
  refine uy az md.asc (pz.trans (mx hn md.nd fun x=>?_));constructor
  . intro hx;by_cases hm:x∈es.map (·.1)
    . exact hm
    . exfalso;have h1:=hv x;rw[md.no x hm]at h1;have h1':bB kvs (.inr x)=none:=h1;have:(Sum.inr x:Key)∈kvs.map (·.1):=by rw[hk];exact List.mem_map.mpr ⟨x,hx,rfl⟩
      obtain⟨kv,hm2,he⟩:=List.mem_map.mp this;unfold bB at h1';rw[Option.map_eq_none_iff,List.find?_eq_none]at h1';exact h1' kv hm2 (decide_eq_true he)
  . intro hx;obtain⟨y,hy,rfl⟩:=List.mem_map.mp hx;obtain⟨_,_,_,_,e⟩:=md.fl y hy;have h1:=hv y.1;rw[e]at h1;obtain⟨p,h2,_⟩:=h1;have:=iP h2;rw[hk]at this;obtain⟨x',hx',ex⟩:=List.mem_map.mp this;injection ex with ex;rw[<- ex];exact hx'
 subst ez;have s4:=ah hl (HO.lst ((es.map (·.1)).map V.str));refine⟨pc,l,_,_,rfl,rfl,bh.of (s4 _ _ e3),bh.of aa,k7 _,k7 _,?_⟩;rw[k8];refine⟨false,rfl,br ?_⟩;refine tl _ _ ?_;clear tl N;have s5:aE H _:=(s12.trans s3).trans s4;have sE:aE H2 _:=s3.trans s4;revert s5 sE;generalize aL H3 l (HO.lst ((es.map (·.1)).map V.str))=H5;intro s5 sE;refine⟨_,rfl,ta,_,3,_,rfl,rfl,a8.of (sE _ _ eta),aP h3,ea,true,rfl,⟨_,Sq.of (sE _ _ eea)⟩,?_⟩;have tb5:=bf tb s5;refine eK (K:=K) (tu:=true) (a:=ea) (xs:=evs) (fun i σ H6=>∃o3 o4 o5,σ=[some (.ref d),some (.ref ff),some (.ref ta),o3,o4,o5]/\eX PR H5 H6/\bo H6 PR sP lamR.qual) ⟨none,none,none,rfl,fun b o Fc e=>e,tb5⟩ (fun i σ H6 _ h6=>?_) ?_ ?_
 . obtain⟨_,_,_,_,sx,_⟩:=h6;exact Sq.of (dh (aW tb5) sx _ _ (by intro φ z;cases z) (sE _ _ eea))
 . intro i v σ H6 hi pvh;refine fX fun Nh th=>?_;obtain⟨o3,o4,o5,rfl,sx6,tb6⟩:=pvh;refine th ?_;clear th Nh;have up6:=dh (aW tb5) sx6;obtain⟨t,ht',hat⟩:=kea.get hi;rw[List.getElem?_map]at ht';obtain⟨y,hy,rfl⟩:=Option.map_eq_some_iff.mp ht';obtain⟨bb,c1,c2,c3,rfl,eb,rfl,rfl,rfl⟩:=jC hat;have my:=List.mem_of_getElem? hy;have kd:=md.kd y my;obtain⟨sz,r,os,fo,efo⟩:=md.fl y my;refine⟨bb,_,rfl,a8.of (up6 _ _ (by intro φ z;cases z) (sE _ _ eb)),rfl,_,_,rfl,_,_,rfl,_,_,rfl,rfl,?_⟩;refine cY fun D' tD=>?_;rw[kd];refine⟨_,rfl,rfl,_,rfl,br ?_⟩;have de6:=(de.mono s5).sx (aW tb5) sx6;have hff6:=up6 _ _ (by intro φ z;cases z) (s5 _ _ hff);refine⟨tb6,fun g c' pm ctv H7 sx7 tb7 ot hg hg' hc'=>?_⟩;have de7:=de6.sx (aW tb6) sx7;refine⟨_,rfl,d,rfl,fun oc hc1 dc=>?_⟩;have sN:=ah hc1 (HO.ext (eY (s.heap.objs.size+1) oc));refine⟨g,d,lk,fr,D,y.2.2,sz,r,os,rfl,gj.mk (t:=lamR) C7 rfl hc1 hg' hc' dc,de7.mono sN,fo,fun q2 H8 s8 hq2=>?_⟩;have sD:=nU hc1 s8;have nq:q2≠s.heap.objs.size+1:=fun z=>by rw[z,s8 _ _ aa]at hq2;cases hq2
   have hq3:xl H8 (s.heap.objs.size+1) q2=some (.lst ((D.vals os).map V.int)):=by rw[dO nq];exact hq2
   have up7:=dh (aW tb6) sx7;have hff7:=sD _ _ (up7 _ _ (by intro φ z;cases z) hff6);have h1:=hv y.1;rw[efo]at h1;obtain⟨pl,e1,hpl⟩:=h1;have hpl7:=sD _ _ (up7 _ _ (by intro φ z;cases z) (up6 _ _ (by intro φ z;cases z) (s5 _ _ hpl)));have dg:=cK.k (k:=.inr y.1) hff7;rw[e1]at dg;refine⟨s8 _ _ aa,_,rfl,_,rfl,ff,.ref pl,rfl,dg,q2,pl,_,_,rfl,rfl,bh.of hq3,bh.of hpl7,fS _,fS _,?_⟩;rw[ie];exact⟨false,rfl,br <| tD _ _ ⟨_,_,_,rfl,fun b o nb hb=>sD _ _ (sx7 b o nb (sx6 b o nb hb)),bf tb7 sD⟩⟩
 . intro σ H6 pvh;refine fX fun Nh th=>?_;obtain⟨o3,o4,o5,rfl,sx6,tb6⟩:=pvh;refine th ?_;clear th Nh;exact q H6 (mm s5 sx6) tb6
end
def Gx (k0:Kn->Prop)(G:DS->Int->List Int->Prop)(D:DS)(p:Int)(ys:List Int):Prop:=1000<=p/\∃k,D.ks[(p - 1000).toNat]? = some k/\k0 k/\Dm k<=20/\((C2 k=[]/\ys=[p])\/∃q zs,C2 k=[q]/\G D q zs/\p ∉ zs/\zs.length<=90/\ys=zs++[p])
def Gn (D:DS)(p:Int)(ys:List Int):Prop:=False
theorem B8 {ms:List Int}(h:Co [] ms):ms=[]:=by
 cases ms with
 | nil=>rfl
 | cons a l=>exact absurd ((h.2 a).mp (List.mem_cons_self ..)) (by simp)
theorem B9 {q:Int}{ms:List Int}(h:Co [q] ms):ms=[q]:=by
 have all:∀x∈ms,x=q:=fun x hx=>List.mem_singleton.mp ((h.2 x).mp hx)
 match ms,h,all with
 | [],h,_=>exact absurd ((h.2 q).mpr (by simp)) (by simp)
 | [a],_,all=>rw[all a (by simp)]
 | a :: b :: l,h,all =>
  have:=(List.pairwise_cons.mp h.1).1 b (by simp);rw[all a (by simp),all b (by simp)]at this;omega
theorem dF.kt {c:Cl}{H H':Hp}{d lk fr t:Addr}{D:DS}{kvs:List (Key×V)}(h:dF c H d lk fr D)(ht:H t=some (.dK kvs))(nt:t≠fr)(k:∀q u,q≠t->H q=some u->H' q=some u):dF c H' d lk fr D:=by
 obtain⟨⟨dx,e⟩,⟨xs,e2,l,kn⟩,⟨j,pm,c',ctv,g1,g2⟩⟩:=h;exact⟨⟨dx,k _ _ (fun z=>by rw[z,ht]at e;cases e) e⟩,⟨xs,k _ _ (Ne.symm nt) e2,l,fun i k' x h1 h2=>(kn i k' x h1 h2).kf ht k⟩,⟨j,pm,c',ctv,k _ _ (fun z=>by rw[z,ht]at g1;cases g1) g1,k _ _ (fun z=>by rw[z,ht]at g2;cases g2) g2⟩⟩
def gS (c:Cl)(G:DS->Int->List Int->Prop):Sp:=fun vs H Q Fc=>∃d lk fr D p t kvs ks ys,vs=[.ref d,.int p,.ref t]/\dF c H d lk fr D/\t≠fr/\H t=some (.dK kvs)/\kvs.map (·.1)=ks.map Sum.inl/\ks.length<=100/\G D p ys/\(∀y∈ys,y ∉ ks) /\
 ∀H' kvs',(∀q u,q≠t->H q=some u->H' q=some u)->H' t=some (.dK kvs')->kvs'.map (·.1)=(ks++ys).map Sum.inl->Q .non H'
theorem qe {kvs:List (Key×V)}{ks:List Int}{x:Int}(h:kvs.map (·.1)=ks.map Sum.inl)(hx:x ∉ ks):bB kvs (.inl x)=none:=by
 cases e:bB kvs (.inl x)with
 | none=>rfl
 | some u =>
  have:=iP e;rw[h]at this;obtain⟨y,hy,ey⟩:=List.mem_map.mp this;injection ey with ey;exact absurd (ey ▸ hy) hx
theorem qQ:aq ["self","place","told","point"] DN (ai l9):=⟨rfl,rfl,rfl,by decide +kernel,rfl,by decide +kernel,by decide +kernel⟩
section
variable {P:Program}{w:World}{K:W.Frag}{mg:Str->Option Value}{base:Heap}{f fEvi fEte fXPt C:Addr}{fd dEvi dEte dXPt:FuncData}{c:Cl}{sXPt:Stmt}{xq:Str}
theorem mz {G:DS->Int->List Int->Prop}{k0:Kn->Prop}{n:Nat}(hn:7<=n)(F:bN K "tell_news" "Deed.tell_news" l9 f fd)(cf:CF K mg c)(hEvi:aU K c.DE "view" "Deed.view" fC DD fEvi dEvi)(GEvi:aj P w K mg base ay 6 fEvi dEvi DD (dC c))
 (clX:iO K C) (kC:∀{H:Hp} {k:Kn} {x:V},k0 k->bT c H k x->∃p dx fs,x = .ref p/\H p=some (.ins C dx fs)/\List.lookup (Str.ofString "points") fs=none) (hXPt:aU K C "points" xq sXPt DB fXPt dXPt) (GXPt:aj P w K mg base ay 2 fXPt dXPt DB (oq c k0))
 (hEte:aU K c.DE "tell_news" "Deed.tell_news" l9 DN fEte dEte) (GEte:aj P w K mg base ay n fEte dEte DN (gS c G)):aj P w K mg base ay (n+1) f fd DN (gS c (Gx k0 G)):=by
 refine F.ok qQ (fun vs H Q E h=>?_) (fun cdv A outer s H vs Q E hr h=>?_)
 . obtain⟨d,lk,fr,D,p,t,kvs,ks,ys,rfl,_⟩:=h;rfl
 obtain⟨d,lk,fr,D,p,t,kvs,ks,ys,rfl,de,nt,ht,hk,lk100,⟨p0,k,hkn,hk0,sz,hys⟩,hno,q⟩:=h;have hu:(A.deeper (PyProof.Rows.envOfC "Deed.tell_news" (ai l9) s.heap.objs.size f cdv)).units+1 < cLine:=dU hr;obtain⟨dx,hd⟩:=de.at_;obtain⟨xs,hf,lx,kx⟩:=de.fr_;have li:=(List.getElem?_eq_some_iff.mp hkn).1;obtain⟨x,hx⟩:∃x,xs[(p - 1000).toNat]? = some x:=⟨_,List.getElem?_eq_getElem (by omega)⟩;have ev:=gO p xs 0;rw[show(1000+((0:Nat):Int))=1000 by omega,show p - 1000 - ((0:Nat):Int)=p - 1000 by omega,if_pos p0,hx]at ev;have vw:D.view p=k:=by
  unfold DS.view;rw[if_pos p0,hkn];rfl
 have py:p∈ys:=by
  rcases hys with⟨_,rfl⟩|⟨q',zs,_,_,_,_,rfl⟩
  . simp
  . simp
 have dg1:=cK.k (k:=.inl p) hf;rw[ev]at dg1;have dg2:=cK.k (k:=.inl p) ht;rw[qe hk (hno p py)]at dg2;refine⟨_,(af (aZ (PW.pt (fh (fg (pi hu (pv 1) (a7 (pv 0) rfl))) (eB (fg (dY hu (pv 1) (pv 2))))))
  (ad (ck PassesOwn.never rfl (eC (cw (aD (pv 0) cf.clE hEvi.me GEvi (hr.mono (by omega)) hEvi.bd .nil ao (pc (pv 1) ac)) clX hXPt.me GXPt (hr.mono (by omega)) hXPt.bd .nil ao)) (aJ (i:=3) qQ.nd rfl (Or.inl rfl))
  (af (aS (aD (pv 0) cf.clE hEte.me GEte (hr.mono (by omega)) hEte.bd .nil ao (pc (pv 3) (pc (pv 2) ac))))))
  (af (cS hu (pv 2) (pv 1) fY rfl)))
  aM)),?_⟩
 refine⟨_,rfl,_,rfl,d,c.DE,dx,_,_,rfl,hd,cf.clE,cf.fE,rfl,fr,_,rfl,dg1,_,rfl,c6 ?_⟩;refine⟨_,rfl,_,rfl,t,_,rfl,dg2,_,rfl,c6 ?_⟩;refine⟨_,rfl,d,dx,_,rfl,hd,rfl,_,rfl,d,lk,fr,D,p,rfl,de,fun z H1 s1 kn=>?_⟩;rw[vw]at kn;have kn0:=kn;obtain⟨pk,dk,fs,rfl,ek,lf⟩:=kC hk0 kn;refine⟨pk,dk,_,rfl,ek,lf,_,_,rfl,kn0,hk0,sz,fun pp H2 ms s2 hpp epp pts=>?_⟩;have s12:=s1.trans s2;have npt:pp≠t:=fun z=>by rw[z,s1 _ _ ht]at hpp;cases hpp
 refine⟨pp,rfl,⟨_,bh.of epp⟩,?_⟩;refine fm (K:=K) (xs:=ms.map V.int) (fun i σ H3=>∃o3 kvs3 zs3,σ=[some (.ref d),some (.int p),some (.ref t),o3]/\(∀q u,q≠t->H2 q=some u->H3 q=some u)/\H3 t=some (.dK kvs3)/\kvs3.map (·.1)=(ks++zs3).map Sum.inl/\(i=0->zs3=[])/\(i=1->zs3++[p]=ys)/\zs3.length<=90) ⟨none,kvs,[],rfl,fun q u Fc e=>e,s12 _ _ ht,by rw[List.append_nil];exact hk,fun Fc=>rfl,fun z=>(by cases z),by simp⟩ (fun i σ H3 _ h3=>?_) ?_ ?_
 . obtain⟨_,_,_,_,kk,_⟩:=h3;exact bh.of (kk _ _ npt epp)
 . intro i v σ H3 hi pvh;refine fX fun Nh th=>?_;obtain⟨o3,kvs3,zs3,rfl,kk,e3,hk3,hz0,hz1,lz⟩:=pvh;refine th ?_;clear th Nh;rcases hys with⟨e0,rfl⟩|⟨q',zs,e1,gq,np,lzs,rfl⟩
   . rw[e0]at pts;rw[B8 pts]at hi;cases hi
   . rw[e1]at pts;rw[B9 pts]at hi;have hi0:i=0:=by
      have:=(List.getElem?_eq_some_iff.mp hi).1;simp at this;exact this
     subst hi0;cases hi;obtain rfl:=hz0 rfl;rw[List.append_nil]at hk3;have de3:=(de.mono s12).kt (s12 _ _ ht) nt kk;obtain⟨dx3,hd3⟩:=de3.at_;refine⟨_,rfl,d,dx3,_,rfl,hd3,rfl,_,rfl,_,rfl,d,lk,fr,D,q',t,kvs3,ks,zs,rfl,de3,nt,e3,hk3,lk100,gq,fun y hy=>hno y (List.mem_append_left _ hy),fun H4 kvs4 kk4 e4 hk4=>?_⟩;exact⟨_,kvs4,zs,rfl,fun q u n e=>kk4 q u n (kk q u n e),e4,hk4,fun z=>(by cases z),fun Fc=>rfl,lzs⟩
 . intro σ H3 pvh;refine fX fun Nh th=>?_;obtain⟨o3,kvs3,zs3,rfl,kk,e3,hk3,hz0,hz1,lz⟩:=pvh;refine th ?_;clear th Nh;have hz:zs3++[p]=ys:=by
    rcases hys with⟨e0,rfl⟩|⟨q',zs,e1,gq,np,lzs,rfl⟩
    . rw[e0]at pts;rw[B8 pts]at hz0;rw[hz0 rfl];rfl
    . rw[e1]at pts;rw[B9 pts]at hz1;exact hz1 rfl
   have l3:kvs3.length<=200:=by
    have e:=congrArg List.length hk3;rw[List.length_map,List.length_map,List.length_append]at e;have:zs3.length<=90:=lz;omega
   refine⟨_,rfl,_,rfl,t,_,rfl,lO.k (k:=.inl p) e3 (bg (by omega)),q _ _ (fun q u n e=>by rw[am n];exact kk q u n (s12 _ _ e)) aa ?_⟩;have hpn:p ∉ ks++zs3:=fun hm=>by
    rcases List.mem_append.mp hm with hm|hm
    . exact hno p py hm
    . rcases hys with⟨e0,rfl⟩|⟨q',zs,e1,gq,np,lzs,rfl⟩
      . have:zs3=[]:=List.append_cancel_right (hz.trans (List.nil_append _).symm);rw[this]at hm;cases hm
      . exact np (List.append_cancel_right hz ▸ hm)
   rw[i3 (qe hk3 hpn),List.map_append,hk3,<- hz,<- List.append_assoc,List.map_append (l₁:=ks++zs3)];rfl
theorem C8 {H:Hp}{k:Kn}{x:V}(h:sU k)(kn:bT c H k x):∃p dx fs,x = .ref p/\H p=some (.ins c.KC dx fs)/\List.lookup (Str.ofString "points") fs=none:=by
 obtain⟨_,_,rfl⟩:=h;obtain⟨p,dx,v,e,h,_⟩:=kn;exact⟨p,dx,_,e,h,rfl⟩
theorem C9 {H:Hp}{k:Kn}{x:V}(h:uT k)(kn:bT c H k x):∃p dx fs,x = .ref p/\H p=some (.ins c.KF dx fs)/\List.lookup (Str.ofString "points") fs=none:=by
 obtain⟨_,_,_,rfl⟩:=h;obtain⟨p,dx,v,e,h,_⟩:=kn;exact⟨p,dx,_,e,h,rfl⟩
theorem Da {H:Hp}{k:Kn}{x:V}(h:uU k)(kn:bT c H k x):∃p dx fs,x = .ref p/\H p=some (.ins c.KD dx fs)/\List.lookup (Str.ofString "points") fs=none:=by
 obtain⟨_,_,_,rfl⟩:=h;obtain⟨p,dx,v,e,h,_⟩:=kn;exact⟨p,dx,_,e,h,rfl⟩
end
section
variable {P:Program}{w:World}{K:W.Frag}{mg:Str->Option Value}{base:Heap}{f fEvi fEte fXPt:Addr}{fd dEvi dEte dXPt:FuncData}{c:Cl}
def qR (c:Cl):Sp:=fun vs H Q Fc=>∃(p dx:Addr) (lk:V),vs=[.ref p,lk,.int 2,.int 5]/\H p=some (.ins c.DE dx [])/\∀fr H',(∀q u,q≠p->H q=some u->H' q=some u)->H fr=none->H' p=some (.ins c.DE dx [("look",lk),("root",.int 2),("now",.int 5),("fresh",.ref fr)])->H' fr=some (.dK [])->Q .non H'
theorem Ca:aq Ee Ee (ai yA):=⟨rfl,rfl,rfl,by decide +kernel,rfl,by decide +kernel,by decide +kernel⟩
theorem zU (F:bN K "__init__" "Deed.__init__" yA f fd)(cf:CF K mg c):aj P w K mg base ay 1 f fd Ee (qR c):=by
 refine F.ok Ca (fun vs H Q E h=>?_) (fun cdv A outer s H vs Q E hr h=>?_)
 . obtain⟨p,dx,lk,rfl,_⟩:=h;rfl
 obtain⟨p,dx,lk,rfl,hp,q⟩:=h;refine⟨_,(ad (dz (pv 0) (pv 1) rfl)
  (ad (dz (pv 0) (pv 2) rfl)
  (ad (dz (pv 0) (pv 3) rfl)
  (af (dz (pv 0) fu rfl))))),?_⟩
 refine⟨_,rfl,_,rfl,p,c.DE,dx,_,rfl,hp,cf.clE,cf.kE,by decide,?_⟩;refine⟨_,rfl,_,rfl,p,c.DE,dx,_,rfl,aa,cf.clE,cf.rE,(by show 1 < 1000;decide),?_⟩;refine⟨_,rfl,_,rfl,p,c.DE,dx,_,rfl,aa,cf.clE,cf.nE,(by show 2 < 1000;decide),?_⟩;intro fr hfr;obtain⟨n1,h1⟩:=gB hfr;have frH:H fr=none:=(gB (gB h1).2).2;refine⟨_,rfl,p,c.DE,dx,_,rfl,(by rw[am n1.symm];exact aa),cf.clE,cf.fE,(by show 3 < 1000;decide),q fr _ (fun q u n e=>?_) frH aa (by rw[am n1];exact aa)⟩;rw[am n,am (fun z=>?_),am n,am n,am n]
 . exact e
 . rw[z,frH]at e;cases e
theorem Cb {H:Hp}{R:Addr->Hp->Prop}{lk:V}(q:∀x dx fr H',aE H H'->H x=none->H fr=none->H' x=some (.ins c.DE dx [("look",lk),("root",.int 2),("now",.int 5),("fresh",.ref fr)])->H' fr=some (.dK [])->R x H'):∀x dx,H x=none->H dx=none->dx≠x ->
 qR c (.ref x :: ([lk,.int 2,.int 5]++[])) (aL (aL H dx (.own x)) x (.ins c.DE dx [])) (fun u H2=>u = .non/\R x H2) E0:=by
 intro x dx hx hd ne;refine⟨x,dx,lk,rfl,aa,fun fr H' k hf e1 e2=>⟨rfl,q x dx fr H' (d7 hx hd k) hx ?_ e1 e2⟩⟩;have n1:fr≠x:=fun z=>by rw[z,aa]at hf;cases hf
 rw[am n1]at hf;have n2:fr≠dx:=fun z=>by rw[z,aa]at hf;cases hf
 rw[am n2]at hf;exact hf
def Gz (D:DS)(p:Int)(ys:List Int):Prop:=p < 1000/\ys=[]
theorem wW (F:bN K "tell_news" "Deed.tell_news" l9 f fd)(cf:CF K mg c)(hEvi:aU K c.DE "view" "Deed.view" fC DD fEvi dEvi)(GEvi:aj P w K mg base ay 6 fEvi dEvi DD (dC c))
 (hXPt:aU K c.KD "points" "FolderKnot.points" wk DB fXPt dXPt) (GXPt:aj P w K mg base ay 2 fXPt dXPt DB (oq c uU))
 (hEte:aU K c.DE "tell_news" "Deed.tell_news" l9 DN fEte dEte) (GEte:aj P w K mg base ay 9 fEte dEte DN (gS c Gn)):aj P w K mg base ay 10 f fd DN (gS c Gz):=by
 refine F.ok qQ (fun vs H Q E h=>?_) (fun cdv A outer s H vs Q E hr h=>?_)
 . obtain⟨d,lk,fr,D,p,t,kvs,ks,ys,rfl,_⟩:=h;rfl
 obtain⟨d,lk,fr,D,p,t,kvs,ks,ys,rfl,de,nt,ht,hk,lk100,⟨p0,rfl⟩,hno,q⟩:=h;have hu:(A.deeper (PyProof.Rows.envOfC "Deed.tell_news" (ai l9) s.heap.objs.size f cdv)).units+1 < cLine:=dU hr;have clX:=cf.clD;obtain⟨dx,hd⟩:=de.at_;obtain⟨xs,hf,lx,kx⟩:=de.fr_;have ev:=gO p xs 0;rw[show(1000+((0:Nat):Int))=1000 by omega,if_neg (by omega)]at ev;have dg1:=cK.k (k:=.inl p) hf;rw[ev]at dg1;refine⟨_,(af (aZ (PW.pt (fh (fg (pi hu (pv 1) (a7 (pv 0) rfl))) (eB (fg (dY hu (pv 1) (pv 2))))))
  (ad (ck PassesOwn.never rfl (eC (cw (aD (pv 0) cf.clE hEvi.me GEvi (hr.mono (by decide)) hEvi.bd .nil ao (pc (pv 1) ac)) clX hXPt.me GXPt (hr.mono (by decide)) hXPt.bd .nil ao)) (aJ (i:=3) qQ.nd rfl (Or.inl rfl))
  (af (aS (aD (pv 0) cf.clE hEte.me GEte (hr.mono (by decide)) hEte.bd .nil ao (pc (pv 3) (pc (pv 2) ac))))))
  (af (cS hu (pv 2) (pv 1) fY rfl)))
  aM)),?_⟩
 refine⟨_,rfl,_,rfl,d,c.DE,dx,_,_,rfl,hd,cf.clE,cf.fE,rfl,fr,_,rfl,dg1,_,rfl,br (br ?_)⟩;exact q H kvs (fun q u Fc e=>e) ht (by rw[List.append_nil];exact hk)
theorem qS {sp:Sp}{k:Nat}{ps:List Str}(h:∀vs H Q E,¬ sp vs H Q E):aj P w K mg base ay k f fd ps sp:=⟨fun vs H Q E q=>absurd q (h vs H Q E),fun A outer s H args us vs Q E Fc Fc Fc Fc q=>absurd q (h vs H Q E)⟩
theorem Cc {sp sp':Sp}{k:Nat}{ps:List Str}(a:aj P w K mg base ay k f fd ps sp)(b:aj P w K mg base ay k f fd ps sp'):aj P w K mg base ay k f fd ps (fun vs H Q E=>sp vs H Q E\/sp' vs H Q E) :=
 ⟨fun vs H Q E q=>q.elim (a.len vs H Q E) (b.len vs H Q E),fun A outer s H args us vs Q E h1 h2 h3 h4 q=>q.elim (a.run A outer s H args us vs Q E h1 h2 h3 h4) (b.run A outer s H args us vs Q E h1 h2 h3 h4)⟩
def Gr (D:DS)(p:Int)(ys:List Int):Prop:=Gz D p ys\/Gx uU (Gx uT (Gx sU Gn)) D p ys
theorem wX (a:aj P w K mg base ay 10 f fd DN (gS c Gz))(b:aj P w K mg base ay 10 f fd DN (gS c (Gx uU (Gx uT (Gx sU Gn))))):aj P w K mg base ay 10 f fd DN (gS c Gr) :=
 (Cc a b).imp fun vs H Q E h=>by
  obtain⟨d,lk,fr,D,p,t,kvs,ks,ys,h1,h2,h3,h4,h5,h6,g,h7⟩:=h;rcases g with g|g
  . exact .inl ⟨d,lk,fr,D,p,t,kvs,ks,ys,h1,h2,h3,h4,h5,h6,g,h7⟩
  . exact .inr ⟨d,lk,fr,D,p,t,kvs,ks,ys,h1,h2,h3,h4,h5,h6,g,h7⟩
def vq (c:Cl):Sp:=fun vs H Q Fc=>∃d lk fr D ys,vs=[.ref d]/\dF c H d lk fr D/\Gr D D.root ys/\∀p H',aE H H'->H' p=some (.lst (ys.map V.int))->Q (.ref p) H'
theorem xH:aq ["self","told"] DB (ai wz):=⟨rfl,rfl,rfl,by decide +kernel,rfl,by decide +kernel,by decide +kernel⟩
theorem zV (F:bN K "news" "Deed.news" wz f fd)(cf:CF K mg c)(hEte:aU K c.DE "tell_news" "Deed.tell_news" l9 DN fEte dEte)(GEte:aj P w K mg base ay 10 fEte dEte DN (gS c Gr))(T:Txt mg):aj P w K mg base ay 11 f fd DB (vq c):=by
 refine F.ok xH (fun vs H Q E h=>?_) (fun cdv A outer s H vs Q E hr h=>?_)
 . obtain⟨d,lk,fr,D,ys,rfl,_⟩:=h;rfl
 obtain⟨d,lk,fr,D,ys,rfl,de,gr,q⟩:=h;refine⟨_,(ad (aA (i:=1) xH.nd rfl (Or.inl rfl) fu)
  (ad (aS (aD (pv 0) cf.clE hEte.me GEte (hr.mono (by decide)) hEte.bd .nil ao (pc (a7 (pv 0) rfl) (pc (pv 1) ac))))
  (af (aw (cn (pj rfl) rfl T.lst PyProof.Rows.boot_list (pc (pv 1) ac)))))),?_⟩
 intro t ht;have s0:=ah ht (HO.dK []);have de0:=de.mono s0;obtain⟨dx,hd⟩:=de0.at_;have nt:t≠fr:=fun z=>by obtain⟨xs,hf,_⟩:=de.fr_;rw[z,hf]at ht;cases ht
 refine⟨_,rfl,d,dx,_,rfl,hd,rfl,_,rfl,d,c.DE,dx,_,_,rfl,hd,cf.clE,cf.rE,rfl,_,rfl,d,lk,fr,D,_,t,[],[],ys,rfl,de0,nt,aa,rfl,by simp,gr,fun y Fc=>by simp,fun H1 kvs kk e1 hk=>?_⟩;refine⟨_,rfl,t,kvs,rfl,e1,fun l hl=>q l _ (fun q u e=>?_) ?_⟩
 . have nq:q≠t:=fun z=>by rw[z,ht]at e;cases e
   exact ah hl _ _ _ (kk q u nq (s0 _ _ e))
 . rw[aa];have:(kvs.map fun p=>kV p.1)=(kvs.map (·.1)).map kV:=by rw[List.map_map];rfl
   rw[this,hk,List.nil_append,List.map_map];rfl
end
end K41
namespace L2
open PySem PySem.Spec PyProof.Rows PySem.W
def Db (a:Addr)(o:Obj)(kvs:List (Key×V)):It :=
 ⟨fun i H=>i < kvs.length/\H a=some (.frz o (.dK kvs)),fun i H x H'=>H'=H/\∃kv,kvs[i]? = some kv/\x=kV kv.1,fun i H=>kvs.length<=i/\H a=some (.frz o (.dK kvs))⟩
theorem sQ {P:Program}{w:World}{K:W.Frag}{tg:Expr}{a it:Addr}{o:Obj}{kvs:List (Key×V)}{vs:List (Key×Value)}{ep:Nat}(rel:KV kvs vs)(ka:KdkAt (bp P w) o vs ep):mK P w K tg (Db a o kvs) [it] it (fun i h=>h.IsKeyIter it a i vs.length ep) where
 mem:=by simp
 obj:=fun i h st b hb=>by
  have e:b=it:=by simpa using hb
  subst e;obtain⟨o,e,c,d⟩:=st;exact⟨o,e,fun v z=>by rw[d]at z;cases z⟩
 keep:=fun i h h' st k=>st.at fun o e=>k it (by simp) o e
 item:=by
  intro X hP hw hK s hc i pins σ H E I hf st hg;subst hP hw hK;obtain⟨hi,hq⟩:=hg;obtain⟨ho,_⟩:s.heap.get? a=some o/\_:=I.hok a _ hq;obtain⟨f0,f1,f2,f3,f4,f5⟩:=hf it (by simp);have hl:kvs.length=vs.length:=rel.length;have hi':i < vs.length:=by omega
  have hx:vs[i]? = some (vs[i].1,vs[i].2):=List.getElem?_eq_getElem hi';have ke:kvs[i].1=vs[i].1:=by
   have h1:=congrArg (fun l=>l[i]?) rel.keys;simp only[List.getElem?_map,List.getElem?_eq_getElem hi,List.getElem?_eq_getElem hi',Option.map_some]at h1;exact Option.some.inj h1
  refine wpAny_pyNext_dict_item st (ka.dictAt ho) hx fun key h' hk st' sb=>?_;have I1:aG X pins σ H { s with heap:=h' }:=I.turned (t':=s.toks) (fun b o hb e=>(sb.2 b hb).trans e) f0 f1 f3 f4 f5;obtain⟨o',e,c,d⟩:=id st';exact⟨key,rfl,i8 (s:={ s with heap:=h' }) e c d (by decide) ⟨kV kvs[i].1,H,I1,by rw[ke];exact xi hk,⟨rfl,kvs[i],List.getElem?_eq_getElem hi,rfl⟩,st',fun b hb=>(hf b hb).1⟩⟩
 done:=by
  intro X hP hw hK s hc i pins σ H E I hf st hg;subst hP hw hK;obtain⟨hi,hq⟩:=hg;obtain⟨ho,_⟩:s.heap.get? a=some o/\_:=I.hok a _ hq;obtain⟨f0,f1,f2,f3,f4,f5⟩:=hf it (by simp);have hl:kvs.length=vs.length:=rel.length;exact wpAny_pyNext_dict_end hc.none st (ka.dictAt ho) (List.getElem?_eq_none (by omega)) fun h' eb=>⟨rfl,I.turned (t':=s.toks) (fun b o hb e=>eb b o hb e) f0 f1 f3 f4 f5⟩
 self:=fun Fc Fc Fc Fc Fc st h=>wpAny_pyIter_keyiter st h
section
variable {X:Cx}{tg:Expr}
def zW (tl:TE):TI:=fun σ H R=>tl σ H fun x H1=>∃a kvs,x = .ref a/\H1 a=some (.dK kvs)/\∀o,R (Db a o kvs) (aL H1 a (.frz o (.dK kvs)))
theorem vt {l:Expr}{tl:TE}(hl:PE X l tl):PI X tg l (zW tl):=by
 intro pins s σ H R I h;refine bj (hl pins s σ H _ I h) fun v s1 ⟨x,H1,I1,r1,q1⟩=>?_;obtain⟨a,kvs,e,hq,q⟩:=q1;subst e;cases r1;obtain⟨z,hd,vs,rel,dd⟩:=qu I1.hok hq;obtain⟨ep,o,es,ho,r⟩:=dd.dictAt;have ka:KdkAt (bp X.prog X.w) o vs ep:=⟨es,r⟩;have I2:aG X pins σ (aL H1 a (.frz o (.dK kvs))) s1:=by
  have:=lP (ob:=.frz o (.dK kvs)) (h':=s1.heap) (t':=s1.toks) I1 (by rw[hq];trivial) ⟨rfl,fun Fc Fc=>rfl⟩ ⟨o,ho⟩ ⟨ho,tR z hd rel dd⟩;exact this
 refine wpAny_pyIter_dict hd ⟨o,es,ho,r⟩ ?_;refine⟨s1.heap.objs.size,[s1.heap.objs.size],_,_,_,rfl,I2.kept (t':=s1.toks) fun b o e=>Heap.get?_push_of_some _ e,sQ rel ka,⟨_,Heap.get?_push_size _ rfl,rfl,rfl⟩,fun b hb=>?_,q o⟩;have e:b=s1.heap.objs.size:=by simpa using hb
 subst e;exact I2.fpOk (Nat.le_refl _) (I2.hok.fresh (Nat.le_refl _))
end
end L2
namespace L2
open PySem PySem.Spec PyProof.Rows
theorem sR {a p:Addr}{o:Obj}{kvs:List (Key×V)}{tt:TT}{te:TE}{cs:St}{Q:VK}{H1:Hp}(Pv:Nat->List V->Hp->Prop)(h0:Pv 0 [] (aL H1 p (.lst [])))(hl:∀i ys H,i<=kvs.length->Pv i ys H->H a=some (.frz o (.dK kvs)))
 (hs:∀i kv ys H,kvs[i]? = some kv->Pv i ys H->tt (some (kV kv.1) :: cs) H fun b H4=>if b=true then te (some (kV kv.1) :: cs) H4 fun y H5=>H5 p=some (.lst ys)/\ys.length < sizeLine/\Pv (i+1) (ys++[y]) (aL H5 p (.lst (ys++[y])))else Pv (i+1) ys H4)
 (hd:∀ys H,Pv kvs.length ys H->Q (.ref p) H):ft (Db a o kvs) p tt te cs Q H1:=by
 refine fN kvs.length Pv h0 ?_ ?_
 . intro i ys H hi pv;refine⟨⟨hi,hl i ys H (Nat.le_of_lt hi) pv⟩,fun v H3 y=>?_⟩;obtain⟨rfl,kv,h1,rfl⟩:=y;exact hs i kv ys _ h1 pv
 . intro ys H pv;exact⟨⟨Nat.le_refl _,hl _ ys H (Nat.le_refl _) pv⟩,hd ys H pv⟩
end L2
namespace K41
open PySem L2
def mB (c:Cl)(H:Hp)(q:Addr):Prop:=(∃kvs,H q=some (.dK kvs))\/cu H q\/∃dx x fs,H q=some (.ins c.DE dx (("look",x) :: fs))
def KX (S:Addr->Prop)(H H':Hp):Prop:=∀q u,¬ S q->H q=some u->H' q=some u
section
variable {c:Cl}{PS PP PR:Addr}{H H':Hp}{S:Addr->Prop}
theorem fT (hb:∀q,S q->mB c H q){q:Addr}{u:List V}(e:H q=some (.tup u)):¬ S q:=fun z=>by
 rcases hb q z with⟨kvs,h⟩|⟨ps,h⟩|⟨dx,x,fs,h⟩ <;> (rw[h]at e;cases e)
theorem dt (hb:∀q,S q->mB c H q){q:Addr}{u:List V}(e:H q=some (.lst u)):¬ S q:=fun z=>by
 rcases hb q z with⟨kvs,h⟩|⟨ps,h⟩|⟨dx,x,fs,h⟩ <;> (rw[h]at e;cases e)
theorem qf (hb:∀q,S q->mB c H q){q C dx:Addr}{x:V}{fs:List (Str×V)}(e:H q=some (.ins C dx (("born",x) :: fs))):¬ S q:=fun z=>by
 rcases hb q z with⟨kvs,h⟩|⟨ps,h⟩|⟨dx',x',fs',h⟩
 . rw[h]at e;cases e
 . rw[h]at e;cases e
 . rw[h]at e;injection e with e;injection e with _ _ e;injection e with e _;injection e with e _;exact absurd e (by decide +kernel)
theorem mC (hb:∀q,S q->mB c H q){q:Addr}{φ:Heap->Prop}(e:H q=some (.ext φ))(n:∀ps,φ≠cN q ps):¬ S q:=fun z=>by
 rcases hb q z with⟨kvs,h⟩|t|⟨dx,x,fs,h⟩
 . rw[h]at e;cases e
 . exact mj t e n rfl
 . rw[h]at e;cases e
theorem bT.kx (k:KX S H H')(hb:∀q,S q->mB c H q):∀{kn:Kn} {x:V},bT c H kn x->bT c H' kn x:=by
 have tup:∀q u,H q=some (.tup u)->H' q=some (.tup u):=fun q u e=>k q _ (fT hb e) e;intro kn x h;cases kn with
 | cel b cs =>
  obtain⟨p,dx,v,e,h,a⟩:=h;exact⟨p,dx,v,e,k _ _ (qf hb h) h,At.keepT tup (by unfold nl;exact eQ cs) a⟩
 | fil b s r =>
  obtain⟨p,dx,v,e,h,a⟩:=h;exact⟨p,dx,v,e,k _ _ (qf hb h) h,At.keepT tup (by unfold nl;exact jB r) a⟩
 | fol b m es =>
  obtain⟨p,dx,v,e,h,a⟩:=h;exact⟨p,dx,v,e,k _ _ (qf hb h) h,At.keepT tup (by unfold nl;exact kQ es) a⟩
theorem z8.kx {lk:Addr}(h:z8 H lk)(k:KX S H H')(hb:∀q,S q->mB c H q):z8 H' lk:=by
 obtain⟨j,pm,c',ctv,g1,g2⟩:=h;exact⟨j,pm,c',ctv,k _ _ (mC hb g1 fun ps z=>by have:=qF rfl z;have:=congrArg Obj.data this;cases this) g1,k _ _ (mC hb g2 fun ps z=>i4 _ _ _ z) g2⟩
theorem dF.kx {d lk fr:Addr}{D:DS}(h:dF c H d lk fr D)(k:KX S H H')(hb:∀q,S q->mB c H q)(nd:¬ S d)(nf:¬ S fr):dF c H' d lk fr D:=by
 obtain⟨⟨dx,e⟩,⟨xs,e2,l,kn⟩,lo⟩:=h;exact⟨⟨dx,k _ _ nd e⟩,⟨xs,k _ _ nf e2,l,fun i k' x h1 h2=>(kn i k' x h1 h2).kx k hb⟩,lo.kx k hb⟩
theorem ig {P:Addr}{pos:Pos}{q:Str}(t:bo H P pos q)(k:KX S H H')(hb:∀q,S q->mB c H q)(n:¬ S P):bo H' P pos q :=
 d9 t fun b φ e h=>k b _ (by
  rcases h with rfl|⟨q',rfl⟩
  . exact n
  . exact mC hb e fun ps z=>i4 _ _ _ z) e
theorem T2.kx (t:T2 PS PP H)(k:KX S H H')(hb:∀q,S q->mB c H q)(n1:¬ S PS)(n2:¬ S PP):T2 PS PP H':=⟨ig t.tb k hb n1,ig t.tp k hb n2,t.ne⟩
theorem cO.kx {ff:Addr}{ws:List Str}{F:Fm}(h:cO H ff ws F)(k:KX S H H')(hb:∀q,S q->mB c H q)(n:¬ S ff):cO H' ff ws F:=h.mono (fun Fc e=>k _ _ n e) fun Fc Fc e=>k _ _ (dt hb e) e
theorem dD.kx {a:Ask}{v:V}(h:dD H a v)(k:KX S H H')(hb:∀q,S q->mB c H q):dD H' a v:=by
 cases a with
 | put n a cs =>
  obtain⟨t,pl,e,h1,h2⟩:=h;exact⟨t,pl,e,k _ _ (fT hb h1) h1,k _ _ (dt hb h2) h2⟩
 | trim n z =>
  obtain⟨t,e,h1⟩:=h;exact⟨t,e,k _ _ (fT hb h1) h1⟩
 | hollow n a l =>
  obtain⟨t,e,h1⟩:=h;exact⟨t,e,k _ _ (fT hb h1) h1⟩
 | share n a l n2 u =>
  obtain⟨t,e,h1⟩:=h;exact⟨t,e,k _ _ (fT hb h1) h1⟩
 | twin n n2 =>
  obtain⟨t,e,h1⟩:=h;exact⟨t,e,k _ _ (fT hb h1) h1⟩
end
structure Ad where
 pn:Addr
 d1:Addr
 k1:Addr
 f1:Addr
 d2:Addr
 k2:Addr
 f2:Addr
 ff:Addr
 fo:Addr
structure WS (c:Cl)(PS PP PR PL:Addr)(A:Ad)(ws:List Str)(H:Hp)(D1:DS)(b1 m1:Int)(es1:List Ent)(F1:Fm)(D2:DS)(b2 m2:Int)(es2:List Ent)(F2:Fm)(Fd Od:Fm):Prop where
 hn:H A.pn=some (.lst (ws.map V.str))
 g1:G1 c PS PP H A.d1 A.k1 A.f1 D1 b1 m1 es1 ws F1
 g2:G1 c PS PP H A.d2 A.k2 A.f2 D2 b2 m2 es2 ws F2
 ff:cO H A.ff ws Fd
 fo:cO H A.fo ws Od
 tr:bo H PR sP lamR.qual
 tl:cu H PL
 nd:A.d1≠A.d2
 nf:[A.f1,A.f2,A.ff,A.fo].Nodup
 np:PR≠PS/\PR≠PP/\PL≠PS/\PL≠PP/\PL≠PR
section
variable {c:Cl}{PS PP PR PL:Addr}{A:Ad}{ws:List Str}{H H':Hp}{D1:DS}{b1 m1:Int}{es1:List Ent}{F1:Fm}{D2:DS}{b2 m2:Int}{es2:List Ent}{F2:Fm}{Fd Od:Fm}
theorem cu.kx {S:Addr->Prop}{P:Addr}(h:cu H P)(k:KX S H H')(n:¬ S P):cu H' P:=by
 obtain⟨ps,e⟩:=h;exact⟨ps,k _ _ n e⟩
theorem cO.dk {ff:Addr}{F:Fm}(h:cO H ff ws F):∃kvs,H ff=some (.dK kvs):=by
 obtain⟨kvs,_,e,_⟩:=h.ex;exact⟨kvs,e⟩
theorem WS.kx {S:Addr->Prop}(w:WS c PS PP PR PL A ws H D1 b1 m1 es1 F1 D2 b2 m2 es2 F2 Fd Od)(k:KX S H H')(hb:∀q,S q->mB c H q)(h:¬ S A.d1/\¬ S A.d2/\¬ S A.f1/\¬ S A.f2/\¬ S A.ff/\¬ S A.fo/\¬ S PS/\¬ S PP/\¬ S PR/\¬ S PL):WS c PS PP PR PL A ws H' D1 b1 m1 es1 F1 D2 b2 m2 es2 F2 Fd Od:=by
 obtain⟨n1,n2,n3,n4,n5,n6,n7,n8,n9,n10⟩:=h;exact⟨k _ _ (dt hb w.hn) w.hn,⟨w.g1.de.kx k hb n1 n3,w.g1.t2.kx k hb n7 n8,w.g1.md,w.g1.w3,w.g1.iw⟩,⟨w.g2.de.kx k hb n2 n4,w.g2.t2.kx k hb n7 n8,w.g2.md,w.g2.w3,w.g2.iw⟩,w.ff.kx k hb n5,w.fo.kx k hb n6,ig w.tr k hb n9,w.tl.kx k n10,w.nd,w.nf,w.np⟩
theorem WS.mono (w:WS c PS PP PR PL A ws H D1 b1 m1 es1 F1 D2 b2 m2 es2 F2 Fd Od)(s:aE H H'):WS c PS PP PR PL A ws H' D1 b1 m1 es1 F1 D2 b2 m2 es2 F2 Fd Od:=w.kx (S:=fun Fc=>False) (fun q u Fc e=>s q u e) (fun q z=>z.elim) ⟨id,id,id,id,id,id,id,id,id,id⟩
theorem WS.ds (w:WS c PS PP PR PL A ws H D1 b1 m1 es1 F1 D2 b2 m2 es2 F2 Fd Od):((A.f1≠A.f2/\A.f1≠A.ff/\A.f1≠A.fo)/\(A.f2≠A.ff/\A.f2≠A.fo)/\A.ff≠A.fo):=by
 have:=w.nf;simp only[List.nodup_cons,List.mem_cons,List.not_mem_nil,or_false,not_or,not_false_eq_true,List.nodup_nil,and_true]at this;exact this
theorem WS.kinds (w:WS c PS PP PR PL A ws H D1 b1 m1 es1 F1 D2 b2 m2 es2 F2 Fd Od):(∀q,(q=A.f1\/q=A.f2\/q=A.ff\/q=A.fo)->∃kvs,H q=some (.dK kvs))/\(∀q,(q=A.d1\/q=A.d2)->∃dx x fs,H q=some (.ins c.DE dx (("look",x) :: fs)))/\(∀q,(q=PS\/q=PP\/q=PR\/q=PL)->cu H q):=by
 refine⟨fun q h=>?_,fun q h=>?_,fun q h=>?_⟩
 . rcases h with rfl|rfl|rfl|rfl
   . obtain⟨xs,e,_⟩:=w.g1.de.fr_;exact⟨_,e⟩
   . obtain⟨xs,e,_⟩:=w.g2.de.fr_;exact⟨_,e⟩
   . exact w.ff.dk
   . exact w.fo.dk
 . rcases h with rfl|rfl
   . obtain⟨dx,e⟩:=w.g1.de.at_;exact⟨_,_,_,e⟩
   . obtain⟨dx,e⟩:=w.g2.de.at_;exact⟨_,_,_,e⟩
 . rcases h with rfl|rfl|rfl|rfl
   . exact aW w.g1.t2.tb
   . exact aW w.g1.t2.tp
   . exact aW w.tr
   . exact w.tl
theorem gm {q:Addr}(h1:∃kvs,H q=some (.dK kvs))(h2:∃dx x fs,H q=some (.ins c.DE dx (("look",x) :: fs))):False:=by
 obtain⟨_,e⟩:=h1;obtain⟨_,_,_,e2⟩:=h2;rw[e]at e2;cases e2
theorem cJ {q:Addr}(h1:∃kvs,H q=some (.dK kvs))(h2:cu H q):False:=by
 obtain⟨_,e⟩:=h1;obtain⟨_,e2⟩:=h2;rw[e]at e2;cases e2
theorem du {q:Addr}(h1:∃dx x fs,H q=some (.ins c.DE dx (("look",x) :: fs)))(h2:cu H q):False:=by
 obtain⟨_,_,_,e⟩:=h1;obtain⟨_,e2⟩:=h2;rw[e]at e2;cases e2
theorem Ki.kx {d fr:Addr}(k:Ki d fr PS PP H H'):KX (fun q=>q=d\/q=fr\/q=PS\/q=PP) H H':=fun q u n e=>k q u (fun z=>n (.inl z)) (fun z=>n (.inr (.inl z))) (fun z=>n (.inr (.inr (.inl z)))) (fun z=>n (.inr (.inr (.inr z)))) e
theorem WS.bad1 (w:WS c PS PP PR PL A ws H D1 b1 m1 es1 F1 D2 b2 m2 es2 F2 Fd Od):∀q,(q=A.d1\/q=A.f1\/q=PS\/q=PP)->mB c H q:=fun q h=>by
 obtain⟨kd,ki,kt⟩:=w.kinds;rcases h with rfl|rfl|rfl|rfl
 . exact .inr (.inr (ki _ (.inl rfl)))
 . exact .inl (kd _ (.inl rfl))
 . exact .inr (.inl (kt _ (.inl rfl)))
 . exact .inr (.inl (kt _ (.inr (.inl rfl))))
theorem WS.bad2 (w:WS c PS PP PR PL A ws H D1 b1 m1 es1 F1 D2 b2 m2 es2 F2 Fd Od):∀q,(q=A.d2\/q=A.f2\/q=PS\/q=PP)->mB c H q:=fun q h=>by
 obtain⟨kd,ki,kt⟩:=w.kinds;rcases h with rfl|rfl|rfl|rfl
 . exact .inr (.inr (ki _ (.inr rfl)))
 . exact .inl (kd _ (.inr (.inl rfl)))
 . exact .inr (.inl (kt _ (.inl rfl)))
 . exact .inr (.inl (kt _ (.inr (.inl rfl))))
theorem WS.dk1 (w:WS c PS PP PR PL A ws H D1 b1 m1 es1 F1 D2 b2 m2 es2 F2 Fd Od){q:Addr}(hq:∃kvs,H q=some (.dK kvs))(n:q≠A.f1):¬ (q=A.d1\/q=A.f1\/q=PS\/q=PP):=fun h=>by
 obtain⟨kd,ki,kt⟩:=w.kinds;rcases h with rfl|rfl|rfl|rfl
 . exact gm hq (ki _ (.inl rfl))
 . exact n rfl
 . exact cJ hq (kt _ (.inl rfl))
 . exact cJ hq (kt _ (.inr (.inl rfl)))
theorem WS.dk2 (w:WS c PS PP PR PL A ws H D1 b1 m1 es1 F1 D2 b2 m2 es2 F2 Fd Od){q:Addr}(hq:∃kvs,H q=some (.dK kvs))(n:q≠A.f2):¬ (q=A.d2\/q=A.f2\/q=PS\/q=PP):=fun h=>by
 obtain⟨kd,ki,kt⟩:=w.kinds;rcases h with rfl|rfl|rfl|rfl
 . exact gm hq (ki _ (.inr rfl))
 . exact n rfl
 . exact cJ hq (kt _ (.inl rfl))
 . exact cJ hq (kt _ (.inr (.inl rfl)))
theorem WS.do1 (w:WS c PS PP PR PL A ws H D1 b1 m1 es1 F1 D2 b2 m2 es2 F2 Fd Od){D':DS}{b' m':Int}{es':List Ent}{F':Fm}(k:Ki A.d1 A.f1 PS PP H H')(g:G1 c PS PP H' A.d1 A.k1 A.f1 D' b' m' es' ws F'):WS c PS PP PR PL A ws H' D' b' m' es' F' D2 b2 m2 es2 F2 Fd Od:=by
 obtain⟨kd,ki,kt⟩:=w.kinds;obtain⟨⟨x1,x2,x3⟩,⟨x4,x5⟩,x6⟩:=w.ds;have kx:KX (fun q=>q=A.d1\/q=A.f1\/q=PS\/q=PP) H H':=fun q u n e=>k q u (fun z=>n (.inl z)) (fun z=>n (.inr (.inl z))) (fun z=>n (.inr (.inr (.inl z)))) (fun z=>n (.inr (.inr (.inr z)))) e;have hb:∀q,(q=A.d1\/q=A.f1\/q=PS\/q=PP)->mB c H q:=fun q h=>by
  rcases h with rfl|rfl|rfl|rfl
  . exact .inr (.inr (ki _ (.inl rfl)))
  . exact .inl (kd _ (.inl rfl))
  . exact .inr (.inl (kt _ (.inl rfl)))
  . exact .inr (.inl (kt _ (.inr (.inl rfl))))
 have nD:∀q,(∃kvs,H q=some (.dK kvs))->q≠A.f1->¬ (q=A.d1\/q=A.f1\/q=PS\/q=PP):=fun q hq n h=>by
  rcases h with rfl|rfl|rfl|rfl
  . exact gm hq (ki _ (.inl rfl))
  . exact n rfl
  . exact cJ hq (kt _ (.inl rfl))
  . exact cJ hq (kt _ (.inr (.inl rfl)))
 have nI:¬ (A.d2=A.d1\/A.d2=A.f1\/A.d2=PS\/A.d2=PP):=fun h=>by
  rcases h with h|h|h|h
  . exact w.nd h.symm
  . exact gm (h ▸ kd _ (.inl rfl)) (ki _ (.inr rfl))
  . exact du (ki _ (.inr rfl)) (h ▸ kt _ (.inl rfl))
  . exact du (ki _ (.inr rfl)) (h ▸ kt _ (.inr (.inl rfl)))
 have nL:¬ (PL=A.d1\/PL=A.f1\/PL=PS\/PL=PP):=fun h=>by
  rcases h with h|h|h|h
  . exact du (ki _ (.inl rfl)) (h ▸ w.tl)
  . exact cJ (kd _ (.inl rfl)) (h ▸ w.tl)
  . exact w.np.2.2.1 h
  . exact w.np.2.2.2.1 h
 have nR:¬ (PR=A.d1\/PR=A.f1\/PR=PS\/PR=PP):=fun h=>by
  rcases h with h|h|h|h
  . exact du (ki _ (.inl rfl)) (h ▸ kt _ (.inr (.inr (.inl rfl))))
  . exact cJ (kd _ (.inl rfl)) (h ▸ kt _ (.inr (.inr (.inl rfl))))
  . exact w.np.1 h
  . exact w.np.2.1 h
 exact⟨kx _ _ (dt hb w.hn) w.hn,g,⟨w.g2.de.kx kx hb nI (nD _ (kd _ (.inr (.inl rfl))) x1.symm),g.t2,w.g2.md,w.g2.w3,w.g2.iw⟩,w.ff.kx kx hb (nD _ (kd _ (.inr (.inr (.inl rfl)))) x2.symm),w.fo.kx kx hb (nD _ (kd _ (.inr (.inr (.inr rfl)))) x3.symm),ig w.tr kx hb nR,w.tl.kx kx nL,w.nd,w.nf,w.np⟩
theorem WS.do2 (w:WS c PS PP PR PL A ws H D1 b1 m1 es1 F1 D2 b2 m2 es2 F2 Fd Od){D':DS}{b' m':Int}{es':List Ent}{F':Fm}(k:Ki A.d2 A.f2 PS PP H H')(g:G1 c PS PP H' A.d2 A.k2 A.f2 D' b' m' es' ws F'):WS c PS PP PR PL A ws H' D1 b1 m1 es1 F1 D' b' m' es' F' Fd Od:=by
 obtain⟨kd,ki,kt⟩:=w.kinds;obtain⟨⟨x1,x2,x3⟩,⟨x4,x5⟩,x6⟩:=w.ds;have kx:KX (fun q=>q=A.d2\/q=A.f2\/q=PS\/q=PP) H H':=fun q u n e=>k q u (fun z=>n (.inl z)) (fun z=>n (.inr (.inl z))) (fun z=>n (.inr (.inr (.inl z)))) (fun z=>n (.inr (.inr (.inr z)))) e;have hb:∀q,(q=A.d2\/q=A.f2\/q=PS\/q=PP)->mB c H q:=fun q h=>by
  rcases h with rfl|rfl|rfl|rfl
  . exact .inr (.inr (ki _ (.inr rfl)))
  . exact .inl (kd _ (.inr (.inl rfl)))
  . exact .inr (.inl (kt _ (.inl rfl)))
  . exact .inr (.inl (kt _ (.inr (.inl rfl))))
 have nD:∀q,(∃kvs,H q=some (.dK kvs))->q≠A.f2->¬ (q=A.d2\/q=A.f2\/q=PS\/q=PP):=fun q hq n h=>by
  rcases h with rfl|rfl|rfl|rfl
  . exact gm hq (ki _ (.inr rfl))
  . exact n rfl
  . exact cJ hq (kt _ (.inl rfl))
  . exact cJ hq (kt _ (.inr (.inl rfl)))
 have nI:¬ (A.d1=A.d2\/A.d1=A.f2\/A.d1=PS\/A.d1=PP):=fun h=>by
  rcases h with h|h|h|h
  . exact w.nd h
  . exact gm (h ▸ kd _ (.inr (.inl rfl))) (ki _ (.inl rfl))
  . exact du (ki _ (.inl rfl)) (h ▸ kt _ (.inl rfl))
  . exact du (ki _ (.inl rfl)) (h ▸ kt _ (.inr (.inl rfl)))
 have nL:¬ (PL=A.d2\/PL=A.f2\/PL=PS\/PL=PP):=fun h=>by
  rcases h with h|h|h|h
  . exact du (ki _ (.inr rfl)) (h ▸ w.tl)
  . exact cJ (kd _ (.inr (.inl rfl))) (h ▸ w.tl)
  . exact w.np.2.2.1 h
  . exact w.np.2.2.2.1 h
 have nR:¬ (PR=A.d2\/PR=A.f2\/PR=PS\/PR=PP):=fun h=>by
  rcases h with h|h|h|h
  . exact du (ki _ (.inr rfl)) (h ▸ kt _ (.inr (.inr (.inl rfl))))
  . exact cJ (kd _ (.inr (.inl rfl))) (h ▸ kt _ (.inr (.inr (.inl rfl))))
  . exact w.np.1 h
  . exact w.np.2.1 h
 exact⟨kx _ _ (dt hb w.hn) w.hn,⟨w.g1.de.kx kx hb nI (nD _ (kd _ (.inl rfl)) x1),g.t2,w.g1.md,w.g1.w3,w.g1.iw⟩,g,w.ff.kx kx hb (nD _ (kd _ (.inr (.inr (.inl rfl)))) x4.symm),w.fo.kx kx hb (nD _ (kd _ (.inr (.inr (.inr rfl)))) x5.symm),ig w.tr kx hb nR,w.tl.kx kx nL,w.nd,w.nf,w.np⟩
theorem WS.one (w:WS c PS PP PR PL A ws H D1 b1 m1 es1 F1 D2 b2 m2 es2 F2 Fd Od){x:Addr}(hx:∃kvs,H x=some (.dK kvs))(n1:x≠A.f1)(n2:x≠A.f2)(k:∀q u,q≠x->H q=some u->H' q=some u) :
 H' A.pn=some (.lst (ws.map V.str))/\G1 c PS PP H' A.d1 A.k1 A.f1 D1 b1 m1 es1 ws F1/\G1 c PS PP H' A.d2 A.k2 A.f2 D2 b2 m2 es2 ws F2/\bo H' PR sP lamR.qual/\cu H' PL/\(A.ff≠x->cO H' A.ff ws Fd)/\(A.fo≠x->cO H' A.fo ws Od):=by
 obtain⟨kd,ki,kt⟩:=w.kinds;have kx:KX (fun q=>q=x) H H':=fun q u n e=>k q u n e;have hb:∀q,(q=x)->mB c H q:=fun q h=>by rw[h];exact .inl hx
 have nI:∀q,(q=A.d1\/q=A.d2)->¬ q=x:=fun q h e=>gm hx (e ▸ ki q h);have nT:∀q,(q=PS\/q=PP\/q=PR\/q=PL)->¬ q=x:=fun q h e=>cJ hx (e ▸ kt q h);exact⟨kx _ _ (dt hb w.hn) w.hn,⟨w.g1.de.kx kx hb (nI _ (.inl rfl)) (Ne.symm n1),w.g1.t2.kx kx hb (nT _ (.inl rfl)) (nT _ (.inr (.inl rfl))),w.g1.md,w.g1.w3,w.g1.iw⟩,⟨w.g2.de.kx kx hb (nI _ (.inr rfl)) (Ne.symm n2),w.g2.t2.kx kx hb (nT _ (.inl rfl)) (nT _ (.inr (.inl rfl))),w.g2.md,w.g2.w3,w.g2.iw⟩,ig w.tr kx hb (nT _ (.inr (.inr (.inl rfl)))),w.tl.kx kx (nT _ (.inr (.inr (.inr rfl)))),fun n=>w.ff.kx kx hb n,fun n=>w.fo.kx kx hb n⟩
theorem WS.chF (w:WS c PS PP PR PL A ws H D1 b1 m1 es1 F1 D2 b2 m2 es2 F2 Fd Od){F':Fm}(k:∀q u,q≠A.ff->H q=some u->H' q=some u)(f:cO H' A.ff ws F'):WS c PS PP PR PL A ws H' D1 b1 m1 es1 F1 D2 b2 m2 es2 F2 F' Od:=by
 obtain⟨⟨x1,x2,x3⟩,⟨x4,x5⟩,x6⟩:=w.ds;obtain⟨h1,h2,h3,h4,h7,_,h6⟩:=w.one w.ff.dk x2.symm x4.symm k;exact⟨h1,h2,h3,f,h6 x6.symm,h4,h7,w.nd,w.nf,w.np⟩
theorem WS.chO (w:WS c PS PP PR PL A ws H D1 b1 m1 es1 F1 D2 b2 m2 es2 F2 Fd Od){F':Fm}(k:∀q u,q≠A.fo->H q=some u->H' q=some u)(f:cO H' A.fo ws F'):WS c PS PP PR PL A ws H' D1 b1 m1 es1 F1 D2 b2 m2 es2 F2 Fd F':=by
 obtain⟨⟨x1,x2,x3⟩,⟨x4,x5⟩,x6⟩:=w.ds;obtain⟨h1,h2,h3,h4,h7,h5,_⟩:=w.one w.fo.dk x3.symm x5.symm k;exact⟨h1,h2,h3,h5 x6,f,h4,h7,w.nd,w.nf,w.np⟩
theorem WS.frz (w:WS c PS PP PR PL A ws H D1 b1 m1 es1 F1 D2 b2 m2 es2 F2 Fd Od){x:Addr}(hx:∃kvs,H x=some (.dK kvs))(n:x≠A.f1/\x≠A.f2/\x≠A.ff/\x≠A.fo)(k:∀q u,q≠x->H q=some u->H' q=some u):WS c PS PP PR PL A ws H' D1 b1 m1 es1 F1 D2 b2 m2 es2 F2 Fd Od:=by
 obtain⟨h1,h2,h3,h4,h7,h5,h6⟩:=w.one hx n.1 n.2.1 k;exact⟨h1,h2,h3,h5 n.2.2.1.symm,h6 n.2.2.2.symm,h4,h7,w.nd,w.nf,w.np⟩
theorem WS.sx (w:WS c PS PP PR PL A ws H D1 b1 m1 es1 F1 D2 b2 m2 es2 F2 Fd Od)(s:eX PR H H')(t:bo H' PR sP lamR.qual):WS c PS PP PR PL A ws H' D1 b1 m1 es1 F1 D2 b2 m2 es2 F2 Fd Od:=by
 obtain⟨kd,ki,kt⟩:=w.kinds;have kx:KX (fun q=>q=PR) H H':=fun q u n e=>s q u n e;have hb:∀q,(q=PR)->mB c H q:=fun q h=>by rw[h];exact .inr (.inl (aW w.tr))
 have nD:∀q,(∃kvs,H q=some (.dK kvs))->¬ q=PR:=fun q hq e=>cJ hq (e ▸ aW w.tr);have nI:∀q,(q=A.d1\/q=A.d2)->¬ q=PR:=fun q h e=>du (ki q h) (e ▸ aW w.tr);have t2:=w.g1.t2.kx kx hb (Ne.symm w.np.1) (Ne.symm w.np.2.1);exact⟨kx _ _ (dt hb w.hn) w.hn,⟨w.g1.de.kx kx hb (nI _ (.inl rfl)) (nD _ (kd _ (.inl rfl))),t2,w.g1.md,w.g1.w3,w.g1.iw⟩,⟨w.g2.de.kx kx hb (nI _ (.inr rfl)) (nD _ (kd _ (.inr (.inl rfl)))),t2,w.g2.md,w.g2.w3,w.g2.iw⟩,w.ff.kx kx hb (nD _ w.ff.dk),w.fo.kx kx hb (nD _ w.fo.dk),t,w.tl.kx kx w.np.2.2.2.2,w.nd,w.nf,w.np⟩
end
def oH (k:Ask):List Int:=(List.range k.many).map fun i:Nat=>((bw k.cs i).length:Int)
theorem qg {D D':DS}{es es':List Ent}{k:Ask}{kvs kvs':List (Key×V)}{ks ks':List Int}(a:C6 D es D' es' k)(h:Ks kvs ks (fun x=>x∈D.pl es))(h':Ks kvs' ks' (fun x=>x∈D'.pl es')) :
 ((ks'.filter fun p=>decide (p ∉ ks)).map fun p=>((D'.pc p).length:Int)).Perm (oH k):=by
 have p:(ks'.filter fun p=>decide (p ∉ ks)).Perm ((List.range k.many).map fun i:Nat=>2+(D.N:Int)+(i:Int)):=by
  refine mx (h'.2.1.sublist (List.filter_sublist ..)) ?_ fun x=>?_
  . refine List.Pairwise.map _ (fun a b hab=>?_) List.nodup_range;intro z;exact hab (by omega)
  . rw[List.mem_filter,decide_eq_true_iff,h'.2.2,h.2.2];exact a.np x
 have q:=p.map fun p=>((D'.pc p).length:Int);refine q.trans (List.Perm.of_eq ?_);unfold oH;rw[List.map_map];refine List.map_congr_left fun i hi=>?_;show((D'.pc (2+(D.N:Int)+(i:Int))).length:Int)=_;rw[a.ch i (List.mem_range.mp hi)]
theorem wY {a b ms ns:List Int}(p:a.Perm b)(h1:ms.Perm a)(h2:ns.Perm b)(s1:ms.Pairwise (· <= ·))(s2:ns.Pairwise (· <= ·)):ms=ns :=
 List.Perm.eq_of_pairwise (fun a b Fc Fc h1 h2=>Int.le_antisymm h1 h2) s1 s2 ((h1.trans p).trans h2.symm)
theorem Md.cel {D:DS}{b m:Int}{es:List Ent}{ws:List Str}{F:Fm}(h:Md D b m es ws F){p:Int}(hp:p∈D.pl es):∃b,D.view p = .cel b (D.pc p):=by
 obtain⟨y,hy,hp⟩:=List.mem_flatMap.mp hp;obtain⟨s,r,os,f,_⟩:=h.fl y hy;obtain⟨t,ht⟩:=f.pl.mp hp;have:=f.fi.gs p t ht;exact vn (by omega)
theorem Md.fil {D:DS}{b m:Int}{es:List Ent}{ws:List Str}{F:Fm}(h:Md D b m es ws F):∀y∈es,∃s r,D.view y.2.2 = .fil 5 s r/\r.length<=40:=fun y hy=>by
 obtain⟨s,r,os,f,_⟩:=h.fl y hy;exact⟨s,r,f.vw,mt f.fi⟩
def emp:Fm:=fun Fc=>none
theorem qT (O:Fm)(n:Str)(x y:List Int):(O.set n x).set n y=O.set n y:=by
 funext k
 unfold Fm.set;by_cases z:k=n
 . rw[if_pos z,if_pos z]
 . rw[if_neg z,if_neg z,if_neg z]
theorem wZ {O:Fm}{n:Str}(hO:O=emp\/∃y,O=emp.set n [y])(x:Int):(Ask.put n 0 [x]).chg O=emp.set n [x]:=by
 show O.set n (p9 ((O n).getD []) 0 [x])=_;rcases hO with rfl|⟨y,rfl⟩
 . rfl
 . have e:((emp.set n [y]) n).getD []=[y]:=by
    unfold Fm.set;rw[if_pos rfl];rfl
   rw[e,qT];rfl
theorem gn {D:DS}{p:Int}{k:Kn}(h:D.view p=k)(n:k ≠ .fol 1 0 []):1000<=p/\D.ks[(p - 1000).toNat]? = some k:=by
 unfold DS.view at h;by_cases z:1000<=p
 . rw[if_pos z]at h;refine⟨z,?_⟩;cases e:D.ks[(p - 1000).toNat]? with
   | none=>rw[e]at h;exact absurd h.symm n
   | some k'=>rw[e]at h;exact congrArg some h
 . rw[if_neg z]at h;exact absurd h.symm n
theorem zX {rs:List S4}:∀{lo hi:Int},bV lo rs hi->lo+(rs.length:Int)<=hi:=by
 induction rs with
 | nil=>intro lo hi o;have:lo<=hi:=o;simp only[List.length_nil];omega
 | cons r t ih =>
  intro lo hi o;have:=ih o.2.2;have:=o.1;have:=o.2.1;simp only[List.length_cons];omega
theorem vv {r:List S4}(o:bV 0 r 1):r.length<=1:=by
 have:=zX o;omega
theorem qh {D:DS}{m x q:Int}{es:List Ent}{ws:List Str}{n:Str}(h:Md D 5 m es ws (emp.set n [x]))(hq:q∈D.pl es)(hl:(D.pc q).length<=20):∃ys,Gr D D.root ys/\ys.length=3:=by
 have all:∀y∈es,y.1=n:=fun y hy=>by
  obtain⟨_,_,_,_,e⟩:=h.fl y hy;unfold Fm.set at e;by_cases z:y.1=n
  . exact z
  . rw[if_neg z]at e;cases e
 have fD:∃y,es=[y]:=by
  have nd:=h.nd;cases es with
  | nil=>cases hq
  | cons y t =>
   cases t with
   | nil=>exact⟨y,rfl⟩
   | cons b t =>
    rw[List.map_cons,List.map_cons,all y (by simp),all b (by simp)]at nd;simp at nd
 obtain⟨y,rfl⟩:=fD;obtain⟨s,r,os,f,e⟩:=h.fl y (by simp);have ev:D.vals os=[x]:=by
  have e':(emp.set n [x]) y.1=some [x]:=by
   unfold Fm.set;rw[if_pos (all y (by simp))]
  rw[e']at e;exact(Option.some.inj e).symm
 have el:os.length=1:=by
  have:=congrArg List.length ev;unfold DS.vals at this;rw[List.length_map]at this;exact this
 have es1:s=1:=(show os.length=s from f.fi.len).symm.trans el;subst es1;have o1:bV 0 r 1:=f.fi.ord;have l1:=vv o1;obtain⟨y',hy',hq'⟩:=List.mem_flatMap.mp hq;rw[List.mem_singleton.mp hy',f.vw]at hq';have hq2:q∈r.map (·.2.2.1):=hq';obtain⟨x4,hr⟩:∃x4,r=[x4]:=by
  cases r with
  | nil=>cases hq2
  | cons a t =>
   cases t with
   | nil=>exact⟨a,rfl⟩
   | cons b t=>exact absurd l1 (by simp)
 subst hr;have eq:x4.2.2.1=q:=(List.mem_singleton.mp hq2).symm;obtain⟨cb,hc⟩:=h.cel hq;have gC:Gx sU Gn D q [q]:=by
  obtain⟨h1,h2⟩:=gn hc (by intro z;cases z);exact⟨h1,_,h2,⟨_,_,rfl⟩,hl,.inl ⟨rfl,rfl⟩⟩
 have gF:Gx uT (Gx sU Gn) D y.2.2 [q,y.2.2]:=by
  obtain⟨h1,h2⟩:=gn f.vw (by intro z;cases z);refine⟨h1,_,h2,⟨_,_,_,rfl⟩,by show 1<=20;decide,.inr ⟨q,[q],?_,gC,fun z=>?_,by show 1<=90;decide,rfl⟩⟩
  . show [x4.2.2.1]=[q];rw[eq]
  . have z:=List.mem_singleton.mp z;have:=f.vw;rw[z,hc]at this;cases this
 have gD:Gx uU (Gx uT (Gx sU Gn)) D D.root [q,y.2.2,D.root]:=by
  obtain⟨h1,h2⟩:=gn h.rt (by intro z;cases z);refine⟨h1,_,h2,⟨_,_,_,rfl⟩,by show 1<=20;decide,.inr ⟨y.2.2,[q,y.2.2],rfl,gF,fun z=>?_,by show 2<=90;decide,rfl⟩⟩;rcases List.mem_cons.mp z with z|z
  . have:=h.rt;rw[z,hc]at this;cases this
  . have z:=List.mem_singleton.mp z;have:=h.rt;rw[z,f.vw]at this;cases this
 exact⟨_,.inr gD,rfl⟩
theorem cO.len {H:Hp}{ff:Addr}{ws:List Str}{n:Str}{F:Fm}{kvs:List (Key×V)}(h:cO H ff ws F)(e:H ff=some (.dK kvs)):(F=emp->kvs.length=0)/\(∀x,F=emp.set n [x]->kvs.length=1):=by
 obtain⟨kvs',ss,e',hk,nd,sub,hv⟩:=h;rw[e]at e';cases e';have lk:kvs.length=ss.length:=by
  have e1:(kvs.map (·.1)).length=(ss.map (Sum.inr:Str->Key)).length:=by rw[hk]
  rw[List.length_map,List.length_map]at e1;exact e1
 have mem:∀k,k∈ss->∃l,F k=some l:=fun k hk'=>by
  cases e2:F k with
  | some l=>exact⟨l,rfl⟩
  | none =>
   have h1:=hv k;rw[e2]at h1;have h1':bB kvs (.inr k)=none:=h1;have:(Sum.inr k:Key)∈kvs.map (·.1):=by rw[hk];exact List.mem_map.mpr ⟨k,hk',rfl⟩
   obtain⟨kv,hm,he⟩:=List.mem_map.mp this;unfold bB at h1';rw[Option.map_eq_none_iff,List.find?_eq_none]at h1';exact absurd (decide_eq_true he) (h1' kv hm)
 constructor
 . rintro rfl;rw[lk];cases ss with
   | nil=>rfl
   | cons a t =>
    obtain⟨l,hl⟩:=mem a (by simp);cases hl
 . rintro x rfl;rw[lk];have hn:n∈ss:=by
    have h1:=hv n;have e2:(emp.set n [x]) n=some [x]:=by
     unfold Fm.set;rw[if_pos rfl]
    rw[e2]at h1;obtain⟨p,h2,_⟩:=h1;have:=iP h2;rw[hk]at this;obtain⟨y,hy,ey⟩:=List.mem_map.mp this;injection ey with ey;rw[<- ey];exact hy
   have all:∀k∈ss,k=n:=fun k hk'=>by
    obtain⟨l,hl⟩:=mem k hk';unfold Fm.set at hl;by_cases z:k=n
    . exact z
    . rw[if_neg z]at hl;cases hl
   match ss,nd,hn,all with
   | [],_,hn,_=>cases hn
   | [a],_,_,_=>rfl
   | a :: b :: t,nd,_,all =>
    rw[all a (by simp),all b (by simp)]at nd;simp at nd
theorem vx {K:W.Frag}{PC a:Addr}{H H':Hp}{xs:List V}(i:cu H PC)(s:eX PC H H')(h:bh K H a xs):bh K H' a xs:=by
 have n:∀b o,(∀ φ,o≠HO.ext φ)->H b=some o->H' b=some o:=fun b o no e=>s b o (fun z=>by
  obtain⟨ps,hp⟩:=i;rw[z,hp]at e;cases e;exact no _ rfl) e
 rcases h with(h|⟨o,h⟩)|h
 . exact .inl (.inl (n _ _ (by intro φ z;cases z) h))
 . exact .inl (.inr ⟨o,n _ _ (by intro φ z;cases z) h⟩)
 . exact .inr h
def Dx (n:Str)(D:DS)(b:Int)(es:List Ent)(O:Fm)(i:Nat):Prop:=(i=0/\O=emp/\D.root=2)\/(b=5/\∃x q,O=emp.set n [x]/\q∈D.pl es/\(D.pc q).length<=20)
section
variable {P:Program}{w:World}{K:W.Frag}{mg:Str->Option Value}{base:Heap}{f fCel fWds fAsk fDat fDoo fChg fRig fEIn fEpu fEvi fCSt fEne:Addr}{fd dCel dWds dAsk dDat dDoo dChg dRig dEIn dEpu dEvi dCSt dEne:FuncData}{c:Cl}{cc PL PR PS PP:Addr}
def qU (PL PR PS PP:Addr)(K:W.Frag):Sp:=fun vs H Q Fc=>∃(a:Addr) (ns:List Int),vs=[.ref a]/\bh K H a (ns.map V.int)/\ns.length<=63/\H PS=some (.ext (cN PS #[]))/\H PP=some (.ext (cN PP #[]))/\H PR=some (.ext (cN PR #[]))/\H PL=some (.ext (cN PL #[]))/\[PS,PP,PR,PL].Nodup/\∀H',cu H' PS->cu H' PP->cu H' PR->cu H' PL->Q (.bl true) H'
theorem vy {H:Hp}{P:Addr}{pos:Pos}{q:Str}(h:H P=some (.ext (cN P #[]))):bo H P pos q:=⟨#[],h,trivial,.inl rfl⟩
theorem eT:aq ED Ev (ai sr):=⟨rfl,rfl,rfl,by decide +kernel,rfl,by decide +kernel,by decide +kernel⟩
theorem zY (F:bN K "law" "law" sr f fd)(hcode:fd.code = .ref cc)(C:W.CodeHd base cc PL)(B:d6 base mg)(cf:CF K mg c)
 (hCel:bG K mg "_law_at" wC D7 fCel dCel) (GCel:aj P w K mg base ay 1 fCel dCel D7 (uM K))
 (hWds:bG K mg "_law_words" wE Ef fWds dWds) (GWds:aj P w K mg base ay 2 fWds dWds Ef spWds)
 (hAsk:bG K mg "_law_ask" uJ Eo fAsk dAsk) (GAsk:aj P w K mg base ay 3 fAsk dAsk Eo spAsk)
 (hDat:bG K mg "_law_data" uL Es fDat dDat) (GDat:aj P w K mg base ay 7 fDat dDat Es (vj c))
 (hDoo:bG K mg "_law_do" wI Ep fDoo dDoo) (GDoo:aj P w K mg base ay 15 fDoo dDoo Ep (vf c PS PP))
 (hChg:bG K mg "_law_change" uK Er fChg dChg) (GChg:aj P w K mg base ay 3 fChg dChg Er spChg)
 (hRig:bG K mg "_law_right" pU Eu fRig dRig) (GRig:aj P w K mg base ay 9 fRig dRig Eu (vp c PR))
 (EInmk:Mk K c.DE fEIn) (EInnm:mg "Deed" = some (.ref c.DE)) (EInbd:bE K dEIn Ee []) (GEIn:aj P w K mg base ay 1 fEIn dEIn Ee (qR c))
 (hEpu:aU K c.DE "put" "Deed.put" uE D5 fEpu dEpu) (GEpu:aj P w K mg base ay 14 fEpu dEpu D5 (qN c PS PP))
 (hEvi:aU K c.DE "view" "Deed.view" fC DD fEvi dEvi) (GEvi:aj P w K mg base ay 6 fEvi dEvi DD (dC c))
 (hCSt:aU K c.KC "stuff" "CellsKnot.stuff" uz DB fCSt dCSt) (GCSt:aj P w K mg base ay 1 fCSt dCSt DB (iK c sU))
 (hEne:aU K c.DE "news" "Deed.news" wz DB fEne dEne) (GEne:aj P w K mg base ay 11 fEne dEne DB (vq c)) (T:Txt mg):aj P w K mg base ay 16 f fd Ev (qU PL PR PS PP K):=by
 refine Cn F eT (fun vs H Q E h=>?_) (fun cdv A outer s H vs Q E hcd' hr h=>?_)
 . obtain⟨a,ns,rfl,_⟩:=h;rfl
 obtain⟨a,ns,rfl,hsq,l63,hPS,hPP,hPR,hPL,ndt,q⟩:=h;have hcd:cdv = .ref cc:=hcd'.trans hcode;subst hcd;have hcd:(jd ay P w K mg base ED "law" (ai sr) f (.ref cc) A outer s H E).nox.env.code = .ref cc:=rfl;have hu:(A.deeper (PyProof.Rows.envOfC "law" (ai sr) s.heap.objs.size f (.ref cc))).units+1 < cLine:=dU hr;refine⟨_,(ad (aA (i:=1) eT.nd rfl (Or.inl rfl) (ar GWds (hr.mono (by decide)) rfl hWds.nm hWds.fn.kp hWds.bd .nil ao (pc (ar GCel (hr.mono (by decide)) rfl hCel.nm hCel.fn.kp hCel.bd .nil ao (pc (pv 0) (pc ae ac))) (pc ae ac))))
  (ad (aA (i:=2) eT.nd rfl (Or.inr rfl) (di EInmk GEIn (hr.mono (by decide)) rfl EInnm EInbd .nil ao (pc (iW hcd C B rfl rfl rfl) (pc ae (pc ae ac)))))
  (ad (aA (i:=3) eT.nd rfl (Or.inl rfl) (di EInmk GEIn (hr.mono (by decide)) rfl EInnm EInbd .nil ao (pc (iW hcd C B rfl rfl rfl) (pc ae (pc ae ac)))))
  (ad (aA (i:=4) eT.nd rfl (Or.inl rfl) fu)
  (ad (aA (i:=5) eT.nd rfl (Or.inl rfl) fu)
  (ad (ck PassesOwn.never rfl (eC (bX cA (pv 0) (bJ ae) (bJ ae))) (aJ (i:=6) eT.nd rfl (Or.inl rfl))
  (ad (aA (i:=7) eT.nd rfl (Or.inr rfl) (ar GAsk (hr.mono (by decide)) rfl hAsk.nm hAsk.fn.kp hAsk.bd .nil ao (pc (pv 6) (pc (pv 1) (pc (pv 4) ac)))))
  (ad (aA (i:=8) eT.nd rfl (Or.inr rfl) (ar GDat (hr.mono (by decide)) rfl hDat.nm hDat.fn.kp hDat.bd .nil ao (pc (pv 2) ac)))
  (ad (aS (ar GDoo (hr.mono (by decide)) rfl hDoo.nm hDoo.fn.kp hDoo.bd .nil ao (pc (pv 2) (pc (pv 7) ac))))
  (ad (aS (aD (pv 3) cf.clE hEpu.me GEpu (hr.mono (by decide)) hEpu.bd .nil ao (pc (au cQ (pv 1) ae (fun Fc Fc=>rfl)) (pc ae (pc (bR (pc (ax bt (pv 6) ae) ac)) ac)))))
  (ad (cS hu (pv 5) (au cQ (pv 1) ae (fun Fc Fc=>rfl)) (bR (pc (ax bt (pv 6) ae) ac)) rfl)
  (ad (aS (ar GChg (hr.mono (by decide)) rfl hChg.nm hChg.fn.kp hChg.bd .nil ao (pc (pv 4) (pc (pv 7) ac))))
  (ad (jv (i:=9) eT.nd rfl rfl [2,8] ["_law_deed","_law_before"] (vt (ar GDat (hr.mono (by decide)) rfl hDat.nm hDat.fn.kp hDat.bd .nil ao (pc (pv 2) ac))) (fun Fc Fc Fc Fc Fc Fc=>(qt (fg (dY hu (pv 0) (pv 2)))))
        (fun Fc Fc Fc Fc Fc Fc=>(aF (f7 (K:=K) rfl) rfl T.len PySem.boot_len (pc (au (gH (K:=K) rfl) (cw (aD (pv 1) cf.clE hEvi.me GEvi (hr.mono (by decide)) hEvi.bd .nil ao (pc (pv 0) ac)) cf.clC hCSt.me GCSt (hr.mono (by decide)) hCSt.bd .nil ao) ae (fun Fc Fc=>rfl)) ac)))
        rfl (by decide +kernel) (by decide +kernel) rfl (by decide +kernel) (fun j y hj=>by
         match j,hj with
         | 0,hj=>cases hj;exact⟨2,rfl,rfl,rfl,.inl rfl⟩
         | 1,hj=>cases hj;exact⟨8,rfl,rfl,rfl,.inl rfl⟩) rfl (by decide +kernel) rfl)
  (ad (aA (i:=10) eT.nd rfl (Or.inl rfl) (bR ac))
  (ad (aZ (aB bW (au ap (pv 7) ae (fun Fc Fc=>rfl)) a5 (aH _))
  (af (jv (i:=10) eT.nd rfl rfl [7] ["_law_ask_here"] (kK rfl T.rng (pc ae (pc (aF aO rfl T.len PySem.boot_len (pc (au ap (pv 7) ae (fun Fc Fc=>rfl)) ac)) (pc ae ac)))) (fun Fc Fc Fc Fc Fc Fc=>cD)
        (fun Fc Fc Fc Fc Fc Fc=>(aF (fM rfl) rfl T.min PyProof.Rows.boot_min (pc ae (pc (ax c5 (aF (f7 (K:=K) rfl) rfl T.len PySem.boot_len (pc (au (gH (K:=K) rfl) (pv 1) ae (fun Fc Fc=>rfl)) ac)) (pv 0)) ac))))
        rfl (by decide +kernel) (by decide +kernel) rfl (by decide +kernel) (fun j y hj=>by
         match j,hj with
         | 0,hj=>cases hj;exact⟨7,rfl,rfl,rfl,.inl rfl⟩) rfl (by decide +kernel) rfl))
  aM)
  (ad (aZ (aB (pe (dU hr |> Nat.lt_of_succ_lt)) (aF (gE) rfl T.srt PyProof.Rows.boot_sorted (pc (pv 9) ac)) (aF (gE) rfl T.srt PyProof.Rows.boot_sorted (pc (pv 10) ac)) (aH _))
  (af (aw fY))
  aM)
  (af (aZ (c0 (dM (ar GRig (hr.mono (by decide)) rfl hRig.nm hRig.fn.kp hRig.bd .nil ao (pc (pv 2) (pc (pv 4) ac)))))
  (af (aw fY))
  aM)))))))))))))
  (af (aw (oJ (ar GRig (hr.mono (by decide)) rfl hRig.nm hRig.fn.kp hRig.bd .nil ao (pc (pv 3) (pc (pv 5) ac))) (oI (lq bW (aF aO rfl T.len PySem.boot_len (pc (cw (pv 3) cf.clE hEne.me GEne (hr.mono (by decide)) hEne.bd .nil ao) ac)) (ax gU (aF (fM rfl) rfl T.min PyProof.Rows.boot_min (pc ae (pc (aF iE rfl T.len PySem.boot_len (pc (pv 5) ac)) ac))) ae) (aH _)))))))))))),?_⟩
 simp only[List.nodup_cons,List.mem_cons,List.not_mem_nil,or_false,not_or,not_false_eq_true,List.nodup_nil,and_true]at ndt;obtain⟨⟨nSP,nSR,nSL⟩,⟨nPR,nPL⟩,nRL⟩:=ndt;refine aK fun N tl=>?_;refine⟨_,rfl,a,ns,0,rfl,by decide,hsq,fun z=>⟨z,3,rfl,by decide,by decide,fun pn H1 ws s1 hpn lw iw=>?_⟩⟩;refine tl _ _ ?_;clear tl N;have w3:ws.length=3:=by omega
 refine aK fun N tl=>?_;refine⟨vy (s1 _ _ hPL),fun g1 c1 pm1 ctv1 H2 sx2 tb2 ot2 hg1 hg1' hc1'=>?_⟩;refine Cb fun d1 dx1 f1 H3 s3 hd1 hf1 e1 e1'=>?_;refine tl _ _ ?_;clear tl N;refine aK fun N tl=>?_;have tbL3:bo H3 PL { line:=490,col:=23,endLine:=490,endCol:=71 } (Str.ofString "law.<locals>.<lambda>"):=bf (ot2 _ _ (by decide) (vy (s1 _ _ hPL))) s3;refine⟨tbL3,fun g2 c2 pm2 ctv2 H4 sx4 tb4 ot4 hg2 hg2' hc2'=>?_⟩;refine Cb fun d2 dx2 f2 H5 s5 hd2 hf2 e2 e2'=>?_;refine tl _ _ ?_;clear tl N;have itL1:cu H1 PL:=⟨_,s1 _ _ hPL⟩;have itL3:=aW tbL3;have lk1:z8 H2 g1:=⟨false,pm1,c1,ctv1,hg1',hc1'⟩;have lk2:z8 H4 g2:=⟨true,pm2,c2,ctv2,hg2',hc2'⟩;have de1:dF c H3 d1 g1 f1 ⟨2,[]⟩:=⟨⟨dx1,e1⟩,⟨[],e1',rfl,fun i k x h1 Fc=>(by cases h1)⟩,by obtain⟨j,g⟩:=lk1;exact⟨j,g.mono s3⟩⟩;have kx4:KX (fun q=>q=PL) H3 H4:=fun q u n e=>sx4 q u n e;have hb4:∀q,(q=PL)->mB c H3 q:=fun q h=>by rw[h];exact .inr (.inl itL3)
 have nd1L:¬ d1=PL:=fun z=>by obtain⟨ps,e⟩:=itL3;rw[z,e]at e1;cases e1
 have nf1L:¬ f1=PL:=fun z=>by obtain⟨ps,e⟩:=itL3;rw[z,e]at e1';cases e1'
 have de14:=de1.kx kx4 hb4 nd1L nf1L;have de2:dF c H5 d2 g2 f2 ⟨2,[]⟩:=⟨⟨dx2,e2⟩,⟨[],e2',rfl,fun i k x h1 Fc=>(by cases h1)⟩,by obtain⟨j,g⟩:=lk2;exact⟨j,g.mono s5⟩⟩;have tab5:∀Pq:Addr,Pq≠PL->∀ps,H Pq=some (.ext (cN Pq ps))->H5 Pq=some (.ext (cN Pq ps)):=fun Pq n ps e=>s5 _ _ (sx4 _ _ n (s3 _ _ (sx2 _ _ n (s1 _ _ e))));have up2:=dh itL1 sx2;have up4:=dh itL3 sx4;have hpn5:=s5 _ _ (up4 _ _ (by intro φ z;cases z) (s3 _ _ (up2 _ _ (by intro φ z;cases z) hpn)));have hd14:=up4 _ _ (by intro φ z;cases z) e1;have hf14:=up4 _ _ (by intro φ z;cases z) e1';have nd12:d1≠d2:=fun z=>by rw[z,hd2]at hd14;cases hd14
 have nf12:f1≠f2:=fun z=>by rw[z,hf2]at hf14;cases hf14
 have hsq5:bh K H5 a (ns.map V.int):=by
  exact s5.seq (vx itL3 sx4 (s3.seq (vx itL1 sx2 (s1.seq hsq))))
 refine aK fun N tl=>?_;intro ff hff;refine tl _ _ ?_;clear tl N;have s6:=ah hff (HO.dK []);refine aK fun N tl=>?_;intro fo hfo;refine tl _ _ ?_;clear tl N;have s7:=ah hfo (HO.dK []);have hf15:=s5 _ _ hf14;have nff:ff≠f1/\ff≠f2:=⟨fun z=>(by rw[z,hf15]at hff;cases hff),fun z=>(by rw[z,e2']at hff;cases hff)⟩;have nfo:fo≠f1/\fo≠f2/\fo≠ff:=⟨fun z=>(by rw[z,s6 _ _ hf15]at hfo;cases hfo),fun z=>(by rw[z,s6 _ _ e2']at hfo;cases hfo),fun z=>(by rw[z,aa]at hfo;cases hfo)⟩;have s67:=s6.trans s7;have eff:=s7 _ _ (show aL H5 ff (HO.dK []) ff=some (HO.dK [])from aa);have efo:aL (aL H5 ff (HO.dK [])) fo (HO.dK []) fo=some (HO.dK []):=aa;have hsq7:=s67.seq hsq5;revert s67 eff efo hsq7;generalize aL (aL H5 ff (HO.dK [])) fo (HO.dK [])=H7;intro s67 eff efo hsq7
 let A0:Ad:=⟨pn,d1,g1,f1,d2,g2,f2,ff,fo⟩
 have t27:T2 PS PP H7:=⟨vy (s67 _ _ (tab5 PS nSL _ hPS)),vy (s67 _ _ (tab5 PP nPL _ hPP)),nSP⟩;have fe:∀{x:Addr},H7 x=some (.dK [])->cO H7 x ws emp:=fun {x} e=>⟨[],[],e,rfl,by simp,fun n hn=>(by cases hn),fun n=>rfl⟩;have W7:WS c PS PP PR PL A0 ws H7 ⟨2,[]⟩ 1 0 [] emp ⟨2,[]⟩ 1 0 [] emp emp emp :=
  ⟨s67 _ _ hpn5,⟨(de14.mono s5).mono s67,t27,Md.nil (by omega),w3,iw⟩,⟨de2.mono s67,t27,Md.nil (by omega),w3,iw⟩,fe eff,fe efo,vy (s67 _ _ (tab5 PR nRL _ hPR)),(aW (bf (bf tb4 s5) s67)),nd12,by
   simp only[List.nodup_cons,List.mem_cons,List.not_mem_nil,or_false,not_or,not_false_eq_true,List.nodup_nil,and_true];exact⟨⟨nf12,Ne.symm nff.1,Ne.symm nfo.1⟩,⟨Ne.symm nff.2,Ne.symm nfo.2.1⟩,Ne.symm nfo.2.2⟩,⟨Ne.symm nSR,Ne.symm nPR,Ne.symm nSL,Ne.symm nPL,Ne.symm nRL⟩⟩
 refine aK fun N tl=>?_;refine⟨_,rfl,_,rfl,_,rfl,a,_,rfl,hsq7,fun ps hps=>?_⟩;obtain⟨xs,exs⟩:∃xs,xs=dR (ns.map V.int) (some 1) (some 63):=⟨_,rfl⟩;rw[<- exs];have lx:xs.length<=63:=by
  rw[exs];unfold dR;rw[List.length_take,List.length_drop,List.length_map];omega
 have s8:=ah hps (HO.lst xs);have W8:=W7.mono s8;have ep8:aL H7 ps (HO.lst xs) ps=some (HO.lst xs):=aa;revert s8 W8 ep8;generalize aL H7 ps (HO.lst xs)=H8;intro s8 W8 ep8;obtain⟨w0,w1,n2,ews⟩:∃w0 w1 n2,ws=[w0,w1,n2]:=by
  match ws,w3 with
  | [a,b,c],_=>exact⟨a,b,c,rfl⟩
 have mn2:n2∈ws:=by rw[ews];simp
 have at2:qp (ws.map V.str) 2=some (.str n2):=by rw[ews];rfl
 refine⟨ps,rfl,⟨_,bh.of ep8⟩,?_⟩;refine fm (K:=K) (xs:=xs) (fun i σ H9=>∃o6 o7 o8 o9 o10 D1 b1 m1 es1 F D2 b2 m2 es2 O,σ=[some (.ref a),some (.ref pn),some (.ref d1),some (.ref d2),some (.ref ff),some (.ref fo),o6,o7,o8,o9,o10]/\WS c PS PP PR PL A0 ws H9 D1 b1 m1 es1 F D2 b2 m2 es2 O F O/\H9 ps=some (.lst xs)/\D1.ks.length<=7 * i/\D2.ks.length<=7 * i/\Dx n2 D2 b2 es2 O i)
  ⟨none,none,none,none,none,_,_,_,_,_,_,_,_,_,_,rfl,W8,ep8,by simp,by simp,.inl ⟨rfl,rfl,rfl⟩⟩ (fun i σ H9 _ h9=>?_) ?_ ?_
 . obtain⟨_,_,_,_,_,_,_,_,_,_,_,_,_,_,_,_,_,h,_⟩:=h9;exact bh.of h
 . intro i v σ H9 hi pvh;refine fX fun Nh th=>?_;obtain⟨o6,o7,o8,o9,o10,D1,b1,m1,es1,F,D2,b2,m2,es2,O,rfl,W,hps9,l1,l2,bes⟩:=pvh;refine th ?_;clear th Nh;have hil:=(List.getElem?_eq_some_iff.mp hi).1;have hi':=hi;rw[exs]at hi';obtain⟨x,rfl⟩:=vL hi';clear hi';have lF:∀n l,F n=some l->l.length<=40:=fun n l e=>W.g1.md.l40 e;refine lN ?_;dsimp only;refine cY fun D' tD=>?_;refine aK fun N' tl'=>?_;refine⟨_,rfl,_,rfl,_,rfl,x,pn,ff,ws,F,rfl,W.hn,w3,W.ff,lF,fun va k H10 s10 hask ok=>?_⟩;refine tl' _ _ ?_;clear tl' N';have W10:=W.mono s10;have le3:=W.g1.md.len (by omega);refine aK fun N' tl'=>?_;refine⟨_,rfl,d1,g1,f1,D1,b1,m1,es1,rfl,W10.g1.de,W10.g1.md.rt,by omega,W10.g1.md.fil,fun p0 H11 kvs0 ks0 s11 hp0 e0 hks0=>?_⟩;refine tl' _ _ ?_;clear tl' N';have W11:=W10.mono s11;have hask11:=dD.mono s11 hask;obtain⟨kd10,_,_⟩:=W10.kinds;have np0:∀q,(q=f1\/q=f2\/q=ff\/q=fo)->p0≠q:=fun q h z=>by
    obtain⟨kvs,e⟩:=kd10 q h;rw[<- z,hp0]at e;cases e
   refine aK fun N' tl'=>?_;refine⟨_,rfl,_,rfl,d1,g1,f1,D1,b1,m1,es1,ws,F,va,k,rfl,W11.g1,by omega,hask11,ok,fun H12 D1' es1' ki12 g12 aft l7=>?_⟩;refine tl' _ _ ?_;clear tl' N';have W12:=W11.do1 ki12 g12;have kx12:=Ki.kx ki12;have hask12:=hask11.kx kx12 W11.bad1;have hps11:=s11 _ _ (s10 _ _ hps9);have hps12:=kx12 _ _ (dt W11.bad1 hps11) hps11;have e012:=kx12 _ _ (W11.dk1 ⟨_,e0⟩ (np0 _ (.inl rfl))) e0;obtain⟨dxa,hda⟩:=W12.g2.de.at_;refine aK fun N' tl'=>?_;refine⟨_,rfl,d2,dxa,_,rfl,hda,rfl,_,rfl,pn,_,2,.str n2,rfl,rfl,bh.of W12.hn,at2,_,rfl,_,_,rfl,rfl,(by show(0:Int) < 1000;decide),(by show 1<=sizeLine;decide),fun pc hpc=>?_⟩;have b0:=Int.emod_nonneg x (show(1000:Int)≠0 by decide);have b1':=Int.emod_lt_of_pos x (show(0:Int) < 1000 by decide);obtain⟨y,ey⟩:∃y,y=x % 1000:=⟨_,rfl⟩;dsimp only;rw[<- ey]at b0 b1' ⊢;have s13:=ah hpc (HO.lst [V.int y]);have W13:=W12.mono s13;have ok2:(Ask.put n2 0 [y]).ok O ws:=⟨mn2,by show 1<=1;decide,by show 0+1<=40;decide,fun z hz=>by rw[List.mem_singleton.mp hz];omega⟩;obtain⟨sz,r,ef,o40,es2',md2',np2,ch2,l72⟩:=W13.g2.md.put ok2;have np2:jU D2 es2 (D2.put m2 es2 n2 sz r 0 [y]) es2' _:=np2;have ch2:∀j,j < (([y]:List Int).length+7) / 8->(D2.put m2 es2 n2 sz r 0 [y]).pc (2+(D2.N:Int)+(j:Int))=bw [y] j:=ch2;have l72:(D2.put m2 es2 n2 sz r 0 [y]).ks.length<=D2.ks.length+7:=l72;have hO:O=emp\/∃y,O=emp.set n2 [y]:=by
    rcases bes with⟨_,h,_⟩|⟨_,x',q',h,_⟩
    . exact .inl h
    . exact .inr ⟨x',h⟩
   rw[wZ hO]at md2';refine⟨d2,g2,f2,D2,b2,m2,es2,n2,sz,r,pc,0,[y],rfl,W13.g2.g0 (by omega),iw n2 mn2,ef,o40,by decide,aa,by show 1<=1;decide,by show(0:Int)+1<=40;decide,ok2.2.2.2,fun H14 ki14 t214 de14'=>?_⟩;refine tl' _ _ ?_;clear tl' N';have W14:=W13.do2 ki14 ⟨de14',t214,md2',w3,iw⟩;have kx14:=Ki.kx ki14;have hask14:=(dD.mono s13 hask12).kx kx14 W13.bad2;have hps14:=kx14 _ _ (dt W13.bad2 (s13 _ _ hps12)) (s13 _ _ hps12);have e014:=kx14 _ _ (W13.dk2 ⟨_,s13 _ _ e012⟩ (np0 _ (.inr (.inl rfl)))) (s13 _ _ e012);refine aK fun N' tl'=>?_;refine⟨_,rfl,_,_,rfl,rfl,(by show(0:Int) < 1000;decide),(by show 1<=sizeLine;decide),fun pc2 hpc2=>?_⟩;dsimp only;rw[<- ey];have s15:=ah hpc2 (HO.lst [V.int y]);have W15:=W14.mono s15;have epc:aL H14 pc2 (HO.lst [V.int y]) pc2=some (HO.lst ([y].map V.int)):=aa;have hask15:=dD.mono s15 hask14;have hps15:=s15 _ _ hps14;have e015:=s15 _ _ e014;revert s15 W15 epc hask15 hps15 e015;generalize aL H14 pc2 (HO.lst [V.int y])=H15;intro s15 W15 epc hask15 hps15 e015;obtain⟨kvo,sso,hfo15,hko,hno,hso,hvo⟩:=W15.fo.ex;have lko:kvo.length<=3:=by
    have e1:(kvo.map (·.1)).length=(sso.map (Sum.inr:Str->Key)).length:=by rw[hko]
    rw[List.length_map,List.length_map]at e1;have:=List.Nodup.length_le_of_subset hno fun x hx=>hso x hx;omega
   refine⟨_,rfl,_,rfl,pn,_,2,.str n2,rfl,rfl,bh.of W15.hn,at2,fo,_,rfl,lO.k (k:=.inr n2) hfo15 (bg (by omega)),?_⟩;refine tl' _ _ ?_;clear tl' N';have eO:O.set n2 [y]=emp.set n2 [y]:=by
    rcases hO with rfl|⟨y',rfl⟩
    . rfl
    . rw[qT]
   have fo16:=W15.fo.put hfo15 mn2 epc;rw[eO]at fo16;have kk16:∀q u,q≠fo->H15 q=some u->aL H15 fo (HO.dK (c7 kvo (.inr n2) (.ref pc2))) q=some u:=fun q u n e=>by rw[am n];exact e
   have W16:=W15.chO kk16 fo16;have hask16:=hask15.kx (S:=fun q=>q=fo) (c:=c) kk16 (fun q h=>by rw[h];exact .inl ⟨_,hfo15⟩);have hps16:=kk16 _ _ (fun z=>by rw[z,hfo15]at hps15;cases hps15) hps15;have e016:=kk16 _ _ (np0 _ (.inr (.inr (.inr rfl)))) e015;revert W16 hask16 hps16 e016;generalize aL H15 fo (HO.dK (c7 kvo (.inr n2) (.ref pc2)))=H16;intro W16 hask16 hps16 e016;refine aK fun N' tl'=>?_;refine⟨_,rfl,_,rfl,ff,ws,F,va,k,rfl,W16.ff,w3,lF,hask16,ok,fun H17 kk17 f17=>?_⟩;refine tl' _ _ ?_;clear tl' N';have W17:=W16.chF kk17 f17;obtain⟨kvf,hff16⟩:=W16.ff.dk;have hask17:=hask16.kx (S:=fun q=>q=ff) (c:=c) kk17 (fun q h=>by rw[h];exact .inl ⟨_,hff16⟩);have hps17:=kk17 _ _ (fun z=>by have h2:H16 ff=some (.dK kvf):=hff16;rw[z,h2]at hps16;cases hps16) hps16;have e017:=kk17 _ _ (np0 _ (.inr (.inr (.inl rfl)))) e016;have le3':=W17.g1.md.len (by omega);refine aK fun N' tl'=>?_;refine⟨_,rfl,d1,g1,f1,D1',5,m1,es1',rfl,W17.g1.de,W17.g1.md.rt,by omega,W17.g1.md.fil,fun p1 H18 kvs1 ks1 s18 hp1 e1 hks1=>?_⟩;refine⟨p1,kvs1,rfl,e1,fun o pz hpz=>?_⟩;have np1:∀q,(q=f1\/q=f2\/q=ff\/q=fo)->p1≠q:=fun q h z=>by
    obtain⟨kvs,e⟩:=W17.kinds.1 q h;rw[<- z,hp1]at e;cases e
   have np10:p0≠p1:=fun z=>by rw[z,hp1]at e017;cases e017
   have kk19:∀q u,q≠p1->H18 q=some u->aL H18 p1 (HO.frz o (HO.dK kvs1)) q=some u:=fun q u n e=>by rw[am n];exact e
   have W19:=(W17.mono s18).frz (x:=p1) ⟨_,e1⟩ ⟨np1 _ (.inl rfl),np1 _ (.inr (.inl rfl)),np1 _ (.inr (.inr (.inl rfl))),np1 _ (.inr (.inr (.inr rfl)))⟩ kk19;have hask19:=(dD.mono s18 hask17).kx (S:=fun q=>q=p1) (c:=c) kk19 (fun q h=>by rw[h];exact .inl ⟨_,e1⟩);have hps19:=kk19 _ _ (fun z=>by have h2:=s18 _ _ hps17;rw[z,e1]at h2;cases h2) (s18 _ _ hps17);have e019:=kk19 _ _ np10 (s18 _ _ e017);have e119:aL H18 p1 (HO.frz o (HO.dK kvs1)) p1=some (HO.frz o (HO.dK kvs1)):=aa;revert W19 hask19 hps19 e019 e119 hpz;generalize aL H18 p1 (HO.frz o (HO.dK kvs1))=H19;intro hpz W19 hask19 hps19 e019 e119;have lk1:=hks1.len;have lpl:ks1.length<=1000:=by
    have h1:=hks1.le (l:=D1'.pl es1') fun x hx=>hx;have h2:(D1'.pl es1').length<=40 * es1'.length:=vi fun y' hy'=>by
     obtain⟨_,r',e',l'⟩:=W17.g1.md.fil y' hy';rw[e'];show(r'.map _).length<=40;rw[List.length_map];exact l'
    omega
   refine sR (fun j ys H20=>aE H19 H20/\ys=(((ks1.take j).filter fun p=>decide (p ∉ ks0)).map fun p=>((D1'.pc p).length:Int)).map V.int/\H20 pz=some (.lst ys)) ⟨ah hpz _,rfl,aa⟩ (fun j ys H20 Fc h20=>h20.1 _ _ e119) ?_ ?_
   . rintro j kv ys H20 hj ⟨s20,rfl,e20⟩;have hk':(kvs1.map (·.1))[j]? = some kv.1:=by rw[List.getElem?_map,hj];rfl
     rw[hks1.1,List.getElem?_map]at hk';obtain⟨p,hpj,ekv⟩:=Option.map_eq_some_iff.mp hk';rw[<- ekv];have mp:=List.mem_of_getElem? hpj;have tk:ks1.take (j+1)=ks1.take j++[p]:=cp hpj;have e020:=s20 _ _ e019;refine⟨_,rfl,_,rfl,p0,_,rfl,cK.k (k:=.inl p) e020,_,rfl,?_⟩;by_cases hp:p∈ks0
     . have hsome:∃u,bB kvs0 (.inl p)=some u:=by
        cases ev:bB kvs0 (.inl p)with
        | some u=>exact⟨u,rfl⟩
        | none =>
         exfalso;have:(Sum.inl p:Key)∈kvs0.map (·.1):=by rw[hks0.1];exact List.mem_map.mpr ⟨p,hp,rfl⟩
         obtain⟨kv',hm,he⟩:=List.mem_map.mp this;unfold bB at ev;rw[Option.map_eq_none_iff,List.find?_eq_none]at ev;exact ev kv' hm (decide_eq_true he)
       obtain⟨u,hu'⟩:=hsome;rw[hu'];refine br ⟨s20,?_,e20⟩;rw[tk,List.filter_append,List.filter_cons_of_neg (by simpa using hp),List.filter_nil,List.append_nil]
     . rw[qe hks0.1 hp];refine c6 ?_;have de20:=W19.g1.de.mono s20;obtain⟨dx20,hd20⟩:=de20.at_;obtain⟨cb,hcv⟩:=W17.g1.md.cel ((hks1.2.2 p).mp mp);refine⟨_,rfl,d1,dx20,_,rfl,hd20,rfl,_,rfl,d1,g1,f1,D1',p,rfl,de20,fun z H21 s21 kn=>?_⟩;rw[hcv]at kn;have kn0:=kn;obtain⟨pk,dk,vk,rfl,ek,hvk⟩:=kn;refine⟨pk,dk,_,rfl,ek,rfl,_,_,rfl,kn0,⟨_,_,rfl⟩,fun t H22 s22 ht=>?_⟩;obtain⟨ta,tvs,rfl,eta,kta⟩:=At.tup ht;obtain⟨v2,h2,a2⟩:=kta.at (i:=2) rfl;obtain⟨dc,dvs,rfl,edc,kdc⟩:=At.tup a2;have edv:=jJ kdc;subst edv;have s202:=(s20.trans s21).trans s22;refine⟨ta,_,2,_,rfl,rfl,a8.of eta,aP h2,dc,_,rfl,.inr (a8.of edc),s22 _ _ (s21 _ _ e20),?_,ba s202 hpz _,?_,aa⟩
       . rw[List.length_map,List.length_map];refine bg (Nat.le_trans (List.length_filter_le _ _) (Nat.le_trans (List.length_take_le' _ _) (by omega)))
       . rw[tk,List.filter_append,List.filter_cons_of_pos (by simpa using hp),List.filter_nil,List.map_append,List.map_append,List.length_map];rfl
   rintro ys H20 ⟨s20,rfl,e20⟩;refine tl' _ _ ?_;clear tl' N';rw[lk1,List.take_length]at e20;have pms:=qg aft hks0 hks1;have lms:((ks1.filter fun p=>decide (p ∉ ks0)).map fun p=>((D1'.pc p).length:Int)).length<=6:=by
    rw[pms.length_eq];unfold oH;rw[List.length_map,List.length_range];unfold Ask.many;have:k.cs.length<=40:=by
     cases k with
     | put n a cs=>have h:=ok.2.2.1;show cs.length<=40;omega
     | _=>exact Nat.zero_le _
    omega
   revert pms lms e20;generalize ((ks1.filter fun p=>decide (p ∉ ks0)).map fun p=>((D1'.pc p).length:Int))=sizes;intro e20 pms lms;have W20:=W19.mono s20;have hask20:=dD.mono s20 hask19;have hps20:=s20 _ _ hps19;refine aK fun N' tl'=>?_;refine⟨by decide,fun pd hpd=>?_⟩;refine tl' _ _ ?_;clear tl' N';have s24:=ah hpd (HO.lst []);have e24:aL H20 pd (HO.lst []) pd=some (HO.lst []):=aa;revert s24 e24;generalize aL H20 pd (HO.lst [])=H24;intro s24 e24;refine aK fun N' tl'=>?_;have fin:∀(pd':Addr) (H25:Hp),aE H24 H25->H25 pd'=some (.lst ((oH k).map V.int))->N' [some (.ref a),some (.ref pn),some (.ref d1),some (.ref d2),some (.ref ff),some (.ref fo),some (.int x),some va,some (.ref p0),some (.ref pz),some (.ref pd')] H25:=by
    intro pd' H25 s25 e25;refine tl' _ _ ?_;clear tl' N';have s205:=s24.trans s25;have ldu:(oH k).length<=6:=by rw[<- pms.length_eq];exact lms
    refine aK fun N' tl'=>?_;refine⟨_,rfl,pz,sizes,rfl,bh.of (s205 _ _ e20),by omega,fun l1' ms1 pp1 sm1 hl1=>?_⟩;have s26:=ah hl1 (HO.lst (ms1.map V.int));refine⟨_,rfl,pd',oH k,rfl,bh.of (s26 _ _ e25),by omega,fun l2' ms2 pp2 sm2 hl2=>?_⟩;have s27:=ah hl2 (HO.lst (ms2.map V.int));have em:ms1=ms2:=wY pms pp1 pp2 sm1 sm2;subst em;refine⟨l1',l2',_,_,rfl,rfl,bh.of (s27 _ _ aa),bh.of aa,fS _,fS _,?_⟩;rw[ie];refine⟨false,rfl,br ?_⟩;refine tl' _ _ ?_;clear tl' N';have s28:=(s205.trans s26).trans s27;have W28:=W20.mono s28;have hps28:=s28 _ _ hps20;refine⟨_,rfl,_,rfl,d1,g1,f1,ff,D1',5,m1,es1',ws,_,rfl,W28.g1.de,W28.g1.md,w3,W28.ff,W28.tr,fun H30 sx30 t30=>⟨true,rfl,br ?_⟩⟩;have W30:=W28.sx sx30 t30;have hps30:=dh (aW W28.tr) sx30 _ _ (by intro φ z;cases z) hps28;refine tD _ _ ?_;refine⟨_,_,_,_,_,D1',5,m1,es1',_,_,5,m2,es2',_,rfl,W30,hps30,by omega,by omega,.inr ⟨rfl,y,2+(D2.N:Int)+((0:Nat):Int),rfl,?_,?_⟩⟩
    . exact((np2 _).mpr (List.mem_map.mpr ⟨0,List.mem_range.mpr (by show 0 < (1+7) / 8;decide),rfl⟩)).1
    . rw[ch2 0 (by show 0 < (1+7) / 8;decide)];show 1<=20;decide
   clear tl'
   . have ec0:k.cs=[]->oH k=[]:=fun e=>by
      unfold oH Ask.many;rw[e];rfl
     have hask24:=dD.mono s24 hask20;cases k with
     | put n a' cs =>
      obtain⟨t,pl,rfl,ht,hpl⟩:=hask24;refine eR rfl ht ?_;have lm:(cs.map V.int).length=cs.length:=List.length_map _;have l40:cs.length<=40:=by have:=ok.2.2.1;omega
      refine⟨_,rfl,t,_,3,_,rfl,rfl,a8.of ht,rfl,pl,_,rfl,.inl (bh.of hpl),0,_,rfl,⟨by decide,by decide,by rw[lm];omega,by rw[lm];omega⟩,fun p hp=>?_⟩;rw[lm];have en:(if(0:Int) < (cs.length:Int)then((cs.length:Int) - 0 - 1) / 8+1 else 0).toNat=(cs.length+7) / 8:=by
       split <;> omega
      rw[en];refine iB (fun j zs H2=>aE H24 H2/\H2 p=some (.lst zs)/\zs=((List.range j).map fun i:Nat=>((bw cs i).length:Int)).map V.int) ⟨ah hp _,aa,rfl⟩ ?_ ?_
      . rintro j zs H2 hj ⟨s2,e2,rfl⟩;refine tM ⟨_,rfl,t,_,3,_,rfl,rfl,a8.of (s2 _ _ ht),rfl,pl,_,rfl,.inl (bh.of (s2 _ _ hpl)),_,rfl,_,_,rfl,rfl,_,_,rfl,e2,?_,ba s2 hp _,aa,?_⟩
        . rw[List.length_map,List.length_map,List.length_range];exact bg (by omega)
        . rw[List.range_succ,List.map_append,List.map_append,lm]
          congr 1
          show [V.int _]=[V.int ((bw cs j).length:Int)];rw[cv]
          congr 2
          split <;> omega
      . rintro zs H2 ⟨s2,e2,rfl⟩;exact fin p _ s2 e2
     | trim n z =>
      obtain⟨t,rfl,ht⟩:=hask24;exact bu rfl ht (by decide +kernel) (fin pd _ (aE.refl _) (by rw[ec0 rfl];exact e24))
     | hollow n a' l =>
      obtain⟨t,rfl,ht⟩:=hask24;exact bu rfl ht (by decide +kernel) (fin pd _ (aE.refl _) (by rw[ec0 rfl];exact e24))
     | share n a' l n' u =>
      obtain⟨t,rfl,ht⟩:=hask24;exact bu rfl ht (by decide +kernel) (fin pd _ (aE.refl _) (by rw[ec0 rfl];exact e24))
     | twin n n' =>
      obtain⟨t,rfl,ht⟩:=hask24;exact bu rfl ht (by decide +kernel) (fin pd _ (aE.refl _) (by rw[ec0 rfl];exact e24))
 . intro σ H9 pvh;refine fX fun Nh th=>?_;obtain⟨o6,o7,o8,o9,o10,D1,b1,m1,es1,F,D2,b2,m2,es2,O,rfl,W,hps9,l1,l2,bes⟩:=pvh;refine th ?_;clear th Nh;refine tl _ _ ?_;refine⟨_,rfl,_,rfl,d2,g2,f2,fo,D2,b2,m2,es2,ws,O,rfl,W.g2.de,W.g2.md,w3,W.fo,W.tr,fun H10 sx10 t10=>⟨true,rfl,c6 ?_⟩⟩;have W10:=W.sx sx10 t10;obtain⟨kvo,hfo10⟩:=W10.fo.dk;obtain⟨le0,le1⟩:=W10.fo.len (n:=n2) hfo10;obtain⟨ys,gr,ly,hk⟩:∃ys,Gr D2 D2.root ys/\(ys.length:Int)=(if(kvo.length:Int) < 1 then(kvo.length:Int)else 1) * 3/\kvo.length<=1:=by
    rcases bes with⟨_,hO,hr2⟩|⟨rfl,x,q',hO,hq,hl⟩
    . refine⟨[],.inl ⟨by rw[hr2];decide,rfl⟩,?_,?_⟩
      . rw[le0 hO];rfl
      . rw[le0 hO];decide
    . subst hO;obtain⟨ys,g,l3⟩:=qh W.g2.md hq hl;refine⟨ys,g,?_,?_⟩
      . rw[le1 x rfl,l3];rfl
      . rw[le1 x rfl];exact Nat.le_refl _
   obtain⟨dx,hd⟩:=W10.g2.de.at_;refine⟨_,rfl,d2,dx,_,rfl,hd,rfl,d2,g2,f2,D2,ys,rfl,W10.g2.de,gr,fun pl H11 s11 hpl=>?_⟩;have W11:=W10.mono s11;refine⟨pl,_,rfl,.inl (bh.of hpl),_,rfl,fo,kvo,rfl,s11 _ _ hfo10,_,_,rfl,_,_,rfl,rfl,.inr ⟨by decide,by decide⟩,rfl,?_⟩;rw[List.length_map,ly,decide_eq_true rfl];exact q H11 (aW W11.g1.t2.tb) (aW W11.g1.t2.tp) (aW W11.tr) W11.tl
end
end K41
namespace L2
open PySem FL
section
variable {K:W.Frag}{h:Heap}{mg:Str->Option Value}
def Dc (x q:Str)(st:Stmt)(ps:List Str):Prop:=∀(kV doc pm:Value) (an:Option Addr) (cdv ct:Value) (us:List Value),us.length=ps.length->bindArgs (W.fnOf x q (dj st) (cB st) (ai st) .none kV doc pm an cdv ct) ⟨us,[]⟩=pure (ps.zip us)
structure Fa (K:W.Frag)(x q:Str)(st:Stmt)(f:Addr)(oc:Value)(od an:Option Addr)(osl:Array (Option Value))(kV doc pm cdv ct:Value):Prop where
 l:K.lookup f=some ⟨oc,od,.func (W.fnOf x q (dj st) (cB st) (ai st) .none kV doc pm an cdv ct),osl⟩
 c:W.codeIn K cdv q=true
 k:W.keepIn K (.ref f)=true
theorem mD {x:Str}{st:Stmt}{ps:List Str}{f:Addr}{oc:Value}{od an:Option Addr}{osl:Array (Option Value)}{kV doc pm cdv ct:Value}(X:K.In h)(G:h.Ns mainGlobals mg)(a:W.nsIn K mainGlobals x=some (some (.ref f)))(F:Fa K x x st f oc od an osl kV doc pm cdv ct)(b:Dc x x st ps) :
 bG K mg x st ps f (W.fnOf x x (dj st) (cB st) (ai st) .none kV doc pm an cdv ct):=⟨gX F.l F.c F.k,(gX F.l F.c F.k).binds b,W.mg_of X G a⟩
theorem fU {C:Addr}{x q:Str}{st:Stmt}{ps:List Str}{f:Addr}{oc:Value}{od an:Option Addr}{osl:Array (Option Value)}{kV doc pm cdv ct:Value}(a:W.findIn K (.ref C) x=some (some (.ref f)))(n:W.isFn K (.ref f)=true)(F:Fa K x q st f oc od an osl kV doc pm cdv ct)(b:Dc x q st ps) :
 aU K C x q st ps f (W.fnOf x q (dj st) (cB st) (ai st) .none kV doc pm an cdv ct):=⟨gX F.l F.c F.k,(gX F.l F.c F.k).binds b,⟨a,n,F.k⟩⟩
structure sS (K:W.Frag)(mg:Str->Option Value)(x q:Str)(C:Addr)(st:Stmt)(ps:List Str)(f:Addr)(fd:FuncData):Prop where
 fn:bN K "__init__" q st f fd
 bd:bE K fd ps []
 mak:Mk K C f
 nm:mg x=some (.ref C)
theorem mE {C:Addr}{x q:Str}{st:Stmt}{ps:List Str}{f:Addr}{oc:Value}{od an:Option Addr}{osl:Array (Option Value)}{kV doc pm cdv ct:Value}(nm:mg x=some (.ref C))(m:W.makesIn K C=true)(a:W.findIn K (.ref C) "__init__" = some (some (.ref f)))(n:W.isFn K (.ref f)=true)(kc:W.keepIn K (.ref C)=true)(F:Fa K "__init__" q st f oc od an osl kV doc pm cdv ct)(b:Dc "__init__" q st ps) :
 sS K mg x q C st ps f (W.fnOf "__init__" q (dj st) (cB st) (ai st) .none kV doc pm an cdv ct):=⟨gX F.l F.c F.k,(gX F.l F.c F.k).binds b,⟨m,a,n,kc⟩,nm⟩
end
section
variable {P:List Value->Prop}
theorem Dq (h:∀a,P [a]):∀us:List Value,us.length=1->P us:=by
 rintro(_|⟨a,_|⟨g,us⟩⟩) q <;> first|exact h a|(simp at q)
theorem Dd (h:∀a b,P [a,b]):∀us:List Value,us.length=2->P us:=by
 rintro(_|⟨a,_|⟨b,_|⟨g,us⟩⟩⟩) q <;> first|exact h a b|(simp at q)
theorem De (h:∀a b c,P [a,b,c]):∀us:List Value,us.length=3->P us:=by
 rintro(_|⟨a,_|⟨b,_|⟨c,_|⟨g,us⟩⟩⟩⟩) q <;> first|exact h a b c|(simp at q)
theorem Df (h:∀a b c d,P [a,b,c,d]):∀us:List Value,us.length=4->P us:=by
 rintro(_|⟨a,_|⟨b,_|⟨c,_|⟨d,_|⟨g,us⟩⟩⟩⟩⟩) q <;> first|exact h a b c d|(simp at q)
theorem Dy (h:∀a b c d e,P [a,b,c,d,e]):∀us:List Value,us.length=5->P us:=by
 rintro(_|⟨a,_|⟨b,_|⟨c,_|⟨d,_|⟨e,_|⟨g,us⟩⟩⟩⟩⟩⟩) q <;> first|exact h a b c d e|(simp at q)
theorem Dz (h:∀a b c d e f,P [a,b,c,d,e,f]):∀us:List Value,us.length=6->P us:=by
 rintro(_|⟨a,_|⟨b,_|⟨c,_|⟨d,_|⟨e,_|⟨f,_|⟨g,us⟩⟩⟩⟩⟩⟩⟩) q <;> first|exact h a b c d e f|(simp at q)
end
end L2
namespace K41
open PySem L2 FL
theorem zZ {l:W.OpenLaw}{w:World}{K:W.Frag}{mg:Str->Option Value}{fa K0 KC KF KD DE fKIn fCIn fCSt fCPt fFIn fFSt fFPt fDIn fDSt fDPt fDEn fDWe fDOt fEIn fEpu fEtr fEho fEsh fEtw fEvi fEne fEte fEst fEnt fEnf fEno fEns fEff fEfi fEhf fEha fEgr fWho fWth fWrd fNof fEnd fEip fPts fWo fShi fGoe fJoi fTid fLad fPin fSpl fCll fKof fSdn fFat fNbt fNsp fNcl fNws fCel fMix fWds fLce fRow fSpa fAsk fDoo fOvr fChg fDat fRig fLaw:Addr}{dKIn dCIn dCSt dCPt dFIn dFSt dFPt dDIn dDSt dDPt dDEn dDWe dDOt dEIn dEpu dEtr dEho dEsh dEtw dEvi dEne dEte dEst dEnt dEnf dEno dEns dEff dEfi dEhf dEha dEgr dWho dWth dWrd dNof dEnd dEip dPts dWo dShi dGoe dJoi dTid dLad dPin dSpl dCll dKof dSdn dFat dNbt dNsp dNcl dNws dCel dMix dWds dLce dRow dSpa dAsk dDoo dOvr dChg dDat dRig dLaw:FuncData}(hfa:mg "law" = some (.ref fa))
 (nK0:mg "Knot" = some (.ref K0))
 (nKC:mg "CellsKnot" = some (.ref KC))
 (nKF:mg "FileKnot" = some (.ref KF))
 (nKD:mg "FolderKnot" = some (.ref KD))
 (nDE:mg "Deed" = some (.ref DE))
 (clK0:iO K K0)
 (clKC:iO K KC)
 (clKF:iO K KF)
 (clKD:iO K KD)
 (clDE:iO K DE)
 (naKC_0:be K KC "born")
 (naKC_1:be K KC "cells")
 (naKF_0:be K KF "born")
 (naKF_1:be K KF "size")
 (naKF_2:be K KF "row")
 (naKD_0:be K KD "born")
 (naKD_1:be K KD "limit")
 (naKD_2:be K KD "entries")
 (naDE_0:be K DE "look")
 (naDE_1:be K DE "root")
 (naDE_2:be K DE "now")
 (naDE_3:be K DE "fresh")
 (iKIn:sS K mg "Knot" "Knot.__init__" K0 yt DQ fKIn dKIn)
 (iCIn:sS K mg "CellsKnot" "CellsKnot.__init__" KC yu DW fCIn dCIn)
 (hCSt:aU K KC "stuff" "CellsKnot.stuff" uz DB fCSt dCSt)
 (hCPt:aU K KC "points" "CellsKnot.points" yw DB fCPt dCPt)
 (iFIn:sS K mg "FileKnot" "FileKnot.__init__" KF yx DR fFIn dFIn)
 (hFSt:aU K KF "stuff" "FileKnot.stuff" uA DB fFSt dFSt)
 (hFPt:aU K KF "points" "FileKnot.points" yy DB fFPt dFPt)
 (iDIn:sS K mg "FolderKnot" "FolderKnot.__init__" KD yz DX fDIn dDIn)
 (hDSt:aU K KD "stuff" "FolderKnot.stuff" uB DB fDSt dDSt)
 (hDPt:aU K KD "points" "FolderKnot.points" wk DB fDPt dDPt)
 (hDEn:aU K KD "entry" "FolderKnot.entry" uC DI fDEn dDEn)
 (hDWe:aU K KD "with_entry" "FolderKnot.with_entry" wl Ea fDWe dDWe)
 (hDOt:aU K KD "others" "FolderKnot.others" wm DI fDOt dDOt)
 (iEIn:sS K mg "Deed" "Deed.__init__" DE yA Ee fEIn dEIn)
 (hEpu:aU K DE "put" "Deed.put" uE D5 fEpu dEpu)
 (hEtr:aU K DE "trim" "Deed.trim" wv Ei fEtr dEtr)
 (hEho:aU K DE "hollow" "Deed.hollow" ww Ej fEho dEho)
 (hEsh:aU K DE "share" "Deed.share" wx Ek fEsh dEsh)
 (hEtw:aU K DE "twin" "Deed.twin" wy El fEtw dEtw)
 (hEvi:aU K DE "view" "Deed.view" fC DD fEvi dEvi)
 (hEne:aU K DE "news" "Deed.news" wz DB fEne dEne)
 (hEte:aU K DE "tell_news" "Deed.tell_news" l9 DN fEte dEte)
 (hEst:aU K DE "standing" "Deed.standing" ma DL fEst dEst)
 (hEnt:aU K DE "need_there" "Deed.need_there" wA DC fEnt dEnt)
 (hEnf:aU K DE "need_file" "Deed.need_file" og DC fEnf dEnf)
 (hEno:aU K DE "need_folder_of" "Deed.need_folder_of" wB DC fEno dEno)
 (hEns:aU K DE "need_spot" "Deed.need_spot" uF D3 fEns dEns)
 (hEff:aU K DE "file_to_fill" "Deed.file_to_fill" uG DC fEff dEff)
 (hEfi:aU K DE "fill" "Deed.fill" uH DZ fEfi dEfi)
 (hEhf:aU K DE "hang_file" "Deed.hang_file" sq DT fEhf dEhf)
 (hEha:aU K DE "hang" "Deed.hang" uI D4 fEha dEha)
 (hEgr:aU K DE "grow" "Deed.grow" pS DV fEgr dEgr)
 (hWho:bG K mg "is_whole" sh DF fWho dWho)
 (hWth:bG K mg "is_within" si DP fWth dWth)
 (hWrd:bG K mg "is_word" v5 DF fWrd dWrd)
 (hNof:bG K mg "names_of" v8 DG fNof dNof)
 (hEnd:bG K mg "end_of" v9 DJ fEnd dEnd)
 (hEip:bG K mg "end_in_piece" wa DJ fEip dEip)
 (hPts:bG K mg "parts" sj DH fPts dPts)
 (hWo:bG K mg "without" Bn DH fWo dWo)
 (hShi:bG K mg "shifted" wb D8 fShi dShi)
 (hGoe:bG K mg "goes_on" wc DK fGoe dGoe)
 (hJoi:bG K mg "joined" we DK fJoi dJoi)
 (hTid:bG K mg "tidied" wf DM fTid dTid)
 (hLad:bG K mg "laid" sk Eg fLad dLad)
 (hPin:bG K mg "places_in" wg DM fPin dPin)
 (hSpl:bG K mg "split_up" wj D0 fSpl dSpl)
 (hCll:bG K mg "is_cell" wo DF fCll dCll)
 (hKof:bG K mg "knot_of" wp D9 fKof dKof)
 (hSdn:bG K mg "step_down" wq Eb fSdn dSdn)
 (hFat:bG K mg "found_at" wt Eh fFat dFat)
 (hNbt:bG K mg "names_below_top" oa DG fNbt dNbt)
 (hNsp:bG K mg "need_span" so DU fNsp dNsp)
 (hNcl:bG K mg "need_cells" wu Ec fNcl dNcl)
 (hNws:bG K mg "need_within_size" uD DY fNws dNws)
 (hCel:bG K mg "_law_at" wC D7 fCel dCel)
 (hMix:bG K mg "_law_mix" pT DO fMix dMix)
 (hWds:bG K mg "_law_words" wE Ef fWds dWds)
 (hLce:bG K mg "_law_cells" wF Et fLce dLce)
 (hRow:bG K mg "_law_row" wG Ed fRow dRow)
 (hSpa:bG K mg "_law_span" wH Em fSpa dSpa)
 (hAsk:bG K mg "_law_ask" uJ Eo fAsk dAsk)
 (hDoo:bG K mg "_law_do" wI Ep fDoo dDoo)
 (hOvr:bG K mg "_law_over" wJ En fOvr dOvr)
 (hChg:bG K mg "_law_change" uK Er fChg dChg)
 (hDat:bG K mg "_law_data" uL Es fDat dDat)
 (hRig:bG K mg "_law_right" pU Eu fRig dRig)
 (hLaw:bG K mg "law" sr Ev fLaw dLaw)
 (gaK0:W.specialIn K (.ref K0) "__getattribute__" = some (some (.builtin "type.__getattribute__")))
 (rdK0:W.readsIn K K0 (.type "type")=true)
 (fcK0:W.findCls K (.ref K0) (.type "type") "__init__" = some (.val (.ref fKIn)))
 (eEst:dEst.code = .ref 690)
 (eLad:dLad.code = .ref 307)
 (eRig:dRig.code = .ref 845)
 (eLaw:dLaw.code = .ref 850)
 (bL:∀(s:Shared) (v:Value),BindsTo s dLaw ⟨[v],[]⟩ [("_law_script",v)])
 (T:Txt mg) :
 ∃fd:FuncData,(∀(s:Shared) (v:Value),BindsTo s fd ⟨[v],[]⟩ [("_law_script",v)])/\∀base:Heap,K.In base->base.Ns mainGlobals mg->(∀t∈([(690,686),(307,303),(845,843),(850,848)]:List (Addr×Addr)),W.CodeHd base t.1 t.2)->d6 base mg->aj l.prog w K mg base ay 16 fa fd Ev (qU 848 843 686 303 K):=by
 cases hfa.symm.trans hLaw.nm;refine⟨_,bL,fun base Fc Fc hC B=>?_⟩
 let c:Cl:=⟨K0,KC,KF,KD,DE⟩
 have cf:CF K mg c:=⟨clKC,clKF,clKD,naKC_0,naKC_1,naKF_0,naKF_1,naKF_2,naKD_0,naKD_1,naKD_2,nK0,nKC,nKF,nKD,clDE,naDE_0,naDE_1,naDE_2,naDE_3,nDE⟩;have KIncm:nK K c.K0 "__init__" fKIn:=⟨gaK0,rdK0,fcK0,iKIn.fn.kp⟩;have GWho:aj l.prog w K mg base ay 1 fWho _ DF spWho0:=yB hWho.fn T;have GWth:aj l.prog w K mg base ay 2 fWth _ DP spWth0:=yC hWth.fn hWho GWho;have GWrd:aj l.prog w K mg base ay 1 fWrd _ DF spWrd:=yD hWrd.fn T;have GCll:aj l.prog w K mg base ay 3 fCll _ DF spCll:=yE hCll.fn hWth GWth T;have GCel:aj l.prog w K mg base ay 1 fCel _ D7 (uM K):=yF hCel.fn T;have GMix:aj l.prog w K mg base ay 1 fMix _ DO spMix:=yG hMix.fn T;have GWds:aj l.prog w K mg base ay 2 fWds _ Ef spWds:=yI hWds.fn hMix GMix T;have GEnd:aj l.prog w K mg base ay 1 fEnd _ DJ spEnd:=yJ hEnd.fn T;have GEip:aj l.prog w K mg base ay 1 fEip _ DJ spEip:=yK hEip.fn T;have GGoe:aj l.prog w K mg base ay 2 fGoe _ DK spGoe:=yL hGoe.fn hEnd GEnd hEip GEip T;have GPts:aj l.prog w K mg base ay 1 fPts _ DH spPts:=yM hPts.fn T;have GWo:aj l.prog w K mg base ay 2 fWo _ DH spWo:=Bw hWo.fn hPts GPts T;have GJoi:aj l.prog w K mg base ay 1 fJoi _ DK spJoi:=yN hJoi.fn T;have GTid:aj l.prog w K mg base ay 3 fTid _ DM spTid:=yO hTid.fn hGoe GGoe hJoi GJoi T;have GLad:aj l.prog w K mg base ay 4 fLad _ Eg (uP 303):=yP hLad.fn eLad (hC _ (List.mem_cons_of_mem _ (List.mem_cons_self ..))) B hWo GWo hTid GTid T;have GShi:aj l.prog w K mg base ay 1 fShi _ D8 spShi:=yQ hShi.fn T;have GSpl:aj l.prog w K mg base ay 1 fSpl _ D0 spSpl:=yR hSpl.fn T;have GKIn:aj l.prog w K mg base ay 1 fKIn _ DQ (oj K):=yS iKIn.fn;have GCIn:aj l.prog w K mg base ay 2 fCIn _ DW (kR c):=yT iCIn.fn cf KIncm GKIn iKIn.bd T;have GFIn:aj l.prog w K mg base ay 2 fFIn _ DR (kS c):=yU iFIn.fn cf KIncm GKIn iKIn.bd T;have GDIn:aj l.prog w K mg base ay 2 fDIn _ DX (oo c):=yW iDIn.fn cf KIncm GKIn iKIn.bd T;have GDEn:aj l.prog w K mg base ay 1 fDEn _ DI (qB c):=yX hDEn.fn cf;have GKof:aj l.prog w K mg base ay 4 fKof _ D9 (uS c):=yY hKof.fn cf iCIn.mak nKC iCIn.bd GCIn iFIn.mak nKF iFIn.bd GFIn iDIn.mak nKD iDIn.bd GDIn;have GCSt:aj l.prog w K mg base ay 1 fCSt _ DB (iK c sU):=yZ hCSt.fn cf;have GFSt:aj l.prog w K mg base ay 1 fFSt _ DB (iK c uT):=y3 hFSt.fn cf;have GDSt:aj l.prog w K mg base ay 1 fDSt _ DB (iK c uU):=y4 hDSt.fn cf;have GCPt:aj l.prog w K mg base ay 1 fCPt _ DB (oq c sU):=y7 hCPt.fn;have GPin:aj l.prog w K mg base ay 1 fPin _ DM spPin:=y8 hPin.fn T;have GFPt:aj l.prog w K mg base ay 2 fFPt _ DB (oq c uT):=y9 hFPt.fn cf hPin GPin;have GDPt:aj l.prog w K mg base ay 1 fDPt _ DB (oq c uU):=za hDPt.fn cf T;have GDOt:aj l.prog w K mg base ay 1 fDOt _ DI (uV c):=zb hDOt.fn cf;have GDWe:aj l.prog w K mg base ay 4 fDWe _ Ea (uW c):=zc hDWe.fn cf iDIn.mak nKD iDIn.bd GDIn hDOt GDOt T;have LF:=zd (P:=l.prog) (w:=w) (base:=base) (c:=c) hKof GKof;have GEvi:aj l.prog w K mg base ay 6 fEvi _ DD (dC c):=ze hEvi.fn cf LF;have GEgr:aj l.prog w K mg base ay 1 fEgr _ DV (kU c):=zf hEgr.fn cf T;have GSdn:aj l.prog w K mg base ay 8 fSdn _ Eb (uX c):=zg hSdn.fn cf hEvi GEvi hDEn GDEn;have GFat:aj l.prog w K mg base ay 9 fFat _ Eh (uY c):=zh hFat.fn hSdn GSdn;have GEst:aj l.prog w K mg base ay 10 fEst _ DL (kX c 686):=zj hEst.fn eEst (hC _ (List.mem_cons_self ..)) B cf hFat GFat;have GEnt:aj l.prog w K mg base ay 11 fEnt _ DC (uZ c 686):=zk hEnt.fn cf hEst GEst;have GEnf:aj l.prog w K mg base ay 12 fEnf _ DC (jD c 686):=zl hEnf.fn cf hEnt GEnt;have GEno:aj l.prog w K mg base ay 11 fEno _ DC (u1 c 686):=zm hEno.fn cf hEst GEst hEvi GEvi;have GEns:aj l.prog w K mg base ay 12 fEns _ D3 (qG c 686):=zn hEns.fn cf hEno GEno hDEn GDEn T;have GEff:aj l.prog w K mg base ay 13 fEff _ DC (qH c 686):=zq hEff.fn cf hEst GEst hEvi GEvi hEnf GEnf hEns GEns iFIn.mak nKF iFIn.bd GFIn;have GEha:aj l.prog w K mg base ay 11 fEha _ D4 (ow c 686):=zr hEha.fn cf hEst GEst hEvi GEvi hEgr GEgr hDWe GDWe T;have GEhf:aj l.prog w K mg base ay 12 fEhf _ DT (oz c 686):=zt hEhf.fn cf hEha GEha hEgr GEgr iFIn.mak nKF iFIn.bd GFIn;have GNof:aj l.prog w K mg base ay 4 fNof _ DG spNof:=zv hNof.fn hWrd GWrd T;have GNbt:aj l.prog w K mg base ay 5 fNbt _ DG spNof:=zw hNbt.fn hNof GNof;have GNsp:aj l.prog w K mg base ay 4 fNsp _ DU spNsp:=zx hNsp.fn hWth GWth T;have GNcl:aj l.prog w K mg base ay 4 fNcl _ Ec spNcl:=zy hNcl.fn hCll GCll T;have GNws:aj l.prog w K mg base ay 4 fNws _ DY (qI c):=zz hNws.fn cf;have GEfi:aj l.prog w K mg base ay 13 fEfi _ DZ (qL c 686 303):=zA hEfi.fn cf hLad GLad hEhf GEhf T;have GEpu:aj l.prog w K mg base ay 14 fEpu _ D5 (qN c 686 303):=zC hEpu.fn cf hNbt GNbt hNcl GNcl hNsp GNsp hEff GEff hSpl GSpl hEgr GEgr hEfi GEfi iCIn.mak nKC iCIn.bd GCIn T;have GEtr:aj l.prog w K mg base ay 14 fEtr _ Ei (u5 c 686 303):=zD hEtr.fn cf hNbt GNbt hWth GWth hEvi GEvi hEnf GEnf hPts GPts hEhf GEhf T;have GEho:aj l.prog w K mg base ay 14 fEho _ Ej (u7 c 686 303):=zE hEho.fn cf hNbt GNbt hNsp GNsp hNws GNws hEvi GEvi hEnf GEnf hWo GWo hEhf GEhf;have GEsh:aj l.prog w K mg base ay 14 fEsh _ Ek (u9 c 686 303):=zF hEsh.fn cf hNbt GNbt hNsp GNsp hNws GNws hEvi GEvi hEnf GEnf hEff GEff hShi GShi hPts GPts hEfi GEfi;have GEtw:aj l.prog w K mg base ay 14 fEtw _ El (vb c 686 303):=zG hEtw.fn cf hNbt GNbt hEnf GEnf hEns GEns hEha GEha;have GRow:aj l.prog w K mg base ay 2 fRow _ Ed spRow:=zI hRow.fn hMix GMix T;have GSpa:aj l.prog w K mg base ay 2 fSpa _ Em spSpa:=zJ hSpa.fn hMix GMix T;have GOvr:aj l.prog w K mg base ay 2 fOvr _ En spOvr:=zK hOvr.fn T;have GAsk:aj l.prog w K mg base ay 3 fAsk _ Eo spAsk:=zL hAsk.fn hMix GMix hSpa GSpa hRow GRow T;have GDoo:aj l.prog w K mg base ay 15 fDoo _ Ep (vf c 686 303):=zM hDoo.fn cf hEpu GEpu hEtr GEtr hEho GEho hEsh GEsh hEtw GEtw T;have GChg:aj l.prog w K mg base ay 3 fChg _ Er spChg:=zO hChg.fn hOvr GOvr T;have GDat:aj l.prog w K mg base ay 7 fDat _ Es (vj c):=zP hDat.fn cf hEvi GEvi hDSt GDSt hFSt GFSt T;have GLce:aj l.prog w K mg base ay 8 fLce _ Et (vo c):=zQ hLce.fn cf hEvi GEvi hCSt GCSt hFSt GFSt T;have GRig:aj l.prog w K mg base ay 9 fRig _ Eu (vp c 843):=zT hRig.fn eRig (hC _ (List.mem_cons_of_mem _ (List.mem_cons_of_mem _ (List.mem_cons_self ..)))) B cf hEvi GEvi hDSt GDSt hLce GLce T;have nG:∀vs H Q E,¬ gS c Gn vs H Q E:=fun vs H Q E h=>by
  obtain⟨_,_,_,_,_,_,_,_,_,_,_,_,_,_,_,g,_⟩:=h;exact g
 have GEteC:=mz (P:=l.prog) (w:=w) (base:=base) (G:=Gn) (n:=7) (by decide) hEte.fn cf hEvi GEvi clKC C8 hCPt (GCPt.mono (by decide)) hEte (qS nG);have GEteF:=mz (P:=l.prog) (w:=w) (base:=base) (n:=8) (by decide) hEte.fn cf hEvi GEvi clKF C9 hFPt GFPt hEte GEteC;have GEteD:=mz (P:=l.prog) (w:=w) (base:=base) (n:=9) (by decide) hEte.fn cf hEvi GEvi clKD Da hDPt (GDPt.mono (by decide)) hEte GEteF;have GEteZ:=wW (P:=l.prog) (w:=w) (base:=base) hEte.fn cf hEvi GEvi hDPt (GDPt.mono (by decide)) hEte (qS nG);have GEte:=wX GEteZ GEteD;have GEIn:aj l.prog w K mg base ay 1 fEIn _ Ee (qR c):=zU iEIn.fn cf;have GEne:aj l.prog w K mg base ay 11 fEne _ DB (vq c):=zV hEne.fn cf hEte GEte T;exact zY hLaw.fn eLaw (hC _ (List.mem_cons_of_mem _ (List.mem_cons_of_mem _ (List.mem_cons_of_mem _ (List.mem_cons_self ..))))) B cf hCel GCel hWds GWds hAsk GAsk hDat GDat hDoo GDoo hChg GChg hRig GRig iEIn.mak nDE iEIn.bd GEIn hEpu GEpu hEvi GEvi hCSt GCSt hEne GEne T
theorem Cd {l:W.OpenLaw}{q:Program}{loose:List Str}{XP:(Str->Option Value)->Heap->Prop}{YP:World->Heap->Prop}{d:DefRec}{K:Params->W.Frag}(hn:l.most=some 63)(hdf:d.params.defaults=[])
 (hY:∀(w:World) (h:Heap),YP w h->(K w.params).In h/\W.TabsAt [(690,686),(307,303),(845,843),(850,848)] h) (hTK:∀(w:World),∀t∈([(690,686),(307,303),(845,843),(850,848)]:List (Addr×Addr)),(K w.params).lookup t.2=none)
 (F:∀(w:World) (mg:Str->Option Value) (fa:Addr) (h:Heap),(K w.params).In h->h.Ns mainGlobals mg->mg d.name=some (.ref fa) ->
  ∃fd:FuncData,(∀(s:Shared) (u:Value),BindsTo s fd ⟨[u],[]⟩ [("_law_script",u)])/\∀base:Heap,(K w.params).In base->base.Ns mainGlobals mg->(∀t∈([(690,686),(307,303),(845,843),(850,848)]:List (Addr×Addr)),W.CodeHd base t.1 t.2)->d6 base mg->aj l.prog w (K w.params) mg base ay 16 fa fd Ev (qU 848 843 686 303 (K w.params))) :
 W.WalkO q loose XP YP l.row.toRowW d [] (fun f vs=>PySem.call f vs) :=
 L2.um (n:=63) (k:=16) (x:="_law_script") (CX:=fun Fc=>ay) (sp:=fun w=>qU 848 843 686 303 (K w.params)) (tabs:=[(690,686),(307,303),(845,843),(850,848)]) hn (by decide) hdf ⟨fun Fc=>rfl,by decide,by decide⟩ hY hTK F
  (fun Fc Fc a ns hl hS hT=>⟨a,ns,rfl,hS,hl,hT _ (List.mem_cons_self ..),hT _ (List.mem_cons_of_mem _ (List.mem_cons_self ..)),hT _ (List.mem_cons_of_mem _ (List.mem_cons_of_mem _ (List.mem_cons_self ..))),hT _ (List.mem_cons_of_mem _ (List.mem_cons_of_mem _ (List.mem_cons_of_mem _ (List.mem_cons_self ..)))),by decide,fun Fc t1 t2 t3 t4=>⟨rfl,List.forall_mem_cons.mpr ⟨t1,List.forall_mem_cons.mpr ⟨t2,List.forall_mem_cons.mpr ⟨t3,List.forall_mem_cons.mpr ⟨t4,fun Fc h=>nomatch h⟩⟩⟩⟩⟩⟩) fun Fc Fc Fc Fc Fc z=>z
end K41
open PySem PySem.W PyProof.Rows L2
set_option maxHeartbeats 0
namespace PySem.W.Fast
def tw9410757451378408105:=0
def tw17937070351318107109:=0
def tw3435865651112219808:=0
def tw5628536018789875723:=0
def tw2510596506403584823:=0
def tw16461970664064890528:=0
def tw18421112412453020120:=0
def tw13557466560349653226:=0
def tw15064463968152069513:=0
def tw16580318306981083076:=0
def tw9475398180804375720:=0
def tw11935213918609124468:=0
def tw4934366023623376835:=0
def tw16482145683812504456:=0
def tw18403153627870105399:=0
def tw9967485633043946477:=0
def tw5590400858153080864:=0
def tw3965561221019906461:=0
def tw4224624020697160691:=0
def tw9517685569703484768:=0
def tw5511852441049123546:=0
def tw11720490232732589507:=0
def tw2091398362968102465:=0
def tw1336664975153028372:=0
def tw12678107715334340934:=0
def tw12409514640619442774:=0
def tw7234451714785468524:=0
def tw5008879405566797621:=0
def tw9551953754675123495:=0
def tw4168724485672494770:=0
def tw14325343121364198349:=0
def tw14493604161823412035:=0
def tw17895610937482038489:=0
def tw2771625427770011086:=0
def tw2538074520970406542:=0
def tw4726175821129770272:=0
def tw2882782139471658751:=0
def tw172299602543075932:=0
def tw11749605290941121:=0
def tw15391649925653075987:=0
def tw1470232039131512718:=0
def tw10653434813686865416:=0
def tw1865650759321595060:=0
def tw16416601487265275661:=0
def tw3001445829586959989:=0
def tw10109121482235649052:=0
def tw4727655288786019676:=0
def tw14556756804942550590:=0
def tw4989211343011830676:=0
def tw10189758070059947613:=0
def tw9394655986382930179:=0
def tw1404815542077573041:=0
def tw7171197726461177709:=0
def tw9612711467936980116:=0
def tw668265882031713196:=0
def tw7843608860938939792:=0
def tw7973610573083176193:=0
def tw5832030180870607017:=0
def tw4587953301365251964:=0
def tw14205262995407184811:=0
def tw7578447611507612194:=0
def tw13018778838116557443:=0
def tw2952469281893253488:=0
def tw14068325824596069397:=0
def tw11162936571122079319:=0
def tw14001493660581057836:=0
def tw16505724487233984283:=0
def tw14182361535838797044:=0
def tw12743139632972207012:=0
def tw1418737573458999760:=0
def tw793775910179400567:=0
def tw4744634362268550374:=0
def tw14371640761992837437:=0
def tw5532274150673689436:=0
def tw14148312903586111893:=0
def tw11640930273517072973:=0
def tw7294051390125109587:=0
def tw10833940736428157741:=0
def tw7530362906613589880:=0
def tw8588480095914725955:=0
def tw1286683303436304669:=0
def tw15145736359164227602:=0
def tw5390663183003427578:=0
def tw9072811595803788766:=0
def tw5168025246714653070:=0
def tw17422266353563001767:=0
def tw14022794792622465264:=0
def tw18235235417475899846:=0
def tw2216205780855167581:=0
def tw2667091855546638416:=0
def tw15201233775449976670:=0
def tw9610979275923617954:=0
def tw12370270172099962642:=0
def tw2549521872684882351:=0
def tw16313426231726459976:=0
def tw12231930508066578383:=0
def tw8105466662213208055:=0
def tw6968970460930877904:=0
def tw16796538140693166760:=0
def tw12802212831550494444:=0
def tw4453668346539487064:=0
def tw7403143114983615189:=0
def tw15256031086885085157:=0
def tw9540649580330559832:=0
def tw6238120314811679133:=0
def tw17747686952381409458:=0
def tw3674233369112483230:=0
def tw15080640551387195789:=0
def tw2398551853547265318:=0
def tw2689237415650217521:=0
def tw4684684116468387090:=0
def tw8578969290308754670:=0
def tw11783288005861937960:=0
def tw9239137310754527324:=0
def tw7409906119279467539:=0
def tw10349793341264566830:=0
def tw12336353242820297457:=0
def tw16062497648145972389:=0
def tw5430298690227688603:=0
def tw14510999392357533313:=0
def tw3007997404658973986:=0
def tw18271064793996144179:=0
def tw3766103679641222086:=0
def tw6017613539213740459:=0
def tw16764941489936456559:=0
def tw9646457476555845923:=0
def tw1389702257382486992:=0
def tw10330214520290203531:=0
def tw15313557156115596009:=0
def tw15570496908990692578:=0
def tw15337339545999039750:=0
def tw13055798809149971714:=0
def tw8503476843442040121:=0
def tw8455424495910587657:=0
def tw5771077936753998924:=0
def tw11241548533560757386:=0
def tw2096434999530920695:=0
def tw758389653423819977:=0
def tw2851450122492070415:=0
def tw8148729344984730515:=0
def tw13756270107637741919:=0
def tw17123285477869044830:=0
def tw6392517313568288734:=0
def tw2456499452086645659:=0
def tw10273667068235003791:=0
def tw5096152332696704787:=0
def tw6067861570264902168:=0
def tw3744465335804693224:=0
def tw16104396306954477225:=0
def tw13677898820856266797:=0
def tw5109375453276183465:=0
def tw11348383391249183999:=0
def tw7641485645042222599:=0
def tw12428653004647623046:=0
def tw13159029125533498110:=0
def tw6151093812416769147:=0
def tw9005829588443473092:=0
def tw8487081661120842109:=0
def tw17187595930210018816:=0
def tw12331196612395008257:=0
def tw3249598146585703015:=0
def tw4530534423505503315:=0
def tw15182696977430008154:=0
def tw11934098979887848258:=0
def tw18016587603472280764:=0
def tw735549016096954762:=0
def tw18168001338019259813:=0
def tw6993779413032690995:=0
def tw2578588241539564951:=0
def tw13419568218035279866:=0
def tw7923657940997157629:=0
def tw754476129458509332:=0
def tw9766937988215712682:=0
def tw6826560714473095369:=0
def tw578474028880811415:=0
def tw1748050268948460848:=0
def tw6785505827957517776:=0
def tw1404822647335253438:=0
def tw11864829000790475204:=0
def tw804289766032231279:=0
def tw4690407932238148303:=0
def tw14544285735985945630:=0
def tw5457078816242644953:=0
def tw6739843144779056309:=0
def tw3613070301543274709:=0
def tw17526732533455435810:=0
def tw9946386369035841740:=0
def tw2863293085729680151:=0
def tw11393602952234769799:=0
def tw16071937904137456340:=0
def tw5617498073483128764:=0
def tw6102009988110479621:=0
def tw2145864742778485036:=0
def tw18251877410484474594:=0
def tw16533971257355734837:=0
def tw10831272997617954362:=0
def tw15931852549824138870:=0
def tw16188835810135872716:=0
def tw9988461209968146398:=0
def tw921770678098302120:=0
def tw2038146248129233301:=0
def tw6415835668796681449:=0
def tw758375513505721397:=0
def tw7702415002717710994:=0
def tw2908833314478954846:=0
def tw7894332309538557461:=0
def tw18238918015542209974:=0
def tw2226294216031711322:=0
def tw13191831376717525173:=0
def tw12497663205921533190:=0
def tw11816589842989631991:=0
def tw6364665233816592794:=0
def tw15050780584886953388:=0
def tw10179119913185878228:=0
def tw15966792744086676608:=0
def tw15925966861718981130:=0
def tw2498532095385789628:=0
def tw10901851751141117463:=0
def tw7646998895218751911:=0
def tw14039080393265352341:=0
def tw16007183942327974143:=0
def tw7786133262093769379:=0
def tw1973718377366458652:=0
def tw14601969544066919536:=0
def tw15546162917915724803:=0
def tw649629529508276868:=0
def tw1748168097829800355:=0
def tw14893530215576514311:=0
def tw3681191529979211145:=0
def tw13191287579641708276:=0
def tw17419658546310985294:=0
def tw15334860961745813057:=0
def tw11357547173889964075:=0
def tw1525519315013012218:=0
def tw8557278536012016028:=0
def tw4650496188990260944:=0
def tw3124287404563994847:=0
def tw3409270630327376098:=0
def tw5813920869051260682:=0
def tw3194732603774607908:=0
def tw13940709151857567546:=0
def tw12723690296925258768:=0
def tw4909042203265411529:=0
def tw12395226681669451430:=0
def tw4948847574309274670:=0
def tw18254053129810466072:=0
def tw2924634555926525644:=0
def tw1448122907331165493:=0
def tw17414609421677010997:=0
def tw15368406904765093615:=0
def tw15476441851412367595:=0
def tw14847597713435637291:=0
def tw15445867446320160469:=0
def tw10916443668514035707:=0
def tw17617654623541150816:=0
def tw1886808863983277694:=0
def tw18177588159226322764:=0
def tw4070797894487618004:=0
def tw13009342157180128628:=0
def tw9087841218214853668:=0
def tw6195990487160820099:=0
def tw13794663022400315455:=0
def tw12592370953398259172:=0
def tw11116092007646645794:=0
def tw15125797240917085069:=0
def tw17687331264362973232:=0
def tw5670732692523219145:=0
def tw17911208495395556103:=0
def tw16643920930963584788:=0
def tw6825639846756295198:=0
def tw7758039380679241417:=0
def tw7554377900863757537:=0
def tw518228334454471904:=0
def tw5442844798356026144:=0
def tw968558443721180805:=0
def tw8752323117848616311:=0
def tw10825266570637037486:=0
def tw8839425096571993603:=0
def tw6581180650485371548:=0
def tw3931311466126198148:=0
def tw6280767985355837257:=0
def tw4118036364684405764:=0
def tw6981987786220771524:=0
def tw8180336496915892931:=0
def tw3015264148092265126:=0
def tw17853860996376935055:=0
def tw3275722335560187655:=0
def tw1501047261822555621:=0
def tw3930270388670692828:=0
def tw12399342634931734549:=0
def tw13299245909842113622:=0
def tw11737399813607981892:=0
def tw15813410017548518489:=0
def tw9324021103403715860:=0
def tw1654471342896057192:=0
def tw16516929729717612598:=0
def tw7859683722401020851:=0
def tw882419001368825157:=0
def tw15758370889888598007:=0
def tw16534085643947742257:=0
def tw4036318571062466622:=0
def tw406567278053902731:=0
def tw12035080214966681548:=0
def tw1674434820608638589:=0
def tw12508946707758147956:=0
def tw482008265412762906:=0
def tw14822837832458785143:=0
def tw11795722510273800186:=0
def tw4158226967618442604:=0
def tw6600021969008850785:=0
def tw10813916190434599583:=0
def tw9282513696725767915:=0
def tw16287678349795809800:=0
def tw5784079038402606821:=0
def tw10701421783993614073:=0
def tw17717970694903946593:=0
def tw3168644045600618910:=0
def tw14071827437987951811:=0
def tw5945306926421385080:=0
def tw4706067815389637393:=0
def tw12198059205639128634:=0
def tw12738873590255777812:=0
def tw10381524686953676617:=0
def tw4855031245135943483:=0
def tw17312533214749913603:=0
def tw14975746098418877489:=0
def tw3180931225206292324:=0
def tw13205264847908460317:=0
def tw9951096511191711712:=0
def tw11797314745057859728:=0
def tw10263038385771901570:=0
def tw358300661938028727:=0
def tw10645342936707333805:=0
def tw9015878834992885235:=0
def tw5662399523696769833:=0
def tw11452837140814138176:=0
def tw16823750863586698997:=0
def tw16791215709526957210:=0
def tw10600568225799971998:=0
def tw10767428016455622930:=0
def tw12878056770749985581:=0
def tw1891651637163967051:=0
def tw18277678632144892661:=0
def tw5601238979616743853:=0
def tw1755324109628415808:=0
def tw8277355805122184968:=0
def tw8076017537154885301:=0
def tw17808272617738957357:=0
def tw12174557762157868093:=0
def tw2230603903984069445:=0
def tw15163866693047019170:=0
def tw17072828942195069685:=0
def tw11528238820325290024:=0
def tw11580842629662724423:=0
def tw3132616073525434912:=0
def tw9364496780198264408:=0
def tw14375714121864689298:=0
def tw12698073692896858034:=0
def tw15072850154215245059:=0
def tw5061834261583816757:=0
def tw4636321065105649113:=0
def tw1983340550616367473:=0
def tw12256339719621128373:=0
def tw16647947912864932791:=0
def tw3642771310565241024:=0
def tw1759406971843830646:=0
def tw12587053086273832182:=0
def tw18119325159724328962:=0
def tw18156832673550550884:=0
def tw16428764829875110468:=0
def tw8041493384809024530:=0
def tw1716362854897301875:=0
def tw9544202085005457274:=0
def tw11260596610422166085:=0
def tw12120509602870444818:=0
def tw2652494277051577576:=0
def tw17465095791456892666:=0
def tw5624632452801470270:=0
def tw10162080810080669385:=0
def tw15736264432195022848:=0
def tw6663829393822598290:=0
def tw5964044510436936700:=0
def tw267213299161774353:=0
def tw331505119542771819:=0
def tw6121006568175262533:=0
def tw4745563092747933502:=0
def tw3214462504940248275:=0
def tw10925222869050404646:=0
def tw12973808743134390843:=0
def tw2115783277534920479:=0
def tw1857923494447173616:=0
def tw16713699344377467600:=0
def tw17574385804693559384:=0
def tw15992755160054169144:=0
def tw6242315417661138661:=0
def tw10450061294507074892:=0
def tw12834988282898131893:=0
def tw10155201902794867133:=0
def tw11188875601339594830:=0
def tw14807273674889834833:=0
def tw16075114934887399739:=0
def tw15432217275648640794:=0
def tw13226250490677044922:=0
def tw5603723589877122709:=0
def tw5056475147401010043:=0
def tw7696949200096738990:=0
def tw2485511674656357036:=0
def tw9432059735757684061:=0
def tw4107984508735019712:=0
def tw112873425273551204:=0
def tw6330690251595247936:=0
def tw1271814084952928624:=0
def tw16670104516201735586:=0
def tw13350974534855448438:=0
def tw9623948109547230428:=0
def tw3841770163378064674:=0
def tw15067076552973791536:=0
def tw6281603277724235976:=0
def tw6018436250895776765:=0
def tw5603956810463027520:=0
def tw17320853033408069071:=0
def tw9759638774144799743:=0
def tw10206857270329685582:=0
def tw9401581829646295013:=0
def tw52783561658376864:=0
def tw6001506225592352429:=0
def tw2781253862273734676:=0
def tw10010121613750884950:=0
def tw8497979525615188398:=0
def tw11265857497958704928:=0
def tw442971293409758740:=0
def tw14550083221026135963:=0
def tw14472279969046063411:=0
def tw17841265965647274281:=0
def tw1831811409149061741:=0
def tw9655275849551481757:=0
def tw11688377405065707438:=0
def tw11533112684112188842:=0
def tw14000641886375061474:=0
def tw276158474623507659:=0
def tw12290523626538918916:=0
def tw4244526555831938337:=0
def tw6226341485640335067:=0
def tw10881086865937320994:=0
def tw1874045118708642611:=0
def tw2047154064574852913:=0
def tw10042391798975308835:=0
def tw7124594392586983672:=0
def tw15829326867232327433:=0
def tw17111350319342230093:=0
def tw727560997607196951:=0
def tw18365369496283941587:=0
def tw12845618613994446034:=0
def tw10445292364278246963:=0
def tw11809277111501524799:=0
def tw5274030805099316873:=0
def tw15564211551680635478:=0
def tw9496761004856314423:=0
def tw3947244740050708953:=0
def tw2713423402166484093:=0
def tw15177287712491828157:=0
def tw18186166175979564430:=0
def tw3150214757390859988:=0
def tw8466305051298580502:=0
def tw12852707111739569312:=0
def tw14774191440261447062:=0
def tw11189890457030057898:=0
def tw2402894613160264141:=0
def tw10045013931516735596:=0
def tw16374118003367467588:=0
def tw15808670129378906266:=0
def tw4414989330344830071:=0
def tw11853806682924754011:=0
def tw7774270160130777070:=0
def tw13458511689240209612:=0
def tw12913523173607818687:=0
def tw2039278959447294125:=0
def tw14364909550882275777:=0
def tw17135782635858896562:=0
def tw1474786775060412968:=0
def tw2489592521360334326:=0
def tw16379219440552407817:=0
def tw13484148265728715131:=0
def tw15630210865873554902:=0
def tw2724440275793058207:=0
def tw1741038126755539216:=0
def tw1502203182980908279:=0
def tw1000097717360315763:=0
def tw1031215025353698642:=0
def tw5514546563857180358:=0
def tw5783750457832392418:=0
def tw3106827930285271909:=0
def tw7277677104317685160:=0
def tw2358251066538904615:=0
def tw8419053788278079365:=0
def tw9793865302534809431:=0
def tw5972618054353055630:=0
def tw3070586906552272168:=0
def tw12735147119301473408:=0
def tw7846082922721582554:=0
def tw18237811019544413298:=0
def tw3120496744620226794:=0
def tw12558611421112969243:=0
def tw15295778965624197311:=0
def tw173907867177538506:=0
def tw11745425229278329205:=0
def tw10753482045008064043:=0
def tw2351072322714055737:=0
def tw5784869152297893745:=0
def tw438169135604400189:=0
def tw15306467734325250798:=0
def tw543189185952778689:=0
def tw1758822345005018289:=0
def tw17881059743471092359:=0
def tw10319576580918397967:=0
def tw12768750892614482938:=0
def tw10106317902760016564:=0
def tw15796629803992123524:=0
def tw14164795622741534911:=0
def tw2293252868972852371:=0
def tw14147801316255205054:=0
def tw1920155589284773522:=0
def tw4312680267776588854:=0
def tw18096475407016554727:=0
def tw10236808733960351120:=0
def tw608205625534444797:=0
def tw7598647695595125945:=0
def tw4369547480350555138:=0
def tw7967525549715892378:=0
def tw778598097769858072:=0
def tw316798644703318285:=0
def tw13258219754477300536:=0
def tw445492327541974384:=0
def tw6988374786918720686:=0
def tw4884480976391449746:=0
def tw13160518868231976980:=0
def tw9283642980120556224:=0
def tw13881871447879905075:=0
def tw14616314655037063927:=0
def tw16305801045446826927:=0
def tw6449216170663971401:=0
def tw2214851337909185237:=0
def tw3324525497811035688:=0
def tw7869661428724660311:=0
def tw17621155396120312771:=0
def tw3084077081751560235:=0
def tw10868750103296167507:=0
def tw5573103406260030497:=0
def tw8076386334901037954:=0
def tw13700401192959943771:=0
def tw1580881173030994991:=0
def tw8258159864881241473:=0
def tw9763191677951851548:=0
def tw13694773893955229141:=0
def tw8080112031487690192:=0
def tw11313329092480802393:=0
def tw786354889252735482:=0
def tw9725286068445291718:=0
def tw5247692140815365146:=0
def tw9134699165777447622:=0
def tw13673628670059413522:=0
def tw1408741731173341879:=0
def tw17439915647738972079:=0
def tw4472920736579527213:=0
def tw8127288960479557910:=0
def tw17323060359849397194:=0
def tw16242052604599115343:=0
def tw4417868918580195154:=0
def tw7378028557624285358:=0
def tw3413883420717936817:=0
def tw16140877249545980559:=0
def tw247364475052050849:=0
def tw7342869376276136025:=0
def tw7920983758050068121:=0
def tw15730518868170217633:=0
def tw8403607420771818995:=0
def tw15722788020912290318:=0
def tw7856241786729299058:=0
def tw10981831138356698595:=0
def tw16723747932030491024:=0
def tw3498425554430416065:=0
def tw8470351924790026821:=0
def tw2268846763225151216:=0
def tw10146768383595967595:=0
def tw18441682063048947125:=0
def tw961918173534666210:=0
def tw12560682711286400669:=0
def tw4697114038714350430:=0
def tw17442483263485324523:=0
def tw17784704042648377857:=0
def tw1991569544864200961:=0
def tw11927525448226571185:=0
def tw8205917818368844165:=0
def tw14238466551875344636:=0
def tw14462985377908402256:=0
def tw8051058653421541156:=0
def tw9401495988618918932:=0
def tw4741851767960454757:=0
def tw2495762363038369308:=0
def tw10949010652515738303:=0
def tw4153552514653625432:=0
def tw5397830658693279778:=0
def tw2022687706204855984:=0
def tw8803520135106393864:=0
def tw17596913148111816534:=0
def tw13594508331596598274:=0
def tw5309882330010690983:=0
def tw9106694339776524884:=0
def tw3083564534762971565:=0
def tw3314990689462654844:=0
def tw6408138092537455795:=0
def tw4123633729926453644:=0
def tw5144983793522915978:=0
def tw10948307911079428391:=0
def tw3092390120785393242:=0
def tw4209257920424450459:=0
def tw2166892198452612255:=0
def tw4796202904597350734:=0
def tw14385792222166445813:=0
def tw3898673294041664101:=0
def tw5448532028197824594:=0
def tw596159605075020841:=0
def tw6117898430789333416:=0
def tw9300526781166201092:=0
def tw12078566311261547159:=0
def tw5805396906755707853:=0
def tw13484551442364255070:=0
def tw9072441208629111324:=0
def tw17279785043626039698:=0
def tw4664523246563301537:=0
def tw17374323929935856447:=0
def tw4574322076182773584:=0
def tw2516001261394960087:=0
def tw17484149449581075877:=0
def tw7331211718918197831:=0
def tw16647067044285093146:=0
def tw2140958725966219392:=0
def tw4370217941100777226:=0
def tw12465638813121230527:=0
def tw7420801706303700799:=0
def tw10436581903914334914:=0
def tw16372540761223060637:=0
def tw2345586610432255278:=0
def tw11044903445701912246:=0
def tw9691304599189751678:=0
def tw10846389918661787344:=0
def tw5062811934579122403:=0
def tw15964333045468449375:=0
def tw18019222551189117803:=0
def tw5767694365922347366:=0
def tw17238228410945515635:=0
def tw10898382441885223426:=0
def tw2324580133595425107:=0
def tw5823293746383198900:=0
def tw16412758240243070010:=0
def tw8829071180588470375:=0
def tw4842892476183029356:=0
def tw17409150320509222902:=0
def tw8950605323664331547:=0
def tw3208092640643225335:=0
def tw4560541744148681307:=0
def tw11946198165545830443:=0
def tw15932575983518082229:=0
def tw14018939275285954039:=0
def tw5144176233492100387:=0
def tw17229218207937762636:=0
def tw10944097021438045284:=0
def tw7637037611728443187:=0
def tw6679713313236426380:=0
def tw3590222686792127602:=0
def tw18057100076512394217:=0
def tw5393105186844014368:=0
def tw13902636351400053528:=0
def tw2083963202420421317:=0
def tw10337045402558922651:=0
def tw6608179976509316402:=0
def tw4437204824686289622:=0
def tw7381356897298217201:=0
def tw8820934195617016327:=0
def tw5427273989697797777:=0
def tw13687592211916916058:=0
def tw14791464113070326753:=0
def tw12238260644828005722:=0
def tw6047340161064030517:=0
def tw3149053568294549419:=0
def tw14576153693932998030:=0
def tw11517009526576454468:=0
def tw1163943431179401137:=0
def tw15280307755312516887:=0
def tw11739308423584960506:=0
def tw12030100217731489948:=0
def tw13110463958492167055:=0
def tw8995223242490552672:=0
def tw18409128714385242483:=0
def tw2800267258245238902:=0
def tw4661462055318349487:=0
def tw13593204497477776915:=0
def tw15920434486005184651:=0
def tw9395414832021358402:=0
def tw15109909893136839543:=0
def tw13210347641592468127:=0
def tw10968145236166813089:=0
def tw15428236621221816351:=0
def tw4947044096343237672:=0
def tw7528249177236319615:=0
def tw6382351449668111473:=0
def tw9800871737486348866:=0
def tw4308361069782037781:=0
def tw110415801132273840:=0
def tw388299003673582201:=0
def tw13673090304614194428:=0
def tw4765592561192345429:=0
def tw14880022571576065115:=0
def tw17785108355807337019:=0
def tw16611254163673533957:=0
def tw14603359130042120049:=0
def tw7071991570465404958:=0
def tw6720355554751968511:=0
def tw8551320460002436411:=0
def tw972838725495719489:=0
def tw2792107646843683481:=0
def tw10913158798866701370:=0
def tw17723165731759153792:=0
def tw12953904400457381536:=0
def tw16477208245549441899:=0
def tw4105098444083463554:=0
def tw11225144387804534547:=0
def tw3444075278430927822:=0
def tw1386361752729853747:=0
def tw12937754666658159835:=0
def tw1390370276610181739:=0
def tw4395856508633383113:=0
def tw4998973455000136388:=0
def tw15544365586299863341:=0
def tw5903622033657760029:=0
def tw17090749368677692455:=0
def tw18015859407336822099:=0
def tw6350809118613430869:=0
def tw14069082120881267400:=0
def tw1689898321657158890:=0
def tw18441424579039382087:=0
def tw1427461317264438273:=0
def tw11875795595377397044:=0
def tw18265655489757617615:=0
def tw6590051835643271577:=0
def tw7808628775677275125:=0
def tw8481018847646377920:=0
def tw9997968077459114915:=0
def tw11626239791392551509:=0
def tw12451136540035957190:=0
def tw12525368850680383307:=0
def tw9841924235473654697:=0
def tw10133303357735692045:=0
def tw11376372887276463124:=0
def tw17823111067090777624:=0
def tw16771754019753772645:=0
def tw6733832711695385416:=0
def tw3726537583063700526:=0
def tw10105665999415394242:=0
def tw1387127575679211632:=0
def tw12361663134371353722:=0
def tw977179342299962456:=0
def tw17818698043274287575:=0
def tw1625648032535328309:=0
def tw10095022632758374422:=0
def tw16545021282158876891:=0
def tw13944327262941514414:=0
def tw18371585934844034426:=0
def tw3762672187428825687:=0
def tw7193916596920633347:=0
def tw12316312639072579655:=0
def tw8652514022560108069:=0
def tw5663780946761842796:=0
def tw9949789345074309149:=0
def tw15270638523168112842:=0
def tw3508804196985220976:=0
def tw3356792719844614731:=0
def tw8981842886566410407:=0
def tw10550611903554963359:=0
def tw2981841224121986423:=0
def tw12024830323928749205:=0
def tw7144367572973512480:=0
def tw15656018207065770562:=0
def tw770249714813800806:=0
def tw11759362610955457403:=0
def tw9546078573946874229:=0
def tw7785816123476937022:=0
def tw17313327091563831539:=0
def tw10577003593295908140:=0
def tw1586263528774344106:=0
def tw10504745708739882793:=0
def tw9250945666581871573:=0
def tw13304629244128546364:=0
def tw13030207857308948064:=0
def tw17474853278882428004:=0
def tw911157634906603869:=0
def tw4946151018203485929:=0
def tw2802146384888597150:=0
def tw14312992089512100835:=0
def tw9742218383789673228:=0
def tw16064006439262425578:=0
def tw2882120809997559438:=0
def tw6827135755601997860:=0
def tw12963176350542389505:=0
def tw17248571041737809928:=0
def tw6495416864825543986:=0
def tw13063333628759368144:=0
def tw10245358895131494660:=0
def tw17386024004278799950:=0
def tw5563099085866758011:=0
def tw12992538454685948381:=0
def tw8182492378872705603:=0
def tw16516229444890717738:=0
def tw692031808200011539:=0
def tw16694050205215701218:=0
def tw16742672629302781024:=0
def tw11550106263068311576:=0
def tw11624162869998247999:=0
def tw13812349183120436585:=0
def tw2065254117019261674:=0
def tw1537190636247173444:=0
def tw10463134036556652791:=0
def tw14555098320198827265:=0
def tw2786947963087459461:=0
def tw2379023944256936626:=0
def tw7320242738429692222:=0
def tw1502968469302167911:=0
def tw13872947766021082379:=0
def tw14815833571469758900:=0
def tw16048212399339585321:=0
def tw9383104393230718302:=0
def tw5131116451403897071:=0
def tw3287183835556952800:=0
def tw14451822039194627309:=0
def tw3580065248895314176:=0
def tw14275781175022089842:=0
def tw11249562414231589801:=0
def tw15147404199484571791:=0
def tw526826334330605683:=0
def tw15454942566026072718:=0
def tw73988731210493954:=0
def tw10170520404290542987:=0
def tw7280801789393927446:=0
def tw4960821580389299863:=0
def tw18265717914679877525:=0
def tw3958141226701490059:=0
def tw18251252660173767807:=0
def tw4268786490331105029:=0
def tw680749556861680791:=0
def tw828387477987301601:=0
def tw13937307743016667451:=0
def tw3411999296614782303:=0
def tw15368375126369272748:=0
def tw13540362136993087157:=0
def tw7680387320466059081:=0
def tw12329672685801493139:=0
def tw11415823997003125577:=0
def tw11219005680258847011:=0
def tw17045697354071669802:=0
def tw15313969558081185670:=0
def tw5649024180098488359:=0
def tw3882482413846762867:=0
def tw4592795700388912809:=0
def tw11015762370507407559:=0
def tw15860314804833192516:=0
def tw1111379625066746279:=0
def tw13553126913380462010:=0
def tw2280885111669351794:=0
def tw12879301387616522682:=0
def tw9867713740287581592:=0
def tw3784868751649709403:=0
def tw8880117667072130785:=0
def tw7046466367391105184:=0
def tw8819724259011998892:=0
def tw12260166681604422196:=0
def tw13086233827029648874:=0
def tw6078448849673644684:=0
def tw5600811549650174388:=0
def tw6558352684918857986:=0
def tw13591904536641963840:=0
def tw3511507419884098194:=0
def tw7961800880828323391:=0
def tw3358152920238426064:=0
def tw17518551084339725172:=0
def tw12873605714852975077:=0
def tw10883153692400289706:=0
def tw2182264700428755510:=0
def tw8560132238141675283:=0
def tw1818980633829563136:=0
def tw9380384848721683169:=0
def tw12134527439989635331:=0
def tw3619951790078722323:=0
def tw14406925361378440059:=0
def tw14504489860545752416:=0
def tw14743237972431717835:=0
def tw11995605086243278170:=0
def tw3056627850422930525:=0
def tw7267707532555497622:=0
def tw18298668364601710229:=0
def tw4868710520990092503:=0
def tw6570760290615505780:=0
def tw7717515894718888689:=0
def tw7147662669273379425:=0
def tw7346758017938564418:=0
def tw15124180646732273318:=0
def tw16660912171291710546:=0
def tw4117182794469569038:=0
def tw3169715437862861640:=0
def tw7504816144611274263:=0
def tw5481543718606664726:=0
def tw10137191150870726033:=0
def tw11484709823294494395:=0
def tw1250545591638457904:=0
def tw2874551269826388146:=0
def tw16146315628372398172:=0
def tw7617839874463660055:=0
def tw13517929037812828216:=0
def tw7356815141076842211:=0
def tw6973623190037050349:=0
def tw18402474731948371229:=0
def tw16547132378976529222:=0
def tw4985278626263234196:=0
def tw5581642636352890688:=0
def tw5707399135740124755:=0
def tw16602193684890445282:=0
def tw10528130654794062444:=0
def tw9933909449366418309:=0
def tw9395703009385901922:=0
def tw598912448000194767:=0
def tw12969823324619112911:=0
def tw18109082070630953732:=0
def tw6741789650266535286:=0
def tw12726079206580417136:=0
def tw4311149235709323443:=0
def tw11386833993245884491:=0
def tw9757928505781002744:=0
end PySem.W.Fast
open_top K41hd for PySem.Challenge.rw_clonewood_k41_cells_put_hollowed_and_sha
theorem PySem.Challenge.cw_clonewood_k41_cells_put_hollowed_and_sha_holds : PySem.Challenge.rw_clonewood_k41_cells_put_hollowed_and_sha.Holds := by
 refine K41hd ?_
 k_fill
 refine K41.Cd (l:=PySem.Challenge.rw_clonewood_k41_cells_put_hollowed_and_sha) rfl rfl (fun w h Y=>⟨W.km_in_of Y,List.forall_mem_cons.mpr ⟨⟨W.codeHd_of_K (c:=690) (P:=686) (W.km_in_of Y) (by kernel_rfl),W.km_tabs_of Y 686 (List.mem_cons_of_mem _ (List.mem_cons_of_mem _ (List.mem_cons_self ..)))⟩,List.forall_mem_cons.mpr ⟨⟨W.codeHd_of_K (c:=307) (P:=303) (W.km_in_of Y) (by kernel_rfl),W.km_tabs_of Y 303 (List.mem_cons_of_mem _ (List.mem_cons_self ..))⟩,List.forall_mem_cons.mpr ⟨⟨W.codeHd_of_K (c:=845) (P:=843) (W.km_in_of Y) (by kernel_rfl),W.km_tabs_of Y 843 (List.mem_cons_self ..)⟩,List.forall_mem_cons.mpr ⟨⟨W.codeHd_of_K (c:=850) (P:=848) (W.km_in_of Y) (by kernel_rfl),W.km_tabs_of Y 848 (List.mem_cons_of_mem _ (List.mem_cons_of_mem _ (List.mem_cons_of_mem _ (List.mem_cons_self ..))))⟩,fun Fc h=>nomatch h⟩⟩⟩⟩⟩) (fun w=>List.forall_mem_cons.mpr ⟨by kernel_rfl,List.forall_mem_cons.mpr ⟨by kernel_rfl,List.forall_mem_cons.mpr ⟨by kernel_rfl,List.forall_mem_cons.mpr ⟨by kernel_rfl,fun Fc h=>nomatch h⟩⟩⟩⟩) ?F
 case F =>
  intro w mg fa h KX G hmg;refine' K41.zZ hmg ?nK0 ?nKC ?nKF ?nKD ?nDE ?clK0 ?clKC ?clKF ?clKD ?clDE ?naKC_0 ?naKC_1 ?naKF_0 ?naKF_1 ?naKF_2 ?naKD_0 ?naKD_1 ?naKD_2 ?naDE_0 ?naDE_1 ?naDE_2 ?naDE_3 ?iKIn ?iCIn ?hCSt ?hCPt ?iFIn ?hFSt ?hFPt ?iDIn ?hDSt ?hDPt ?hDEn ?hDWe ?hDOt ?iEIn ?hEpu ?hEtr ?hEho ?hEsh ?hEtw ?hEvi ?hEne ?hEte ?hEst ?hEnt ?hEnf ?hEno ?hEns ?hEff ?hEfi ?hEhf ?hEha ?hEgr ?hWho ?hWth ?hWrd ?hNof ?hEnd ?hEip ?hPts ?hWo ?hShi ?hGoe ?hJoi ?hTid ?hLad ?hPin ?hSpl ?hCll ?hKof ?hSdn ?hFat ?hNbt ?hNsp ?hNcl ?hNws ?hCel ?hMix ?hWds ?hLce ?hRow ?hSpa ?hAsk ?hDoo ?hOvr ?hChg ?hDat ?hRig ?hLaw ?gaK0 ?rdK0 ?fcK0 ?eEst ?eLad ?eRig ?eLaw ?bL ?T
  (case nK0 | nKC | nKF | nKD | nDE=>exact W.mg_of KX G (by k_is))
  (case clK0 | clKC | clKF | clKD | clDE=>exact⟨by k_is,by k_is,by k_is,by k_is⟩)
  (case naKC_0 | naKC_1 | naKF_0 | naKF_1 | naKF_2 | naKD_0 | naKD_1 | naKD_2 | naDE_0 | naDE_1 | naDE_2 | naDE_3=>unfold be;k_is)
  (case iKIn=>exact mE (W.mg_of KX G (by k_is)) (by k_is) (by k_is) (by k_is) (by k_is) ⟨by k_is,by k_is,by k_is⟩ (fun Fc Fc Fc Fc Fc Fc=>Dd fun Fc Fc=>rfl))
  (case iCIn=>exact mE (W.mg_of KX G (by k_is)) (by k_is) (by k_is) (by k_is) (by k_is) ⟨by k_is,by k_is,by k_is⟩ (fun Fc Fc Fc Fc Fc Fc=>De fun Fc Fc Fc=>rfl))
  (case hCSt | hCPt | hFSt | hFPt | hDSt | hDPt | hEne=>exact fU (by k_is) (by k_is) ⟨by k_is,by k_is,by k_is⟩ (fun Fc Fc Fc Fc Fc Fc=>Dq fun Fc=>rfl))
  (case iFIn | iDIn | iEIn=>exact mE (W.mg_of KX G (by k_is)) (by k_is) (by k_is) (by k_is) (by k_is) ⟨by k_is,by k_is,by k_is⟩ (fun Fc Fc Fc Fc Fc Fc=>Df fun Fc Fc Fc Fc=>rfl))
  (case hDEn | hDOt | hEvi | hEst | hEgr=>exact fU (by k_is) (by k_is) ⟨by k_is,by k_is,by k_is⟩ (fun Fc Fc Fc Fc Fc Fc=>Dd fun Fc Fc=>rfl))
  (case hDWe=>exact fU (by k_is) (by k_is) ⟨by k_is,by k_is,by k_is⟩ (fun Fc Fc Fc Fc Fc Fc=>Dy fun Fc Fc Fc Fc Fc=>rfl))
  (case hEpu | hEho | hEns | hEhf | hEha=>exact fU (by k_is) (by k_is) ⟨by k_is,by k_is,by k_is⟩ (fun Fc Fc Fc Fc Fc Fc=>Df fun Fc Fc Fc Fc=>rfl))
  (case hEtr | hEtw | hEte | hEnt | hEnf | hEno | hEff=>exact fU (by k_is) (by k_is) ⟨by k_is,by k_is,by k_is⟩ (fun Fc Fc Fc Fc Fc Fc=>De fun Fc Fc Fc=>rfl))
  (case hEsh | hEfi=>exact fU (by k_is) (by k_is) ⟨by k_is,by k_is,by k_is⟩ (fun Fc Fc Fc Fc Fc Fc=>Dz fun Fc Fc Fc Fc Fc Fc=>rfl))
  (case hWho | hWrd | hNof | hEnd | hEip | hTid | hPin | hCll | hKof | hNbt | hNcl | hDat | hLaw=>exact mD KX G (by k_is) ⟨by k_is,by k_is,by k_is⟩ (fun Fc Fc Fc Fc Fc Fc=>Dq fun Fc=>rfl))
  (case hWth | hPts | hWo | hSdn | hFat | hNws | hAsk | hOvr=>exact mD KX G (by k_is) ⟨by k_is,by k_is,by k_is⟩ (fun Fc Fc Fc Fc Fc Fc=>De fun Fc Fc Fc=>rfl))
  (case hShi | hGoe | hJoi | hSpl | hNsp | hCel | hMix | hWds | hLce | hRow | hSpa | hDoo | hChg | hRig=>exact mD KX G (by k_is) ⟨by k_is,by k_is,by k_is⟩ (fun Fc Fc Fc Fc Fc Fc=>Dd fun Fc Fc=>rfl))
  (case hLad=>exact mD KX G (by k_is) ⟨by k_is,by k_is,by k_is⟩ (fun Fc Fc Fc Fc Fc Fc=>Df fun Fc Fc Fc Fc=>rfl))
  (case gaK0 | rdK0 | fcK0=>k_is)
  (case eEst | eLad | eRig | eLaw=>rfl)
  (case bL=>exact fun Fc Fc=>.of_eq rfl)
  (case T=>exact⟨W.mg_none_of KX G (by k_is),W.mg_none_of KX G (by k_is),W.mg_none_of KX G (by k_is),W.mg_none_of KX G (by k_is),W.mg_none_of KX G (by k_is),W.mg_none_of KX G (by k_is),W.mg_none_of KX G (by k_is),W.mg_none_of KX G (by k_is),W.mg_none_of KX G (by k_is),W.mg_none_of KX G (by k_is),W.mg_none_of KX G (by k_is),W.mg_none_of KX G (by k_is),W.mg_none_of KX G (by k_is),⟨_,W.mg_of KX G (by k_is)⟩,⟨_,W.mg_of KX G (by k_is)⟩,⟨_,W.mg_of KX G (by k_is)⟩,⟨_,W.mg_of KX G (by k_is)⟩,⟨_,W.mg_of KX G (by k_is)⟩,⟨_,W.mg_of KX G (by k_is)⟩,⟨_,W.mg_of KX G (by k_is)⟩,⟨_,W.mg_of KX G (by k_is)⟩,⟨_,W.mg_of KX G (by k_is)⟩,⟨_,W.mg_of KX G (by k_is)⟩,⟨_,W.mg_of KX G (by k_is)⟩,⟨_,W.mg_of KX G (by k_is)⟩⟩)
#print axioms PySem.Challenge.cw_clonewood_k41_cells_put_hollowed_and_sha_holds
