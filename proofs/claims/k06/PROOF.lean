import PyProof.Rows.All
import Wide.All
import OpenK.AllK
import Wide.FinOn
import Lean
import PyProof.EqAt
import PyProof.EqKinds
import PyProof.TupleCall
import PyProof.Rows.SetFrom
import PyProof.Rows.SortStr
import PyProof.Rows.SortWalk
import PyProof.CollectIter
import PyProof.Rows.DictTallyStr
import PyProof.DictWalks
import PyProof.WalkInts
import PyProof.P3Eq
import PyProof.NeKinds
import KE.KLam
import PyProof.DictItems
import PyProof.DictCopy
import PyProof.LayNew
import KE.KDictLaws
import KE.KEqDict
import PyProof.Rows.StrItems
import PyProof.StrLawsOcc
import PyProof.StrCalls2
import KE.KDictList
import PyProof.SetRoads
import PyProof.ListNew
import KE.KRevIter
import PyProof.EnumMake
import KE.KDictOf
import KE.KNest
import PyProof.FString
import PyProof.DictValues
import PyProof.StrLawsIn
import KE.IntTextLaws
import KE.KNestM
import PyProof.StrLawsTight
import PyProof.StrBlock2
import PyProof.Rows.StrClose
import PyProof.Rows.StrSplitCount
import PyProof.StrLawsChain
import PyProof.Rows.StrSliceCases
import KE.KIntText
import PySem.Challenge.RW_swapward_k06_whole_webs_of_couples
set_option Elab.async false
set_option genInjectivity false
set_option linter.all false
set_option maxRecDepth 100000
namespace L2
open PySem PySem.Spec PyProof.Rows
@[reducible] noncomputable def Key:=Sum Int Str
noncomputable def lE:Key->Value->Bool
 | .inl k,v=>Value.isInt k v
 | .inr x,v=>Value.isStrOf x v
noncomputable def Ft (w:World):Key->Int
 | .inl k=>hashInt k
 | .inr x=>hashStr w x
theorem bC:∀ {k:Key} {v:Value},lE k v=true->(∃ i t,k=Sum.inl i/\v=Value.int i t)\/(∃ x t,k=Sum.inr x/\v=Value.str x t)
 | .inl i,v,h=>by
  obtain⟨t,e⟩:=Value.isInt_shape (k:=i) (v:=v) h
  exact .inl ⟨i,t,rfl,e⟩
 | .inr x,v,h=>by
  obtain⟨t,e⟩:=Value.isStrOf_shape (x:=x) (v:=v) h
  exact .inr ⟨x,t,rfl,e⟩
theorem uN (i:Int) (t:Tok):lE (.inl i) (.int i t)=true:=by simp[lE,Value.isInt]
theorem uM (x:Str) (t:Tok):lE (.inr x) (.str x t)=true:=by simp[lE,Value.isStrOf]
theorem Cg (a b:Int):decide ((Sum.inl a:Key)=Sum.inl b)=(a == b):=by
 by_cases e:a=b
 ·subst e;simp
 ·have h:¬ (Sum.inl a:Key)=Sum.inl b:=fun q=>e (Sum.inl.inj q)
  rw[decide_eq_false h]
  exact(beq_eq_false_iff_ne.mpr e).symm
theorem Cd (a b:Str):decide ((Sum.inr a:Key)=Sum.inr b)=decide (a=b):=by
 by_cases e:a=b
 ·subst e;simp
 ·have h:¬ (Sum.inr a:Key)=Sum.inr b:=fun q=>e (Sum.inr.inj q)
  rw[decide_eq_false h,decide_eq_false e]
theorem Cf (a:Int) (b:Str):decide ((Sum.inl a:Key)=Sum.inr b)=false:=decide_eq_false (fun q=>nomatch q)
theorem Ce (a:Str) (b:Int):decide ((Sum.inr a:Key)=Sum.inl b)=false:=decide_eq_false (fun q=>nomatch q)
noncomputable def aG (prog:Program) (w:World):PySem.KeyKind prog w Key where
 is:=lE
 hash:=Ft w
 inj:=fun v a b ha hb=>by
  rcases bC ha with ⟨i,t,rfl,rfl⟩ | ⟨x,t,rfl,rfl⟩
  ·rcases bC hb with ⟨j,u,rfl,e⟩ | ⟨y,u,rfl,e⟩
   ·injection e with e1 _;rw[e1]
   ·exact nomatch e
  ·rcases bC hb with ⟨j,u,rfl,e⟩ | ⟨y,u,rfl,e⟩
   ·exact nomatch e
   ·injection e with e1 _;rw[e1]
 byValue:=fun k v h=>by
  rcases bC h with ⟨i,t,rfl,rfl⟩ | ⟨x,t,rfl,rfl⟩<;>rfl
 pyHash:=fun hv h=>by
  rcases bC hv with ⟨i,t,rfl,rfl⟩ | ⟨x,t,rfl,rfl⟩
  ·exact wpAny_pyHash_int h
  ·exact wpAny_pyHash_str h
 eqBool:=fun hu hv h=>by
  rcases bC hu with ⟨i,t,rfl,rfl⟩ | ⟨x,t,rfl,rfl⟩
  ·rcases bC hv with ⟨j,u,rfl,rfl⟩ | ⟨y,u,rfl,rfl⟩
   ·rw[Cg]at h;exact wpAny_eqBool_int h
   ·rw[Cf]at h;exact SeqAt.EqAt.int_str i t y u _ _ _ _ h
  ·rcases bC hv with ⟨j,u,rfl,rfl⟩ | ⟨y,u,rfl,rfl⟩
   ·rw[Ce]at h;exact SeqAt.EqAt.str_int x t j u _ _ _ _ h
   ·rw[Cd]at h;exact wpAny_eqBool_str h
 «strs»:=fun k x t v h=>by
  rcases bC h with ⟨i,u,rfl,e⟩ | ⟨y,u,rfl,e⟩
  ·exact nomatch e
  ·injection e with e1 _
   subst e1
   cases v<;>rfl
theorem pL (prog:Program) (w:World) (i:Int) (t:Tok):(aG prog w).is (.inl i) (.int i t)=true:=uN i t
theorem jY (prog:Program) (w:World) (x:Str) (t:Tok):(aG prog w).is (.inr x) (.str x t)=true:=uM x t
end L2
namespace L2
open PySem PySem.Spec PyProof.Rows
set_option genInjectivity true in
inductive V where
 | non | bl (b:Bool) | int (i:Int) | str (x:Str) | byt (b:Array UInt8) | flt (b:UInt64) | ref (a:Addr) | ty (n:String)
 deriving DecidableEq
noncomputable def RelV:V->Value->Prop
 | .non,u=>u=Value.none
 | .bl b,u=>u=Value.bool b
 | .int i,u=>∃t,u=Value.int i t
 | .str x,u=>∃t,u=Value.str x t
 | .byt b,u=>∃t,u=Value.bytes b t
 | .flt b,u=>∃t,u=Value.float b t
 | .ref a,u=>u=Value.ref a
 | .ty n,u=>u=Value.type n
@[reducible] noncomputable def Vals:List V->List Value->Prop:=Paired RelV
theorem Vals.length {xs:List V} {us:List Value} (r:Vals xs us):xs.length=us.length:=Paired.length r
theorem Vals.get:∀ {xs:List V} {us:List Value} {i:Nat} {x:V},Vals xs us->xs[i]?=some x->∃u,us[i]?=some u/\RelV x u
 | _,_,_,_,.nil,e=>by simp at e
 | _,_,0,_,.cons r _,e=>by simp at e;subst e;exact⟨_,rfl,r⟩
 | _,_,i + 1,x,.cons _ t,e=>by
  obtain⟨u,h1,h2⟩:=Vals.get (i:=i) (x:=x) t (by simpa using e)
  exact⟨u,by simpa using h1,h2⟩
theorem Vals.set {x:V} {u:Value} (r:RelV x u):∀ {xs:List V} {us:List Value} (i:Nat),Vals xs us->Vals (xs.set i x) (us.set i u)
 | _,_,_,.nil=>.nil
 | _,_,0,.cons _ t=>.cons r t
 | _,_,i + 1,.cons q t=>.cons q (Vals.set r i t)
theorem Vals.append:∀ {xs ys:List V} {us ws:List Value},Vals xs us->Vals ys ws->Vals (xs++ys) (us++ws)
 | _,_,_,_,.nil,s=>s
 | _,_,_,_,.cons r t,s=>.cons r (Vals.append t s)
theorem Vals.take:∀ {xs:List V} {us:List Value} (n:Nat),Vals xs us->Vals (xs.take n) (us.take n)
 | _,_,0,_=>.nil
 | _,_,_ + 1,.nil=>.nil
 | _,_,n + 1,.cons r t=>.cons r (Vals.take n t)
theorem Vals.drop:∀ {xs:List V} {us:List Value} (n:Nat),Vals xs us->Vals (xs.drop n) (us.drop n)
 | _,_,0,r=>r
 | _,_,_ + 1,.nil=>.nil
 | _,_,n + 1,.cons _ t=>Vals.drop n t
theorem Vals.none_of:∀ {xs:List V} {us:List Value} {i:Nat},Vals xs us->xs[i]?=none->us[i]?=none:=fun{xs us i} r e=>by
 have h1:=r.length
 have h2:xs.length<=i:=List.getElem?_eq_none_iff.mp e
 exact List.getElem?_eq_none_iff.mpr (by omega)
noncomputable def ke:Option V->Option Value->Prop
 | some v,some u=>RelV v u
 | none,none=>True
 | _,_=>False
noncomputable def KV {κ:Type}:List (κ × V)->List (κ × Value)->Prop:=Paired fun(p:κ × V) (q:κ × Value)=>p.1=q.1/\RelV p.2 q.2
noncomputable def kV:Key->V
 | .inl i=>.int i
 | .inr x=>.str x
set_option genInjectivity true in
inductive HO where
 /-- a list -/
 | lst (xs:List V)
 /-- a tuple (never changes) -/
 | tup (xs:List V)
 /-- a dict whose keys are ints and texts; one whose keys are tuples of ints and texts (the empty one is both) -/
 | dK (kvs:List (Key × V)) | dT (kvs:List (List Key × V))
 /-- a set of ints: its members, its size -/
 | set (S:Int->Bool) (n:Nat)
 /-- an instance of the class at C, its dict at dx, its attributes -/
 | ins (C dx:Addr) (fs:List (Str × V))
 /-- the dict of the instance at x -/
 | own (x:Addr)
 /-- the dict of an exception -/
 | xd (fs:List (Str × V))
 /-- a bound method, f of x -/
 | met (f x:Addr)
 /-- a range object lo, lo + 1, .. below hi -/
 | rng (lo hi:Int)
 /-- a thing that is known to the object (the script; a dict while a loop walks it): read, never written while it is so -/
 | frz (o:Obj) (u:HO)
 /-- a code object's table -/
 | tbl (ps:Array Value)
 /-- any other thing, by what is true of its one object (a def of one's own: SetO a S n := HO.ext fun h => ..) -/
 | ext (φ:Heap->Prop)
 | exo (C:Addr) (d:Option Addr)
 | clo (fd:FuncData)
 | dw (v:V)
 | cod (q:Str)
@[reducible] noncomputable def Hp:=Addr->Option HO
noncomputable def upd (H:Hp) (a:Addr) (o:HO):Hp:=fun b=>if b=a then some o else H b
theorem aA {H:Hp} {a:Addr} {o:HO}:upd H a o a=some o:=by unfold upd;rw[if_pos rfl]
theorem ae {H:Hp} {a b:Addr} {o:HO} (h:b ≠ a):upd H a o b=H b:=by unfold upd;rw[if_neg h]
theorem eK {H:Hp} {a:Addr} {o u:HO}:upd (upd H a o) a u=upd H a u:=by
 funext b;unfold upd;split<;>rfl
theorem DE {H:Hp} {a b:Addr} {o u:HO} (h:H a=some o) (h':H b=some u) (d:o ≠ u):a ≠ b:=by
 intro e;subst e;rw[h]at h';exact d (Option.some.inj h')
theorem aD {H:Hp} {a b:Addr} {o:HO} (h:H a=some o) (h':H b=none):a ≠ b:=by
 intro e;subst e;rw[h]at h';cases h'
section
variable (P:Program) (w:World)
noncomputable def bU (H:Hp) (h:Heap) (a:Addr):HO->Prop
 | .lst xs=>xs.length<=sizeLine/\∃ (its:List Value) (n:Nat),Vals xs its/\h.get? a=some {cls:=.type "list",data:=.seq its.toArray n}
 | .tup xs=>xs.length<=sizeLine/\∃its:List Value,Vals xs its/\IsTup h a its.toArray
 | .dK kvs=>kvs.length<=sizeLine/\(a == sysModules)=false/\∃vs,KV kvs vs/\h.DictOf (aG P w) a vs
 | .dT kvs=>kvs.length<=sizeLine/\(a == sysModules)=false/\∃xs:List (List Key × Addr × Value),
   Paired (fun(p:List Key × V) (q:List Key × Addr × Value)=>p.1=q.1/\H q.2.1=some (.tup (p.1.map kV))/\RelV p.2 q.2.2) kvs xs/\
   ∃o es ep,h.get? a=some o/\o.ExactDict/\o.data=.dict es ep/\es.toList=xs.map (entryOfKey (tupleKind (aG P w)))/\(xs.map (·.1)).Nodup
 | .set S n=>h.SetOf (intKind P w) a S n
 | .ins C dx fs=>H dx=some (.own a)/\fs.length<=1000/\dx ≠ a/\h.get? a=some (PySem.W.instObj C dx)/\
   ∃mA,h.Ns1 dx mA/\(∀ f,ke (fs.lookup f) (mA f))/\PySem.Within mA (fs.map (·.1))
 | .own _=>∃o,h.get? a=some o
 | .xd fs=>∃mA,h.Ns1 a mA/\∀f,ke (fs.lookup f) (mA f)
 | .rng lo hi=>∃t u v,h.get? a=some {cls:=.type "range",data:=.fields #[.int lo t,.int hi u,.int 1 v]}
 | .frz o u=>h.get? a=some o/\bU H h a u
 | .tbl ps=>h.get? a=some {cls:=.none,data:=.fields ps}
 | .met f x=>h.get? a=some (PySem.W.methodObj (.ref f) (.ref x))
 | .ext φ=>φ h/\(∃ o,h.get? a=some o)/\∀h1 h2:Heap,φ h1->(∀ o,h1.get? a=some o->h2.get? a=some o)->φ h2
 | .exo C d=>∃oe vs,h.get? a=some oe/\oe.cls=.ref C/\oe.dict=d/\oe.data=.fields vs
 | .clo fd=>h.get? a=some {cls:=.type "function",data:=.func fd}
 | .dw v=>∃u,RelV v u/\h.IsCell a (some u)
 | .cod q=>h.CodeRec (.ref a) q
noncomputable def fK (H:Hp) (h:Heap):Prop:=∀a o,H a=some o->bU P w H h a o
end
section
variable {P:Program} {w:World} {H H':Hp} {h h':Heap} {a:Addr} {o:HO}
theorem bU.lt (x:bU P w H h a o):a < h.objs.size:=by
 cases o with
 | lst xs=>obtain⟨_,_,_,_,e⟩:=x;exact Heap.lt_size e
 | tup xs=>obtain⟨_,_,_,p⟩:=x;exact p.lt
 | dK kvs=>obtain⟨_,_,_,_,o,_,_,e,_⟩:=x;exact Heap.lt_size e
 | dT kvs=>obtain⟨_,_,_,_,o,_,_,e,_⟩:=x;exact Heap.lt_size e
 | set S n=>obtain⟨o,_,_,_,e,_⟩:=x;exact Heap.lt_size e
 | ins C dx fs=>obtain⟨_,_,_,e,_⟩:=x;exact Heap.lt_size e
 | own y=>obtain⟨_,e⟩:=x;exact Heap.lt_size e
 | xd fs=>obtain⟨_,⟨_,_,_,e,_⟩,_⟩:=x;exact Heap.lt_size e
 | rng lo hi=>obtain⟨_,_,_,e⟩:=x;exact Heap.lt_size e
 | frz ob u=>obtain⟨e,_⟩:=x;exact Heap.lt_size e
 | tbl ps=>exact Heap.lt_size (show h.get? a=some _ from x)
 | met f y=>exact Heap.lt_size (show h.get? a=some _ from x)
 | ext φ=>obtain⟨_,⟨_,e⟩,_⟩:=x;exact Heap.lt_size e
 | exo C d=>obtain⟨oe,vs,e,_⟩:=x;exact Heap.lt_size e
 | clo fd=>exact Heap.lt_size (show h.get? a=some _ from x)
 | dw v=>obtain⟨u,_,e⟩:=x;exact e.lt
 | cod q=>obtain⟨c,oc,vs,t,hc,e,_⟩:=x;cases hc;exact Heap.lt_size e
theorem Paired.fN {α β:Type} {F G:α->β->Prop}:∀ {l₁:List α} {l₂:List β},Paired F l₁ l₂->(∀ a b,F a b->G a b)->Paired G l₁ l₂
 | _,_,.nil,_=>.nil
 | _,_,.cons r t,f=>.cons (f _ _ r) (Paired.fN t f)
theorem bU.aC (x:bU P w H h a o) (k:∀b u,(b=a\/H b=some (.own a))->h.get? b=some u->h'.get? b=some u)
  (ho:∀b,H b=some (.own a)->H' b=some (.own a)) (ht:∀b xs,H b=some (.tup xs)->H' b=some (.tup xs)):bU P w H' h' a o:=by
 induction o with
 | lst xs=>obtain⟨z,its,n,r,e⟩:=x;exact⟨z,its,n,r,k _ _ (.inl rfl) e⟩
 | tup xs=>obtain⟨z,its,r,ob,e,c⟩:=x;exact⟨z,its,r,ob,k _ _ (.inl rfl) e,c⟩
 | dK kvs=>obtain⟨z,y,vs,r,ob,es,ep,e,c⟩:=x;exact⟨z,y,vs,r,ob,es,ep,k _ _ (.inl rfl) e,c⟩
 | dT kvs=>
  obtain⟨z,y,xs,r,ob,es,ep,e,c⟩:=x
  exact⟨z,y,xs,Paired.fN r fun p q z=>⟨z.1,ht _ _ z.2.1,z.2.2⟩,ob,es,ep,k _ _ (.inl rfl) e,c⟩
 | set S n=>obtain⟨ob,es,ep,t,e,c⟩:=x;exact⟨ob,es,ep,t,k _ _ (.inl rfl) e,c⟩
 | ins C dx fs=>
  obtain⟨d,z,ne,e,mA,⟨od,es,ep,e2,c⟩,r⟩:=x
  exact⟨ho _ d,z,ne,k _ _ (.inl rfl) e,mA,⟨od,es,ep,k _ _ (.inr d) e2,c⟩,r⟩
 | own y=>obtain⟨ob,e⟩:=x;exact⟨ob,k _ _ (.inl rfl) e⟩
 | xd fs=>obtain⟨mA,⟨od,es,ep,e,c⟩,r⟩:=x;exact⟨mA,⟨od,es,ep,k _ _ (.inl rfl) e,c⟩,r⟩
 | rng lo hi=>obtain⟨t,u,v,e⟩:=x;exact⟨t,u,v,k _ _ (.inl rfl) e⟩
 | frz ob u ih=>obtain⟨e,q⟩:=x;exact⟨k _ _ (.inl rfl) e,ih q⟩
 | tbl ps=>
  have e:h.get? a=some {cls:=.none,data:=.fields ps}:=x
  show h'.get? a=some {cls:=.none,data:=.fields ps}
  exact k a _ (.inl rfl) e
 | met f y=>
  have e:h.get? a=some (PySem.W.methodObj (.ref f) (.ref y)):=x
  show h'.get? a=some (PySem.W.methodObj (.ref f) (.ref y))
  exact k a _ (.inl rfl) e
 | ext φ=>obtain⟨p,⟨o,e⟩,st⟩:=x;exact⟨st _ _ p fun o q=>k _ _ (.inl rfl) q,⟨o,k _ _ (.inl rfl) e⟩,st⟩
 | exo C d=>obtain⟨oe,vs,e,r⟩:=x;exact⟨oe,vs,k _ _ (.inl rfl) e,r⟩
 | clo fd=>
  have e:h.get? a=some {cls:=.type "function",data:=.func fd}:=x
  show h'.get? a=some {cls:=.type "function",data:=.func fd}
  exact k a _ (.inl rfl) e
 | dw v=>obtain⟨u,r,ob,e,d⟩:=x;exact⟨u,r,ob,k _ _ (.inl rfl) e,d⟩
 | cod q=>obtain⟨c,oc,vs,t,hc,e,r⟩:=x;cases hc;exact⟨a,oc,vs,t,rfl,k _ _ (.inl rfl) e,r⟩
theorem fK.lt (x:fK P w H h) (e:H a=some o):a < h.objs.size:=(x a o e).lt
theorem fK.fresh (x:fK P w H h) (e:h.objs.size<=a):H a=none:=by
 cases q:H a with
 | none=>rfl
 | some u=>exact absurd (Nat.lt_of_lt_of_le (x.lt q) e) (Nat.lt_irrefl _)
theorem fK.kept (x:fK P w H h) (k:∀b u,h.get? b=some u->h'.get? b=some u):fK P w H h':=fun a o e=>
 (x a o e).aC (fun b u _ q=>k b u q) (fun _ q=>q) fun _ _ q=>q
theorem fK.laid (x:fK P w H h) (k:∀b u,h.get? b=some u->h'.get? b=some u) (hp:h.objs.size<=a) (new:bU P w (upd H a o) h' a o):fK P w (upd H a o) h':=fun b u e=>by
 have hn:=x.fresh hp
 by_cases hb:b=a
 ·subst hb;rw[aA]at e;cases e;exact new
 ·rw[ae hb]at e
  exact(x b u e).aC (fun c v _ q=>k c v q) (fun c q=>by rw[ae (aD q hn)];exact q) fun c xs q=>by rw[ae (aD q hn)];exact q
end
noncomputable def Rd (H:Hp) (a:Addr) (u:HO):Prop:=H a=some u\/∃o,H a=some (.frz o u)
theorem Rd.ok {P:Program} {w:World} {H:Hp} {h:Heap} {a:Addr} {u:HO} (r:Rd H a u) (x:fK P w H h):bU P w H h a u:=by
 rcases r with r | ⟨o,r⟩
 ·exact x a u r
 ·obtain⟨_,q⟩:=x a _ r
  exact q
noncomputable def EH:Option HO->Prop
 | some (.lst _)=>True
 | some (.dK _)=>True
 | some (.dT _)=>True
 | some (.set _ _)=>True
 | some (.ins _ _ _)=>True
 | some (.ext _)=>True
 | _=>False
section
variable {P:Program} {w:World} {H:Hp} {h h':Heap} {x e:Addr} {o':HO}
theorem fK.write (ok:fK P w H h) (mu:EH (H x)) (he:e=x\/H e=some (.own x)) (k:∀b u,b ≠ e->h.get? b=some u->h'.get? b=some u) (heo:∃u,h'.get? e=some u)
  (new:bU P w (upd H x o') h' x o'):fK P w (upd H x o') h':=fun b u q=>by
 have nown:∀c y,H c=some (.own y)->c ≠ x:=fun c y r z=>by subst z;rw[r]at mu;exact mu
 have ntup:∀c xs,H c=some (.tup xs)->c ≠ x:=fun c xs r z=>by subst z;rw[r]at mu;exact mu
 by_cases hb:b=x
 ·subst hb;rw[aA]at q;cases q;exact new
 ·rw[ae hb]at q
  by_cases hbe:b=e
  ·have q':H b=some (.own x):=by
    rcases he with z | z
    ·exact absurd (hbe.trans z) hb
    ·rw[hbe];exact z
   rw[q]at q';cases q'
   obtain⟨v,hv⟩:=heo
   exact⟨v,by rw[hbe];exact hv⟩
  ·refine(ok b u q).aC (fun c v hc r=>k c v ?_ r) (fun c r=>by rw[ae (nown c b r)];exact r) fun c xs r=>by rw[ae (ntup c xs r)];exact r
   rcases hc with rfl | hc
   ·exact hbe
   ·rintro rfl
    rcases he with z | z
    ·exact nown c b hc z
    ·rw[hc]at z;cases z;exact hb rfl
end
structure Un (fs ex:List Addr) (H H':Hp) (h h':Heap):Prop where
 keep:∀b o,h.get? b=some o->H b=none->b ∉ fs->b ∉ ex->h'.get? b=some o
 slot:∀b o,h.get? b=some o->H b=none->b ∈ fs->b ∉ ex->∃sl,h'.get? b=some {o with slots:=sl}
 free:∀b o,h.get? b=some o->H b=none->b ∉ ex->H' b=none
 there:∀b o,h.get? b=some o->b ∉ ex->∃o',h'.get? b=some o'
 fR:∀b xs,H b=some (.tup xs)->H' b=some (.tup xs)
 eW:∀b o u,H b=some (.frz o u)->H' b=some (.frz o u)
 fM:∀b ps,H b=some (.tbl ps)->∃more,H' b=some (.tbl (ps++more))
section
variable {fs fs' ex ex':List Addr} {H H1 H2:Hp} {h h1 h2 h':Heap} {a x e:Addr} {o:HO}
theorem Un.any (u:Un fs ex H H1 h h1) {b:Addr} {ob:Obj} (q:h.get? b=some ob) (n:H b=none) (hx:b ∉ ex):∃sl,h1.get? b=some {ob with slots:=sl}:=by
 by_cases hb:b ∈ fs
 ·exact u.slot b ob q n hb hx
 ·exact⟨ob.slots,u.keep b ob q n hb hx⟩
theorem Un.kept (k:∀b u,h.get? b=some u->h'.get? b=some u):Un fs ex H H h h':=
 ⟨fun b ob q _ _ _=>k b ob q,fun b ob q _ _ _=>⟨ob.slots,k b ob q⟩,fun _ _ _ n _=>n,fun b ob q _=>⟨ob,k b ob q⟩,fun _ _ q=>q,fun _ _ _ q=>q,fun _ ps q=>⟨#[],by rw[q];simp⟩⟩
theorem Un.refl:Un fs ex H H h h:=Un.kept fun _ _ q=>q
theorem Un.laid (k:∀b u,h.get? b=some u->h'.get? b=some u) (hp:h.objs.size<=a) (hn:H a=none):Un fs ex H (upd H a o) h h' where
 keep:=fun b u q _ _ _=>k b u q
 slot:=fun b u q _ _ _=>⟨u.slots,k b u q⟩
 free:=fun b u q n _=>by rw[ae (Nat.ne_of_lt (Nat.lt_of_lt_of_le (Heap.lt_size q) hp))];exact n
 there:=fun b u q _=>⟨u,k b u q⟩
 fR:=fun b xs q=>by rw[ae (aD q hn)];exact q
 eW:=fun b u xs q=>by rw[ae (aD q hn)];exact q
 fM:=fun b ps q=>⟨#[],by rw[ae (aD q hn),q];simp⟩
theorem Un.write (mu:EH (H x)) (he:e=x\/H e=some (.own x)) (k:∀b u,b ≠ e->h.get? b=some u->h'.get? b=some u) (heo:∃u,h'.get? e=some u):Un fs ex H (upd H x o) h h':=by
 have hx:∀b,H b=none->b ≠ x:=fun b n z=>by subst z;rw[n]at mu;exact mu
 have hb:∀b,H b=none->b ≠ e:=fun b n z=>by
  subst z
  rcases he with r | r
  ·exact hx b n r
  ·rw[n]at r;cases r
 have hm:∀b u,H b=some u->¬EH (some u)->b ≠ x:=fun b u q nm z=>by subst z;rw[q]at mu;exact nm mu
 refine⟨fun b u q n _ _=>k b u (hb b n) q,fun b u q n _ _=>⟨u.slots,k b u (hb b n) q⟩,fun b u q n _=>by rw[ae (hx b n)];exact n,fun b u q _=>?_,
  fun b xs q=>by rw[ae (hm b _ q fun z=>z)];exact q,fun b u xs q=>by rw[ae (hm b _ q fun z=>z)];exact q,fun b ps q=>⟨#[],by rw[ae (hm b _ q fun z=>z),q];simp⟩⟩
 by_cases hbe:b=e
 ·subst hbe;exact heo
 ·exact⟨u,k b u hbe q⟩
end
noncomputable def EK (h:Heap) (H:Hp):List Addr:=(List.range h.objs.size).filter fun a=>(H a).isSome
noncomputable def mz (h:Heap) (H:Hp):Heap:=PySem.W.hideAll h (EK h H)
theorem uT (h:Heap) (H:Hp):(mz h H).objs.size=h.objs.size:=PySem.W.hideAll_size _ _
theorem xy {h:Heap} {H:Hp} {b:Addr} {o:Obj} (e:h.get? b=some o) (n:H b=none):(mz h H).get? b=some o:=
 PySem.W.hideAll_get _ e fun hm=>by
  have q:(H b).isSome=true:=(List.mem_filter.mp hm).2
  rw[n]at q;simp at q
theorem zD {h:Heap} {H:Hp} {b:Addr} {o:Obj} (e:(mz h H).get? b=some o):h.get? b=some o/\H b=none:=by
 have e':h.get? b=some o:=PySem.W.of_hideAll (EK h H) e
 refine⟨e',?_⟩
 cases q:H b with
 | none=>rfl
 | some x=>
  have hm:b ∈ EK h H:=List.mem_filter.mpr ⟨List.mem_range.mpr (Heap.lt_size e'),by simp[q]⟩
  have z:(mz h H).get? b=none:=PySem.W.hideAll_none (EK h H) hm
  rw[z]at e;cases e
end L2
namespace L2
open PySem PySem.Spec PyProof.Rows
structure Mod (K:PySem.W.Frag) (mg:Str->Option Value) (base:Heap):Prop where
 uL:K.In base
 glob:base.Ns mainGlobals mg
 blt:∃mb,base.Ns builtinsNs mb/\∀x:Str,x ≠ "__name__" ->mb x=bootBuiltins x
 nolimit:base.NoLimit
structure Cx where
 prog:Program
 w:World
 K:PySem.W.Frag
 mg:Str->Option Value
 base:Heap
 A:Around
 N:List Str
 s₀:Shared
 H₀:Hp
 env:Env
 outer:List Env
 stack:List Env
 ex:List Addr
 fn:Str->Bool
 calm:Bool
 pn:List (Addr × Obj)
 xe:Value->Shared->Prop
noncomputable def sR (l:List Env):List Addr:=l.filterMap (·.frame)
@[reducible] noncomputable def Cx.fs (X:Cx):List Addr:=sR X.outer
noncomputable def Ag (sc:Scope) (x:Str):Prop:=sc.names.lookup x=some .local\/sc.names.lookup x=some .cell\/sc.names.lookup x=some .free
noncomputable def Loc (sc:Scope) (x:Str):Prop:=sc.names.lookup x=some .local\/sc.names.lookup x=some .cell
noncomputable def Look (env:Env) (h:Heap) (m:Str->Option Value) (x:Str) (u:Value):Prop:=
 (env.kindOf x=some .local/\m x=some u)\/((env.kindOf x=some .cell\/env.kindOf x=some .free)/\∃c,env.cells.lookup x=some c/\h.IsCell c (some u))
structure Cx.Ok (X:Cx):Prop where
 mod:Mod X.K X.mg X.base
 kind:X.env.scope.kind=.function
 glob:X.env.globals=mainGlobals
 blt:X.env.builtins=builtinsNs
 above:X.s₀.heap.objs.size<=X.env.locals
 inj:∀x y c,X.env.cells.lookup x=some c->X.env.cells.lookup y=some c->x=y
 has:∀x,(X.env.kindOf x=some .cell\/X.env.kindOf x=some .free)->∃c,X.env.cells.lookup x=some c
 Es:∀x c,X.fn x=true->X.env.cells.lookup x=some c->X.s₀.heap.objs.size<=c
 hd:X.calm=true->X.A.handled=none
 frames:X.A.frames=some X.stack
 CV:X.stack=X.outer\/(X.stack=X.env::X.outer/\X.env.frame=some X.env.locals)
 ES:∀b ∈ X.ex,b ≠ X.env.locals/\∀x c,X.env.cells.lookup x=some c->c ≠ b
 bs:∀b o,X.base.get? b=some o->X.s₀.heap.get? b=some o/\X.H₀ b=none
 tE:X.base.objs.size<=X.s₀.heap.objs.size
 wL:∀b o,X.base.get? b=some o->b ∉ X.ex
 xK:∀b ∈ X.ex,b ∉ X.fs
 iB:X.s₀.heap.FunFrames X.base X.outer
 xA:∀b ∈ X.fs,X.H₀ b=none
structure Inv (X:Cx) (pins:List (Addr × Obj)) (σ:List (Option V)) (H:Hp) (s:Shared):Prop where
 ok:X.Ok
 os:s.os=X.s₀.os
 bare:AllBare s.gens
 base:Un X.fs X.ex X.H₀ H X.s₀.heap s.heap
 loc:∃m,s.heap.Ns X.env.locals m/\∀ (i:Nat) (x:Str) (v:V),X.N[i]?=some x->σ[i]?=some (some v)->Ag X.env.scope x->∃u,RelV v u/\Look X.env s.heap m x u
 cell:∀x c,X.env.cells.lookup x=some c->∃v,s.heap.IsCell c v
 free:H X.env.locals=none
 d9:∀x c,X.env.cells.lookup x=some c->H c=none
 pin:∀p ∈ X.pn++pins,s.heap.get? p.1=some p.2/\H p.1=none/\p.1 ≠ X.env.locals/\p.1 ∉ X.fs/\∀v,p.2.data ≠ .cell v
 aW:fK X.prog X.w H s.heap
 len:σ.length=X.N.length
section
variable {X:Cx} {pins:List (Addr × Obj)} {σ:List (Option V)} {H H':Hp} {s:Shared} {h':Heap}
theorem Cx.Ok.Fn (ok:X.Ok) {b:Addr} {o:Obj} (e:X.base.get? b=some o):b ∉ X.fs:=fun hb=>by
 have:=(ok.iB.mem hb).1
 rw[e]at this;cases this
theorem Inv.bs (I:Inv X pins σ H s):∀b o,X.base.get? b=some o->s.heap.get? b=some o/\H b=none:=fun b o e=>
 ⟨I.base.keep b o (I.ok.bs b o e).1 (I.ok.bs b o e).2 (I.ok.Fn e) (I.ok.wL b o e),I.base.free b o (I.ok.bs b o e).1 (I.ok.bs b o e).2 (I.ok.wL b o e)⟩
theorem Inv.bk (I:Inv X pins σ H s):∀b o,X.base.get? b=some o->s.heap.get? b=some o:=fun b o e=>(I.bs b o e).1
theorem Inv.mod (I:Inv X pins σ H s):Mod X.K X.mg X.base:=I.ok.mod
theorem Inv.jF (I:Inv X pins σ H s):X.K.In s.heap:=I.ok.mod.uL.keeps I.bk
theorem Inv.lt (I:Inv X pins σ H s):X.env.locals < s.heap.objs.size:=let ⟨_,hn,_⟩:=I.loc;hn.lt
theorem Inv.sz (I:Inv X pins σ H s):X.s₀.heap.objs.size<=s.heap.objs.size:=Nat.le_trans I.ok.above (Nat.le_of_lt I.lt)
theorem Inv.Fm (I:Inv X pins σ H s) {a:Addr} (h:s.heap.objs.size<=a):a ∉ X.fs:=fun hb=>by
 obtain⟨_,o,ho,_⟩:=I.ok.iB.mem hb
 exact absurd (Nat.lt_of_lt_of_le (Heap.lt_size ho) (Nat.le_trans I.sz h)) (Nat.lt_irrefl _)
theorem Inv.CC (I:Inv X pins σ H s):∀x c,X.env.cells.lookup x=some c->c ≠ X.env.locals:=fun x c e z=>by
 obtain⟨v,o,ho,hd⟩:=I.cell x c e
 obtain⟨m,⟨o',es,ep,ho',hd',_⟩,_⟩:=I.loc
 rw[z,ho']at ho;cases ho;rw[hd']at hd;cases hd
theorem Inv.iB (I:Inv X pins σ H s):s.heap.FunFrames X.base X.outer:=by
 have all:∀ (l:List Env),(∀ b ∈ sR l,b ∈ X.fs)->X.s₀.heap.FunFrames X.base l->s.heap.FunFrames X.base l:=by
  intro l
  induction l with
  | nil=>intro _ _;trivial
  | cons env r ih=>
   intro hs hl
   obtain⟨hk,⟨L,o,hf,hn,ho,hd⟩,hr⟩:=hl
   have hL:L ∈ X.fs:=hs L (by unfold sR;rw[List.filterMap_cons,hf];exact List.mem_cons_self)
   obtain⟨sl,e⟩:=I.base.slot L o ho (I.ok.xA L hL) hL fun z=>I.ok.xK L z hL
   exact⟨hk,⟨L,_,hf,hn,e,hd⟩,ih (fun b hb=>hs b (by unfold sR;rw[List.filterMap_cons,hf];exact List.mem_cons_of_mem _ hb)) hr⟩
 exact all X.outer (fun _ hb=>hb) I.ok.iB
theorem Inv.stack (I:Inv X pins σ H s):s.heap.FunFrames X.base X.stack:=by
 rcases I.ok.CV with e | ⟨e,hf⟩
 ·rw[e];exact I.iB
 ·rw[e]
  obtain⟨m,hn,_⟩:=I.loc
  refine .cons (by rw[I.ok.kind];decide) hf hn ?_ I.iB
  exact Heap.get?_none_of_le (Nat.le_trans I.ok.tE I.ok.above)
theorem Inv.nG (I:Inv X pins σ H s):∀b ∈ sR X.stack,b ∈ X.env.locals::X.fs:=fun b hb=>by
 rcases I.ok.CV with e | ⟨e,hf⟩
 ·rw[e]at hb;exact List.mem_cons_of_mem _ hb
 ·rw[e]at hb
  unfold sR at hb
  rw[List.filterMap_cons,hf]at hb
  exact hb
theorem Inv.nH (I:Inv X pins σ H s):∀b ∈ sR X.stack,H b=none:=fun b hb=>by
 rcases List.mem_cons.mp (I.nG b hb)with e | hb
 ·rw[e];exact I.free
 ·obtain⟨_,o,ho,_⟩:=I.ok.iB.mem hb
  exact I.base.free b o ho (I.ok.xA b hb) fun z=>I.ok.xK b z hb
theorem Inv.step {g':Array GenState} {t':Nat} {d':Drawn} {ch:List Addr} (I:Inv X pins σ H s)
  (hch:∀b ∈ ch,(b ∈ X.ex\/X.s₀.heap.objs.size<=b)/\b ≠ X.env.locals/\(∀ x c,X.env.cells.lookup x=some c->c ≠ b)/\∀p ∈ X.pn++pins,p.1 ≠ b)
  (keep:∀b o,b ≠ X.env.locals->b ∉ X.fs->b ∉ ch->s.heap.get? b=some o->H b=none->h'.get? b=some o)
  (slot:∀b o,b ≠ X.env.locals->b ∈ X.fs->b ∉ ch->s.heap.get? b=some o->H b=none->∃sl,h'.get? b=some {o with slots:=sl}) (free:∀b o,b ∉ ch->s.heap.get? b=some o->H b=none->H' b=none)
  (there:∀b o,b ∉ ch->s.heap.get? b=some o->∃o',h'.get? b=some o')
  (fR:∀b xs,H b=some (.tup xs)->H' b=some (.tup xs)) (eW:∀b o u,H b=some (.frz o u)->H' b=some (.frz o u)) (fM:∀b ps,H b=some (.tbl ps)->∃more,H' b=some (.tbl (ps++more)))
  (ns:∀m,s.heap.Ns X.env.locals m->h'.Ns X.env.locals m) (aW:fK X.prog X.w H' h') (hg:AllBare g'):
  Inv X pins σ H' {s with heap:=h',gens:=g',drawn:=d',toks:=t'}:=by
 have neL:∀b o,X.s₀.heap.get? b=some o->b ≠ X.env.locals:=fun b o e=>Nat.ne_of_lt (Nat.lt_of_lt_of_le (Heap.lt_size e) I.ok.above)
 have neC:∀b o,X.s₀.heap.get? b=some o->b ∉ X.ex->b ∉ ch:=fun b o e hx hb=>by
  rcases(hch b hb).1 with z | z
  ·exact hx z
  ·exact absurd (Nat.lt_of_lt_of_le (Heap.lt_size e) z) (Nat.lt_irrefl _)
 have cellK:∀x c,X.env.cells.lookup x=some c->∀v,s.heap.IsCell c v->h'.IsCell c v:=fun x c e v ⟨o,ho,hd⟩=>by
  have nch:c ∉ ch:=fun z=>(hch c z).2.2.1 x c e rfl
  by_cases hc:c ∈ X.fs
  ·obtain⟨sl,q⟩:=slot c o (I.CC x c e) hc nch ho (I.d9 x c e)
   exact⟨_,q,hd⟩
  ·exact⟨o,keep c o (I.CC x c e) hc nch ho (I.d9 x c e),hd⟩
 refine⟨I.ok,I.os,hg,⟨fun b o e n hb hx=>?_,fun b o e n hb hx=>?_,fun b o e n hx=>?_,fun b o e hx=>?_,fun b xs e=>fR b xs (I.base.fR b xs e),fun b o xs e=>eW b o xs (I.base.eW b o xs e),fun b ps e=>?_⟩,?_,fun x c e=>?_,?_,fun x c e=>?_,fun p hp=>?_,aW,I.len⟩
 ·exact keep b o (neL b o e) hb (neC b o e hx) (I.base.keep b o e n hb hx) (I.base.free b o e n hx)
 ·obtain⟨sl,e1⟩:=I.base.slot b o e n hb hx
  obtain⟨sl',e2⟩:=slot b _ (neL b o e) hb (neC b o e hx) e1 (I.base.free b o e n hx)
  exact⟨sl',e2⟩
 ·obtain⟨o',e1⟩:=I.base.there b o e hx
  exact free b o' (neC b o e hx) e1 (I.base.free b o e n hx)
 ·obtain⟨o',e1⟩:=I.base.there b o e hx
  exact there b o' (neC b o e hx) e1
 ·obtain⟨m1,e1⟩:=I.base.fM b ps e
  obtain⟨m2,e2⟩:=fM b _ e1
  exact⟨m1++m2,by rw[e2,Array.append_assoc]⟩
 ·obtain⟨m,hn,hl⟩:=I.loc
  refine⟨m,ns m hn,fun i x v e1 e2 e3=>?_⟩
  obtain⟨u,r,l⟩:=hl i x v e1 e2 e3
  refine⟨u,r,?_⟩
  rcases l with l | ⟨k,c,e,z⟩
  ·exact .inl l
  ·exact .inr ⟨k,c,e,cellK x c e _ z⟩
 ·obtain⟨v,z⟩:=I.cell x c e
  exact⟨v,cellK x c e v z⟩
 ·obtain⟨m,⟨o,_,_,ho,_⟩,_⟩:=I.loc
  exact free _ o (fun z=>(hch _ z).2.1 rfl) ho I.free
 ·obtain⟨v,o,ho,hd⟩:=I.cell x c e
  exact free c o (fun z=>(hch c z).2.2.1 x c e rfl) ho (I.d9 x c e)
 ·obtain⟨e,n,ne,nf,d⟩:=I.pin p hp
  have nch:p.1 ∉ ch:=fun z=>(hch p.1 z).2.2.2 p hp rfl
  exact⟨keep p.1 p.2 ne nf nch e n,free p.1 p.2 nch e n,ne,nf,d⟩
theorem Inv.un {t':Nat} (I:Inv X pins σ H s) (u:Un X.fs [] H H' s.heap h') (aW:fK X.prog X.w H' h'):Inv X pins σ H' {s with heap:=h',toks:=t'}:=by
 obtain⟨m,⟨o,es,ep,ho,r⟩,_⟩:=id I.loc
 obtain⟨sl,hL⟩:=u.any ho I.free (by simp)
 exact I.step (g':=s.gens) (d':=s.drawn) (ch:=[]) (fun _ z=>nomatch z) (fun b o _ hb _ e n=>u.keep b o e n hb (by simp)) (fun b o _ hb _ e n=>u.slot b o e n hb (by simp)) (fun b o _ e n=>u.free b o e n (by simp)) (fun b o _ e=>u.there b o e (by simp)) u.fR u.eW u.fM (fun m' hm=>by
  obtain⟨o',es',ep',ho',r'⟩:=hm
  rw[ho]at ho';cases ho'
  exact⟨_,es',ep',hL,r'⟩) aW I.bare
theorem Inv.call {g':Array GenState} {t':Nat} {d':Drawn} {ch:List Addr} (I:Inv X pins σ H s) (u:Un (sR X.stack) ch H H' s.heap h') (aW:fK X.prog X.w H' h') (hg:AllBare g')
  (hch:∀b ∈ ch,(b ∈ X.ex\/X.s₀.heap.objs.size<=b)/\b ≠ X.env.locals/\(∀ x c,X.env.cells.lookup x=some c->c ≠ b)/\∀p ∈ X.pn++pins,p.1 ≠ b):
  Inv X pins σ H' {s with heap:=h',gens:=g',drawn:=d',toks:=t'}:=by
 obtain⟨m,⟨o,es,ep,ho,r⟩,_⟩:=id I.loc
 obtain⟨sl,hL⟩:=u.any ho I.free fun z=>(hch _ z).2.1 rfl
 exact I.step (ch:=ch) hch (fun b o hL hb hc e n=>u.keep b o e n (fun z=>(List.mem_cons.mp (I.nG b z)).elim hL hb) hc) (fun b o _ _ hc e n=>u.any e n hc) (fun b o hc e n=>u.free b o e n hc) (fun b o hc e=>u.there b o e hc) u.fR u.eW u.fM (fun m' hm=>by
  obtain⟨o',es',ep',ho',r'⟩:=hm
  rw[ho]at ho';cases ho'
  exact⟨_,es',ep',hL,r'⟩) aW hg
theorem Inv.turned {t':Nat} {it:Addr} (I:Inv X pins σ H s) (k:∀b o,b ≠ it->s.heap.get? b=some o->h'.get? b=some o) (hn:H it=none) (hL:it ≠ X.env.locals)
  (h1:it ∈ X.ex\/X.s₀.heap.objs.size<=it) (h2:∀x c,X.env.cells.lookup x=some c->c ≠ it) (h3:∀p ∈ X.pn++pins,p.1 ≠ it):Inv X pins σ H {s with heap:=h',toks:=t'}:=by
 have nit:∀b u,H b=some u->b ≠ it:=fun b u e z=>by rw[z,hn]at e;cases e
 refine I.step (g':=s.gens) (d':=s.drawn) (ch:=[it]) (fun b hb=>?_) (fun b o _ _ hc e _=>k b o (fun z=>hc (by simp[z])) e) (fun b o _ _ hc e _=>⟨o.slots,k b o (fun z=>hc (by simp[z])) e⟩) (fun _ _ _ _ n=>n)
  (fun b o hc e=>⟨o,k b o (fun z=>hc (by simp[z])) e⟩) (fun _ _ e=>e) (fun _ _ _ e=>e) (fun b ps e=>⟨#[],by rw[e];simp⟩) (fun m hm=>?_) (fun b u e=>?_) I.bare
 ·have e:b=it:=by simpa using hb
  subst e
  exact⟨h1,hL,h2,h3⟩
 ·obtain⟨o,es,ep,ho,r⟩:=hm
  exact⟨o,es,ep,k _ o (Ne.symm hL) ho,r⟩
 ·refine(I.aW b u e).aC (fun c v hc q=>k c v ?_ q) (fun _ q=>q) fun _ _ q=>q
  rcases hc with z | z
  ·rw[z];exact nit b u e
  ·exact nit c _ z
theorem Inv.tok (I:Inv X pins σ H s) (t:Nat):Inv X pins σ H {s with toks:=t}:=I.un (h':=s.heap) (t':=t) Un.refl I.aW
theorem Inv.kept {t':Nat} (I:Inv X pins σ H s) (k:∀b u,s.heap.get? b=some u->h'.get? b=some u):Inv X pins σ H {s with heap:=h',toks:=t'}:=I.un (Un.kept k) (I.aW.kept k)
theorem Inv.laid {a:Addr} {o:HO} {t':Nat} (I:Inv X pins σ H s) (k:∀b u,s.heap.get? b=some u->h'.get? b=some u) (hp:s.heap.objs.size<=a) (new:bU X.prog X.w (upd H a o) h' a o):
  Inv X pins σ (upd H a o) {s with heap:=h',toks:=t'}:=I.un (Un.laid k hp (I.aW.fresh hp)) (I.aW.laid k hp new)
theorem Inv.write {x e:Addr} {o:HO} {t':Nat} (I:Inv X pins σ H s) (mu:EH (H x)) (he:e=x\/H e=some (.own x)) (k:∀b u,b ≠ e->s.heap.get? b=some u->h'.get? b=some u) (heo:∃u,h'.get? e=some u)
  (new:bU X.prog X.w (upd H x o) h' x o):Inv X pins σ (upd H x o) {s with heap:=h',toks:=t'}:=I.un (Un.write mu he k heo) (I.aW.write mu he k heo new)
theorem Inv.sv {pins':List (Addr × Obj)} (I:Inv X pins σ H s) (h:∀p ∈ pins',s.heap.get? p.1=some p.2/\H p.1=none/\p.1 ≠ X.env.locals/\p.1 ∉ X.fs/\∀v,p.2.data ≠ .cell v):Inv X pins' σ H s:=
 ⟨I.ok,I.os,I.bare,I.base,I.loc,I.cell,I.free,I.d9,fun p hp=>(List.mem_append.mp hp).elim (fun z=>I.pin p (List.mem_append_left _ z)) (h p),I.aW,I.len⟩
theorem pI {N:List Str} (hN:N.Nodup) {i j:Nat} {x:Str} (a:N[i]?=some x) (b:N[j]?=some x):i=j:=by
 obtain⟨h1,e1⟩:=List.getElem?_eq_some_iff.mp a
 obtain⟨h2,e2⟩:=List.getElem?_eq_some_iff.mp b
 exact(List.getElem_inj hN).mp (e1.trans e2.symm)
theorem mI {M:Model} {A:Around} {E:Value->Shared->Prop} {i:Nat} {x:Str} {v:V} {u:Value} {Q:Unit->Shared->Prop} (I:Inv X pins σ H s) (hN:X.N.Nodup) (hi:X.N[i]?=some x) (hx:Loc X.env.scope x) (r:RelV v u)
  (h:∀s',Inv X pins (σ.set i (some v)) H s'->(∃ a,Heap.SameBut a s.heap s'.heap/\(a=X.env.locals\/X.env.cells.lookup x=some a))->Q () s') (hf:X.fn x=true\/X.env.scope.names.lookup x=some .local:=by first | exact .inl rfl | exact .inr rfl | assumption):wpAny M A (storeName X.env x u) Q E s:=by
 obtain⟨m,hn,hl⟩:=id I.loc
 have hcls:(X.env.scope.kind == .class || (X.env.scope.kind == .module && X.env.locals != X.env.globals))=false:=by rw[I.ok.kind];rfl
 have hiσ:i < σ.length:=by rw[I.len];exact(List.getElem?_eq_some_iff.mp hi).1
 have CC:=I.CC
 have tracked:∀ {a:Addr} {h':Heap},(∃ o,s.heap.get? a=some o/\H a=none)->Heap.SameBut a s.heap h'->fK X.prog X.w H h':=fun{a h'} ha hs b ob e=>by
  obtain⟨_,_,hfree⟩:=ha
  refine(I.aW b ob e).aC (fun c w' hc q=>(hs.2 c ?_).trans q) (fun _ q=>q) fun _ _ q=>q
  rintro rfl
  rcases hc with rfl | hc
  ·rw[hfree]at e;cases e
  ·rw[hfree]at hc;cases hc
 rcases hx with hk | hk
 ·refine wpAny_storeName_local hk hn (fun h' hn' hs=>?_) hcls
  obtain⟨oL,_,_,hoL,_⟩:=id hn
  refine h _ ⟨I.ok,I.os,I.bare,⟨fun b o e n hb hx=>?_,fun b o e n hb hx=>?_,I.base.free,fun b o e hx=>?_,I.base.fR,I.base.eW,I.base.fM⟩,⟨_,hn',fun j y v' e1 e2 e3=>?_⟩,fun y c e=>?_,I.free,I.d9,fun p hp=>?_,tracked ⟨oL,hoL,I.free⟩ hs,by simpa using I.len⟩ ⟨_,hs,.inl rfl⟩
  ·exact(hs.2 b (Nat.ne_of_lt (Nat.lt_of_lt_of_le (Heap.lt_size e) I.ok.above))).trans (I.base.keep b o e n hb hx)
  ·obtain⟨sl,e1⟩:=I.base.slot b o e n hb hx
   exact⟨sl,(hs.2 b (Nat.ne_of_lt (Nat.lt_of_lt_of_le (Heap.lt_size e) I.ok.above))).trans e1⟩
  ·obtain⟨o',e1⟩:=I.base.there b o e hx
   exact⟨o',(hs.2 b (Nat.ne_of_lt (Nat.lt_of_lt_of_le (Heap.lt_size e) I.ok.above))).trans e1⟩
  ·by_cases hj:j=i
   ·subst hj
    rw[hi]at e1;cases e1
    rw[List.getElem?_set_self hiσ]at e2
    cases e2
    exact⟨u,r,.inl ⟨hk,by simp⟩⟩
   ·rw[List.getElem?_set_ne (Ne.symm hj)]at e2
    obtain⟨u',r',q⟩:=hl j y v' e1 e2 e3
    refine⟨u',r',?_⟩
    rcases q with ⟨k,e⟩ | ⟨k,c,e,z⟩
    ·refine .inl ⟨k,?_⟩
     have:y ≠ x:=fun e=>hj (pI hN e1 (e ▸ hi))
     simp[this,e]
    ·exact .inr ⟨k,c,e,z.sameBut hs (CC y c e)⟩
  ·obtain⟨w',z⟩:=I.cell y c e
   exact⟨w',z.sameBut hs (CC y c e)⟩
  ·obtain⟨e,n,ne,nf,d⟩:=I.pin p hp
   exact⟨(hs.2 p.1 ne).trans e,n,ne,nf,d⟩
 ·have hfn:X.fn x=true:=by
   rcases hf with z | z
   ·exact z
   ·rw[z]at hk;cases hk
  obtain⟨c,hc⟩:=I.ok.has x (.inl hk)
  obtain⟨w',z⟩:=I.cell x c hc
  refine wpAny_storeName_cell I.ok.kind hk hc z (fun h' hc' hs=>?_)
  obtain⟨oc,hoc,hocd⟩:=id z
  refine h {s with heap:=h'} ⟨I.ok,I.os,I.bare,⟨fun b o e n hb hx=>?_,fun b o e n hb hx=>?_,I.base.free,fun b o e hx=>?_,I.base.fR,I.base.eW,I.base.fM⟩,⟨m,hn.sameBut hs (Ne.symm (CC x c hc)),fun j y v' e1 e2 e3=>?_⟩,fun y c' e=>?_,I.free,I.d9,fun p hp=>?_,tracked ⟨oc,hoc,I.d9 x c hc⟩ hs,by simpa using I.len⟩ ⟨c,hs,.inr hc⟩
  ·exact(hs.2 b (Nat.ne_of_lt (Nat.lt_of_lt_of_le (Heap.lt_size e) (I.ok.Es x c hfn hc)))).trans (I.base.keep b o e n hb hx)
  ·obtain⟨sl,e1⟩:=I.base.slot b o e n hb hx
   exact⟨sl,(hs.2 b (Nat.ne_of_lt (Nat.lt_of_lt_of_le (Heap.lt_size e) (I.ok.Es x c hfn hc)))).trans e1⟩
  ·obtain⟨o',e1⟩:=I.base.there b o e hx
   exact⟨o',(hs.2 b (Nat.ne_of_lt (Nat.lt_of_lt_of_le (Heap.lt_size e) (I.ok.Es x c hfn hc)))).trans e1⟩
  ·by_cases hj:j=i
   ·subst hj
    rw[hi]at e1;cases e1
    rw[List.getElem?_set_self hiσ]at e2
    cases e2
    exact⟨u,r,.inr ⟨.inl hk,c,hc,hc'⟩⟩
   ·rw[List.getElem?_set_ne (Ne.symm hj)]at e2
    obtain⟨u',r',q⟩:=hl j y v' e1 e2 e3
    refine⟨u',r',?_⟩
    rcases q with q | ⟨k,c',e,z'⟩
    ·exact .inl q
    ·refine .inr ⟨k,c',e,z'.sameBut hs ?_⟩
     rintro rfl
     exact hj (pI hN e1 (I.ok.inj _ _ _ e hc ▸ hi))
  ·by_cases hcc:c'=c
   ·subst hcc;exact⟨_,hc'⟩
   ·obtain⟨w2,z2⟩:=I.cell y c' e
    exact⟨w2,z2.sameBut hs hcc⟩
  ·obtain⟨e,n,ne,nf,d⟩:=I.pin p hp
   refine⟨(hs.2 p.1 ?_).trans e,n,ne,nf,d⟩
   intro q
   rw[q,hoc]at e
   have q':oc=p.2:=Option.some.inj e
   exact d w' (by rw[<-q'];exact hocd)
theorem kO {M:Model} {A:Around} {E:Value->Shared->Prop} {i:Nat} {x:Str} {v:V} {u:Value} {Q:Unit->Shared->Prop} (I:Inv X pins σ H s) (hN:X.N.Nodup) (hi:X.N[i]?=some x) (hx:Loc X.env.scope x) (r:RelV v u)
  (h:∀s',Inv X pins (σ.set i (some v)) H s'->Q () s') (hf:X.fn x=true\/X.env.scope.names.lookup x=some .local:=by first | exact .inl rfl | exact .inr rfl | assumption):wpAny M A (storeName X.env x u) Q E s:=
 mI I hN hi hx r (fun s' I' _=>h s' I') hf
theorem Inv.ya {s':Shared} {ch:List Addr} (I:Inv X pins σ H s) (ho:s'.os=s.os) (u:Un (sR X.stack) ch H H' s.heap s'.heap) (aW:fK X.prog X.w H' s'.heap) (hg:AllBare s'.gens)
  (hch:∀b ∈ ch,(b ∈ X.ex\/X.s₀.heap.objs.size<=b)/\b ≠ X.env.locals/\(∀ x c,X.env.cells.lookup x=some c->c ≠ b)/\∀p ∈ X.pn++pins,p.1 ≠ b):Inv X pins σ H' s':=by
 obtain⟨h',g',d',t',o'⟩:=s'
 have e:o'=s.os:=ho
 subst e
 exact I.call (g':=g') (t':=t') (d':=d') u aW hg hch
end
@[reducible] noncomputable def XK:=Value->Option Addr->Hp->Prop
@[reducible] noncomputable def St:=List (Option V)
@[reducible] noncomputable def VK:=V->Hp->Prop
@[reducible] noncomputable def TE:=St->Hp->VK->Prop
@[reducible] noncomputable def TT:=St->Hp->(Bool->Hp->Prop)->Prop
@[reducible] noncomputable def TA:=St->Hp->(List V->Hp->Prop)->Prop
structure Ends where
 nx:St->Hp->Prop
 rt:VK
 bk:St->Hp->Prop:=fun _ _=>False
 ct:St->Hp->Prop:=fun _ _=>False
@[reducible] noncomputable def TS:=Ends->St->Hp->Prop
noncomputable def EP (X:Cx) (pins:List (Addr × Obj)) (σ:St) (Q:VK) (u:Value) (s':Shared):Prop:=∃v H',Inv X pins σ H' s'/\RelV v u/\Q v H'
noncomputable def TP (X:Cx) (pins:List (Addr × Obj)) (σ:St) (Q:Bool->Hp->Prop) (b:Bool) (s':Shared):Prop:=∃H',Inv X pins σ H' s'/\Q b H'
noncomputable def AP (X:Cx) (pins:List (Addr × Obj)) (σ:St) (Q:List V->Hp->Prop) (us:List Value) (s':Shared):Prop:=∃vs H',Inv X pins σ H' s'/\Vals vs us/\Q vs H'
noncomputable def SP (X:Cx) (pins:List (Addr × Obj)) (D:Ends) (f:Flow) (s':Shared):Prop:=
 match f with
 | .next=>∃σ' H',Inv X pins σ' H' s'/\D.nx σ' H'
 | .brk=>∃σ' H',Inv X pins σ' H' s'/\D.bk σ' H'
 | .cont=>∃σ' H',Inv X pins σ' H' s'/\D.ct σ' H'
 | .ret u=>∃v σ' H',Inv X pins σ' H' s'/\RelV v u/\D.rt v H'
noncomputable def PE (X:Cx) (e:Expr) (t:TE):Prop:=
 ∀ (pins:List (Addr × Obj)) (s:Shared) (σ:St) (H:Hp) (Q:VK),Inv X pins σ H s->t σ H Q->wpAny (model X.prog X.w) X.A (eval e X.env) (EP X pins σ Q) X.xe s
noncomputable def PT (X:Cx) (e:Expr) (t:TT):Prop:=
 ∀ (pins:List (Addr × Obj)) (s:Shared) (σ:St) (H:Hp) (Q:Bool->Hp->Prop),Inv X pins σ H s->t σ H Q->wpAny (model X.prog X.w) X.A (isTrue e X.env (eval e X.env)) (TP X pins σ Q) X.xe s
noncomputable def PW (X:Cx) (e:Expr) (t:TT):Prop:=
 ∀ (whole:Sem Value) (pins:List (Addr × Obj)) (s:Shared) (σ:St) (H:Hp) (Q:Bool->Hp->Prop),Inv X pins σ H s->t σ H Q->wpAny (model X.prog X.w) X.A (isTrue e X.env whole) (TP X pins σ Q) X.xe s
theorem PW.pt {X:Cx} {e:Expr} {t:TT} (h:PW X e t):PT X e t:=h _
noncomputable def PA (X:Cx) (es:List Expr) (t:TA):Prop:=
 ∀ (pos:Pos) (pins:List (Addr × Obj)) (s:Shared) (σ:St) (H:Hp) (Q:List V->Hp->Prop),Inv X pins σ H s->t σ H Q->wpAny (model X.prog X.w) X.A (spliced (backTo pos (starEach es X.env))) (AP X pins σ Q) X.xe s
noncomputable def PS (X:Cx) (st:Stmt) (t:TS):Prop:=
 ∀ (pins:List (Addr × Obj)) (s:Shared) (σ:St) (H:Hp) (D:Ends),Inv X pins σ H s->t D σ H->wpAny (model X.prog X.w) X.A (exec st X.env) (SP X pins D) X.xe s
noncomputable def vh (X:Cx) (st:List Stmt) (t:TS):Prop:=
 ∀ (pins:List (Addr × Obj)) (s:Shared) (σ:St) (H:Hp) (D:Ends),Inv X pins σ H s->t D σ H->wpAny (model X.prog X.w) X.A (execs st X.env) (SP X pins D) X.xe s
theorem bV {α:Type} {t:Sem α} {Q Q':α->Shared->Prop} {M:Model} {A:Around} {E:Value->Shared->Prop} {s:Shared} (h:wpAny M A t Q E s) (hQ:∀a s,Q a s->Q' a s):wpAny M A t Q' E s:=wpAny_mono h hQ fun _ _ x=>x
end L2
namespace L2
open PySem PySem.Spec PyProof.Rows
section
variable {X:Cx}
noncomputable def E7 (i:Nat):TE:=fun σ H Q=>∃v,σ[i]?=some (some v)/\Q v H
noncomputable def tC (v:V):TE:=fun _ H Q=>Q v H
theorem v_ {i:Nat} {x:Str} {pos:Pos} (hN:X.N[i]?=some x) (hv:Ag X.env.scope x) (hd:(x == ("__debug__" :Str))=false:=by decide) (hcd:(x == ("__classdict__" :Str))=false:=by decide):PE X (.Name x pos) (E7 i):=by
 intro pins s σ H Q I h
 obtain⟨v,e,h⟩:=h
 obtain⟨m,hn,hl⟩:=I.loc
 obtain⟨u,r,l⟩:=hl i x v hN e hv
 have fin:EP X pins σ Q u s:=⟨v,H,I,r,h⟩
 rcases l with ⟨hk,hm⟩ | ⟨hk,c,hc,hcell⟩
 ·exact wpAny_Name (wpAny_loadName_local I.ok.kind hk hn hm fin) hd
 ·rcases hk with hk | hk
  ·exact wpAny_Name (wpAny_loadName_cell I.ok.kind hk hc hcell fin) hd
  ·exact wpAny_Name (wpAny_loadName_free I.ok.kind hk hc hcell fin hcd) hd
theorem BA {i j pos}:PE X (.Constant (.int i) j pos) (tC (.int i)):=fun _ _ _ H _ I h=>wpAny_Constant_int ⟨.int i,H,I.tok _,⟨_,rfl⟩,h⟩
theorem Dq {b j pos}:PE X (.Constant (.bool b) j pos) (tC (.bl b)):=fun _ _ _ H _ I h=>Constant_bool ⟨.bl b,H,I,rfl,h⟩
theorem Bw {j pos}:PE X (.Constant .none j pos) (tC .non):=fun _ _ _ H _ I h=>Constant_none ⟨.non,H,I,rfl,h⟩
theorem Bv {x j pos}:PE X (.Constant (.str x) j pos) (tC (.str x)):=fun _ _ _ H _ I h=>Calls.Constant_str ⟨.str x,H,I.tok _,⟨_,rfl⟩,h⟩
noncomputable def Gl (X:Cx) (x:Str):Prop:=X.env.kindOf x=some .globalImplicit
theorem i9 {E:Value->Shared->Prop} {pins:List (Addr × Obj)} {s:Shared} {σ:St} {H:Hp} {x:Str} {u:Value} {pos:Pos} {Q:Value->Shared->Prop} (I:Inv X pins σ H s) (hg:Gl X x) (hm:X.mg x=some u) (h:Q u s)
  (hd:(x == ("__debug__" :Str))=false:=by decide):wpAny (model X.prog X.w) X.A (eval (.Name x pos) X.env) Q E s:=
 Calls.Name_function_global I.ok.kind hg (Calls.loadGlobal_global (by rw[I.ok.glob];exact I.mod.glob.keeps I.bk) hm h) hd
theorem gh {E:Value->Shared->Prop} {pins:List (Addr × Obj)} {s:Shared} {σ:St} {H:Hp} {x:Str} {u:Value} {pos:Pos} {Q:Value->Shared->Prop} (I:Inv X pins σ H s) (hg:Gl X x) (hm:X.mg x=none) (hv:bootBuiltins x=some u) (h:Q u s)
  (hn:x ≠ "__name__" :=by decide) (hd:(x == ("__debug__" :Str))=false:=by decide):wpAny (model X.prog X.w) X.A (eval (.Name x pos) X.env) Q E s:=by
 obtain⟨mb,h1,h2⟩:=I.mod.blt
 exact Calls.Name_function_global I.ok.kind hg (Calls.loadGlobal_builtin (by rw[I.ok.glob];exact I.mod.glob.keeps I.bk) hm (by rw[I.ok.blt];exact h1.keeps I.bk) ((h2 x hn).trans hv) h) hd
variable {a b:Expr} {ta tb:TE} {pos:Pos}
variable {tA tB':TT} {rest:List Expr}
noncomputable def Fg (t u:TT):TT:=fun σ H Q=>t σ H fun c H1=>if c=true then u σ H1 Q else Q false H1
noncomputable def Gv (t u:TT):TT:=fun σ H Q=>t σ H fun c H1=>if c=true then Q true H1 else u σ H1 Q
noncomputable def E_ (t:TT):TT:=fun σ H Q=>t σ H fun c H1=>Q (!c) H1
theorem yT (ha:PT X a tA):PW X (.BoolOp .And [a] pos) tA:=by
 intro wh pins s σ H Q I h
 refine isTrue_and (bV (ha pins s σ H Q I h) fun c s1 e=>?_)
 cases c with
 | true=>exact isTrue_and_nil e
 | false=>exact e
theorem Bk (ha:PT X a tA):PW X (.BoolOp .Or [a] pos) tA:=by
 intro wh pins s σ H Q I h
 refine isTrue_or (bV (ha pins s σ H Q I h) fun c s1 e=>?_)
 cases c with
 | false=>exact isTrue_or_nil e
 | true=>exact e
theorem vP (ha:PT X a tA) (hb:PW X (.BoolOp .And (b::rest) pos) tB'):PW X (.BoolOp .And (a::b::rest) pos) (Fg tA tB'):=by
 intro wh pins s σ H Q I h
 refine isTrue_and (bV (ha pins s σ H _ I h) fun c s1 ⟨H1,I1,q1⟩=>?_)
 cases c with
 | true=>exact hb wh pins s1 σ H1 Q I1 q1
 | false=>exact⟨H1,I1,q1⟩
theorem Ay (ha:PT X a tA) (hb:PW X (.BoolOp .Or (b::rest) pos) tB'):PW X (.BoolOp .Or (a::b::rest) pos) (Gv tA tB'):=by
 intro wh pins s σ H Q I h
 refine isTrue_or (bV (ha pins s σ H _ I h) fun c s1 ⟨H1,I1,q1⟩=>?_)
 cases c with
 | true=>exact⟨H1,I1,q1⟩
 | false=>exact hb wh pins s1 σ H1 Q I1 q1
theorem Bm (ha:PT X a tA):PT X (.UnaryOp .Not a pos) (E_ tA):=by
 intro pins s σ H Q I h
 exact isTrue_not (ha pins s σ H (fun c H1=>Q (!c) H1) I h)
theorem wd {op} {t:TE} (h:PE X a t):PE X (.BoolOp op [a] pos) t:=fun pins s σ H Q I hw=>BoolOp_one (h pins s σ H Q I hw)
noncomputable def Gw (t:TT) (ta tb:TE):TE:=fun σ H Q=>t σ H fun c H1=>if c=true then ta σ H1 Q else tb σ H1 Q
theorem wj {c:Expr} (hc:PT X c tA) (ha:PE X a ta) (hb:PE X b tb):PE X (.IfExp c a b pos) (Gw tA ta tb):=by
 intro pins s σ H Q I h
 refine wpAny_IfExp (bV (hc pins s σ H _ I h) fun d s1 ⟨H1,I1,q1⟩=>?_)
 cases d with
 | true=>exact ha pins s1 σ H1 Q I1 q1
 | false=>exact hb pins s1 σ H1 Q I1 q1
end
end L2
namespace L2
open PySem PySem.Spec PyProof.Rows
noncomputable def kL (K:PySem.W.Frag) (H:Hp) (a:Addr) (xs:List V):Prop:=
 Rd H a (.lst xs)\/
  ∃ (o:Obj) (its:Array Value) (n:Nat),K.lookup a=some o/\o.cls=.type "list" /\o.dict=none/\o.data=.seq its n/\its.size<=sizeLine/\Vals xs its.toList
noncomputable def qo (K:PySem.W.Frag) (H:Hp) (a:Addr) (xs:List V):Prop:=
 Rd H a (.tup xs)\/
  ∃ (o:Obj) (its:Array Value) (n:Nat),K.lookup a=some o/\o.cls=.type "tuple" /\o.data=.seq its n/\its.size<=sizeLine/\Vals xs its.toList
noncomputable def FF:Value->Option V
 | .none=>some .non
 | .bool b=>some (.bl b)
 | .int i _=>some (.int i)
 | .str x _=>some (.str x)
 | .bytes b _=>some (.byt b)
 | .float b _=>some (.flt b)
 | .ref a=>some (.ref a)
 | .type n=>some (.ty n)
 | _=>none
theorem RelV.abs {x:V} {u:Value} (r:RelV x u):FF u=some x:=by
 cases x with
 | non=>cases r;rfl
 | bl _=>cases r;rfl
 | int _=>obtain⟨t,rfl⟩:=r;rfl
 | str _=>obtain⟨t,rfl⟩:=r;rfl
 | byt _=>obtain⟨t,rfl⟩:=r;rfl
 | flt _=>obtain⟨t,rfl⟩:=r;rfl
 | ref _=>cases r;rfl
 | ty _=>cases r;rfl
theorem RelV.inj {x y:V} {u:Value} (r:RelV x u) (q:RelV y u):x=y:=Option.some.inj (r.abs.symm.trans q.abs)
theorem Vals.inj:∀ {xs ys:List V} {us:List Value},Vals xs us->Vals ys us->xs=ys
 | _,_,_,.nil,.nil=>rfl
 | _,_,_,.cons r t,.cons r' t'=>by rw[r.inj r',Vals.inj t t']
section
variable {X:Cx} {pins:List (Addr × Obj)} {σ:St} {H:Hp} {s:Shared} {a:Addr} {xs ys:List V}
theorem qo.of {K:PySem.W.Frag} (h:H a=some (.tup xs)):qo K H a xs:=.inl (.inl h)
theorem Inv.list (I:Inv X pins σ H s) (h:kL X.K H a xs):∃its:List Value,Vals xs its/\PlainL s.heap a its.toArray/\xs.length<=sizeLine:=by
 rcases h with h | ⟨o,its,n,hk,hc,hd,hs,hz,r⟩
 ·obtain⟨z,its,n,r,e⟩:=h.ok I.aW
  exact⟨its,r,⟨_,n,e,rfl,rfl,rfl⟩,z⟩
 ·refine⟨its.toList,r,⟨o,n,I.jF a o hk,hc,hd,by simpa using hs⟩,?_⟩
  have e:=r.length
  simp only[Array.length_toList]at e
  omega
theorem Inv.tuple (I:Inv X pins σ H s) (h:qo X.K H a xs):∃its:List Value,Vals xs its/\IsTup s.heap a its.toArray/\xs.length<=sizeLine:=by
 rcases h with h | ⟨o,its,n,hk,hc,hs,hz,r⟩
 ·obtain⟨z,its,r,p⟩:=h.ok I.aW
  exact⟨its,r,p,z⟩
 ·refine⟨its.toList,r,⟨o,I.jF a o hk,hc,n,by simpa using hs⟩,?_⟩
  have e:=r.length
  simp only[Array.length_toList]at e
  omega
theorem Inv.w8 (I:Inv X pins σ H s) (h:kL X.K H a xs) (h':kL X.K H a ys):xs=ys:=by
 obtain⟨its,r,⟨o,n,e,_,_,d⟩,_⟩:=I.list h
 obtain⟨its',r',⟨o',n',e',_,_,d'⟩,_⟩:=I.list h'
 rw[e]at e';cases e'
 rw[d]at d'
 injection d' with d1 _
 have:its=its':=by simpa using congrArg Array.toList d1
 subst this
 exact r.inj r'
theorem Inv.tT (I:Inv X pins σ H s) (h:qo X.K H a xs) (h':qo X.K H a ys):xs=ys:=by
 obtain⟨its,r,⟨o,e,_,n,d⟩,_⟩:=I.tuple h
 obtain⟨its',r',⟨o',e',_,n',d'⟩,_⟩:=I.tuple h'
 rw[e]at e';cases e'
 rw[d]at d'
 injection d' with d1 _
 have:its=its':=by simpa using congrArg Array.toList d1
 subst this
 exact r.inj r'
end
@[reducible] noncomputable def Cx.kM (X:Cx) (E:Value->Shared->Prop):Cx:={X with xe:=E}
@[reducible] noncomputable def Cx.hZ (X:Cx):Cx:=X.kM fun _ _=>False
theorem Cx.Ok.kM {X:Cx} (ok:X.Ok) (E:Value->Shared->Prop):(X.kM E).Ok:=
 ⟨ok.mod,ok.kind,ok.glob,ok.blt,ok.above,ok.inj,ok.has,ok.Es,ok.hd,ok.frames,ok.CV,ok.ES,ok.bs,ok.tE,ok.wL,ok.xK,ok.iB,ok.xA⟩
theorem Cx.Ok.e_ {X:Cx} {E:Value->Shared->Prop} (ok:(X.kM E).Ok):X.Ok:=
 ⟨ok.mod,ok.kind,ok.glob,ok.blt,ok.above,ok.inj,ok.has,ok.Es,ok.hd,ok.frames,ok.CV,ok.ES,ok.bs,ok.tE,ok.wL,ok.xK,ok.iB,ok.xA⟩
section
variable {X:Cx} {pins:List (Addr × Obj)} {σ:St} {H:Hp} {s:Shared} {E:Value->Shared->Prop}
theorem Inv.kM (I:Inv X pins σ H s) (E:Value->Shared->Prop):Inv (X.kM E) pins σ H s:=⟨I.ok.kM E,I.os,I.bare,I.base,I.loc,I.cell,I.free,I.d9,I.pin,I.aW,I.len⟩
theorem Inv.e_ (I:Inv (X.kM E) pins σ H s):Inv X pins σ H s:=⟨I.ok.e_,I.os,I.bare,I.base,I.loc,I.cell,I.free,I.d9,I.pin,I.aW,I.len⟩
theorem SP.e_ {D:Ends} {f:Flow} {s':Shared} (h:SP (X.kM E) pins D f s'):SP X pins D f s':=by
 cases f with
 | next=>obtain⟨σ',H',I,q⟩:=h;exact⟨σ',H',I.e_,q⟩
 | brk=>obtain⟨σ',H',I,q⟩:=h;exact⟨σ',H',I.e_,q⟩
 | cont=>obtain⟨σ',H',I,q⟩:=h;exact⟨σ',H',I.e_,q⟩
 | ret u=>obtain⟨v,σ',H',I,r,q⟩:=h;exact⟨v,σ',H',I.e_,r,q⟩
end
section
variable {X:Cx} {st:Stmt} {rest:List Stmt} {t u:TS} {e:Expr} {te:TE} {pos:Pos}
noncomputable def C9:TS:=fun D σ H=>D.nx σ H
noncomputable def E8 (t u:TS):TS:=fun D σ H=>t {D with nx:=u D} σ H
theorem yW:vh X [] C9:=fun _ _ σ H _ I h=>wpAny_execs_nil ⟨σ,H,I,h⟩
theorem vR (h1:PS X st t) (h2:vh X rest u):vh X (st::rest) (E8 t u):=by
 intro pins s σ H D I h
 refine wpAny_execs_cons (bV (h1 pins s σ H {D with nx:=u D} I h) fun f s1 q=>?_)
 cases f with
 | next=>
  obtain⟨σ',H',I',q⟩:=q
  exact h2 pins s1 σ' H' D I' q
 | ret v=>exact q
 | brk=>exact q
 | cont=>exact q
theorem Inv.quiet {pins:List (Addr × Obj)} {σ:St} {H:Hp} {s:Shared} (I:Inv X pins σ H s):interactive X.env=false:=by simp[interactive,I.ok.kind]
noncomputable def C_ (te:TE):TS:=fun D σ H=>te σ H fun _ H1=>D.nx σ H1
theorem yZ (he:PE X e te) (hs:swapsWith e none pos.line X.env=pure false:=by rfl):PS X (.Expr e pos) (C_ te):=by
 intro pins s σ H D I h
 exact wpAny_Expr_any (bV (he pins s σ H _ I h) fun v s1 ⟨x,H1,I1,r1,q1⟩=>⟨σ,H1,I1,q1⟩) I.quiet hs
noncomputable def E9 (te:TE):TS:=fun D σ H=>te σ H D.rt
theorem Bq (he:PE X e te):PS X (.Return (some e) pos) (E9 te):=by
 intro pins s σ H D I h
 exact wpAny_Return_some (bV (he pins s σ H _ I h) fun v s1 ⟨x,H1,I1,r1,q1⟩=>⟨x,σ,H1,I1,r1,q1⟩)
noncomputable def Fc (c:TT) (t u:TS):TS:=fun D σ H=>c σ H fun b H1=>if b=true then t D σ H1 else u D σ H1
theorem Dm {c:Expr} {a b:List Stmt} {tc:TT} (hc:PT X c tc) (ha:vh X a t) (hb:vh X b u):PS X (.If c a b pos) (Fc tc t u):=by
 intro pins s σ H D I h
 refine wpAny_If (bV (hc pins s σ H _ I h) fun d s1 ⟨H1,I1,q1⟩=>?_)
 cases d with
 | true=>exact ha pins s1 σ H1 D I1 q1
 | false=>exact hb pins s1 σ H1 D I1 q1
end
@[reducible] noncomputable def TG:=V->St->Hp->(St->Hp->Prop)->Prop
@[reducible] noncomputable def AJ:=List V->St->Hp->(St->Hp->Prop)->Prop
noncomputable def PG (X:Cx) (target:Expr) (t:TG):Prop:=
 ∀ (pins:List (Addr × Obj)) (s:Shared) (σ:St) (H:Hp) (v:V) (u:Value) (Q:St->Hp->Prop),Inv X pins σ H s->RelV v u->t v σ H Q->
  wpAny (model X.prog X.w) X.A (assign target X.env u) (fun _ s'=>∃σ' H',Inv X pins σ' H' s'/\Q σ' H') X.xe s
noncomputable def C1 (X:Cx) (ts:List Expr) (t:AJ):Prop:=
 ∀ (pins:List (Addr × Obj)) (s:Shared) (σ:St) (H:Hp) (vs:List V) (us:List Value) (Q:St->Hp->Prop),Inv X pins σ H s->Vals vs us->t vs σ H Q->
  wpAny (model X.prog X.w) X.A (assignInOrder ((assignEach ts X.env).map (·.2)) us) (fun _ s'=>∃σ' H',Inv X pins σ' H' s'/\Q σ' H') X.xe s
@[reducible] noncomputable def FH:=V->V->V->Hp->(Hp->Prop)->Prop
noncomputable def EG (X:Cx) (t:FH):Prop:=
 ∀ (pins:List (Addr × Obj)) (s:Shared) (σ:St) (H:Hp) (o i v:V) (ov iv u:Value) (Q:Hp->Prop),Inv X pins σ H s->RelV o ov->RelV i iv->RelV v u->t o i v H Q->
  wpAny (model X.prog X.w) X.A (setItem ov iv u) (fun _ s'=>∃H',Inv X pins σ H' s'/\Q H') X.xe s
section
variable {X:Cx} {pos:Pos}
noncomputable def jb (i:Nat):TG:=fun v σ H Q=>Q (σ.set i (some v)) H
theorem gZ {i:Nat} {x:Str} (hN:X.N.Nodup) (hi:X.N[i]?=some x) (hx:Loc X.env.scope x) (hf:X.fn x=true\/X.env.scope.names.lookup x=some .local:=by first | exact .inl rfl | exact .inr rfl | assumption):PG X (.Name x pos) (jb i):=by
 intro pins s σ H v u Q I r h
 exact wpAny_assign_Name (kO I hN hi hx r (fun s' I'=>⟨_,H,I',h⟩) hf)
noncomputable def Ej:AJ:=fun vs σ H Q=>vs=[]/\Q σ H
noncomputable def AE (t:TG) (u:AJ):AJ:=fun vs σ H Q=>∃v r,vs=v::r/\t v σ H fun σ' H'=>u r σ' H' Q
theorem zb:C1 X [] Ej:=by
 intro pins s σ H vs us Q I r h
 obtain⟨e,h⟩:=h
 subst e
 cases r
 exact assignInOrder_nil ⟨σ,H,I,h⟩
theorem vZ {e:Expr} {es:List Expr} {t:TG} {u:AJ} (h1:PG X e t) (h2:C1 X es u)
  (hs:(assignEach (e::es) X.env).map (·.2)=assign e X.env::(assignEach es X.env).map (·.2):=by rfl):C1 X (e::es) (AE t u):=by
 intro pins s σ H vs us Q I r h
 obtain⟨v,vr,e1,h⟩:=h
 subst e1
 cases r with
 | cons r rr=>
  rw[hs]
  refine assignInOrder_cons (bV (h1 pins s σ H _ _ _ I r h) fun _ s1 ⟨σ1,H1,I1,q1⟩=>?_)
  exact h2 pins s1 σ1 H1 _ _ Q I1 rr q1
noncomputable def zR (K:PySem.W.Frag) (n:Nat) (t:AJ):TG:=fun v σ H Q=>∃a xs,v=.ref a/\qo K H a xs/\xs.length=n/\t xs σ H Q
theorem qQ {es:List Expr} {k:Nat} {t:AJ} {n:Nat} (hc:X.calm=true) (h:C1 X es t)
  (hn:(assignEach es X.env).length=n:=by rfl) (hst:(assignEach es X.env).findIdx? (·.1)=none:=by rfl):PG X (.Tuple es k pos) (zR X.K n t):=by
 intro pins s σ H v u Q I r hw
 obtain⟨a,xs,e1,hq,hl,hw⟩:=hw
 subst e1
 cases r
 obtain⟨its,rv,ht,hz⟩:=I.tuple hq
 refine assign_Tuple_tuple (I.ok.hd hc) ht (by simp[hn,<-hl,rv.length]) hst fun h' hx=>?_
 have I1:Inv X pins σ H {s with heap:=h'}:=I.kept (t':=s.toks) fun b o e=>hx b o (Nat.ne_of_lt (Heap.lt_size e)) e
 exact h pins _ σ H xs _ Q I1 (by simpa using rv) hw
noncomputable def Ff (te:TE) (g:TG):TS:=fun D σ H=>te σ H fun x H1=>g x σ H1 D.nx
theorem qO {i:Nat} {x:Str} {e:Expr} {te:TE} {pos':Pos} (hN:X.N.Nodup) (hi:X.N[i]?=some x) (hx:Loc X.env.scope x) (he:PE X e te) (hs:swapsWith e (some (.Name x pos')) pos.line X.env=pure false:=by rfl) (hf:X.fn x=true\/X.env.scope.names.lookup x=some .local:=by first | exact .inl rfl | exact .inr rfl | assumption):
  PS X (.Assign [.Name x pos'] e pos) (Ff te (jb i)):=by
 intro pins s σ H D I h
 refine wpAny_Assign_Name (bV (he pins s σ H _ I h) fun v s1 ⟨y,H1,I1,r1,q1⟩=>?_) hs
 exact kO I1 hN hi hx r1 (fun s2 I2=>⟨_,H1,I2,q1⟩) hf
end
section
variable {X:Cx} {pos:Pos}
noncomputable def AY (c:TT) (tb:TS):TS:=fun D σ H=>∃W:Nat->St->Hp->Prop,(∃ m,W m σ H)/\∀m σ H,W m σ H->
 c σ H fun b H1=>if b=true then ∃N:St->Hp->Prop,(∀ σ' H',N σ' H'->∃m',m' < m/\W m' σ' H')/\tb {D with nx:=N,ct:=N,bk:=D.nx} σ H1 else D.nx σ H1
theorem vS {c:Expr} {body:List Stmt} {tc:TT} {tb:TS} (hp:PassesOwn (model X.prog X.w) X.A X.env X.xe) (hc:PT X c tc) (hb:vh X body tb):PS X (.While c body [] pos) (AY tc tb):=by
 intro pins s σ H D I h
 obtain⟨W,⟨m0,w0⟩,turn⟩:=h
 refine wpAny_While (codeAny_whileLoop (fun n s'=>∃σ' H',Inv X pins σ' H' s'/\W n σ' H') ?_ m0 ⟨σ,H,I,w0⟩)
 rintro n s1 ⟨σ1,H1,I1,w1⟩
 refine wpAny_passesOwn hp (bV (hc pins s1 σ1 H1 _ I1 (turn n σ1 H1 w1)) fun b s2 ⟨H2,I2,q2⟩=>?_)
 cases b with
 | true=>
  obtain⟨N,hN,q2⟩:=q2
  rw[if_pos rfl]
  refine wpAny_passesOwn hp (bV (hb pins s2 σ1 H2 _ I2 q2) fun f s3 q3=>?_)
  cases f with
  | next=>
   obtain⟨σ3,H3,I3,n3⟩:=q3
   obtain⟨m',hm,w3⟩:=hN σ3 H3 n3
   exact⟨m',hm,σ3,H3,I3,w3⟩
  | cont=>
   obtain⟨σ3,H3,I3,n3⟩:=q3
   obtain⟨m',hm,w3⟩:=hN σ3 H3 n3
   exact⟨m',hm,σ3,H3,I3,w3⟩
  | brk=>exact q3
  | ret v=>exact q3
 | false=>
  rw[if_neg Bool.false_ne_true]
  exact wpAny_execs_nil ⟨σ1,H2,I2,q2⟩
end
structure It where
 go:Nat->Hp->Prop
 kn:Nat->Hp->V->Hp->Prop
 stop:Nat->Hp->Prop
noncomputable def kj (X:Cx) (pins:List (Addr × Obj)) (H:Hp) (b:Addr):Prop:=
 H b=none/\b ≠ X.env.locals/\b ∉ X.fs/\(b ∈ X.ex\/X.s₀.heap.objs.size<=b)/\(∀ x c,X.env.cells.lookup x=some c->c ≠ b)/\∀p ∈ X.pn++pins,p.1 ≠ b
theorem Inv.p_ {X:Cx} {pins:List (Addr × Obj)} {σ:St} {H H':Hp} {s:Shared} {b:Addr} (I:Inv X pins σ H s) (hb:s.heap.objs.size<=b) (hn:H' b=none):kj X pins H' b:=by
 refine⟨hn,Nat.ne_of_gt (Nat.lt_of_lt_of_le I.lt hb),I.Fm hb,.inr (Nat.le_trans I.sz hb),fun x c e z=>?_,fun p hp z=>?_⟩
 ·obtain⟨v,q⟩:=I.cell x c e
  exact absurd (Nat.lt_of_lt_of_le q.lt (by rw[z];exact hb)) (Nat.lt_irrefl _)
 ·exact absurd (Nat.lt_of_lt_of_le (Heap.lt_size (I.pin p hp).1) (by rw[z];exact hb)) (Nat.lt_irrefl _)
structure Turn (P:Program) (w:World) (K:PySem.W.Frag) (tg:Expr) (J:It) (fp:List Addr) (it:Addr) (tn:Nat->Heap->Prop):Prop where
 mem:it ∈ fp
 obj:∀i h,tn i h->∀b ∈ fp,∃o,h.get? b=some o/\∀v,o.data ≠ .cell v
 keep:∀i h h',tn i h->(∀ b ∈ fp,∀o,h.get? b=some o->h'.get? b=some o)->tn i h'
 item:∀ (X:Cx),X.prog=P->X.w=w->X.K=K->X.calm=true->∀ (i:Nat) (pins:List (Addr × Obj)) (s:Shared) (σ:St) (H:Hp) (E:Value->Shared->Prop),Inv X pins σ H s->(∀ b ∈ fp,kj X pins H b)->tn i s.heap->J.go i H->
  wpAny (model P w) X.A (pyNext (.ref it)) (fun r s1=>∃u,r=some u/\
   wpAny (model P w) X.A (letOwnedTupleGo tg (.ref it) u) (fun _ s2=>∃x H',Inv X pins σ H' s2/\RelV x u/\J.kn i H x H'/\tn (i + 1) s2.heap/\∀b ∈ fp,H' b=none) E s1) E s
 done:∀ (X:Cx),X.prog=P->X.w=w->X.K=K->X.calm=true->∀ (i:Nat) (pins:List (Addr × Obj)) (s:Shared) (σ:St) (H:Hp) (E:Value->Shared->Prop),Inv X pins σ H s->(∀ b ∈ fp,kj X pins H b)->tn i s.heap->J.stop i H->
  wpAny (model P w) X.A (pyNext (.ref it)) (fun r s1=>r=none/\Inv X pins σ H s1) E s
 self:∀ (A:Around) (i:Nat) (s:Shared) (Q:Value->Shared->Prop) (E:Value->Shared->Prop),tn i s.heap->Q (.ref it) s->wpAny (model P w) A (pyIter (.ref it)) Q E s
@[reducible] noncomputable def TI:=St->Hp->(It->Hp->Prop)->Prop
noncomputable def EV (X:Cx) (pins:List (Addr × Obj)) (σ:St) (tg:Expr) (R:It->Hp->Prop) (itv:Value) (s2:Shared):Prop:=
 ∃ (it:Addr) (fp:List Addr) (tn:Nat->Heap->Prop) (J:It) (H':Hp),itv=.ref it/\Inv X pins σ H' s2/\Turn X.prog X.w X.K tg J fp it tn/\tn 0 s2.heap/\(∀ b ∈ fp,kj X pins H' b)/\R J H'
noncomputable def PI (X:Cx) (tg iter:Expr) (wi:TI):Prop:=
 ∀ (pins:List (Addr × Obj)) (s:Shared) (σ:St) (H:Hp) (R:It->Hp->Prop),Inv X pins σ H s->wi σ H R->
  wpAny (model X.prog X.w) X.A (eval iter X.env) (fun v s1=>wpAny (model X.prog X.w) X.A (pyIter v) (EV X pins σ tg R) X.xe s1) X.xe s
theorem m3 {M:Model} {A:Around} {E:Value->Shared->Prop} {s:Shared} {tg:Expr} {it:Addr} {u:Value} {o:Obj} {n:String} {vs:Array Value} {Q:Unit->Shared->Prop} (ho:s.heap.get? it=some o) (hc:o.cls=.type n) (hd:o.data=.fields vs)
  (hn:["enumerate","zip","dict_itemiterator","dict_reverseitemiterator","odict_iterator","itertools.zip_longest","itertools.pairwise"].contains n=false) (hQ:Q () s):wpAny M A (letOwnedTupleGo tg (.ref it) u) Q E s:=by
 unfold letOwnedTupleGo
 cases tg<;>first
  | exact wpAny_pure hQ
  | (cases u<;>first
    | exact wpAny_pure hQ
    | (refine wpAny_bind (wpAny_load ho ?_)
       rw[hc,hd]
       show wpAny M A (if(["enumerate","zip","dict_itemiterator","dict_reverseitemiterator","odict_iterator","itertools.zip_longest","itertools.pairwise"].contains n && vs[0]? == some (rawInt _))=true then _ else _) Q E s
       rw[if_neg (by intro h;rw[hn,Bool.false_and]at h;cases h)]
       exact wpAny_pure hQ))
noncomputable def Gr (K:PySem.W.Frag) (a:Addr):It:=
 ⟨fun i H=>∃xs x,kL K H a xs/\xs[i]?=some x,fun i H x H'=>H'=H/\∀xs,kL K H a xs->xs[i]?=some x,fun i H=>∃xs,kL K H a xs/\xs.length<=i⟩
noncomputable def Gq (K:PySem.W.Frag) (a:Addr):It:=
 ⟨fun i H=>∃xs x,qo K H a xs/\xs[i]?=some x,fun i H x H'=>H'=H/\∀xs,qo K H a xs->xs[i]?=some x,fun i H=>∃xs,qo K H a xs/\xs.length<=i⟩
noncomputable def F_ (lo:Int) (n:Nat):It:=⟨fun i _=>i < n,fun i H x H'=>H'=H/\x=.int (lo + i),fun i _=>n<=i⟩
theorem tQ {P:Program} {w:World} {K:PySem.W.Frag} {tg:Expr} (a it:Addr):Turn P w K tg (Gr K a) [it] it (fun i h=>h.IsListIter it a i) where
 mem:=by simp
 obj:=fun i h st b hb=>by
  have e:b=it:=by simpa using hb
  subst e
  obtain⟨o,e,c,d⟩:=st
  exact⟨o,e,fun v z=>by rw[d]at z;cases z⟩
 keep:=fun i h h' st k=>st.at fun o e=>k it (by simp) o e
 item:=by
  intro X hP hw hK hc i pins s σ H E I hf st hg
  subst hP hw hK
  obtain⟨xs,x,hq,hx⟩:=hg
  obtain⟨its,rv,p,hz⟩:=I.list hq
  obtain⟨u,hu,ru⟩:=rv.get hx
  obtain⟨f0,f1,f2,f3,f4,f5⟩:=hf it (by simp)
  refine wpAny_pyNext_list_item st p.isList (x:=u) (by simpa using hu) fun h' st' sb=>?_
  have I1:Inv X pins σ H {s with heap:=h'}:=I.turned (t':=s.toks) (fun b o hb e=>(sb.2 b hb).trans e) f0 f1 f3 f4 f5
  obtain⟨o,e,c,d⟩:=id st'
  exact⟨u,rfl,m3 (s:={s with heap:=h'}) e c d (by decide) ⟨x,H,I1,ru,⟨rfl,fun ys hy=>by rw[I.w8 hy hq];exact hx⟩,st',fun b hb=>(hf b hb).1⟩⟩
 done:=by
  intro X hP hw hK hc i pins s σ H E I hf st hg
  subst hP hw hK
  obtain⟨xs,hq,hx⟩:=hg
  obtain⟨its,rv,p,hz⟩:=I.list hq
  obtain⟨f0,f1,f2,f3,f4,f5⟩:=hf it (by simp)
  have hl:=rv.length
  exact wpAny_pyNext_list_end (I.ok.hd hc) st p.isList (by simp;omega) fun h' eb=>⟨rfl,I.turned (t':=s.toks) (fun b o hb e=>eb b o hb e) f0 f1 f3 f4 f5⟩
 self:=fun _ _ _ _ _ st h=>wpAny_pyIter_listiter st h
theorem qD {P:Program} {w:World} {K:PySem.W.Frag} {tg:Expr} (a it:Addr):Turn P w K tg (Gq K a) [it] it (fun i h=>h.IsTupleIter it a i) where
 mem:=by simp
 obj:=fun i h st b hb=>by
  have e:b=it:=by simpa using hb
  subst e
  obtain⟨o,e,c,d⟩:=st
  exact⟨o,e,fun v z=>by rw[d]at z;cases z⟩
 keep:=fun i h h' st k=>st.at fun o e=>k it (by simp) o e
 item:=by
  intro X hP hw hK hc i pins s σ H E I hf st hg
  subst hP hw hK
  obtain⟨xs,x,hq,hx⟩:=hg
  obtain⟨its,rv,p,hz⟩:=I.tuple hq
  obtain⟨u,hu,ru⟩:=rv.get hx
  obtain⟨f0,f1,f2,f3,f4,f5⟩:=hf it (by simp)
  refine wpAny_pyNext_tuple_item st (show s.heap.IsTuple a its.toArray from p) (x:=u) (by simpa using hu) fun h' st' sb=>?_
  have I1:Inv X pins σ H {s with heap:=h'}:=I.turned (t':=s.toks) (fun b o hb e=>(sb.2 b hb).trans e) f0 f1 f3 f4 f5
  obtain⟨o,e,c,d⟩:=id st'
  exact⟨u,rfl,m3 (s:={s with heap:=h'}) e c d (by decide) ⟨x,H,I1,ru,⟨rfl,fun ys hy=>by rw[I.tT hy hq];exact hx⟩,st',fun b hb=>(hf b hb).1⟩⟩
 done:=by
  intro X hP hw hK hc i pins s σ H E I hf st hg
  subst hP hw hK
  obtain⟨xs,hq,hx⟩:=hg
  obtain⟨its,rv,p,hz⟩:=I.tuple hq
  obtain⟨f0,f1,f2,f3,f4,f5⟩:=hf it (by simp)
  have hl:=rv.length
  exact wpAny_pyNext_tuple_end (I.ok.hd hc) st (show s.heap.IsTuple a its.toArray from p) (by simp;omega) fun h' eb=>⟨rfl,I.turned (t':=s.toks) (fun b o hb e=>eb b o hb e) f0 f1 f3 f4 f5⟩
 self:=fun _ _ _ _ _ st h=>wpAny_pyIter_tupleiter st h
theorem qE {P:Program} {w:World} {K:PySem.W.Frag} {tg:Expr} (it:Addr) (lo:Int) (n:Nat):Turn P w K tg (F_ lo n) [it] it (fun i h=>IsRangeIter h it (lo + (i:Nat) * 1) ((n:Int) - (i:Nat)) 1) where
 mem:=by simp
 obj:=fun i h st b hb=>by
  have e:b=it:=by simpa using hb
  subst e
  exact⟨_,st,fun v z=>by
   have z':Data.fields _=Data.cell v:=z
   cases z'⟩
 keep:=fun i h h' st k=>k it (by simp) _ st
 item:=by
  intro X hP hw hK hc i pins s σ H E I hf st hg
  subst hP hw hK
  obtain⟨f0,f1,f2,f3,f4,f5⟩:=hf it (by simp)
  have W:=Walks.range (prog:=X.prog) (w:=X.w) (I.ok.hd hc) it lo 1 n
  refine W.item i s _ _ hg st fun v h' tk hv st' kk=>?_
  obtain⟨t,rfl⟩:=hv
  have I1:Inv X pins σ H {s with heap:=h',toks:=tk}:=I.turned (fun b o hb e=>kk b o (by simpa using hb) e) f0 f1 f3 f4 f5
  refine⟨_,rfl,m3 (s:={s with heap:=h',toks:=tk}) (n:= "range_iterator") st' rfl rfl (by decide) ⟨.int (lo + i),H,I1,⟨t,?_⟩,⟨rfl,rfl⟩,st',fun b hb=>(hf b hb).1⟩⟩
  rw[Int.mul_one]
 done:=by
  intro X hP hw hK hc i pins s σ H E I hf st hg
  subst hP hw hK
  obtain⟨f0,f1,f2,f3,f4,f5⟩:=hf it (by simp)
  exact wpAny_pyNext_range_end (I.ok.hd hc) st (by have:n<=i:=hg;omega) fun h' eb=>⟨rfl,I.turned (t':=s.toks) (fun b o hb e=>eb b o hb e) f0 f1 f3 f4 f5⟩
 self:=fun _ _ _ _ _ st h=>wpAny_pyIter_rangeiter st h
end L2
namespace L2
open PySem PySem.Spec PyProof.Rows
section
variable {X:Cx} {tg:Expr}
theorem vN {pins:List (Addr × Obj)} {σ:St} {H:Hp} {s:Shared} {R:It->Hp->Prop} {E:Value->Shared->Prop} {lo hi:Int} {t u v:Tok} {tk:Nat} (I:Inv X pins σ H s) (h1: -(2 ^ 62)<=lo) (h2:lo < 2 ^ 62) (h3: -(2 ^ 62)<=hi) (h4:hi < 2 ^ 62)
  (q:R (F_ lo (hi - lo).toNat) H):wpAny (model X.prog X.w) X.A (pyIter (.ref s.heap.objs.size)) (EV X pins σ tg R) E {s with heap:=s.heap.push {cls:=.type "range",data:=.fields #[.int lo t,.int hi u,.int 1 v]},toks:=tk}:=by
 refine wpAny_pyIter_range (IsRange.new ..) (small_one h1 h2 h3 h4) ?_
 have I1:Inv X pins σ H {s with heap:=s.heap.push {cls:=.type "range",data:=.fields #[.int lo t,.int hi u,.int 1 v]},toks:=tk}:=I.kept fun b o e=>Heap.get?_push_of_some _ e
 refine⟨(s.heap.push {cls:=.type "range",data:=.fields #[.int lo t,.int hi u,.int 1 v]}).objs.size,[(s.heap.push {cls:=.type "range",data:=.fields #[.int lo t,.int hi u,.int 1 v]}).objs.size],_,_,H,rfl,
  I1.kept (t':=tk) fun b o e=>Heap.get?_push_of_some _ e,qE _ lo (hi - lo).toNat,?_,fun b hb=>?_,q⟩
 ·have e1:lo + ((0:Nat):Int) * 1=lo:=by simp
  have e2:(((hi - lo).toNat:Nat):Int) - ((0:Nat):Int)=Builtin.Range.rangeSize lo hi 1:=by rw[rangeSize_one];split<;>omega
  show IsRangeIter _ _ (lo + ((0:Nat):Int) * 1) ((((hi - lo).toNat:Nat):Int) - ((0:Nat):Int)) 1
  rw[e1,e2]
  exact Heap.get?_push_size _ rfl
 ·have e:b=(s.heap.push {cls:=.type "range",data:=.fields #[.int lo t,.int hi u,.int 1 v]}).objs.size:=by simpa using hb
  subst e
  exact I1.p_ (Nat.le_refl _) (I1.aW.fresh (Nat.le_refl _))
noncomputable def Fd (wi:TI) (g:TG) (tb:TS):TS:=fun D σ H=>wi σ H fun J H1=>∃W:Nat->Nat->St->Hp->Prop,(∃ m,W 0 m σ H1)/\∀i m σ H,W i m σ H->
 (J.stop i H/\D.nx σ H)\/(J.go i H/\∃N:St->Hp->Prop,(∀ σ' H',N σ' H'->∃m',m' < m/\W (i + 1) m' σ' H')/\∀x H',J.kn i H x H'->g x σ H' fun σ2 H2=>tb {D with nx:=N,ct:=N,bk:=D.nx} σ2 H2)
noncomputable def jy (fp:List Addr) (h:Heap):List (Addr × Obj):=fp.filterMap fun b=>(h.get? b).map fun o=>(b,o)
theorem df {fp:List Addr} {h:Heap} {b:Addr} {o:Obj} (hb:b ∈ fp) (e:h.get? b=some o):(b,o) ∈ jy fp h:=List.mem_filterMap.mpr ⟨b,hb,by rw[e];rfl⟩
theorem uA {fp:List Addr} {h:Heap} {p:Addr × Obj} (hp:p ∈ jy fp h):p.1 ∈ fp/\h.get? p.1=some p.2:=by
 obtain⟨b,hb,e⟩:=List.mem_filterMap.mp hp
 cases q:h.get? b with
 | none=>rw[q]at e;cases e
 | some o=>
  rw[q]at e
  have e':(b,o)=p:=Option.some.inj e
  subst e'
  exact⟨hb,q⟩
theorem Inv.pinned {pins:List (Addr × Obj)} {σ:St} {H:Hp} {s:Shared} {fp:List Addr} (I:Inv X pins σ H s) (hf:∀b ∈ fp,kj X pins H b) (ho:∀b ∈ fp,∃o,s.heap.get? b=some o/\∀v,o.data ≠ .cell v):Inv X (pins++jy fp s.heap) σ H s:=
 I.sv fun p hp=>(List.mem_append.mp hp).elim (fun z=>I.pin p (List.mem_append_right _ z)) fun z=>by
  obtain⟨hb,e⟩:=uA z
  obtain⟨f0,f1,f2,_⟩:=hf p.1 hb
  obtain⟨o,e',d⟩:=ho p.1 hb
  rw[e]at e';cases e'
  exact⟨e,f0,f1,f2,d⟩
theorem Inv.eo {pins pl:List (Addr × Obj)} {σ:St} {H:Hp} {s:Shared} (I:Inv X (pins++pl) σ H s):Inv X pins σ H s:=I.sv fun p hp=>I.pin p (List.mem_append_right _ (List.mem_append_left _ hp))
theorem vT {iter:Expr} {body:List Stmt} {wi:TI} {g:TG} {tb:TS} {pos:Pos} (hp:PassesOwn (model X.prog X.w) X.A X.env X.xe) (hc:X.calm=true) (hi:PI X tg iter wi) (hg:PG X tg g) (hb:vh X body tb)
  (hs:∀x,foldedSetIterable iter X.env x=pure x:=by intro _;rfl):PS X (.For tg iter body [] pos) (Fd wi g tb):=by
 intro pins s σ H D I h
 refine wpAny_For (bV (hi pins s σ H _ I h) fun v s1 h1=>bV h1 fun itv s2 h2=>?_) hs
 obtain⟨it,fp,tn,J,H2,e,I2,T,st2,f2,W,⟨m0,w0⟩,turn⟩:=h2
 subst e
 -- what stays true of the iterator's objects through the loop
 have stat:∀ {H':Hp},(∀ b ∈ fp,H' b=none)->∀b ∈ fp,kj X pins H' b:=fun hn b hb=>⟨hn b hb,(f2 b hb).2⟩
 refine codeAny_forLoop_any (fun n s'=>∃i σ' H',Inv X pins σ' H' s'/\tn i s'.heap/\(∀ b ∈ fp,H' b=none)/\W i n σ' H') ?_ m0 ⟨0,σ,H2,I2,st2,fun b hb=>(f2 b hb).1,w0⟩
 rintro n s3 ⟨i,σ3,H3,I3,st3,fr3,w3⟩
 rcases turn i n σ3 H3 w3 with ⟨stop,qn⟩ | ⟨go,N,hN,step⟩
 ·refine wpAny_passesOwn hp (bV (T.done X rfl rfl rfl hc i pins s3 σ3 H3 X.xe I3 (stat fr3) st3 stop) fun r s4 ⟨hr,I4⟩=>?_)
  subst hr
  exact wpAny_execs_nil ⟨σ3,H3,I4,qn⟩
 ·refine wpAny_passesOwn hp (bV (T.item X rfl rfl rfl hc i pins s3 σ3 H3 X.xe I3 (stat fr3) st3 go) fun r s4 ⟨u,hr,h4⟩=>?_)
  subst hr
  refine wpAny_passesOwn hp (bV h4 fun _ s5 ⟨x,H5,I5,r5,y5,st5,fr5⟩=>?_)
  have I5':=I5.pinned (stat fr5) (T.obj _ _ st5)
  refine wpAny_passesOwn hp (bV (hg _ s5 σ3 H5 x u _ I5' r5 (step x H5 y5)) fun _ s6 ⟨σ6,H6,I6,q6⟩=>?_)
  refine wpAny_passesOwn hp (bV (hb _ s6 σ6 H6 _ I6 q6) fun f s7 q7=>?_)
  have again:∀ {σ7:St} {H7:Hp},Inv X (pins++jy fp s5.heap) σ7 H7 s7->N σ7 H7->∃m,m < n/\∃i σ' H',Inv X pins σ' H' s7/\tn i s7.heap/\(∀ b ∈ fp,H' b=none)/\W i m σ' H':=fun{σ7 H7} I7 n7=>by
   obtain⟨m',hm,w7⟩:=hN σ7 H7 n7
   refine⟨m',hm,i + 1,σ7,H7,I7.eo,T.keep _ _ _ st5 fun b hb o e=>(I7.pin (b,o) (List.mem_append_right _ (List.mem_append_right _ (df hb e)))).1,fun b hb=>?_,w7⟩
   obtain⟨o,e,d⟩:=T.obj _ _ st5 b hb
   exact(I7.pin (b,o) (List.mem_append_right _ (List.mem_append_right _ (df hb e)))).2.1
  cases f with
  | next=>obtain⟨σ7,H7,I7,n7⟩:=q7;exact again I7 n7
  | cont=>obtain⟨σ7,H7,I7,n7⟩:=q7;exact again I7 n7
  | brk=>obtain⟨σ7,H7,I7,q7⟩:=q7;exact⟨σ7,H7,I7.eo,q7⟩
  | ret v=>obtain⟨x7,σ7,H7,I7,r7,q7⟩:=q7;exact⟨x7,σ7,H7,I7.eo,r7,q7⟩
end
end L2
namespace L2
open PySem PySem.Spec PyProof.Rows
@[reducible] noncomputable def R2:=V->V->Hp->VK->Prop
noncomputable def iN (X:Cx) (f:Value->Value->Sem Value) (r:R2):Prop:=
 ∀ (pins:List (Addr × Obj)) (s:Shared) (σ:St) (H:Hp) (x y:V) (v u:Value) (Q:VK),Inv X pins σ H s->RelV x v->RelV y u->r x y H Q->
  wpAny (model X.prog X.w) X.A (f v u) (EP X pins σ Q) X.xe s
noncomputable def ij (X:Cx) (f:Value) (r:List V->Hp->VK->Prop):Prop:=
 ∀ (pins:List (Addr × Obj)) (s:Shared) (σ:St) (H:Hp) (xs:List V) (us:List Value) (Q:VK),Inv X pins σ H s->Vals xs us->r xs H Q->
  wpAny (model X.prog X.w) X.A (call f us) (EP X pins σ Q) X.xe s
noncomputable def EC (X:Cx) (r:V->Hp->(Bool->Hp->Prop)->Prop):Prop:=
 ∀ (pins:List (Addr × Obj)) (s:Shared) (σ:St) (H:Hp) (x:V) (v:Value) (Q:Bool->Hp->Prop),Inv X pins σ H s->RelV x v->r x H Q->
  wpAny (model X.prog X.w) X.A (truthy v) (TP X pins σ Q) X.xe s
noncomputable def EL (r:R2) (ta tb:TE):TE:=fun σ H Q=>ta σ H fun x H1=>tb σ H1 fun y H2=>r x y H2 Q
noncomputable def rI (C:Int->Int->Prop) (g:Int->Int->V):R2:=fun x y H Q=>∃i j,x=.int i/\y=.int j/\C i j/\Q (g i j) H
noncomputable def Bi (g:Int->Int->V):R2:=fun x y H Q=>∃i j,x=.int i/\y=.int j/\Q (g i j) H
section
variable {X:Cx} {a b c:Expr} {ta tb tc:TE} {pos:Pos}
theorem Ae (ha:PE X a ta) (hb:PE X b tb) {pins:List (Addr × Obj)} {s:Shared} {σ:St} {H:Hp} {R:V->V->Hp->Prop} (I:Inv X pins σ H s)
  (h:ta σ H fun x H1=>tb σ H1 fun y H2=>R x y H2) {Q:Value->Shared->Prop} {f:Value->Value->Sem Value}
  (hf:∀v u s2 x y H2,Inv X pins σ H2 s2->RelV x v->RelV y u->R x y H2->wpAny (model X.prog X.w) X.A (f v u) Q X.xe s2):
  wpAny (model X.prog X.w) X.A (eval a X.env) (fun v s₁=>wpAny (model X.prog X.w) X.A (eval b X.env) (fun u s₂=>wpAny (model X.prog X.w) X.A (f v u) Q X.xe s₂) X.xe s₁) X.xe s:=by
 refine bV (ha pins s σ H _ I h) fun v s1 ⟨x,H1,I1,r1,q1⟩=>?_
 refine bV (hb pins s1 σ H1 _ I1 q1) fun u s2 ⟨y,H2,I2,r2,q2⟩=>?_
 exact hf v u s2 x y H2 I2 r1 r2 q2
theorem Dp {op:Operator} {r:R2} (ho:iN X (binaryOp op) r) (ha:PE X a ta) (hb:PE X b tb):PE X (.BinOp a op b pos) (EL r ta tb):=by
 intro pins s σ H Q I h
 exact wpAny_BinOp (Ae ha hb I h fun v u s2 x y H2 I2 rx ry q=>ho pins s2 σ H2 x y v u Q I2 rx ry q)
theorem Dw {f:Value->Value->Sem Value} {C:Int->Int->Prop} {g:Int->Int->Int}
  (rule:∀ (i j:Int) (t u:Tok) (s:Shared) (Q:Value->Shared->Prop) (E:Value->Shared->Prop),C i j->Q (.int (g i j) s.toks) {s with toks:=s.toks + 1}->wpAny (model X.prog X.w) X.A (f (.int i t) (.int j u)) Q E s):
  iN X f (rI C fun i j=>.int (g i j)):=by
 intro pins s σ H x y v u Q I rx ry h
 obtain⟨i,j,rfl,rfl,hc,q⟩:=h
 obtain⟨t,rfl⟩:=rx
 obtain⟨t',rfl⟩:=ry
 exact rule i j t t' s _ _ hc ⟨.int (g i j),H,I.tok _,⟨_,rfl⟩,q⟩
theorem BL {f:Value->Value->Sem Value} {g:Int->Int->Int}
  (rule:∀ (i j:Int) (t u:Tok) (s:Shared) (Q:Value->Shared->Prop) (E:Value->Shared->Prop),Q (.int (g i j) s.toks) {s with toks:=s.toks + 1}->wpAny (model X.prog X.w) X.A (f (.int i t) (.int j u)) Q E s):
  iN X f (Bi fun i j=>.int (g i j)):=by
 intro pins s σ H x y v u Q I rx ry h
 obtain⟨i,j,rfl,rfl,q⟩:=h
 obtain⟨t,rfl⟩:=rx
 obtain⟨t',rfl⟩:=ry
 exact rule i j t t' s _ _ ⟨.int (g i j),H,I.tok _,⟨_,rfl⟩,q⟩
theorem Dx {f:Value->Value->Sem Value} {g:Int->Int->Bool}
  (rule:∀ (i j:Int) (t u:Tok) (s:Shared) (Q:Value->Shared->Prop) (E:Value->Shared->Prop),Q (.bool (g i j)) s->wpAny (model X.prog X.w) X.A (f (.int i t) (.int j u)) Q E s):
  iN X f (Bi fun i j=>.bl (g i j)):=by
 intro pins s σ H x y v u Q I rx ry h
 obtain⟨i,j,rfl,rfl,q⟩:=h
 obtain⟨t,rfl⟩:=rx
 obtain⟨t',rfl⟩:=ry
 exact rule i j t t' s _ _ ⟨.bl (g i j),H,I,rfl,q⟩
noncomputable def Gb (i j:Int):Prop:=0 < j/\j < 1073741824
noncomputable def yq (i j:Int):Prop:=0<=j/\j<=1000000/\i.natAbs < 2 ^ 64
noncomputable def Aj (i j:Int):Prop:=(-(2 ^ 64) < i/\i < 2 ^ 64)\/(-(2 ^ 64) < j/\j < 2 ^ 64)
theorem Aj.ok {i j:Int} (h:Aj i j):IntMulOk i j:=by
 rcases h with ⟨h1,h2⟩ | ⟨h1,h2⟩
 ·exact .of_left (intBits_le_64 h1 h2)
 ·exact .of_right (intBits_le_64 h1 h2)
theorem qC (k:Nat):(0:Int)<=2 ^ k:=by
 rw[two_pow_cast]
 exact Int.natCast_nonneg _
theorem BK:iN X (binaryOp .Add) (Bi fun i j=>.int (i + j)):=BL fun _ _ _ _ _ _ _ q=>add_int q
theorem BC:iN X (binaryOp .Sub) (Bi fun i j=>.int (i - j)):=BL fun _ _ _ _ _ _ _ q=>sub_int q
theorem BG:iN X (binaryOp .Mult) (rI Aj fun i j=>.int (i * j)):=Dw fun _ _ _ _ _ _ _ hc q=>mul_int q hc.ok
theorem zt:iN X (binaryOp .FloorDiv) (rI Gb fun i j=>.int (i / j)):=Dw fun i j _ _ _ _ _ hc q=>by
 have h1:(0:Int) < j:=hc.1
 have h2:j < 1073741824:=hc.2
 exact floordiv_int (by omega) (by rw[Int.fdiv_eq_ediv_of_nonneg i (by omega)];exact q) (.inl (PyProof.noPylong_small (by omega)))
theorem BI:iN X (binaryOp .Mod) (rI (fun _ j=>0 < j) fun i j=>.int (i % j)):=Dw fun i j _ _ _ _ _ hc q=>by
 have h1:(0:Int) < j:=hc
 exact mod_int' (by omega) (by rw[Int.fmod_eq_emod_of_nonneg i (by omega)];exact q)
theorem BF:iN X (binaryOp .Pow) (rI yq fun i j=>.int (i ^ j.toNat)):=Dw fun _ _ _ _ _ _ _ hc q=>pow_int_small hc.1 hc.2.1 hc.2.2 q
theorem BD:iN X (binaryOp .RShift) (rI (fun _ j=>0<=j) fun i j=>.int (i / 2 ^ j.toNat)):=Dw fun i j _ _ _ _ _ hc q=>
 rshift_int hc (by rw[Int.fdiv_eq_ediv_of_nonneg i (qC _)];exact q)
theorem BJ:iN X (binaryOp .BitAnd) (Bi fun i j=>.int (Builtin.bitAnd i j)):=BL fun _ _ _ _ _ _ _ q=>and_int q
end
noncomputable def jr:V->V->Bool
 | .non,.non=>true | .non,.int _=>true | .int _,.non=>true | .non,.bl _=>true | .bl _,.non=>true | .non,.str _=>true | .str _,.non=>true
 | .int _,.int _=>true | .bl _,.bl _=>true | .str _,.str _=>true | .byt _,.byt _=>true
 | .int _,.str _=>true | .str _,.int _=>true | .bl _,.str _=>true | .str _,.bl _=>true
 | _,_=>false
noncomputable def GA:R2:=fun x y H Q=>jr x y=true/\Q (.bl (decide (x=y))) H
noncomputable def Gx:R2:=fun x y H Q=>jr x y=true/\Q (.bl (!decide (x=y))) H
theorem sZ {i j:Int}:decide (V.int i=V.int j)=(i == j):=by
 rw[Bool.eq_iff_iff]
 simp
theorem xU {i j:Bool}:decide (V.bl i=V.bl j)=(i == j):=by
 rw[Bool.eq_iff_iff]
 simp
theorem sY {i j:Str}:decide (V.str i=V.str j)=(i == j):=by
 rw[Bool.eq_iff_iff]
 simp
theorem s_ {i j:Array UInt8}:decide (V.byt i=V.byt j)=(i.toList == j.toList):=by
 rw[Bool.eq_iff_iff]
 cases i
 cases j
 simp
section
variable {X:Cx} {a b c:Expr} {ta tb tc:TE} {pos:Pos}
theorem aR {pins:List (Addr × Obj)} {σ:St} {H:Hp} {s:Shared} {Q:VK} {k k':Bool} (I:Inv X pins σ H s) (q:Q (.bl k) H) (e:k=k'):EP X pins σ Q (.bool k') s:=by
 subst e
 exact⟨.bl k,H,I,rfl,q⟩
theorem Dv:iN X (compareOp .Eq) GA:=by
 intro pins s σ H x y v u Q I rx ry h
 obtain⟨hs,q⟩:=h
 cases x with
 | non=>
  cases rx
  cases y with
  | non=>cases ry;exact PySem.EqNone.eq_none_none (aR I q (by simp))
  | bl j=>cases ry;exact PySem.EqNone.eq_none_bool (aR I q (by simp))
  | int j=>obtain⟨t',rfl⟩:=ry;exact PySem.EqNone.eq_none_int (aR I q (by simp))
  | str j=>obtain⟨t',rfl⟩:=ry;exact PySem.EqNone.eq_none_str (aR I q (by simp))
  | _=>exact absurd (show false=true from hs) Bool.false_ne_true
 | bl i=>
  cases rx
  cases y with
  | non=>cases ry;exact PySem.EqNone.eq_bool_none (aR I q (by simp))
  | bl j=>cases ry;exact eq_bool (aR I q xU)
  | str j=>obtain⟨t',rfl⟩:=ry;exact PySem.EqMixed.eq_bool_str (aR I q (by simp))
  | _=>exact absurd (show false=true from hs) Bool.false_ne_true
 | int i=>
  obtain⟨t,rfl⟩:=rx
  cases y with
  | non=>cases ry;exact PySem.EqNone.eq_int_none (aR I q (by simp))
  | int j=>obtain⟨t',rfl⟩:=ry;exact eq_int (aR I q sZ)
  | str j=>obtain⟨t',rfl⟩:=ry;exact PySem.EqMixed.eq_int_str (aR I q (by simp))
  | _=>exact absurd (show false=true from hs) Bool.false_ne_true
 | str i=>
  obtain⟨t,rfl⟩:=rx
  cases y with
  | non=>cases ry;exact PySem.EqNone.eq_str_none (aR I q (by simp))
  | bl j=>cases ry;exact PySem.EqMixed.eq_str_bool (aR I q (by simp))
  | int j=>obtain⟨t',rfl⟩:=ry;exact PySem.EqMixed.eq_str_int (aR I q (by simp))
  | str j=>obtain⟨t',rfl⟩:=ry;exact eq_str (aR I q sY)
  | _=>exact absurd (show false=true from hs) Bool.false_ne_true
 | byt i=>
  obtain⟨t,rfl⟩:=rx
  cases y with
  | byt j=>obtain⟨t',rfl⟩:=ry;exact PySem.W.eq_bytes (aR I q s_)
  | _=>exact absurd (show false=true from hs) Bool.false_ne_true
 | _=>cases y<;>exact absurd (show false=true from hs) Bool.false_ne_true
theorem Ds:iN X (compareOp .NotEq) Gx:=by
 intro pins s σ H x y v u Q I rx ry h
 obtain⟨hs,q⟩:=h
 cases x with
 | non=>
  cases rx
  cases y with
  | non=>cases ry;exact PySem.EqNone.ne_none_none (aR I q (by simp))
  | bl j=>cases ry;exact PySem.EqNone.ne_none_bool (aR I q (by simp))
  | int j=>obtain⟨t',rfl⟩:=ry;exact PySem.EqNone.ne_none_int (aR I q (by simp))
  | str j=>obtain⟨t',rfl⟩:=ry;exact PySem.EqNone.ne_none_str (aR I q (by simp))
  | _=>exact absurd (show false=true from hs) Bool.false_ne_true
 | bl i=>
  cases rx
  cases y with
  | non=>cases ry;exact PySem.EqNone.ne_bool_none (aR I q (by simp))
  | bl j=>cases ry;exact ne_bool (aR I q (congrArg not xU))
  | str j=>obtain⟨t',rfl⟩:=ry;exact PySem.EqMixed.ne_bool_str (aR I q (by simp))
  | _=>exact absurd (show false=true from hs) Bool.false_ne_true
 | int i=>
  obtain⟨t,rfl⟩:=rx
  cases y with
  | non=>cases ry;exact PySem.EqNone.ne_int_none (aR I q (by simp))
  | int j=>obtain⟨t',rfl⟩:=ry;exact ne_int (aR I q (congrArg not sZ))
  | str j=>obtain⟨t',rfl⟩:=ry;exact PySem.EqMixed.ne_int_str (aR I q (by simp))
  | _=>exact absurd (show false=true from hs) Bool.false_ne_true
 | str i=>
  obtain⟨t,rfl⟩:=rx
  cases y with
  | non=>cases ry;exact PySem.EqNone.ne_str_none (aR I q (by simp))
  | bl j=>cases ry;exact PySem.EqMixed.ne_str_bool (aR I q (by simp))
  | int j=>obtain⟨t',rfl⟩:=ry;exact PySem.EqMixed.ne_str_int (aR I q (by simp))
  | str j=>obtain⟨t',rfl⟩:=ry;exact ne_str (aR I q (congrArg not sY))
  | _=>exact absurd (show false=true from hs) Bool.false_ne_true
 | byt i=>
  obtain⟨t,rfl⟩:=rx
  cases y with
  | byt j=>obtain⟨t',rfl⟩:=ry;exact PySem.W.ne_bytes (aR I q (congrArg not s_))
  | _=>exact absurd (show false=true from hs) Bool.false_ne_true
 | _=>cases y<;>exact absurd (show false=true from hs) Bool.false_ne_true
theorem Dt:iN X (compareOp .Lt) (Bi fun i j=>.bl (decide (i < j))):=Dx fun _ _ _ _ _ _ _ q=>lt_int q
theorem Du:iN X (compareOp .LtE) (Bi fun i j=>.bl (decide (i<=j))):=Dx fun _ _ _ _ _ _ _ q=>le_int q
theorem uk:iN X (compareOp .Lt) (fun x y H Q=>∃i j,x=.str i/\y=.str j/\Q (.bl (decide (i.cps.toList < j.cps.toList))) H):=by
 intro pins s σ H x y v u Q I rx ry h
 obtain⟨i,j,rfl,rfl,q⟩:=h
 obtain⟨t,rfl⟩:=rx
 obtain⟨t',rfl⟩:=ry
 exact lt_str (aR I q rfl)
theorem um:iN X (compareOp .In) (fun x y H Q=>∃i j,x=.str i/\y=.str j/\Q (.bl (!(Builtin.Str.occurrences j i 0 j.length 1).isEmpty)) H):=by
 intro pins s σ H x y v u Q I rx ry h
 obtain⟨i,j,rfl,rfl,q⟩:=h
 obtain⟨t,rfl⟩:=rx
 obtain⟨t',rfl⟩:=ry
 exact in_str (aR I q rfl)
theorem sx {op:CmpOp} {r:R2} (ho:iN X (compareOp op) r) (ha:PE X a ta) (hb:PE X b tb) (hm:behindInMarks op b=false):PE X (.Compare a [op] [b] pos) (EL r ta tb):=by
 intro pins s σ H Q I h
 exact wpAny_Compare1 (Ae ha hb I h fun v u s2 x y H2 I2 rx ry q=>ho pins s2 σ H2 x y v u Q I2 rx ry q) hm
noncomputable def Au (t:TE):TT:=fun σ H Q=>t σ H fun x H'=>∃k,x=.bl k/\Q k H'
theorem sj {op:CmpOp} {r:R2} (ho:iN X (compareOp op) r) (ha:PE X a ta) (hb:PE X b tb) (hm:behindInMarks op b=false):PT X (.Compare a [op] [b] pos) (Au (EL r ta tb)):=by
 intro pins s σ H Q I h
 refine wpAny_isTrue_Compare1 (bV (ha pins s σ H _ I h) fun v s1 ⟨x,H1,I1,r1,q1⟩=>bV (hb pins s1 σ H1 _ I1 q1) fun u s2 ⟨y,H2,I2,r2,q2⟩=>
  bV (ho pins s2 σ H2 x y v u _ I2 r1 r2 q2) fun c s3 ⟨z,H3,I3,r3,k,e,q3⟩=>?_) hm
 subst e
 cases r3
 exact wpAny_truthy_bool ⟨H3,I3,q3⟩
noncomputable def vy (r r':R2) (ta tb tc:TE):TE:=fun σ H Q=>ta σ H fun x H1=>tb σ H1 fun y H2=>r x y H2 fun z H3=>∃k,z=.bl k/\
 (if k=true then tc σ H3 fun w' H4=>r' y w' H4 Q else Q (.bl false) H3)
theorem wt {op op':CmpOp} {r r':R2} (ho:iN X (compareOp op) r) (ho':iN X (compareOp op') r') (ha:PE X a ta) (hb:PE X b tb) (hc:PE X c tc)
  (hm:lastMarks [op,op'] [b,c]=false:=by with_unfolding_all rfl):PE X (.Compare a [op,op'] [b,c] pos) (vy r r' ta tb tc):=by
 intro pins s σ H Q I h
 refine Compare_chain (bV (ha pins s σ H _ I h) fun v s1 ⟨x,H1,I1,r1,q1⟩=>chain_link (bV (hb pins s1 σ H1 _ I1 q1) fun u s2 ⟨y,H2,I2,r2,q2⟩=>
  bV (ho pins s2 σ H2 x y v u _ I2 r1 r2 q2) fun d s3 ⟨z,H3,I3,r3,k,e,q3⟩=>?_)) hm
 subst e
 cases r3
 refine wpAny_truthy_bool ?_
 cases k with
 | false=>exact ite_ff ⟨.bl false,H3,I3,rfl,q3⟩
 | true=>exact ite_tt (chain_last (bV (hc pins s3 σ H3 _ I3 q3) fun w' s4 ⟨z',H4,I4,r4,q4⟩=>ho' pins s4 σ H4 y z' u w' Q I4 r2 r4 q4))
theorem vQ {op op':CmpOp} {r r':R2} (ho:iN X (compareOp op) r) (ho':iN X (compareOp op') r') (ha:PE X a ta) (hb:PE X b tb) (hc:PE X c tc)
  (hm:lastMarks [op,op'] [b,c]=false:=by with_unfolding_all rfl):PT X (.Compare a [op,op'] [b,c] pos) (Au (vy r r' ta tb tc)):=by
 intro pins s σ H Q I h
 refine isTrue_chain (bV (ha pins s σ H _ I h) fun v s1 ⟨x,H1,I1,r1,q1⟩=>test_link (bV (hb pins s1 σ H1 _ I1 q1) fun u s2 ⟨y,H2,I2,r2,q2⟩=>
  bV (ho pins s2 σ H2 x y v u _ I2 r1 r2 q2) fun d s3 ⟨z,H3,I3,r3,k,e,q3⟩=>?_)) hm
 subst e
 cases r3
 refine wpAny_truthy_bool ?_
 cases k with
 | false=>
  obtain⟨k',e',q'⟩:=q3
  cases e'
  exact ite_ff ⟨H3,I3,q'⟩
 | true=>
  refine ite_tt (test_last (bV (hc pins s3 σ H3 _ I3 q3) fun w' s4 ⟨z',H4,I4,r4,q4⟩=>bV (ho' pins s4 σ H4 y z' u w' _ I4 r2 r4 q4) fun d' s5 ⟨z2,H5,I5,r5,k2,e2,q5⟩=>?_))
  subst e2
  cases r5
  exact wpAny_truthy_bool ⟨H5,I5,q5⟩
noncomputable def FG (K:PySem.W.Frag) (x:V) (H:Hp) (k:Bool):Prop:=
 match x with
 | .non=>k=false
 | .bl b=>k=b
 | .int i=>k=(i != 0)
 | .str y=>y.length<=sizeLine/\k=((y.length:Int) != 0)
 | .byt y=>y.size<=sizeLine/\k=((y.size:Int) != 0)
 | .ref p=>(∃ xs,kL K H p xs/\k=!xs.isEmpty)\/(∃ xs,qo K H p xs/\k=!xs.isEmpty)\/∃kvs,H p=some (.dK kvs)/\k=!kvs.isEmpty
 | _=>False
theorem rn {κ:Type} {kvs:List (κ × V)} {vs:List (κ × Value)} (r:KV kvs vs):(!vs.isEmpty)=!kvs.isEmpty:=by
 cases r<;>rfl
theorem lG {xs:List V} {its:List Value} (r:Vals xs its):(!its.toArray.isEmpty)=!xs.isEmpty:=by
 cases r<;>simp
theorem iw:(sizeLine:Nat) < 2 ^ 63:=by rw[sizeLine_eq];decide
theorem AU:EC X (fun x H Q=>∃k,FG X.K x H k/\Q k H):=by
 intro pins s σ H x v Q I rx h
 obtain⟨k,e,q⟩:=h
 have hl:=iw
 have hs:sizeLine=16777216:=sizeLine_eq
 cases x with
 | non=>
  cases rx
  have e':k=false:=e
  subst e'
  exact truthy_none ⟨H,I,q⟩
 | bl b=>
  cases rx
  have e':k=b:=e
  subst e'
  exact wpAny_truthy_bool ⟨H,I,q⟩
 | int i=>
  obtain⟨t,rfl⟩:=rx
  have e':k=(i != 0):=e
  subst e'
  exact PySem.P.truthy_int ⟨H,I,q⟩
 | str y=>
  obtain⟨t,rfl⟩:=rx
  obtain⟨hy,e'⟩:y.length<=sizeLine/\k=((y.length:Int) != 0):=e
  subst e'
  exact PySem.P.truthy_str (by omega) ⟨H,I.tok _,q⟩
 | byt y=>
  obtain⟨t,rfl⟩:=rx
  obtain⟨hy,e'⟩:y.size<=sizeLine/\k=((y.size:Int) != 0):=e
  subst e'
  exact PySem.W.truthy_bytes (by omega) ⟨H,I.tok _,q⟩
 | ref p=>
  cases rx
  have e':(∃ xs,kL X.K H p xs/\k=!xs.isEmpty)\/(∃ xs,qo X.K H p xs/\k=!xs.isEmpty)\/∃kvs,H p=some (.dK kvs)/\k=!kvs.isEmpty:=e
  rcases e' with ⟨xs,hx,e'⟩ | ⟨xs,hx,e'⟩ | ⟨kvs,hx,e'⟩
  ·subst e'
   obtain⟨its,r,pl,hz⟩:=I.list hx
   have hlen:=r.length
   exact wpAny_truthy_list pl.isList (by simp only[List.size_toArray];omega) ⟨H,I.tok _,by rw[lG r];exact q⟩
  ·subst e'
   obtain⟨its,r,pl,hz⟩:=I.tuple hx
   have hlen:=r.length
   exact truthy_tuple pl (by simp only[List.size_toArray];omega) ⟨H,I.tok _,by rw[lG r];exact q⟩
  ·subst e'
   obtain⟨hz,hS,vs,r,m⟩:kvs.length<=sizeLine/\(p == sysModules)=false/\∃vs,KV kvs vs/\s.heap.DictOf (aG X.prog X.w) p vs:=I.aW p _ hx
   have hlen:kvs.length=vs.length:=Paired.length r
   exact wpAny_truthy_dict hS m (by omega) ⟨H,I.tok _,by rw[rn r];exact q⟩
 | _=>exact(show False from e).elim
theorem qS:iN X (binaryOp .Add) (fun x y H Q=>∃i j,x=.str i/\y=.str j/\i.length + j.length<=sizeLine/\Q (.str (i++j)) H):=by
 intro pins s σ H x y v u Q I rx ry h
 obtain⟨i,j,rfl,rfl,hz,q⟩:=h
 obtain⟨t,rfl⟩:=rx
 obtain⟨t',rfl⟩:=ry
 exact add_str (fun t' tk=>⟨.str (i++j),H,I.tok _,⟨_,rfl⟩,q⟩) hz
theorem vals1 {x:V} {us:List Value} (r:Vals [x] us):∃u,us=[u]/\RelV x u:=by
 cases r with
 | cons r1 r2=>cases r2;exact⟨_,rfl,r1⟩
theorem vals2 {x y:V} {us:List Value} (r:Vals [x,y] us):∃u w',us=[u,w']/\RelV x u/\RelV y w':=by
 cases r with
 | cons r1 r2=>
  cases r2 with
  | cons r3 r4=>cases r4;exact⟨_,_,rfl,r1,r3⟩
theorem x_:ij X (.builtin "abs") (fun xs H Q=>∃i,xs=[.int i]/\Q (.int (if i < 0 then -i else i)) H):=by
 intro pins s σ H xs us Q I r h
 obtain⟨i,rfl,q⟩:=h
 obtain⟨u,rfl,t,rfl⟩:=vals1 r
 exact call_abs_int fun u tk=>⟨.int (if i < 0 then -i else i),H,I.tok _,⟨_,rfl⟩,q⟩
theorem uZ (hc:X.calm=true):ij X (.builtin "max") (fun xs H Q=>∃i j,xs=[.int i,.int j]/\Q (.int (if j > i then j else i)) H):=by
 intro pins s σ H xs us Q I r h
 obtain⟨i,j,rfl,q⟩:=h
 obtain⟨u,w',rfl,⟨t,rfl⟩,⟨t',rfl⟩⟩:=vals2 r
 refine max_two_ints (I.ok.hd hc) fun h' tk k=>⟨_,H,I.kept k,?_,q⟩
 by_cases hj:j > i
 ·rw[if_pos hj,if_pos hj];exact⟨_,rfl⟩
 ·rw[if_neg hj,if_neg hj];exact⟨_,rfl⟩
theorem u0:ij X (.type "int") (fun xs H Q=>(∃ i,xs=[.int i]/\Q (.int i) H)\/∃k,xs=[.bl k]/\Q (.int (if k then 1 else 0)) H):=by
 intro pins s σ H xs us Q I r h
 rcases h with ⟨i,rfl,q⟩ | ⟨k,rfl,q⟩
 ·obtain⟨u,rfl,t,rfl⟩:=vals1 r
  exact call_int_int ⟨.int i,H,I,⟨_,rfl⟩,q⟩
 ·obtain⟨u,rfl,r1⟩:=vals1 r
  cases r1
  exact call_int_bool ⟨.int (if k then 1 else 0),H,I.tok _,⟨_,rfl⟩,q⟩
theorem oC:ij X (.type "str") (fun xs H Q=>∃i,xs=[.int i]/\i.natAbs.log2 < 1920/\Q (.str (toString i)) H):=by
 intro pins s σ H xs us Q I r h
 obtain⟨i,rfl,hz,q⟩:=h
 obtain⟨u,rfl,t,rfl⟩:=vals1 r
 exact PySem.P.str_of_int hz ⟨.str _,H,I.tok _,⟨_,rfl⟩,q⟩
end
end L2
namespace L2
open PySem PySem.Spec PyProof.Rows
structure CS (h:Heap) (x dx C:Addr) (mA:Str->Option Value):Prop where
 obj:h.get? x=some (PySem.W.instObj C dx)
 ns:h.Ns1 dx mA
 ne:dx ≠ x
theorem uH {h:Heap} {dx:Addr} {mA:Str->Option Value} (n:h.Ns1 dx mA):∃od,h.get? dx=some od/\∀name,PySem.W.lookIn name od=some (mA name):=by
 obtain⟨o,es,ep,ho,hd,hk,_,hm⟩:=n
 refine⟨o,ho,fun name=>?_⟩
 have e:=hm name
 unfold nsFind findBy at e
 rw[<-Array.find?_toList]at e
 unfold PySem.W.lookIn
 rw[hd]
 dsimp only
 split
 ·rename_i y q
  rw[q]at e
  exact congrArg some e
 ·rename_i q
  rw[q]at e
  have a:es.toList.any (·.refKey)=false:=by
   rw[List.any_eq_false]
   intro y hy
   obtain⟨z,t,hkey⟩:=hk y (Array.mem_toList_iff.mp hy)
   simp[DictEntry.refKey,hkey]
  have a':¬es.toList.any (·.refKey)=true:=by rw[a];exact Bool.false_ne_true
  rw[if_neg a']
  exact congrArg some e
theorem CS.look {h:Heap} {x dx C:Addr} {mA:Str->Option Value} (I:CS h x dx C mA):∃od,PySem.W.InstAt h x (PySem.W.instObj C dx) C (some od)/\∀name,PySem.W.lookIn name od=some (mA name):=
 let ⟨od,ho,hl⟩:=uH I.ns
 ⟨od,⟨I.obj,rfl,rfl,ho⟩,hl⟩
section
variable {prog:Program} {w:World} {A:Around} {E:Value->Shared->Prop} {s:Shared} {K:PySem.W.Frag} {x dx C f:Addr} {mA:Str->Option Value} {name:Str} {v:Value}
end
theorem ke.some_of {v:V} {o:Option Value} (r:ke (some v) o):∃u,o=some u/\RelV v u:=by
 cases o with
 | none=>exact(show False from r).elim
 | some u=>exact⟨u,rfl,r⟩
section
variable {P:Program} {w:World} {H H':Hp} {h h':Heap} {a C dx:Addr} {fs fs':List (Str × V)}
theorem zN (aW:fK P w H h) (e:H a=some (.ins C dx fs)):∃mA,CS h a dx C mA/\(∀ f,ke (fs.lookup f) (mA f))/\PySem.Within mA (fs.map (·.1))/\fs.length<=1000/\H dx=some (.own a):=by
 obtain⟨d,z,ne,ob,mA,n,r,q⟩:=(show bU P w H h a (.ins C dx fs)from aW a _ e)
 exact⟨mA,⟨ob,n,ne⟩,r,q,z,d⟩
end
structure Ga (K:PySem.W.Frag) (C:Addr):Prop where
 pg:PySem.W.plainGet K C Str.empty=true
 hd:PySem.W.hasDictIn K C=true
 po:PySem.W.plainOver K C=true
 sa:PySem.W.findIn K (.ref C) "__setattr__" =some (some (.builtin "object.__setattr__"))
theorem Ga.get {K:PySem.W.Frag} {C:Addr} (c:Ga K C) (f:Str):PySem.W.plainGet K C f=true:=c.pg
section
variable {X:Cx} {pins:List (Addr × Obj)} {σ:St} {H:Hp} {s:Shared} {a C dx:Addr} {fs:List (Str × V)} {f:Str} {v:V} {A:Around} {E:Value->Shared->Prop}
end
section
variable {X:Cx} {o e value:Expr} {f:Str} {pos pos' tpos:Pos} {ta tv:TE}
end
section
variable {X:Cx} {pins:List (Addr × Obj)} {σ:St} {H:Hp} {s:Shared} {A:Around} {E:Value->Shared->Prop} {Q:Value->Shared->Prop} {c:Value} {b:Bool}
inductive jQ (K:PySem.W.Frag) (H:Hp):V->Value->Prop where
 | non:jQ K H .non (.type "NoneType")
 | bl (x:Bool):jQ K H (.bl x) (.type "bool")
 | int (i:Int):jQ K H (.int i) (.type "int")
 | str (x:Str):jQ K H (.str x) (.type "str")
 | flt (x:UInt64):jQ K H (.flt x) (.type "float")
 | lst {a:Addr} {xs:List V} (e:H a=some (.lst xs)):jQ K H (.ref a) (.type "list")
 | frz {a:Addr} {o:Obj} {xs:List V} (e:H a=some (.frz o (.lst xs))):jQ K H (.ref a) (.type "list")
 | tup {a:Addr} {xs:List V} (e:H a=some (.tup xs)):jQ K H (.ref a) (.type "tuple")
 | dK {a:Addr} {kvs:List (Key × V)} (e:H a=some (.dK kvs)):jQ K H (.ref a) (.type "dict")
 | dT {a:Addr} {kvs:List (List Key × V)} (e:H a=some (.dT kvs)):jQ K H (.ref a) (.type "dict")
 | ins {a C dx:Addr} {fs:List (Str × V)} (e:H a=some (.ins C dx fs)) (cl:Ga K C) (ha:PySem.W.findIn K (.ref C) "__class__" =some (some (.builtin "object.__class__")))
   (hn:PySem.W.specialIn K (.builtin "object.__class__") "__get__" =some (some (.builtin "getset_descriptor.__get__"))) (htk:PySem.W.takesIn K (.builtin "object.__class__")=some true)
   (hm:PySem.W.mroIn K C (.type "object")=some true):jQ K H (.ref a) (.ref C)
theorem uP {x:V} {u t:Value} (I:Inv X pins σ H s) (rx:RelV x u) (ty:jQ X.K H x t) (e:PySem.W.kitOne X.K t c=some b) (h:∀tk,Q (.bool b) {s with toks:=tk}):
  wpAny (model X.prog X.w) A (call (.builtin "isinstance") [u,c]) Q E s:=by
 cases ty with
 | non=>cases (show u=Value.none from rx);exact PySem.W.kia_one PySem.W.kitx_none I.jF True.intro e (fun z=>nomatch z) h
 | bl y=>cases (show u=Value.bool y from rx);exact PySem.W.kia_one PySem.W.kitx_bool I.jF True.intro e (fun z=>nomatch z) h
 | int i=>obtain⟨t,q⟩:=(show ∃t,u=Value.int i t from rx);cases q;exact PySem.W.kia_one PySem.W.kitx_int I.jF True.intro e (fun z=>nomatch z) h
 | str y=>obtain⟨t,q⟩:=(show ∃t,u=Value.str y t from rx);cases q;exact PySem.W.kia_one PySem.W.kitx_str I.jF True.intro e (fun z=>nomatch z) h
 | flt y=>obtain⟨t,q⟩:=(show ∃t,u=Value.float y t from rx);cases q;exact PySem.W.kia_one PySem.W.kitx_float I.jF True.intro e (fun z=>nomatch z) h
 | @lst a xs ea=>
  cases (show u=Value.ref a from rx)
  obtain⟨_,_,n,_,h1⟩:=(show bU X.prog X.w H s.heap a (.lst xs)from I.aW a _ ea)
  exact PySem.W.kia_one PySem.W.kitx_list I.jF ⟨_,h1,rfl⟩ e (fun z=>nomatch z) h
 | @frz a ob xs ea=>
  cases (show u=Value.ref a from rx)
  obtain⟨_,_,_,n,_,h1⟩:=(show bU X.prog X.w H s.heap a (.frz ob (.lst xs))from I.aW a _ ea)
  exact PySem.W.kia_one PySem.W.kitx_list I.jF ⟨_,h1,rfl⟩ e (fun z=>nomatch z) h
 | @tup a xs ea=>
  cases (show u=Value.ref a from rx)
  obtain⟨_,_,_,p⟩:=(show bU X.prog X.w H s.heap a (.tup xs)from I.aW a _ ea)
  obtain⟨o,h1,h2,_⟩:=p
  exact PySem.W.kia_one PySem.W.kitx_tuple I.jF ⟨o,h1,h2⟩ e (fun z=>nomatch z) h
 | @dK a kvs ea=>
  cases (show u=Value.ref a from rx)
  obtain⟨_,_,vs,_,p⟩:=(show bU X.prog X.w H s.heap a (.dK kvs)from I.aW a _ ea)
  obtain⟨o,es,ep,h1,h2,_⟩:=p
  exact PySem.W.kia_one PySem.W.kitx_dict I.jF ⟨o,h1,h2.1⟩ e (fun z=>nomatch z) h
 | @dT a kvs ea=>
  cases (show u=Value.ref a from rx)
  obtain⟨_,_,xs,_,o,es,ep,h1,h2,_⟩:=(show bU X.prog X.w H s.heap a (.dT kvs)from I.aW a _ ea)
  exact PySem.W.kia_one PySem.W.kitx_dict I.jF ⟨o,h1,h2.1⟩ e (fun z=>nomatch z) h
 | @ins a C dx fs ea cl ha hn htk hm=>
  cases (show u=Value.ref a from rx)
  obtain⟨mA,O,_⟩:=zN I.aW ea
  obtain⟨od,J,_⟩:=O.look
  exact PySem.W.kia_one (PySem.W.kitx_own (cl.get _) cl.hd ha hn htk hm) I.jF J e (fun z=>nomatch z) h
end
end L2
namespace L2
open PySem PySem.Spec PyProof.Rows
structure eS (k:Nat) (A:Around):Prop where
 hd:A.handled=none
 dp:A.depth + 3 * k + 5 < recursionLimit
 un:A.units + 16 * k + 200 < cLine
theorem eS.mono {j k:Nat} {A:Around} (r:eS k A) (h:j<=k):eS j A:=⟨r.hd,by have:=r.dp;omega,by have:=r.un;omega⟩
theorem eS.deeper {k:Nat} {A:Around} (r:eS (k + 1) A) (env:Env):eS k (A.deeper env):=
 ⟨r.hd,by have:=r.dp;show A.depth + 1 + 3 * k + 5 < _;omega,by have:=r.un;show A.units + 3 + 16 * k + 200 < _;omega⟩
theorem eS.depth {k:Nat} {A:Around} (r:eS k A):A.depth < recursionLimit:=by have:=r.dp;omega
theorem eS.units {k:Nat} {A:Around} (r:eS k A):A.units + 64 < cLine:=by have:=r.un;omega
noncomputable def Fb:TA:=fun _ H Q=>Q [] H
noncomputable def Dc (ta:TE) (tr:TA):TA:=fun σ H Q=>ta σ H fun x H1=>tr σ H1 fun xs H2=>Q (x::xs) H2
section
variable {X:Cx} {e:Expr} {es:List Expr} {te:TE} {t:TA} {pos:Pos}
theorem BB:PA X [] Fb:=fun _ _ _ _ H Q I h=>Calls.spliced_nil ⟨[],H,I,.nil,h⟩
theorem zq (ha:PE X e te) (hr:PA X es t) (hs:starEach (e::es) X.env=(false,eval e X.env)::starEach es X.env:=by rfl):PA X (e::es) (Dc te t):=by
 intro pos pins s σ H Q I h
 rw[hs]
 show wpAny _ _ (spliced ((false,eval e X.env)::backTo pos (starEach es X.env))) _ _ s
 refine Calls.spliced_cons (bV (ha pins s σ H _ I h) fun u s1 ⟨x,H1,I1,r1,q1⟩=>?_)
 exact bV (hr pos pins s1 σ H1 _ I1 q1) fun us s2 ⟨xs,H2,I2,r2,q2⟩=>⟨x::xs,H2,I2,.cons r1 r2,q2⟩
end
@[reducible] noncomputable def Sp:=List V->Hp->VK->XK->Prop
@[reducible] noncomputable def rQ:=List Env->Hp->Shared->XK->Value->Shared->Prop
structure lV (P:Program) (w:World) (K:PySem.W.Frag) (mg:Str->Option Value) (base:Heap) (A:Around) (outer:List Env) (s:Shared) (H:Hp):Prop where
 frames:A.frames=some outer
 mod:Mod K mg base
 bs:∀b o,base.get? b=some o->s.heap.get? b=some o/\H b=none
 tE:base.objs.size<=s.heap.objs.size
 iB:s.heap.FunFrames base outer
 xA:∀b ∈ sR outer,H b=none
 aW:fK P w H s.heap
 bare:AllBare s.gens
noncomputable def CE (outer:List Env) (P:Program) (w:World) (H:Hp) (s:Shared) (Q:VK) (u:Value) (s':Shared):Prop:=
 ∃v H',s'.os=s.os/\AllBare s'.gens/\Un (sR outer) [] H H' s.heap s'.heap/\fK P w H' s'.heap/\RelV v u/\Q v H'
noncomputable def CR (CX:rQ) (outer:List Env) (P:Program) (w:World) (H:Hp) (s:Shared) (Q:VK) (E:XK) (r:Result) (s':Shared):Prop:=
 match r with
 | .ok (.ret u)=>CE outer P w H s Q u s'
 | .ok _=>False
 | .error e=>CX outer H s E e s'
structure cO (P:Program) (w:World) (K:PySem.W.Frag) (mg:Str->Option Value) (base:Heap) (CX:rQ) (k:Nat) (f:Addr) (fd:FuncData) (ps:List Str) (sp:Sp):Prop where
 len:∀vs H Q E,sp vs H Q E->vs.length=ps.length
 run:∀ (A:Around) (outer:List Env) (s:Shared) (H:Hp) (args:Args) (us:List Value) (vs:List V) (Q:VK) (E:XK),eS k A->lV P w K mg base A outer s H->BindsTo s fd args (ps.zip us)->Vals vs us->sp vs H Q E->
  codeAny (model P w) A (.call (.ref f) args) (CR CX outer P w H s Q E) s
theorem cO.mono {P:Program} {w:World} {K:PySem.W.Frag} {mg:Str->Option Value} {base:Heap} {CX:rQ} {j k:Nat} {f:Addr} {fd:FuncData} {ps:List Str} {sp:Sp} (F:cO P w K mg base CX j f fd ps sp) (h:j<=k):
  cO P w K mg base CX k f fd ps sp:=⟨F.len,fun A outer s H args us vs Q E hr=>F.run A outer s H args us vs Q E (hr.mono h)⟩
theorem cO.imp {P:Program} {w:World} {K:PySem.W.Frag} {mg:Str->Option Value} {base:Heap} {CX:rQ} {k:Nat} {f:Addr} {fd:FuncData} {ps:List Str} {sp sp':Sp} (F:cO P w K mg base CX k f fd ps sp)
  (h:∀vs H Q E,sp' vs H Q E->sp vs H Q E):cO P w K mg base CX k f fd ps sp':=
 ⟨fun vs H Q E q=>F.len vs H Q E (h _ _ _ _ q),fun A outer s H args us vs Q E hr he hb hv hs=>F.run A outer s H args us vs Q E hr he hb hv (h _ _ _ _ hs)⟩
section
variable {X:Cx} {pins:List (Addr × Obj)} {σ:St} {H:Hp} {s s':Shared}
theorem Inv.iD (I:Inv X pins σ H s):lV X.prog X.w X.K X.mg X.base X.A X.stack s H:=
 ⟨I.ok.frames,I.ok.mod,I.bs,Nat.le_trans I.ok.tE I.sz,I.stack,I.nH,I.aW,I.bare⟩
theorem Inv.after {Q:VK} {u:Value} (I:Inv X pins σ H s) (h:CE X.stack X.prog X.w H s Q u s'):EP X pins σ Q u s':=by
 obtain⟨v,H',os,bare,un,aW,r,q⟩:=h
 obtain⟨hh,g,d,t,os'⟩:=s'
 obtain rfl:os'=s.os:=os
 exact⟨v,H',I.call (h':=hh) (g':=g) (d':=d) (t':=t) (ch:=[]) un aW bare (fun b z=>absurd z (by simp)),r,q⟩
end
noncomputable def Binds (K:PySem.W.Frag) (fd:FuncData) (ps:List Str) (ds:List Value):Prop:=
 ∀ (s:Shared) (us:List Value),K.In s.heap->(us++ds).length=ps.length->BindsTo s fd ⟨us,[]⟩ (ps.zip (us++ds))
theorem Binds.all {K:PySem.W.Frag} {fd:FuncData} {ps:List Str} (h:∀us:List Value,us.length=ps.length->bindArgs fd ⟨us,[]⟩=pure (ps.zip us)):Binds K fd ps []:=fun s us _ hl=>by
 rw[List.append_nil]at hl ⊢
 exact .of_eq (h us hl)
section
variable {X:Cx} {CX:rQ} {k:Nat} {f C:Addr} {fd:FuncData} {ps:List Str} {sp:Sp} {dvs:List V} {ds:List Value} {E:XK} {x m:Str} {p pos apos:Pos} {e o:Expr} {es:List Expr} {ta:TE} {t:TA}
end
section
variable {X:Cx} {CX:rQ} {k:Nat} {f C:Addr} {fd:FuncData} {ps ks:List Str} {sp:Sp} {E:XK} {x m:Str} {p pos apos kpos:Pos} {e o:Expr} {es:List Expr} {kws:List Keyword} {te ta:TE} {t tk:TA} {nm:Option Str}
variable {g:List Value->List Value->List Value} {gV:List V->List V->List V}
end
structure aF (N P:List Str) (sc:Scope):Prop where
 kind:sc.kind=.function
 co:sc.isCoroutine=false
 gen:sc.isGenerator=false
 nd:N.Nodup
 pre:N.take P.length=P
 par:∀x ∈ P,sc.names.lookup x=some .local\/sc.names.lookup x=some .cell
 BW:∀y ∈ sc.names,y.2 ≠ .free
theorem ni {kindOf:Str->Option NameKind} {x:Str}:∀ {binds:List (Str × Value)} {m:Str->Option Value},(∀ v,(x,v) ∉ binds)->bindL kindOf binds m x=m x
 | [],_,_=>rfl
 | (n,v)::r,m,h=>by
  unfold bindL
  rw[ni fun w hw=>h w (List.mem_cons_of_mem _ hw)]
  split
  ·have:x ≠ n:=by rintro rfl;exact h v List.mem_cons_self
   simp[this]
  ·rfl
theorem nj {kindOf:Str->Option NameKind} {x:Str}:∀ {binds:List (Str × Value)} {m:Str->Option Value},(∀ v,(x,v) ∉ binds)->bindC kindOf binds m x=m x
 | [],_,_=>rfl
 | (n,v)::r,m,h=>by
  unfold bindC
  rw[nj fun w hw=>h w (List.mem_cons_of_mem _ hw)]
  split
  ·rfl
  ·have:x ≠ n:=by rintro rfl;exact h v List.mem_cons_self
   simp[this]
theorem jL {kindOf:Str->Option NameKind} {x:Str} {v:Value}:∀ {P:List Str} {vs:List Value} {i:Nat} {m:Str->Option Value},P.Nodup->P[i]?=some x->vs[i]?=some v->kindOf x=some .local->
  bindL kindOf (P.zip vs) m x=some v
 | [],_,_,_,_,h,_,_=>by simp at h
 | _::_,[],_,_,_,_,h,_=>by simp at h
 | p::P,w::vs,0,m,nd,h1,h2,hk=>by
  simp at h1 h2;subst h1;subst h2
  show bindL kindOf ((p,w)::P.zip vs) m p=_
  unfold bindL
  rw[ni fun v hv=>(List.nodup_cons.mp nd).1 (List.of_mem_zip hv).1,if_pos hk]
  simp
 | p::P,w::vs,i + 1,m,nd,h1,h2,hk=>by
  show bindL kindOf ((p,w)::P.zip vs) m x=_
  unfold bindL
  exact jL (i:=i) (List.nodup_cons.mp nd).2 (by simpa using h1) (by simpa using h2) hk
theorem jM {kindOf:Str->Option NameKind} {x:Str} {v:Value}:∀ {P:List Str} {vs:List Value} {i:Nat} {m:Str->Option Value},P.Nodup->P[i]?=some x->vs[i]?=some v->kindOf x ≠ some .local->
  bindC kindOf (P.zip vs) m x=some v
 | [],_,_,_,_,h,_,_=>by simp at h
 | _::_,[],_,_,_,_,h,_=>by simp at h
 | p::P,w::vs,0,m,nd,h1,h2,hk=>by
  simp at h1 h2;subst h1;subst h2
  show bindC kindOf ((p,w)::P.zip vs) m p=_
  unfold bindC
  rw[nj fun v hv=>(List.nodup_cons.mp nd).1 (List.of_mem_zip hv).1,if_neg hk]
  simp
 | p::P,w::vs,i + 1,m,nd,h1,h2,hk=>by
  show bindC kindOf ((p,w)::P.zip vs) m x=_
  unfold bindC
  exact jM (i:=i) (List.nodup_cons.mp nd).2 (by simpa using h1) (by simpa using h2) hk
noncomputable def start (N:List Str) (vs:List V):St:=vs.map some++List.replicate (N.length - vs.length) none
noncomputable def gu (CX:rQ) (P:Program) (w:World) (K:PySem.W.Frag) (mg:Str->Option Value) (base:Heap) (N:List Str) (qual:Str) (scope:Scope) (f:Addr) (cd:Value) (A:Around) (outer:List Env) (s:Shared) (H:Hp) (E:XK):Cx where
 prog:=P
 w:=w
 K:=K
 mg:=mg
 base:=base
 A:=A.deeper (envOfC qual scope s.heap.objs.size f cd)
 N:=N
 s₀:=s
 H₀:=H
 env:=envOfC qual scope s.heap.objs.size f cd
 outer:=outer
 stack:=envOfC qual scope s.heap.objs.size f cd::outer
 ex:=[]
 calm:=true
 fn:=fun _=>true
 pn:=[]
 xe:=fun e s'=>wpAny (model P w) (A.deeper (envOfC qual scope s.heap.objs.size f cd)) (leaving (envOfC qual scope s.heap.objs.size f cd) e) (fun _ s''=>CX outer H s E e s'') (fun e' s''=>CX outer H s E e' s'') s'
theorem gA {sc:Scope} {n:Nat} {x:Str} (h:sc.names.lookup x=some .cell):∃c,(cellsFrom n sc.names []).lookup x=some c:=by
 have q:=PySem.W.cellsFrom_some sc.names n [] (.inl h)
 exact Option.isSome_iff_exists.mp q
theorem mZ {CX:rQ} {P:Program} {w:World} {K:PySem.W.Frag} {mg:Str->Option Value} {base:Heap} {N ps:List Str} {qual:Str} {scope:Scope} {f:Addr} {cd:Value} {A:Around} {outer:List Env} {s s1:Shared} {H:Hp} {E:XK} {us:List Value} {vs:List V}
  (S:aF N ps scope) (hd:A.handled=none) (e0:lV P w K mg base A outer s H) (hl:vs.length=ps.length) (r:Vals vs us)
  (x:InCallC s s.heap.objs.size (bindL (envOfC qual scope s.heap.objs.size f cd).kindOf (ps.zip us) fun _=>none) (cellsFrom (s.heap.objs.size + 1) scope.names []) (bindC (envOfC qual scope s.heap.objs.size f cd).kindOf (ps.zip us) fun _=>none) s1):
  Inv (gu CX P w K mg base N qual scope f cd A outer s H E) [] (start N vs) H s1:=by
 have hpl:ps.length<=N.length:=by have:=congrArg List.length S.pre;rw[List.length_take]at this;omega
 obtain⟨h1,tk,rfl,hk⟩:=x.done
 have noA:∀b:Addr,b ∉ (gu CX P w K mg base N qual scope f cd A outer s H E).ex:=fun b z=>absurd (show b ∈ ([]:List Addr)from z) (by simp)
 refine⟨⟨e0.mod,S.kind,rfl,rfl,Nat.le_refl _,fun y z c h1 h2=>?_,fun y hy=>?_,fun y c _ h=>?_,fun _=>hd,Around.frames_deeper e0.frames,.inr ⟨rfl,rfl⟩,fun b z=>absurd z (noA b),e0.bs,e0.tE,fun b _ _=>noA b,fun b z=>absurd z (noA b),e0.iB,e0.xA⟩,
  rfl,e0.bare,Un.kept hk,⟨_,x.toInCall.ns,fun i y v h1 h2 h3=>?_⟩,fun y c h=>⟨_,x.cell y c h⟩,e0.aW.fresh (Nat.le_refl _),fun y c h=>?_,fun p hp=>absurd (show p ∈ ([]:List (Addr × Obj))from hp) (by simp),e0.aW.kept hk,?_⟩
 ·exact name_of_addr x.apart (PySem.mem_of_lookup h1) (PySem.mem_of_lookup h2)
 ·have hy:scope.names.lookup y=some .cell\/scope.names.lookup y=some .free:=hy
  rcases hy with hy | hy
  ·exact gA hy
  ·exact absurd rfl (S.BW _ (PySem.mem_of_lookup hy))
 ·exact Nat.le_of_lt (x.above y c (PySem.mem_of_lookup h))
 ·have hi:i < vs.length:=by
   unfold start at h2
   by_cases hi:i < vs.length
   ·exact hi
   ·rw[List.getElem?_append_right (by simpa using hi)]at h2
    rw[List.getElem?_replicate]at h2
    split at h2<;>cases h2
  have ha:vs[i]?=some v:=by
   unfold start at h2
   rw[List.getElem?_append_left (by simpa using hi),List.getElem?_map]at h2
   cases e:vs[i]? with
   | none=>rw[e]at h2;cases h2
   | some a=>rw[e]at h2;cases h2;rfl
  obtain⟨u,hu,rv⟩:=r.get ha
  have hp:ps[i]?=some y:=by
   rw[<-S.pre,List.getElem?_take_of_lt (by omega)];exact h1
  have ndP:ps.Nodup:=by rw[<-S.pre];exact S.nd.sublist (List.take_sublist _ _)
  refine⟨u,rv,?_⟩
  rcases S.par y (List.mem_of_getElem? hp)with k | k
  ·exact .inl ⟨k,jL ndP hp hu k⟩
  ·obtain⟨c,e⟩:=gA (n:=s.heap.objs.size + 1) k
   refine .inr ⟨.inl k,c,e,?_⟩
   have q:=x.cell y c e
   rw[jM ndP hp hu (by show scope.names.lookup y ≠ _;rw[k];decide)]at q
   exact q
 ·exact e0.aW.fresh (Nat.le_of_lt (x.above y c (PySem.mem_of_lookup h)))
 ·unfold start
  show _=N.length
  rw[List.length_append,List.length_map,List.length_replicate]
  omega
theorem AF {CX:rQ} {P:Program} {w:World} {K:PySem.W.Frag} {mg:Str->Option Value} {base:Heap} {k:Nat} {f:Addr} {name qual:Str} {params:Arguments} {body:List Stmt} {scope:Scope} {dV kV doc pm cdv ct oc:Value} {an od:Option Addr}
  {osl:Array (Option Value)} {N ps:List Str} {sp:Sp} (lk:K.lookup f=some ⟨oc,od,.func (PySem.W.fnOf name qual params body scope dV kV doc pm an cdv ct),osl⟩) (hcd:PySem.W.codeIn K cdv qual=true) (S:aF N ps scope)
  (len:∀vs H Q E,sp vs H Q E->vs.length=ps.length)
  (hbody:∀ (A:Around) (outer:List Env) (s:Shared) (H:Hp) (vs:List V) (Q:VK) (E:XK),eS k (A.deeper (envOfC qual scope s.heap.objs.size f cdv))->sp vs H Q E->
   ∃t,vh (gu CX P w K mg base N qual scope f cdv A outer s H E) body t/\t {nx:=fun _ H'=>Q .non H',rt:=Q} (start N vs) H):
  cO P w K mg base CX (k + 1) f (PySem.W.fnOf name qual params body scope dV kV doc pm an cdv ct) ps sp:=by
 refine⟨len,fun A outer s H args us vs Q E hr e0 hb r hsp=>?_⟩
 have hl:=len _ _ _ _ hsp
 have KX:K.In s.heap:=e0.mod.uL.keeps fun b o e=>(e0.bs b o e).1
 have lim:s.heap.NoLimit:=e0.mod.nolimit.keeps fun b o e=>(e0.bs b o e).1
 have hkind:∀y ∈ ps.zip us,scope.names.lookup y.1=some .local\/(scope.names.lookup y.1=some .cell/\((cellsFrom (s.heap.objs.size + 1) scope.names []).lookup y.1).isSome=true):=fun⟨n,v⟩ hy=>by
  rcases S.par n (List.of_mem_zip hy).1 with q | q
  ·exact .inl q
  ·exact .inr ⟨q,PySem.W.cellsFrom_some _ _ _ (.inl q)⟩
 refine codeAny_call_function hr.depth (KX _ _ lk) rfl S.co S.gen rfl (PySem.W.codeRec_of KX hcd) (hb _ _ _ _ ?_)
 refine wpAny_newFunctionEnv_cells S.kind hkind fun env he s1 x=>?_
 subst he
 refine⟨lim.keeps x.toInCall.keep,codeAny_func ?_⟩
 obtain⟨t,ht,hq⟩:=hbody A outer s H vs Q E (hr.deeper _) hsp
 have I:Inv (gu CX P w K mg base N qual scope f cdv A outer s H E) [] (start N vs) H s1:=mZ S hr.hd e0 hl r x
 refine wpAny_mono (ht [] s1 (start N vs) H _ I hq) (fun fl s' hs=>?_) fun e s' hs=>hs
 have fin:∀ {σ':St} {H':Hp} {v:V} {u:Value},Inv (gu CX P w K mg base N qual scope f cdv A outer s H E) [] σ' H' s'->RelV v u->Q v H'->CE outer P w H s Q u s':=
  fun{σ' H' v u} J rv q=>⟨v,H',J.os,J.bare,J.base,J.aW,rv,q⟩
 cases fl with
 | ret u=>
  obtain⟨v,σ',H',J,rv,q⟩:=hs
  exact fin J rv q
 | next=>
  obtain⟨σ',H',J,q⟩:=hs
  exact fin (v:=V.non) (u:=Value.none) J rfl q
 | brk=>
  obtain⟨_,_,_,q⟩:=hs
  exact False.elim q
 | cont=>
  obtain⟨_,_,_,q⟩:=hs
  exact False.elim q
end L2
namespace L2
open PySem PySem.Spec PyProof.Rows
section
variable {X:Cx} {x:Str} {p pos:Pos} {e:Expr} {es:List Expr} {t:TA} {id T:String} {r:List V->Hp->VK->Prop}
noncomputable def Fe (r:List V->Hp->VK->Prop) (t:TA):TE:=fun σ H Q=>t σ H fun vs H1=>r vs H1 Q
theorem wA (hc:ij X (.builtin id) r) (hg:Gl X x) (hm:X.mg x=none) (hv:bootBuiltins x=some (.builtin id)) (ha:PA X (e::es) t) (hn:x ≠ "__name__" :=by decide) (hdb:(x == ("__debug__" :Str))=false:=by decide)
  (he:starEach (e::es) X.env=(false,eval e X.env)::starEach es X.env:=by rfl) (hpl:(backTo pos (starEach es X.env)).any (·.1)=false:=by rfl):PE X (.Call (.Name x p) (e::es) [] pos) (Fe r t):=by
 intro pins s σ H Q I h
 refine wpAny_Call_Name_kw (gh I hg hm hv ?_ hn hdb)
 exact PyProof.Rows.callWith_builtin1 (bV (ha pos pins s σ H _ I h) fun us s1 ⟨vs,H1,I1,r1,q1⟩=>hc pins s1 σ H1 vs us Q I1 r1 q1) he hpl
theorem g4 (hc:ij X (.type T) r) (hg:Gl X x) (hm:X.mg x=none) (hv:bootBuiltins x=some (.type T)) (ha:PA X (e::es) t) (hn:x ≠ "__name__" :=by decide) (hdb:(x == ("__debug__" :Str))=false:=by decide)
  (he:starEach (e::es) X.env=(false,eval e X.env)::starEach es X.env:=by rfl) (hpl:(backTo pos (starEach es X.env)).any (·.1)=false:=by rfl):PE X (.Call (.Name x p) (e::es) [] pos) (Fe r t):=by
 intro pins s σ H Q I h
 refine wpAny_Call_Name_kw (gh I hg hm hv ?_ hn hdb)
 exact PyProof.Rows.callWith_type1 (bV (ha pos pins s σ H _ I h) fun us s1 ⟨vs,H1,I1,r1,q1⟩=>hc pins s1 σ H1 vs us Q I1 r1 q1) he hpl
end
end L2
namespace L2
open PySem PySem.Spec PyProof.Rows
section
variable {κ:Type} [DecidableEq κ]
noncomputable def dz (kvs:List (κ × V)) (k:κ):Option V:=(kvs.find? fun kv=>decide (kv.1=k)).map (·.2)
noncomputable def putK (kvs:List (κ × V)) (k:κ) (v:V):List (κ × V):=
 if(kvs.any fun kv=>decide (kv.1=k))=true then kvs.map (fun kv=>if kv.1=k then(kv.1,v)else kv)else kvs++[(k,v)]
theorem iQ {p:κ × V} {r:List (κ × V)} {k:κ} (e:p.1=k):dz (p::r) k=some p.2:=by simp[dz,List.find?_cons,e]
theorem kN {p:κ × V} {r:List (κ × V)} {k:κ} (e:¬p.1=k):dz (p::r) k=dz r k:=by simp[dz,List.find?_cons,e]
theorem oX (k:κ):∀kvs:List (κ × V),(kvs.any fun kv=>decide (kv.1=k))=(dz kvs k).isSome
 | []=>rfl
 | p::r=>by
  rw[List.any_cons]
  by_cases e:p.1=k
  ·simp only[iQ e,decide_eq_true e,Bool.true_or,Option.isSome_some]
  ·rw[kN e,decide_eq_false e,Bool.false_or];exact oX k r
theorem jZ (kvs:List (κ × V)) (k:κ) (v:V):(putK kvs k v).length<=kvs.length + 1:=by
 unfold putK
 split
 ·rw[List.length_map];omega
 ·rw[List.length_append,List.length_cons,List.length_nil];omega
theorem ke.uQ {o:Option V} {u:Option Value} (r:ke o u):o.isSome=u.isSome:=by
 cases o with
 | none=>cases u with
  | none=>rfl
  | some _=>exact(show False from r).elim
 | some _=>cases u with
  | none=>exact(show False from r).elim
  | some _=>rfl
theorem KV.val {kvs:List (κ × V)} {vs:List (κ × Value)} (r:KV kvs vs) (k:κ):ke (dz kvs k) (valueAt vs k):=by
 unfold KV at r
 induction r with
 | nil=>exact True.intro
 | @cons p q ps qs h t ih=>
  obtain⟨h1,h2⟩:=h
  by_cases e:p.1=k
  ·have e':q.1=k:=h1.symm.trans e
   have b:valueAt (q::qs) k=some q.2:=by simp[valueAt,List.find?_cons,e']
   rw[iQ e,b];exact h2
  ·have e':¬q.1=k:=fun z=>e (h1.trans z)
   have b:valueAt (q::qs) k=valueAt qs k:=by simp[valueAt,List.find?_cons,e']
   rw[kN e,b];exact ih
theorem KV.any {kvs:List (κ × V)} {vs:List (κ × Value)} (r:KV kvs vs) (k:κ):(kvs.any fun kv=>decide (kv.1=k))=vs.any fun kv=>decide (kv.1=k):=by
 unfold KV at r
 induction r with
 | nil=>rfl
 | cons h t ih=>rw[List.any_cons,List.any_cons,ih,h.1]
theorem KV.Bg {kvs:List (κ × V)} {vs:List (κ × Value)} (r:KV kvs vs) (k:κ) {y:V} {u:Value} (ry:RelV y u):
  KV (kvs.map fun kv=>if kv.1=k then(kv.1,y)else kv) (vs.map fun kv=>if kv.1=k then(kv.1,u)else kv):=by
 unfold KV at r ⊢
 induction r with
 | nil=>exact .nil
 | @cons p q ps qs h t ih=>
  rw[List.map_cons,List.map_cons]
  refine .cons ?_ ih
  obtain⟨h1,h2⟩:=h
  by_cases e:p.1=k
  ·rw[if_pos e,if_pos (h1.symm.trans e)];exact⟨h1,ry⟩
  ·rw[if_neg e,if_neg (fun z=>e (h1.trans z))];exact⟨h1,h2⟩
theorem KV.put {kvs:List (κ × V)} {vs:List (κ × Value)} (r:KV kvs vs) (k:κ) {y:V} {u:Value} (ry:RelV y u):KV (putK kvs k y) (stored vs k u):=by
 unfold putK stored
 rw[r.any k]
 by_cases e:(vs.any fun kv=>decide (kv.1=k))=true
 ·rw[if_pos e,if_pos e];exact r.Bg k ry
 ·rw[if_neg e,if_neg e];exact Paired.snoc r ⟨rfl,ry⟩
theorem KV.length {kvs:List (κ × V)} {vs:List (κ × Value)} (r:KV kvs vs):kvs.length=vs.length:=Paired.length r
end
theorem sG {P:Program} {w:World} {k:Key} {u:Value} (r:RelV (kV k) u):(aG P w).is k u=true:=by
 cases k with
 | inl i=>obtain⟨t,e⟩:=(show ∃t,u=Value.int i t from r);subst e;exact pL P w i t
 | inr x=>obtain⟨t,e⟩:=(show ∃t,u=Value.str x t from r);subst e;exact jY P w x t
theorem mY {P:Program} {w:World}:∀ {ks:List Key} {us:List Value},Vals (ks.map kV) us->ItemsAre (aG P w) ks us
 | [],_,r=>by rw[List.map_nil]at r;cases r;exact .nil
 | k::ks,_,r=>by
  rw[List.map_cons]at r
  cases r with
  | cons h t=>exact .cons (sG h) (mY t)
@[reducible] noncomputable def KT (H:Hp):List (List Key × V)->List (List Key × Addr × Value)->Prop:=Paired fun p q=>p.1=q.1/\H q.2.1=some (.tup (p.1.map kV))/\RelV p.2 q.2.2
theorem KT.val {H:Hp} {kvs:List (List Key × V)} {xs:List (List Key × Addr × Value)} (r:KT H kvs xs) (k:List Key):ke (dz kvs k) ((atKey xs k).map (·.2)):=by
 induction r with
 | nil=>exact True.intro
 | @cons p q ps qs h t ih=>
  obtain⟨h1,_,h2⟩:=h
  by_cases e:p.1=k
  ·have e':q.1=k:=h1.symm.trans e
   have b:atKey (q::qs) k=some q.2:=by simp[atKey,List.find?_cons,e']
   rw[iQ e,b];exact h2
  ·have e':¬q.1=k:=fun z=>e (h1.trans z)
   have b:atKey (q::qs) k=atKey qs k:=by simp[atKey,List.find?_cons,e']
   rw[kN e,b];exact ih
theorem KT.Bg {H:Hp} {kvs:List (List Key × V)} {xs:List (List Key × Addr × Value)} (r:KT H kvs xs) (k:List Key) {y:V} {u:Value} (ry:RelV y u):
  KT H (kvs.map fun kv=>if kv.1=k then(kv.1,y)else kv) (xs.map (putAt k u)):=by
 induction r with
 | nil=>exact .nil
 | @cons p q ps qs h t ih=>
  rw[List.map_cons,List.map_cons]
  refine .cons ?_ ih
  obtain⟨h1,h2,h3⟩:=h
  unfold putAt
  by_cases e:p.1=k
  ·rw[if_pos e,if_pos (h1.symm.trans e)];exact⟨h1,h2,ry⟩
  ·rw[if_neg e,if_neg (fun z=>e (h1.trans z))];exact⟨h1,h2,h3⟩
theorem KT.put {H:Hp} {kvs:List (List Key × V)} {xs:List (List Key × Addr × Value)} (r:KT H kvs xs) (k:List Key) {b:Addr} {y:V} {u:Value} (hb:H b=some (.tup (k.map kV))) (ry:RelV y u):
  KT H (putK kvs k y) (storedH xs k b u):=by
 have e:(kvs.any fun kv=>decide (kv.1=k))=(atKey xs k).isSome:=by
  rw[oX,(r.val k).uQ,Option.isSome_map]
 unfold putK storedH
 rw[e]
 by_cases q:(atKey xs k).isSome=true
 ·rw[if_pos q,if_pos q];exact r.Bg k ry
 ·rw[if_neg q,if_neg q];exact Paired.snoc r ⟨rfl,hb,ry⟩
theorem KT.keeps {H H':Hp} {kvs:List (List Key × V)} {xs:List (List Key × Addr × Value)} (r:KT H kvs xs) (ht:∀b ys,H b=some (.tup ys)->H' b=some (.tup ys)):KT H' kvs xs:=
 Paired.fN r fun _ _ z=>⟨z.1,ht _ _ z.2.1,z.2.2⟩
section
variable {P:Program} {w:World} {H:Hp} {h:Heap} {a:Addr}
theorem ib {u:HO} (ok:fK P w H h) (e:Rd H a u):bU P w H h a u:=e.ok ok
theorem sW {kvs:List (Key × V)} (ok:fK P w H h) (e:Rd H a (.dK kvs)):kvs.length<=sizeLine/\(a == sysModules)=false/\∃vs,KV kvs vs/\h.DictOf (aG P w) a vs:=
 show bU P w H h a (.dK kvs)from ib ok e
theorem sX {kvs:List (Key × V)} (ok:fK P w H h) (e:H a=some (.dK kvs)):kvs.length<=sizeLine/\(a == sysModules)=false/\∃vs,KV kvs vs/\h.DictOf (aG P w) a vs:=sW ok (.inl e)
theorem xj {ks:List Key} (ok:fK P w H h) (e:H a=some (.tup (ks.map kV))):(tupleKind (aG P w)).is h ks a:=by
 obtain⟨_,its,r,o,h1,h2,n,h3⟩:=(show bU P w H h a (.tup (ks.map kV))from ok a _ e)
 exact⟨o,its.toArray,n,h1,h2,h3,by simpa using mY r⟩
theorem Em {kvs:List (List Key × V)} (ok:fK P w H h) (e:Rd H a (.dT kvs)):kvs.length<=sizeLine/\(a == sysModules)=false/\
  ∃xs,KT H kvs xs/\h.DictOfH (tupleKind (aG P w)) a xs:=by
 obtain⟨z,y,xs,r,o,es,ep,h1,h2,h3,h4,h5⟩:=(show bU P w H h a (.dT kvs)from ib ok e)
 refine⟨z,y,xs,r,o,es,ep,h1,h2,h3,h4,fun x hx=>?_,h5⟩
 have all:∀ {l:List (List Key × V)} {m:List (List Key × Addr × Value)},KT H l m->∀x ∈ m,(tupleKind (aG P w)).is h x.1 x.2.1:=by
  intro l m q
  induction q with
  | nil=>intro x hx;exact nomatch hx
  | @cons p q ps qs hq t ih=>
   intro x hx
   rcases List.mem_cons.mp hx with e | hx
   ·subst e
    exact xj ok (by rw[<-hq.1];exact hq.2.1)
   ·exact ih x hx
 exact all r x hx
theorem En {kvs:List (List Key × V)} (ok:fK P w H h) (e:H a=some (.dT kvs)):kvs.length<=sizeLine/\(a == sysModules)=false/\
  ∃xs,KT H kvs xs/\h.DictOfH (tupleKind (aG P w)) a xs:=Em ok (.inl e)
end
noncomputable def Ai (H:Hp) (a:Addr) (y v:V) (H':Hp):Prop:=
 (∃ kvs k,H a=some (.dK kvs)/\y=kV k/\kvs.length < sizeLine/\H'=upd H a (.dK (putK kvs k v)))\/
 ∃kvs k b,H a=some (.dT kvs)/\y=.ref b/\H b=some (.tup (k.map kV))/\kvs.length < sizeLine/\H'=upd H a (.dT (putK kvs k v))
theorem Ai.k {H:Hp} {a:Addr} {kvs:List (Key × V)} {k:Key} {v:V} (e:H a=some (.dK kvs)) (hl:kvs.length < sizeLine):Ai H a (kV k) v (upd H a (.dK (putK kvs k v))):=.inl ⟨kvs,k,e,rfl,hl,rfl⟩
section
variable {X:Cx} {pins:List (Addr × Obj)} {σ:St} {H:Hp} {s:Shared} {a:Addr} {y v:V} {u r:Value} {o:Option V} {A:Around} {E:Value->Shared->Prop}
theorem Inv.big (I:Inv X pins σ H s):sysModules < s.heap.objs.size:=by
 have h:mainGlobals < s.heap.objs.size:=(I.mod.glob.keeps I.bk).lt
 exact Nat.lt_trans (by decide) h
theorem oA {h':Heap} {t':Nat} {ob:HO} (I:Inv X pins σ H s) (mu:EH (H a)) (hs:Heap.SameBut a s.heap h') (he:∃q,h'.get? a=some q) (new:bU X.prog X.w (upd H a ob) h' a ob):
  Inv X pins σ (upd H a ob) {s with heap:=h',toks:=t'}:=
 I.write (x:=a) (e:=a) mu (.inl rfl) (fun b q hb z=>(hs.2 b hb).trans z) he new
theorem xS {P:Program} {w:World} {H':Hp} {h':Heap} {kvs:List (Key × V)} {vs:List (Key × Value)} (z:kvs.length<=sizeLine) (hd:(a == sysModules)=false) (rel:KV kvs vs) (dd:h'.DictOf (aG P w) a vs):
  bU P w H' h' a (.dK kvs):=⟨z,hd,vs,rel,dd⟩
theorem uV {H':Hp} {Q:Unit->Shared->Prop} (hu:A.units + 1 < cLine) (I:Inv X pins σ H s) (g:Ai H a y v H') (ry:RelV y u) (rv:RelV v r) (h:∀s',Inv X pins σ H' s'->Q () s'):
  wpAny (model X.prog X.w) A (setItem (.ref a) u r) Q E s:=by
 rcases g with ⟨kvs,k,e,ey,l,eH⟩ | ⟨kvs,k,b,e,ey,eb,l,eH⟩
 ·subst ey eH
  obtain⟨z,hd,vs,rel,dd⟩:=sX I.aW e
  have hz:vs.length<=sizeLine:=by rw[<-rel.length];exact z
  have hl:(putK kvs k v).length<=sizeLine:=by have:=jZ kvs k v;omega
  refine wpAny_setItem_pairs (hsz:=hz) (sG ry) dd fun h' dd' hs=>h _ ?_
  have he:∃q,h'.get? a=some q:=let ⟨q,_,_,hq,_⟩:=dd';⟨q,hq⟩
  exact oA I (by rw[e];exact True.intro) hs he (xS hl hd (rel.put k rv) dd')
 ·subst ey eH
  cases (show u=Value.ref b from ry)
  obtain⟨z,hd,xs,rel,dd⟩:=En I.aW e
  have hz:xs.length<=sizeLine:=by rw[<-Paired.length rel];exact z
  have hl:(putK kvs k v).length<=sizeLine:=by have:=jZ kvs k v;omega
  refine wpAny_setItem_heap (hsz:=hz) (tupleKind_room_in1 hu) (xj I.aW eb) dd fun h' dd' hs=>h _ ?_
  obtain⟨q,es,ep,hq,h2,h3,h4,_,h5⟩:=dd'
  refine oA I (by rw[e];exact True.intro) hs ⟨q,hq⟩ ⟨hl,hd,_,(rel.put k eb rv).keeps fun c ys ec=>?_,q,es,ep,hq,h2,h3,h4,h5⟩
  rw[ae (DE ec e (fun z=>nomatch z))]
  exact ec
end
section
variable {X:Cx} {pins:List (Addr × Obj)} {σ:St} {H:Hp} {s:Shared} {a:Addr} {kvs:List (Key × V)} {k:Key} {u:Value} {A:Around} {E:Value->Shared->Prop}
theorem Aa {Q:Value->Shared->Prop} (I:Inv X pins σ H s) (e:H a=some (.dK kvs)) (h:∀s',Inv X pins σ (upd H a (.dK [])) s'->Q .none s'):wpAny (model X.prog X.w) A (call (.builtin "dict.clear") [.ref a]) Q E s:=by
 obtain⟨z,hd,vs,rel,dd⟩:=sX I.aW e
 refine call_meetsIn PySem.F.slot_dict_clear dd.typeIs PySem.F.entry_dict_clear (PySem.F.args_dict_clear_1 _) (meets_dict_clear (aG X.prog X.w) a) ⟨vs,dd,by rw[<-rel.length];exact z,fun h' dd' hs=>h _ ?_⟩
 have he:∃q,h'.get? a=some q:=let ⟨q,_,_,hq,_⟩:=dd';⟨q,hq⟩
 exact oA (t':=s.toks) I (by rw[e];exact True.intro) hs he (xS (Nat.zero_le _) hd .nil dd')
end
section
variable {X:Cx} {o i e value:Expr} {pos pos' tpos:Pos} {td ty tv:TE}
end
theorem xT {P:Program} {w:World} {H:Hp} (h:Heap) (hb:sysModules < h.objs.size):bU P w H (h.push {cls:=.type "dict",data:=.dict #[]}) h.objs.size (.dK []):=
 ⟨Nat.zero_le _,beq_eq_false_iff_ne.mpr (Ne.symm (Nat.ne_of_lt hb)),[],.nil,Heap.DictOf.new h⟩
noncomputable def AZ:TE:=fun _ H Q=>∀p,H p=none->Q (.ref p) (upd H p (.dK []))
section
variable {X:Cx} {pos:Pos}
theorem wo:PE X (.Dict [] [] pos) AZ:=fun pins s σ H Q I h=>
 wpAny_Dict_empty ⟨.ref s.heap.objs.size,_,I.laid (a:=s.heap.objs.size) (o:=.dK []) (t':=s.toks) (fun _ _ q=>Heap.get?_push_of_some _ q) (Nat.le_refl _) (xT s.heap I.big),rfl,h _ (I.aW.fresh (Nat.le_refl _))⟩
end
section
variable {X:Cx} {pins:List (Addr × Obj)} {σ:St} {H:Hp} {s:Shared} {a:Addr} {y d:V} {u r:Value} {o:Option V} {A:Around} {E:Value->Shared->Prop}
end
section
variable {X:Cx} {o e f:Expr} {apos cpos:Pos} {td ty tx:TE}
end
section
variable {X:Cx} {pins:List (Addr × Obj)} {σ:St} {H:Hp} {s:Shared} {a:Addr} {kvs:List (Key × V)} {A:Around} {E:Value->Shared->Prop}
end
section
variable {X:Cx} {pins:List (Addr × Obj)} {σ:St} {H:Hp} {s:Shared} {a:Addr} {y:V} {u:Value} {A:Around} {E:Value->Shared->Prop}
end
end L2
namespace HT
open PySem PyProof.Rows
section
open PySem.SeqAt
open PySem.AutoSeq1 (wpAny_loadPart')
open PySem.MeetsSeq PySem.MeetsSeq2 PySem.MeetsSeq3
end
section
variable {prog:Program} {w:World} {A:Around} {E:Value->Shared->Prop} {s:Shared}
noncomputable def kY (n d:Nat):Option Int->Nat
 | none=>d
 | some v=>if v < 0 then(v + (n:Int)).toNat else min v.toNat n
theorem pB (n d:Nat):kY n d none=d:=rfl
theorem kA (n d k:Nat):kY n d (some (k:Int))=min k n:=by
 show(if(k:Int) < 0 then((k:Int) + (n:Int)).toNat else min (k:Int).toNat n)=min k n
 rw[if_neg (by omega),Int.toNat_natCast]
end
end HT
namespace L2
open PySem PySem.Spec PyProof.Rows
@[reducible] noncomputable def TO:=St->Hp->(Option Int->Hp->Prop)->Prop
noncomputable def PO (X:Cx) (e:Option Expr) (t:TO):Prop:=
 ∀ (pins:List (Addr × Obj)) (s:Shared) (σ:St) (H:Hp) (Q:Option Int->Hp->Prop),Inv X pins σ H s->t σ H Q->
  wpAny (model X.prog X.w) X.A (evalPart e X.env) (fun u s'=>∃o H',Inv X pins σ H' s'/\IsPart u o/\Q o H') X.xe s
noncomputable def yB:TO:=fun _ H Q=>Q none H
section
variable {X:Cx} {e:Expr} {te:TE} {lo hi:Option Expr} {tl th:TO} {pos p2:Pos}
theorem y8:PO X none yB:=by
 intro pins s σ H Q I h
 rw[evalPart_none]
 exact wpAny_pure ⟨none,H,I,.none,h⟩
noncomputable def ET (X:Cx) (r:V->Option Int->Option Int->Hp->VK->Prop):Prop:=
 ∀ (pins:List (Addr × Obj)) (s:Shared) (σ:St) (H:Hp) (x:V) (v vl vu:Value) (lo hi:Option Int) (sl:Addr) (Q:VK),Inv X pins σ H s->RelV x v->s.heap.IsSliceOf sl vl vu .none->IsPart vl lo->IsPart vu hi->r x lo hi H Q->
  ∃T id,typeLookup (.type T) "__getitem__" =pure (some (.builtin id))/\s.TypeIs v T/\wpAny (model X.prog X.w) X.A (getItem v (.ref sl)) (EP X pins σ Q) X.xe s
noncomputable def Gu (r:V->Option Int->Option Int->Hp->VK->Prop) (te:TE) (tl th:TO):TE:=fun σ H Q=>te σ H fun x H1=>tl σ H1 fun l H2=>th σ H2 fun u H3=>r x l u H3 Q
theorem wa {r:V->Option Int->Option Int->Hp->VK->Prop} (hr:ET X r) (he:PE X e te) (hl:PO X lo tl) (hu:PO X hi th):PE X (.Subscript e (.Slice lo hi none p2) pos) (Gu r te tl th):=by
 intro pins s σ H Q I h
 refine Subscript_ (bV (he pins s σ H _ I h) fun v s1 ⟨x,H1,I1,r1,q1⟩=>?_)
 refine wpAny_Slice (bV (hl pins s1 σ H1 _ I1 q1) fun vl s2 ⟨l,H2,I2,pl,q2⟩=>bV (hu pins s2 σ H2 _ I2 q2) fun vu s3 ⟨u,H3,I3,pu,q3⟩=>?_)
 rw[evalPart_none]
 refine wpAny_pure ?_
 have I4:Inv X pins σ H3 {s3 with heap:=s3.heap.push {cls:=.type "slice",data:=.fields #[vl,vu,.none]}}:=I3.kept (t':=s3.toks) fun b ob q=>Heap.get?_push_of_some _ q
 obtain⟨T,id,hT,ht,hg⟩:=hr pins {s3 with heap:=s3.heap.push {cls:=.type "slice",data:=.fields #[vl,vu,.none]}} σ H3 x v vl vu l u s3.heap.objs.size Q I4 r1 (Heap.IsSliceOf.new ..) pl pu q3
 show wpAny (model X.prog X.w) X.A (subscriptTail e (.Slice lo hi none p2) v (.ref s3.heap.objs.size)) (EP X pins σ Q) X.xe {s3 with heap:=s3.heap.push {cls:=.type "slice",data:=.fields #[vl,vu,.none]}}
 exact tail_any (ops:=[.ref s3.heap.objs.size,v]) ht hT hg (by with_unfolding_all rfl)
noncomputable def jJ (xs:List V) (lo hi:Option Int):List V:=(xs.drop (HT.kY xs.length 0 lo)).take (HT.kY xs.length xs.length hi - HT.kY xs.length 0 lo)
theorem qh (xs:List V) (lo hi:Option Int):(jJ xs lo hi).length<=xs.length:=by
 unfold jJ
 rw[List.length_take,List.length_drop]
 omega
end
end L2
namespace L2
open PySem PySem.Spec PyProof.Rows
noncomputable def yr (n:Nat) (i:Int):Option Nat:=if 0<=i then(if i < n then some i.toNat else none)else if -(n:Int)<=i then some (i + n).toNat else none
noncomputable def kK {α:Type} (xs:List α) (i:Int):Option α:=(yr xs.length i).bind fun j=>xs[j]?
theorem sH {n:Nat} {i:Int} {j:Nat} (h:yr n i=some j):seqIndex? i n=some j/\j < n/\-(n:Int)<=i/\i < n:=by
 unfold yr at h
 by_cases h0:0<=i
 ·rw[if_pos h0]at h
  by_cases h1:i < n
  ·rw[if_pos h1]at h
   have e:i.toNat=j:=Option.some.inj h
   exact⟨by rw[seqIndex_of h0 h1,e],by omega,by omega,h1⟩
  ·rw[if_neg h1]at h;cases h
 ·rw[if_neg h0]at h
  by_cases h1: -(n:Int)<=i
  ·rw[if_pos h1]at h
   have e:(i + n).toNat=j:=Option.some.inj h
   exact⟨by rw[seqIndex_neg (by omega) h1,e],by omega,h1,by omega⟩
  ·rw[if_neg h1]at h;cases h
theorem oH {α:Type} {xs:List α} {i:Int} {v:α} (h:kK xs i=some v):∃j,seqIndex? i xs.length=some j/\xs[j]?=some v/\j < xs.length/\-(xs.length:Int)<=i/\i < xs.length:=by
 unfold kK at h
 cases e:yr xs.length i with
 | none=>rw[e]at h;cases h
 | some j=>
  rw[e]at h
  obtain⟨h1,h2,h3,h4⟩:=sH e
  exact⟨j,h1,h,h2,h3,h4⟩
noncomputable def oM (b:Expr):Prop:=∀o i,subscripted b false o i=operate [o,i] (getItem o i)
noncomputable def yp (X:Cx) (r:R2):Prop:=
 ∀ (value slice:Expr) (pins:List (Addr × Obj)) (s:Shared) (σ:St) (H:Hp) (x y:V) (v u:Value) (Q:VK),Inv X pins σ H s->RelV x v->RelV y u->r x y H Q->
  subscripted slice false v u=operate [v,u] (getItem v u)->wpAny (model X.prog X.w) X.A (subscriptTail value slice v u) (EP X pins σ Q) X.xe s
noncomputable def GR (X:Cx) (id:String) (r:V->List V->Hp->VK->Prop):Prop:=
 ∀ (pins:List (Addr × Obj)) (s:Shared) (σ:St) (H:Hp) (x:V) (xs:List V) (v:Value) (us:List Value) (Q:VK),Inv X pins σ H s->RelV x v->Vals xs us->r x xs H Q->
  wpAny (model X.prog X.w) X.A (call (.builtin id) (v::us)) (EP X pins σ Q) X.xe s
section
variable {X:Cx} {a b:Expr} {ta tb:TE} {pos:Pos}
theorem yp.or {r r':R2} (h:yp X r) (h':yp X r'):yp X (fun x y H Q=>r x y H Q\/r' x y H Q):=by
 intro value slice pins s σ H x y v u Q I rx ry q hs
 rcases q with q | q
 ·exact h value slice pins s σ H x y v u Q I rx ry q hs
 ·exact h' value slice pins s σ H x y v u Q I rx ry q hs
theorem Az {r:R2} (hr:yp X r) (ha:PE X a ta) (hb:PE X b tb) (hs:oM b):PE X (.Subscript a b pos) (EL r ta tb):=by
 intro pins s σ H Q I h
 exact Subscript_ (Ae ha hb I h fun v u s2 x y H2 I2 rx ry q=>hr a b pins s2 σ H2 x y v u Q I2 rx ry q (hs _ _))
noncomputable def Dl (K:PySem.W.Frag):R2:=fun x y H Q=>∃p xs i v,x=.ref p/\y=.int i/\kL K H p xs/\kK xs i=some v/\Q v H
noncomputable def Dj (K:PySem.W.Frag):R2:=fun x y H Q=>∃p xs i v,x=.ref p/\y=.int i/\qo K H p xs/\kK xs i=some v/\Q v H
noncomputable def Dk:R2:=fun x y H Q=>∃z i c,x=.str z/\y=.int i/\z.length<=sizeLine/\kK z.cps.toList i=some c/\Q (.str ⟨#[c]⟩) H
theorem zM:yp X (Dl X.K):=by
 intro value slice pins s σ H x y v u Q I rx ry h hs
 obtain⟨p,xs,i,z,rfl,rfl,hq,he,q⟩:=h
 cases rx
 obtain⟨t,rfl⟩:=ry
 obtain⟨its,r,pl,hz⟩:=I.list hq
 obtain⟨j,h1,h2,h3,h4,h5⟩:=oH he
 obtain⟨w,ew,rw'⟩:=r.get h2
 have hl:=r.length
 have hn:=iw
 have fin:EP X pins σ Q w s:=⟨z,H,I,rw',q⟩
 by_cases h0:0<=i
 ·have hj:i.toNat=j:=by
   rw[seqIndex_of h0 h5]at h1
   exact Option.some.inj h1
  exact item_listR pl.isList h0 (by omega) (by rw[hj];simpa using ew) fin hs
 ·have hj:(i + (its.toArray.size:Int)).toNat=j:=by
   rw[seqIndex_neg (by omega) h4]at h1
   rw[List.size_toArray,<-hl]
   exact Option.some.inj h1
  exact subscriptTail_builtinR (x:=w) pl.isList.typeIs slot_list_getitem.lookup
   (wpAny_getItem_list_neg (Q:=fun r s'=>r=w/\EP X pins σ Q r s') pl.isList (by omega) (by rw[List.size_toArray]<;>omega) (by omega) (by rw[hj];simpa using ew) ⟨rfl,fin⟩) hs
theorem Cj:yp X (Dj X.K):=by
 intro value slice pins s σ H x y v u Q I rx ry h hs
 obtain⟨p,xs,i,z,rfl,rfl,hq,he,q⟩:=h
 cases rx
 obtain⟨t,rfl⟩:=ry
 obtain⟨its,r,pl,hz⟩:=I.tuple hq
 obtain⟨j,h1,h2,h3,h4,h5⟩:=oH he
 obtain⟨w,ew,rw'⟩:=r.get h2
 have hl:=r.length
 have hn:=iw
 have fin:EP X pins σ Q w s:=⟨z,H,I,rw',q⟩
 exact subscriptTail_builtinR (x:=w) pl.typeIs slot_tuple_getitem.lookup
  (getItem_tuple (j:=j) (Q:=fun r s'=>r=w/\EP X pins σ Q r s') pl (by omega) (by omega) (by rw[List.size_toArray,<-hl];exact h1) (by simpa using ew) ⟨rfl,fin⟩) hs
theorem Ck:yp X Dk:=by
 intro value slice pins s σ H x y v u Q I rx ry h hs
 obtain⟨z,i,c,rfl,rfl,hz,he,q⟩:=h
 obtain⟨t,rfl⟩:=rx
 obtain⟨t',rfl⟩:=ry
 obtain⟨j,h1,h2,h3,h4,h5⟩:=oH he
 have hl:z.cps.toList.length=z.length:=by simp[Str.length]
 rw[hl]at h1 h4 h5
 have hn:=iw
 exact tail_any (typeIs_str s z t) slot_str_getitem.lookup (getItem_str (c:=c) (by
  have e1:decide (i < -(2 ^ 63:Int))=false:=decide_eq_false (by omega)
  have e2:decide (i ≥ 2 ^ 63)=false:=decide_eq_false (by omega)
  rw[e1,e2,Bool.or_false]) (by rw[h1];simpa using h2) ⟨.str ⟨#[c]⟩,H,I.tok _,⟨_,rfl⟩,q⟩) hs
noncomputable def Gy (K:PySem.W.Frag):R2:=fun x y H Q=>Dl K x y H Q\/Dj K x y H Q\/Dk x y H Q
theorem Cm:yp X (Gy X.K):=zM.or (Cj.or Ck)
theorem q_ (its:List Value) (n j:Nat) (u:Value):Obj.mapSeq (·.setIfInBounds j u) {cls:=.type "list",data:=.seq its.toArray n}={cls:=.type "list",data:=.seq (its.set j u).toArray n}:=by
 simp[Obj.mapSeq]
theorem Inv.lst {pins:List (Addr × Obj)} {σ:St} {H:Hp} {s:Shared} {p:Addr} {xs:List V} (I:Inv X pins σ H s) (h:H p=some (.lst xs)):
  ∃ (its:List Value) (n:Nat),Vals xs its/\s.heap.get? p=some {cls:=.type "list",data:=.seq its.toArray n}/\xs.length<=sizeLine:=by
 obtain⟨z,its,n,r,e⟩:=I.aW p _ h
 exact⟨its,n,r,e,z⟩
theorem Inv.B6 {pins:List (Addr × Obj)} {σ:St} {H:Hp} {s:Shared} {p:Addr} {xs ys:List V} {its its':List Value} {n n':Nat} {f:Obj->Obj} (I:Inv X pins σ H s) (h:H p=some (.lst xs))
  (ho:s.heap.get? p=some {cls:=.type "list",data:=.seq its.toArray n}) (hf:f {cls:=.type "list",data:=.seq its.toArray n}={cls:=.type "list",data:=.seq its'.toArray n'}) (r:Vals ys its') (hz:ys.length<=sizeLine) (t:Nat):
  Inv X pins σ (upd H p (.lst ys)) {s with heap:=s.heap.update p f,toks:=t}:=by
 have e:(s.heap.update p f).get? p=some {cls:=.type "list",data:=.seq its'.toArray n'}:=by
  rw[Heap.get?_update_self f ho (by rw[hf]<;>rfl),hf]
 refine I.write (x:=p) (e:=p) (by rw[h];trivial) (.inl rfl) (fun b u hb q=>(Heap.get?_update_other _ _ (Ne.symm hb)).trans q) ⟨_,e⟩ ?_
 exact⟨hz,its',n',r,e⟩
noncomputable def Di:V->V->V->Hp->(Hp->Prop)->Prop:=fun o i v H Q=>∃p xs k j,o=.ref p/\i=.int k/\H p=some (.lst xs)/\yr xs.length k=some j/\Q (upd H p (.lst (xs.set j v)))
theorem set_list:EG X Di:=by
 intro pins s σ H o i v ov iv u Q I ro ri rv h
 obtain⟨p,xs,k,j,rfl,rfl,hp,hj,q⟩:=h
 cases ro
 obtain⟨t,rfl⟩:=ri
 obtain⟨its,n,r,ho,hz⟩:=I.lst hp
 obtain⟨h1,h2,h3,h4⟩:=sH hj
 have hl:=r.length
 have hn:=iw
 have I':Inv X pins σ (upd H p (.lst (xs.set j v))) {s with heap:=s.heap.update p (Obj.mapSeq (·.setIfInBounds j u))}:=
  I.B6 hp ho (q_ its n j u) (r.set rv j) (by rw[List.length_set];exact hz) s.toks
 by_cases h0:0<=k
 ·have hk:k.toNat=j:=by
   rw[seqIndex_of h0 h4]at h1
   exact Option.some.inj h1
  exact PySem.W.ki_setAt ho h0 (by omega) (by rw[List.size_toArray,<-hl];exact h4) (by rw[hk];exact⟨_,I',q⟩)
 ·have hk:(k + (its.toArray.size:Int)).toNat=j:=by
   rw[seqIndex_neg (by omega) h3]at h1
   rw[List.size_toArray,<-hl]
   exact Option.some.inj h1
  exact PySem.W.ki_setBack ho (by omega) (by rw[List.size_toArray,<-hl];exact h3) (by omega) (by rw[hk];exact⟨_,I',q⟩)
theorem pe (i:Int) (n:Nat):(sliceBounds (some i) none none n).1=((HT.kY n 0 (some i):Nat):Int):=by
 simp only[sliceBounds,HT.kY,Option.getD_none,show(1:Int) > 0 by decide,if_true]
 by_cases h:i < 0
 ·simp only[h,if_true]<;>omega
 ·simp only[h,if_false]<;>omega
theorem nO (lo hi:Option Int) (n:Nat):(sliceBounds lo hi none n).1=((HT.kY n 0 lo:Nat):Int)/\(sliceBounds lo hi none n).2.1=((HT.kY n n hi:Nat):Int)/\(sliceBounds lo hi none n).2.2=1:=by
 refine⟨?_,?_,rfl⟩
 ·cases lo with
  | none=>simp[sliceBounds,HT.kY]
  | some i=>exact pe i n
 ·cases hi with
  | none=>simp[sliceBounds,HT.kY]
  | some i=>exact pe i n
theorem lW (its:List Value) (lo hi:Option Int):slicePick its.toArray lo hi none=((its.drop (HT.kY its.length 0 lo)).take (HT.kY its.length its.length hi - HT.kY its.length 0 lo)).toArray:=by
 obtain⟨h1,h2,h3⟩:=nO lo hi its.toArray.size
 unfold slicePick
 rw[h1,h2,h3]
 simp only[sliceRange_one,pick_run,List.size_toArray]<;>rfl
noncomputable def Fh (K:PySem.W.Frag):V->Option Int->Option Int->Hp->VK->Prop:=fun x lo hi H Q=>∃a xs,x=.ref a/\kL K H a xs/\∀p,H p=none->Q (.ref p) (upd H p (.lst (jJ xs lo hi)))
theorem yO:ET X (Fh X.K):=by
 intro pins s σ H x v vl vu lo hi sl Q I rx hs pl pu h
 obtain⟨a,xs,rfl,hx,q⟩:=h
 cases rx
 obtain⟨its,r,ht,hz⟩:=I.list hx
 have hlen:=r.length
 refine⟨"list",_,slot_list_getitem.lookup,ht.isList.typeIs,?_⟩
 refine wpAny_getItem_list_slice ht.isList hs pl pu .none (by simp) ?_ (by rw[List.size_toArray]<;>omega)
 rw[lW,<-hlen]
 refine⟨.ref s.heap.objs.size,_,I.laid (t':=s.toks) (o:=.lst (jJ xs lo hi)) (fun b ob q=>Heap.get?_push_of_some _ q) (Nat.le_refl _) ?_,rfl,q _ (I.aW.fresh (Nat.le_refl _))⟩
 exact⟨Nat.le_trans (qh xs lo hi) hz,_,0,(r.drop (HT.kY xs.length 0 lo)).take (HT.kY xs.length xs.length hi - HT.kY xs.length 0 lo),Heap.get?_push_size _ rfl⟩
noncomputable def cL:V->Bool
 | .non=>true
 | .bl _=>true
 | .int _=>true
 | .str _=>true
 | _=>false
noncomputable def zU:V->V->Bool
 | .non,.non=>true
 | .bl a,.bl b=>a == b
 | .bl a,.int b=>(if a then 1 else 0) == b
 | .int a,.bl b=>a == (if b then 1 else 0)
 | .int a,.int b=>a == b
 | .str a,.str b=>a == b
 | _,_=>false
theorem Cv {A:Around} {s:Shared} {y x:V} {u v:Value} (ry:RelV y u) (rx:RelV x v) (fy:cL y=true) (fx:cL x=true):SeqAt.EqAt A s u v (zU y x):=by
 cases y with
 | non=>
  cases ry
  cases x with
  | non=>cases rx;exact SeqAt.EqAt.same _
  | bl b=>cases rx;exact SeqAt.EqAt.none_bool b
  | int b=>obtain⟨t,rfl⟩:=rx;exact SeqAt.EqAt.none_int b t
  | str b=>obtain⟨t,rfl⟩:=rx;exact SeqAt.EqAt.none_str b t
  | _=>exact absurd (show false=true from fx) Bool.false_ne_true
 | bl a=>
  cases ry
  cases x with
  | non=>cases rx;exact SeqAt.EqAt.bool_none a
  | bl b=>cases rx;exact SeqAt.EqAt.bool_bool a b
  | int b=>obtain⟨t,rfl⟩:=rx;exact SeqAt.EqAt.bool_int a b t
  | str b=>obtain⟨t,rfl⟩:=rx;exact SeqAt.EqAt.bool_str a b t
  | _=>exact absurd (show false=true from fx) Bool.false_ne_true
 | int a=>
  obtain⟨t',rfl⟩:=ry
  cases x with
  | non=>cases rx;exact SeqAt.EqAt.int_none a t'
  | bl b=>cases rx;exact SeqAt.EqAt.int_bool a t' b
  | int b=>obtain⟨t,rfl⟩:=rx;exact SeqAt.EqAt.int_int a t' b t
  | str b=>obtain⟨t,rfl⟩:=rx;exact SeqAt.EqAt.int_str a t' b t
  | _=>exact absurd (show false=true from fx) Bool.false_ne_true
 | str a=>
  obtain⟨t',rfl⟩:=ry
  cases x with
  | non=>cases rx;exact SeqAt.EqAt.str_none a t'
  | bl b=>cases rx;exact SeqAt.EqAt.str_bool a t' b
  | int b=>obtain⟨t,rfl⟩:=rx;exact SeqAt.EqAt.str_int a t' b t
  | str b=>obtain⟨t,rfl⟩:=rx;exact SeqAt.EqAt.str_str a t' b t
  | _=>exact absurd (show false=true from fx) Bool.false_ne_true
 | _=>exact absurd (show false=true from fy) Bool.false_ne_true
noncomputable def zV (x:V) (u:Value):Bool:=match u with
 | .none=>zU .non x
 | .bool b=>zU (.bl b) x
 | .int i _=>zU (.int i) x
 | .str z _=>zU (.str z) x
 | _=>false
theorem xN {x y:V} {u:Value} (r:RelV y u) (f:cL y=true):zV x u=zU y x:=by
 cases y with
 | non=>cases r;rfl
 | bl b=>cases r;rfl
 | int i=>obtain⟨t,rfl⟩:=r;rfl
 | str z=>obtain⟨t,rfl⟩:=r;rfl
 | _=>exact absurd (show false=true from f) Bool.false_ne_true
theorem oJ {x:V}:∀ {xs:List V} {us:List Value},Vals xs us->xs.all cL=true->us.any (zV x)=xs.any fun y=>zU y x
 | _,_,.nil,_=>rfl
 | y::xs,u::us,.cons r t,f=>by
  rw[List.all_cons,Bool.and_eq_true]at f
  rw[List.any_cons,List.any_cons,xN r f.1,oJ t f.2]
theorem lr {A:Around} {s:Shared} {x:V} {v:Value} (rx:RelV x v) (fx:cL x=true):∀ {xs:List V} {us:List Value},Vals xs us->xs.all cL=true->∀u ∈ us,SeqAt.EqAt A s u v (zV x u)
 | _,_,.nil,_=>fun u hu=>by cases hu
 | y::xs,u::us,.cons r t,f=>fun u' hu=>by
  rw[List.all_cons,Bool.and_eq_true]at f
  rcases List.mem_cons.mp hu with rfl | hu
  ·rw[xN r f.1];exact Cv r rx f.1 fx
  ·exact lr rx fx t f.2 u' hu
noncomputable def uR (x:V) (xs:List V):Bool:=xs.any fun y=>zU y x
noncomputable def Gz (K:PySem.W.Frag) (neg:Bool):R2:=fun x y H Q=>∃p xs,y=.ref p/\(kL K H p xs\/qo K H p xs)/\cL x=true/\xs.all cL=true/\Q (.bl (if neg then !uR x xs else uR x xs)) H
theorem mQ:iN X (compareOp .In) (Gz X.K false):=by
 intro pins s σ H x y v u Q I rx ry h
 obtain⟨p,xs,rfl,hq,fx,fs,q⟩:=h
 cases ry
 rcases hq with hq | hq
 ·obtain⟨its,r,pl,hz⟩:=I.list hq
  refine SeqAt.in_listAt (zV x) pl.isList (fun w hw=>lr rx fx r fs w (by simpa using hw)) ⟨.bl _,H,I,rfl,?_⟩
  rw[show its.toArray.any (zV x)=its.any (zV x) by simp,oJ r fs]
  exact q
 ·obtain⟨its,r,pl,hz⟩:=I.tuple hq
  refine SeqAt.in_tupleAt (zV x) pl (fun w hw=>lr rx fx r fs w (by simpa using hw)) ⟨.bl _,H,I,rfl,?_⟩
  rw[show its.toArray.any (zV x)=its.any (zV x) by simp,oJ r fs]
  exact q
theorem jk:ij X (.builtin "len") (fun xs H Q=>∃p ys,xs=[.ref p]/\(kL X.K H p ys\/qo X.K H p ys)/\Q (.int ys.length) H):=by
 intro pins s σ H xs us Q I r h
 obtain⟨p,ys,rfl,hq,q⟩:=h
 obtain⟨u,rfl,rx⟩:=vals1 r
 cases rx
 have hn:=iw
 rcases hq with hq | hq
 ·obtain⟨its,r',pl,hz⟩:=I.list hq
  have hlen:=r'.length
  exact Calls.call_len_list pl.isList (by simp only[List.size_toArray]<;>omega) ⟨.int ys.length,H,I.tok _,⟨s.toks + 1,by rw[List.size_toArray,hlen]⟩,q⟩
 ·obtain⟨its,r',pl,hz⟩:=I.tuple hq
  have hlen:=r'.length
  exact len_tuple pl (by simp only[List.size_toArray]<;>omega) ⟨.int ys.length,H,I.tok _,⟨s.toks + 1,by rw[List.size_toArray,hlen]⟩,q⟩
theorem oD:ij X (.builtin "len") (fun xs H Q=>∃z,xs=[.str z]/\z.length<=sizeLine/\Q (.int z.length) H):=by
 intro pins s σ H xs us Q I r h
 obtain⟨z,rfl,hz,q⟩:=h
 obtain⟨u,rfl,t,rfl⟩:=vals1 r
 have hn:=iw
 exact len_str (by omega) ⟨.int z.length,H,I.tok _,⟨_,rfl⟩,q⟩
theorem ji:ij X (.type "list") (fun xs H Q=>∃p ys,xs=[.ref p]/\(kL X.K H p ys\/qo X.K H p ys)/\∀l,H l=none->Q (.ref l) (upd H l (.lst ys))):=by
 intro pins s σ H xs us Q I r h
 obtain⟨p,ys,rfl,hq,q⟩:=h
 obtain⟨u,rfl,rx⟩:=vals1 r
 cases rx
 have fin:∀ (its:List Value),Vals ys its->ys.length<=sizeLine->∀ (h':Heap) (c':Nat),(∀ b o',s.heap.get? b=some o'->h'.get? b=some o')->
   h'.get? s.heap.objs.size=some {cls:=.type "list",dict:=none,data:=.seq its.toArray c',slots:=#[]}->EP X pins σ Q (.ref s.heap.objs.size) {s with heap:=h'}:=fun its r' hz h' c' kp e=>
  ⟨.ref s.heap.objs.size,_,I.laid (t':=s.toks) kp (Nat.le_refl _) (show bU X.prog X.w _ h' _ (.lst ys)from⟨hz,its,c',r',e⟩),rfl,q _ (I.aW.fresh (Nat.le_refl _))⟩
 rcases hq with hq | hq
 ·obtain⟨its,r',pl,hz⟩:=I.list hq
  have hlen:=r'.length
  obtain⟨o,ho,hc,n,hd⟩:=pl.isList
  exact call_list_seq p (.inl rfl) ho hc hd (fun h' c' kp e=>fin its r' hz h' c' kp e) (by simp only[List.size_toArray]<;>omega)
 ·obtain⟨its,r',pl,hz⟩:=I.tuple hq
  have hlen:=r'.length
  obtain⟨o,ho,hc,n,hd⟩:=pl
  exact call_list_seq p (.inr rfl) ho hc hd (fun h' c' kp e=>fin its r' hz h' c' kp e) (by simp only[List.size_toArray]<;>omega)
noncomputable def EJ (K:PySem.W.Frag) (T:String) (x:V) (H:Hp):Prop:=match x with
 | .str _=>T= "str"
 | .int _=>T= "int"
 | .ref p=>(T= "list" /\∃xs,kL K H p xs)\/(T= "tuple" /\∃o,K.lookup p=some o/\o.cls=.type "tuple" /\o.dict=none)\/
   (T= "dict" /\((∃ kvs,H p=some (.dK kvs))\/∃kvs,H p=some (.dT kvs)))\/(T= "set" /\∃S n,H p=some (.set S n))
 | _=>False
theorem qB {pins:List (Addr × Obj)} {σ:St} {H:Hp} {s:Shared} {T:String} {x:V} {v:Value} (I:Inv X pins σ H s) (r:RelV x v) (ty:EJ X.K T x H):
  s.TypeIs v T/\∀a,v=.ref a->∃ob,s.heap.get? a=some ob/\ob.dict=none:=by
 cases x with
 | str z=>
  obtain⟨t,rfl⟩:=r
  cases (show T= "str" from ty)
  exact⟨typeIs_str s z t,fun _ e=>nomatch e⟩
 | int i=>
  obtain⟨t,rfl⟩:=r
  cases (show T= "int" from ty)
  exact⟨typeIs_int s i t,fun _ e=>nomatch e⟩
 | ref p=>
  cases r
  rcases ty with ⟨rfl,xs,hq⟩ | ⟨rfl,o,hk,hc,hd⟩ | ⟨rfl,hk⟩ | ⟨rfl,S,n,hk⟩
  ·obtain⟨its,_,pl,_⟩:=I.list hq
   refine⟨pl.isList.typeIs,fun a e=>?_⟩
   cases e
   obtain⟨o,n,e,c,hd,_⟩:=pl
   exact⟨o,e,hd⟩
  ·refine⟨⟨o,I.jF p o hk,hc⟩,fun a e=>?_⟩
   cases e
   exact⟨o,I.jF _ o hk,hd⟩
  ·have z:∃o,s.heap.get? p=some o/\o.ExactDict:=by
    rcases hk with ⟨kvs,hk⟩ | ⟨kvs,hk⟩
    ·obtain⟨_,_,_,_,o,_,_,e,ex,_⟩:=I.aW p _ hk
     exact⟨o,e,ex⟩
    ·obtain⟨_,_,_,_,o,_,_,e,ex,_⟩:=I.aW p _ hk
     exact⟨o,e,ex⟩
   obtain⟨o,e,ex⟩:=z
   refine⟨⟨o,e,ex.1⟩,fun a e2=>?_⟩
   cases e2
   exact⟨o,e,ex.2.1⟩
  ·obtain⟨o,_,_,_,e,ex,_⟩:=I.aW p _ hk
   refine⟨⟨o,e,ex.1⟩,fun a e2=>?_⟩
   cases e2
   exact⟨o,e,ex.2.1⟩
 | _=>exact False.elim ty
variable {o e:Expr} {es:List Expr} {to:TE} {t:TA} {name:Str} {apos cpos:Pos} {T id:String} {r:V->List V->Hp->VK->Prop}
end
end L2
namespace L2
open PySem PySem.Spec PyProof.Rows
noncomputable def GS (X:Cx) (id:String) (r:V->List V->Hp->VK->Prop):Prop:=
 ∀ (pins:List (Addr × Obj)) (s:Shared) (σ:St) (H:Hp) (x:V) (xs:List V) (v:Value) (us:List Value) (Q:VK),Inv X pins σ H s->RelV x v->Vals xs us->r x xs H Q->
  wpAny (model X.prog X.w) X.A (call (.builtin id) (v::us)) (EP X pins σ Q) X.xe s
theorem Vals.one:∀ {x:V} {us:List Value},Vals [x] us->∃u,us=[u]/\RelV x u
 | _,_,.cons r .nil=>⟨_,rfl,r⟩
theorem Vals.reverse {xs:List V} {us:List Value} (h:Vals xs us):Vals xs.reverse us.reverse:=by
 induction h with
 | nil=>exact .nil
 | cons r t ih=>rw[List.reverse_cons,List.reverse_cons];exact Vals.append ih (.cons r .nil)
theorem Vals.rep {xs:List V} {us:List Value} (h:Vals xs us):∀k:Nat,Vals (List.replicate k xs).flatten (List.replicate k us).flatten
 | 0=>.nil
 | k + 1=>by
  rw[List.replicate_succ,List.replicate_succ,List.flatten_cons,List.flatten_cons]
  exact Vals.append h (Vals.rep h k)
theorem foldl_rep (its:List Value):∀ (k:Nat) (acc:List Value),
  List.foldl (fun x1 x2=>x1++x2) acc.toArray (List.replicate k its.toArray)=(acc++(List.replicate k its).flatten).toArray
 | 0,acc=>by simp
 | k + 1,acc=>by
  have e:acc.toArray++its.toArray=(acc++its).toArray:=by simp
  have e2:(acc++its)++(List.replicate k its).flatten=acc++(List.replicate (k + 1) its).flatten:=by
   rw[List.replicate_succ,List.flatten_cons,List.append_assoc]
  rw[<-e2,<-foldl_rep its k (acc++its),<-e,List.replicate_succ,List.foldl_cons]
section
variable {X:Cx} {pins:List (Addr × Obj)} {σ:St} {H:Hp} {s:Shared} {l b:Addr} {xs ys zs:List V}
theorem Inv.Fp {its its':List Value} {n:Nat} {f:Array Value->Array Value} {t':Nat} (I:Inv X pins σ H s) (hH:H l=some (.lst xs))
  (e:s.heap.get? l=some {cls:=.type "list",data:=.seq its.toArray n}) (hf:f its.toArray=its'.toArray) (hv:Vals ys its') (hz:ys.length<=sizeLine):
  Inv X pins σ (upd H l (.lst ys)) {s with heap:=s.heap.update l (Obj.mapSeq f),toks:=t'}:=by
 have q:=PySem.IsL.update e f
 rw[hf]at q
 refine I.write (x:=l) (e:=l) (by rw[hH];exact trivial) (.inl rfl) (fun b' u hb hu=>(Heap.get?_update_other s.heap (Obj.mapSeq f) (Ne.symm hb)).trans hu) ⟨_,q⟩ ?_
 exact⟨hz,its',_,hv,q⟩
theorem Inv.B8 {its:List Value} {t':Nat} (I:Inv X pins σ H s) (hv:Vals ys its) (hz:ys.length<=sizeLine):
  Inv X pins σ (upd H s.heap.objs.size (.lst ys)) {s with heap:=s.heap.push {cls:=.type "list",data:=.seq its.toArray},toks:=t'}:=
 I.laid (fun _ _ q=>Heap.get?_push_of_some _ q) (Nat.le_refl _) ⟨hz,its,0,hv,Heap.get?_push_size _ rfl⟩
theorem Inv.fresh (I:Inv X pins σ H s):H s.heap.objs.size=none:=I.aW.fresh (Nat.le_refl _)
theorem Inv.DL (I:Inv X pins σ H s) (hH:H l=some (.lst xs)):xs.length<=sizeLine/\∃ (its:List Value) (n:Nat),Vals xs its/\xs.length=its.length/\s.heap.get? l=some {cls:=.type "list",data:=.seq its.toArray n}:=by
 obtain⟨z,its,n,r,e⟩:=I.aW l _ hH
 exact⟨z,its,n,r,r.length,e⟩
theorem wK {n:Nat} (h:n<=sizeLine):Builtin.List.listTooLong n=false:=by
 unfold Builtin.List.listTooLong
 exact decide_eq_false (by omega)
end
section
variable {X:Cx}
noncomputable def yS:V->List V->Hp->VK->Prop:=fun x vs H Q=>∃l xs y,x=.ref l/\vs=[y]/\H l=some (.lst xs)/\xs.length < sizeLine/\Q .non (upd H l (.lst (xs++[y])))
theorem mU:GS X "list.append" yS:=by
 intro pins s σ H x vs v us Q I rx rv h
 obtain⟨l,xs,y,rfl,rfl,hH,hz,q⟩:=h
 cases rx
 obtain⟨u,rfl,ru⟩:=rv.one
 obtain⟨z,its,n,r,hl,e⟩:=I.DL hH
 refine call_meets F.slot_list_append ⟨_,e,rfl⟩ F.entry_list_append (F.args_list_append_2 _ _) (PySem.list_append l its.toArray n u (by rw[List.size_toArray];omega)) ⟨e,?_⟩
 refine⟨.non,_,I.Fp (its':=its++[u]) hH e (by simp) (r.append (.cons ru .nil)) ?_,rfl,q⟩
 rw[List.length_append,List.length_singleton]
 omega
noncomputable def Fi:R2:=fun x y H Q=>∃l k xs,x=.ref l/\y=.int k/\H l=some (.lst xs)/\-(2 ^ 63)<=k/\k < 2 ^ 63/\xs.length * k.toNat<=sizeLine/\
 ∀p,H p=none->Q (.ref p) (upd H p (.lst (List.replicate k.toNat xs).flatten))
theorem len_rep {α:Type} (xs:List α) (k:Nat):(List.replicate k xs).flatten.length=k * xs.length:=by
 induction k with
 | zero=>simp
 | succ k ih=>rw[List.replicate_succ,List.flatten_cons,List.length_append,ih,Nat.succ_mul,Nat.add_comm]
theorem BE:iN X (binaryOp .Mult) Fi:=by
 intro pins s σ H x y v u Q I rx ry h
 obtain⟨l,k,xs,rfl,rfl,hH,h1,h2,hz,q⟩:=h
 cases rx
 obtain⟨t,rfl⟩:=ry
 obtain⟨z,its,n,r,hl,e⟩:=I.DL hH
 have hlen:its.toArray.size * k.toNat<=sizeLine:=by rw[List.size_toArray,<-hl];exact hz
 have hcap:¬its.toArray.size * k.toNat > (2 ^ 63 - 1) / 8:=by
  have:(sizeLine:Nat)<=(2 ^ 63 - 1) / 8:=by decide
  omega
 have hfit:¬ (!Builtin.List.listFitsIndex k)=true:=by
  rw[fitsIndex_both h1 h2]
  exact Bool.false_ne_true
 have hlong:¬Builtin.List.listTooLong (its.toArray.size * k.toNat)=true:=by
  rw[wK hlen]
  exact Bool.false_ne_true
 have hnew:List.foldl (fun x1 x2=>x1++x2) #[] (List.replicate (if its.toArray.isEmpty=true then 0 else k.toNat) its.toArray)=(List.replicate k.toNat its).flatten.toArray:=by
  have f0:∀m:Nat,List.foldl (fun x1 x2=>x1++x2) #[] (List.replicate m its.toArray)=(List.replicate m its).flatten.toArray:=fun m=>by
   have:=foldl_rep its m []
   rw[List.nil_append]at this
   exact this
  rw[f0]
  cases its with
  | nil=>simp
  | cons a r'=>rw[if_neg (by simp)]
 refine wpAny_binaryOp_repeat_ref (T:= "list") (U:= "int") (by decide) ⟨_,e,rfl⟩ (fun s'=>typeIs_int s' k t) noFill_list_mul F.fills_int_mul F.slot_int_rmul repeat_list F.slot_int_index.lookup
  (call_meets F.slot_int_rmul (typeIs_int s k t) F.entry_int_rmul (F.args_int_rmul_2 _ _) (int___rmul___int_list k t l its.toArray n)
   ⟨e,rfl,⟨_,e,rfl⟩,call_meets F.slot_list_mul ⟨_,e,rfl⟩ F.entry_list_mul (F.args_list_mul_2 _ _) (AutoListH.list___mul___list_int_3 l its.toArray n k t hfit hcap hlong) ⟨e,?_⟩⟩)
 rw[hnew]
 exact⟨.ref _,_,I.B8 (t':=s.toks) (r.rep k.toNat) (by rw[len_rep,Nat.mul_comm];exact hz),rfl,q _ I.fresh⟩
end
section
variable {prog:Program} {w:World} {A:Around} {E:Value->Shared->Prop} {s:Shared}
end
section
variable {X:Cx}
end
end L2
namespace Att
open PySem PySem.W PySem.Calls PyProof.Rows
theorem kc {P:Params} {h:Heap}:∀ (ns:List Int) (vs:List Value),WellAll P h vs (ns.map WData.int)->IntsAre vs ns:=by
 intro ns
 induction ns with
 | nil=>
  intro vs w
  rw[List.map_nil]at w
  cases w
  exact .nil
 | cons n ns ih=>
  intro vs w
  rw[List.map_cons]at w
  cases w with
  | cons a b=>
   cases a
   exact .cons _ _ (ih _ b)
theorem ua {l:OpenLaw} {n:Nat} (hn:l.most=some n) {P:Params} {h:Heap} {args:List WData} {vals:List Value}
  (hpre:l.row.toRowW.claim.pre args=true) (hwl:WellAll P h vals args):
  ∃a vs ns,vals=[Value.ref a]/\args=[WData.list (ns.map WData.int)]/\h.get? a=some {cls:=.type "list",data:=.seq vs.toArray}/\IntsAre vs ns/\ns.length<=n:=by
 have hsh:WShape.hasAll [] args [.list .int]=true:=(pre_splitW hpre).1
 have hc:l.pre.holds [] {args:=args}=true:=(pre_splitW hpre).2
 obtain⟨d,r,rfl,h1,h2⟩:=hasAllW_cons hsh
 obtain rfl:=hasAllW_nil h2
 obtain⟨xs,rfl,h3⟩:=hasW_list h1
 obtain⟨ns,rfl⟩:=items_int h3
 have hlen:ns.length<=n:=by
  unfold OpenLaw.pre at hc
  have h4:(WTm.not (.lt (.lit (.int (n:Int))) (.len (.arg 0)))).holds [] {args:=[.list (ns.map .int)]}=true:=by
   have h4:=(holds_andW hc).1
   rw[hn]at h4
   exact h4
  have h5:=condW_of h4 (w_not (w_lt w_lit (w_len_list (w_arg rfl))))
  rw[List.length_map]at h5
  refine Nat.le_of_not_lt fun q=>?_
  have q':(n:Int) < ((ns.length:Nat):Int):=by omega
  first
   | (rw[decide_eq_true q']at h5;exact absurd h5 (by decide))
   | (simp at h5;omega)
 cases hwl with
 | cons w1 w2=>
  cases w2
  cases w1 with
  | list ho hall=>exact⟨_,_,ns,rfl,rfl,ho,kc ns _ hall,hlen⟩
theorem ug (l:OpenLaw) (args:List WData):l.row.toRowW.claim.post args (.bool true) args=true:=
 postW_of (r:=l.row.toRowW) (X:=(true == true))
  (show WShape.has [] (.bool true) .bool=true by first | rfl | decide | simp[WShape.has,WShape.arms,WShape.armsAll])
  (show(WTm.eq .res (.lit (.bool true))).value [] {args:=args,res:=some (.bool true),after:=args}=some (.bool (true == true))from w_eq_bool (w_res rfl) w_lit) rfl
theorem ql {l:OpenLaw} {n:Nat} {q:Program} {loose:List Str} {XP:(Str->Option Value)->Heap->Prop} {YP:World->Heap->Prop} {d:DefRec}
  (hn:l.most=some n) (hdf:d.params.defaults=[])
  (call:∀ (w:World) (s₀ s₁:Shared) (mg mb:Str->Option Value) (fa:Addr) (o:Obj) (pm cd doc:Value) (a:Addr) (vs:List Value) (ns:List Int),
   Ground q loose [] XP w s₀ mg mb s₁.heap->YP w s₁.heap->
   s₁.heap.get? fa=some o->o.data=.func (docDef d.name d.params d.body d.scope pm cd doc)->s₁.heap.CodeRec cd d.name->mg d.name=some (.ref fa)->
   s₁.heap.get? a=some {cls:=.type "list",data:=.seq vs.toArray}->IntsAre vs ns->ns.length<=n->s₁.gens=#[]->
   codeAny (model l.prog w) callerA (.call (.ref fa) ⟨[.ref a],[]⟩) (fun r s'=>r=.ok (.ret (.bool true))/\OldK s₁.heap s'.heap/\s'.os=s₁.os/\AllBare s'.gens) s₁):
  WalkO q loose XP YP l.row.toRowW d [] (fun f vs=>PySem.call f vs):=by
 intro w s₀ s₁ mg mb G Y fa o pm cd doc dV kV ho hd hcd hD hmg hg args vals as hpre hlay hrd hwl hlo
 obtain rfl:dV=.none:=Dflts.none hD hdf
 obtain rfl:kV=.none:=Dflts.noKw hD
 obtain⟨a,vs,ns,rfl,rfl,hobj,hints,hlen⟩:=ua hn hpre hwl
 refine enter_call (codeAny_mono (call w s₀ s₁ mg mb fa o pm cd doc a vs ns G Y ho (fd_plain hd) hcd hmg hobj hints hlen hg) fun r s' hq=>?_)
 obtain⟨rfl,h2,h3,h4⟩:=hq
 exact⟨.inl ⟨.bool true,.bool true,[],rfl,fun _=>rfl,.bool true,ug l _,fun _=>⟨List.Pairwise.nil,fun _ hm=>(nomatch hm)⟩⟩,h2,h3,h4⟩
section
variable {prog:Program} {w:World} {A:Around} {E:Value->Shared->Prop} {s:Shared} {K:Frag}
end
end Att
namespace L2
open PySem PySem.Spec PyProof.Rows
theorem mG:∀ {vs:List Value} {ns:List Int},IntsAre vs ns->Vals (ns.map V.int) vs
 | _,_,.nil=>.nil
 | _,_,.cons n t h=>.cons ⟨t,rfl⟩ (mG h)
end L2
namespace L2
open PySem PySem.Spec PyProof.Rows
end L2
namespace L2
open PySem PySem.Spec PyProof.Rows
noncomputable def aB (s:Stmt):Arguments:=match s with
 | .FunctionDef _ a _ _ _ _ _ _ _ _=>a
 | _=>{posonlyargs:=[],args:=[],vararg:=none,kwonlyargs:=[],kw_defaults:=[],kwarg:=none,defaults:=[]}
noncomputable def af (s:Stmt):List Stmt:=match s with
 | .FunctionDef _ _ b _ _ _ _ _ _ _=>b
 | _=>[]
noncomputable def aa (s:Stmt):Scope:=match s with
 | .FunctionDef _ _ _ _ _ _ sc _ _ _=>sc
 | _=>{kind:=.function,names:=[],isGenerator:=false,isCoroutine:=false}
structure qx (K:PySem.W.Frag) (x qual:Str) (st:Stmt) (f:Addr) (fd:FuncData):Prop where
 ex:∃ (oc:Value) (od:Option Addr) (kV doc pm:Value) (an:Option Addr) (cdv ct:Value) (osl:Array (Option Value)),
  fd=PySem.W.fnOf x qual (aB st) (af st) (aa st) .none kV doc pm an cdv ct/\K.lookup f=some ⟨oc,od,.func fd,osl⟩/\PySem.W.codeIn K cdv qual=true
 kp:PySem.W.keepIn K (.ref f)=true
section
variable {P:Program} {w:World} {K:PySem.W.Frag} {mg:Str->Option Value} {base:Heap}
theorem qx.binds {x qual:Str} {st:Stmt} {f:Addr} {fd:FuncData} {ps:List Str} (F:qx K x qual st f fd)
  (h:∀ (kV doc pm:Value) (an:Option Addr) (cdv ct:Value) (us:List Value),us.length=ps.length->bindArgs (PySem.W.fnOf x qual (aB st) (af st) (aa st) .none kV doc pm an cdv ct) ⟨us,[]⟩=pure (ps.zip us)):Binds K fd ps []:=by
 obtain⟨oc,od,kV,doc,pm,an,cdv,ct,osl,rfl,lk,hcd⟩:=F.ex
 exact .all (h kV doc pm an cdv ct)
theorem rp {x qual:Str} {st:Stmt} {f:Addr} {oc:Value} {od an:Option Addr} {osl:Array (Option Value)} {kV doc pm cdv ct:Value} (l:K.lookup f=some ⟨oc,od,.func (PySem.W.fnOf x qual (aB st) (af st) (aa st) .none kV doc pm an cdv ct),osl⟩)
  (c:PySem.W.codeIn K cdv qual=true) (k:PySem.W.keepIn K (.ref f)=true):qx K x qual st f (PySem.W.fnOf x qual (aB st) (af st) (aa st) .none kV doc pm an cdv ct):=⟨⟨oc,od,kV,doc,pm,an,cdv,ct,osl,rfl,l,c⟩,k⟩
end
section
variable {X:Cx}
end
end L2
namespace L2
open PySem PySem.Spec PyProof.Rows
section
variable {X:Cx}
end
section
variable {κ:Type} [DecidableEq κ]
end
end L2
set_option maxHeartbeats 4000000
namespace PySem.Sg
open PySem PySem.Spec PyProof.Rows
section tables
end tables
section add
variable {prog:Program} {w:World} {A:Around} {E:Value->Shared->Prop} {s:Shared}
end add
section loop
variable {prog:Program} {w:World} {A:Around} {R:Result->Shared->Prop} {I:Addr} {fp wr:List Addr} {G:Array GenState->Array GenState->Prop} {n:Nat} {P:Nat->Value->Prop} {St:Nat->Shared->Prop}
end loop
section new
variable {prog:Program} {w:World} {A:Around} {E:Value->Shared->Prop} {s:Shared}
end new
end PySem.Sg
namespace PySem.Sg
open PySem PySem.Spec PyProof.Rows
section orders
variable {prog:Program} {w:World} {A:Around} {E:Value->Shared->Prop}
end orders
namespace F
end F
section walk
variable {prog:Program} {w:World} {A:Around} {E:Value->Shared->Prop} {s:Shared}
end walk
end PySem.Sg
namespace PySem.Sg
open PySem PySem.Spec PyProof.Rows
section walks
variable {prog:Program} {w:World} {A:Around}
end walks
end PySem.Sg
namespace PySem.Sg
open PySem PySem.Spec PyProof.Rows
section iter
variable {prog:Program} {w:World} {A:Around} {E:Value->Shared->Prop} {s:Shared}
end iter
end PySem.Sg
namespace PySem.Sg
open PySem PySem.Spec PyProof.Rows L2
section dict
variable {prog:Program} {w:World} {A:Around} {E:Value->Shared->Prop} {s:Shared}
end dict
end PySem.Sg
namespace Sw
open PySem PySem.Spec PyProof.Rows L2
@[reducible] noncomputable def Mo:=Addr->Option HO
noncomputable def rd (M:Mo) (H:Hp) (a:Addr):Option HO:=match H a with
 | some (.frz _ u)=>some u
 | some o=>some o
 | none=>M a
noncomputable def aJ (K:PySem.W.Frag) (M:Mo):Prop:=∀a o,M a=some o->match o with
 | .lst xs=>∃ (o:Obj) (its:Array Value) (n:Nat),K.lookup a=some o/\o.cls=.type "list" /\o.dict=none/\o.data=.seq its n/\its.size<=sizeLine/\Vals xs its.toList
 | .tup xs=>∃ (o:Obj) (its:Array Value) (n:Nat),K.lookup a=some o/\o.cls=.type "tuple" /\o.data=.seq its n/\its.size<=sizeLine/\Vals xs its.toList
 | _=>False
theorem kZ {M:Mo} {H:Hp} {a:Addr} {u:HO} (h:rd M H a=some u):Rd H a u\/(H a=none/\M a=some u):=by
 unfold rd at h
 cases e:H a with
 | none=>rw[e]at h;exact .inr ⟨rfl,h⟩
 | some o=>
  rw[e]at h
  cases o<;>first | (injection h with h;subst h;exact .inl (.inl e)) | (injection h with h;subst h;exact .inl (.inr ⟨_,e⟩))
theorem bW {K:PySem.W.Frag} {M:Mo} (m:aJ K M) {H:Hp} {a:Addr} {xs:List V} (h:rd M H a=some (.lst xs)):kL K H a xs:=by
 rcases kZ h with h | ⟨_,h⟩
 ·exact .inl h
 ·exact .inr (m a _ h)
theorem dI {K:PySem.W.Frag} {M:Mo} (m:aJ K M) {H:Hp} {a:Addr} {xs:List V} (h:rd M H a=some (.tup xs)):qo K H a xs:=by
 rcases kZ h with h | ⟨_,h⟩
 ·exact .inl h
 ·exact .inr (m a _ h)
noncomputable def allM {α:Type} (f:V->Option α):List V->Option (List α)
 | []=>some []
 | x::r=>match f x,allM f r with
  | some a,some l=>some (a::l)
  | _,_=>none
noncomputable def data (M:Mo) (H:Hp):Nat->V->Option PyData
 | _,.non=>some .none
 | _,.bl b=>some (.bool b)
 | _,.int i=>some (.int i)
 | _,.str x=>some (.str x)
 | n + 1,.ref p=>match rd M H p with
  | some (.lst xs)=>(allM (data M H n) xs).map .list
  | some (.tup xs)=>(allM (data M H n) xs).map .tuple
  | _=>none
 | _,_=>none
theorem allM_cons {α:Type} {f:V->Option α} {x:V} {r:List V} {l:List α} (h:allM f (x::r)=some l):∃a t,f x=some a/\allM f r=some t/\l=a::t:=by
 unfold allM at h
 split at h
 ·rename_i a t h1 h2
  exact⟨a,t,h1,h2,(Option.some.inj h).symm⟩
 ·cases h
theorem allM_nil {α:Type} {f:V->Option α} {l:List α} (h:allM f []=some l):l=[]:=(Option.some.inj h).symm
theorem gJ {α:Type} {f:V->Option α}:∀ {xs:List V} {bs:List α} {i:Nat} {x:V},allM f xs=some bs->xs[i]?=some x->∃b,bs[i]?=some b/\f x=some b
 | [],bs,i,x,h,e=>by simp at e
 | y::r,bs,i,x,h,e=>by
  obtain⟨a,t,h1,h2,rfl⟩:=allM_cons h
  cases i with
  | zero=>
   simp at e
   subst e
   exact⟨a,rfl,h1⟩
  | succ i=>exact gJ (i:=i) h2 (by simpa using e)
theorem cE {α:Type} {f:V->Option α}:∀ {xs:List V} {bs:List α},allM f xs=some bs->bs.length=xs.length
 | [],bs,h=>by rw[allM_nil h];rfl
 | y::r,bs,h=>by
  obtain⟨a,t,h1,h2,rfl⟩:=allM_cons h
  simp[cE h2]
theorem Vals.back {xs:List V} {us:List Value} {i:Nat} {u:Value} (r:Vals xs us) (e:us[i]?=some u):∃x,xs[i]?=some x/\RelV x u:=by
 cases h:xs[i]? with
 | none=>
  have:=Vals.none_of r h
  rw[this]at e;cases e
 | some x=>
  obtain⟨u',e',rx⟩:=Vals.get r h
  rw[e']at e
  cases e
  exact⟨x,rfl,rx⟩
theorem gq:∀ {xs:List PyData},(∀ d ∈ xs,PyData.eqv d d=true)->PyData.eqvAll xs xs=true
 | [],_=>rfl
 | x::r,h=>by
  rw[PyData.eqvAll,h x List.mem_cons_self,gq fun d hd=>h d (List.mem_cons_of_mem _ hd)]
  rfl
theorem lu {α:Type} {f:V->Option α}:∀ {xs:List V} {bs:List α} {b:α},allM f xs=some bs->b ∈ bs->∃x ∈ xs,f x=some b
 | [],bs,b,h,hb=>by rw[allM_nil h]at hb;cases hb
 | y::r,bs,b,h,hb=>by
  obtain⟨a,t,h1,h2,rfl⟩:=allM_cons h
  rcases List.mem_cons.mp hb with rfl | hb
  ·exact⟨y,List.mem_cons_self,h1⟩
  ·obtain⟨x,hx,e⟩:=lu h2 hb
   exact⟨x,List.mem_cons_of_mem _ hx,e⟩
theorem jI {M:Mo} {H:Hp}:∀ (n:Nat) (x:V) (d:PyData),data M H n x=some d->PyData.eqv d d=true:=by
 intro n
 induction n with
 | zero=>
  intro x d h
  cases x<;>first | (cases h;simp[PyData.eqv]) | cases h
 | succ n ih=>
  intro x d h
  cases x with
  | ref p=>
   unfold data at h
   split at h
   ·obtain⟨l,hl,rfl⟩:=Option.map_eq_some_iff.mp h
    rw[PyData.eqv]
    exact gq fun d hd=>by
     obtain⟨x,_,e⟩:=lu hl hd
     exact ih x d e
   ·obtain⟨l,hl,rfl⟩:=Option.map_eq_some_iff.mp h
    rw[PyData.eqv]
    exact gq fun d hd=>by
     obtain⟨x,_,e⟩:=lu hl hd
     exact ih x d e
   ·cases h
  | _=>first | (cases h;simp[PyData.eqv]) | cases h
inductive Lies (M:Mo) (H:Hp) (h:Heap) (n:Nat):V->Value->PyData->Prop where
 | non:Lies M H h n .non .none .none
 | bl (b:Bool):Lies M H h n (.bl b) (.bool b) (.bool b)
 | int (i:Int) (t:Tok):Lies M H h n (.int i) (.int i t) (.int i)
 | str (x:Str) (t:Tok):Lies M H h n (.str x) (.str x t) (.str x)
 | lst {p:Addr} {xs:List V} {its:List Value} {l:List PyData} {m:Nat}:n=m + 1->h.IsList p its.toArray->Vals xs its->allM (data M H m) xs=some l->Lies M H h n (.ref p) (.ref p) (.list l)
 | tup {p:Addr} {xs:List V} {its:List Value} {l:List PyData} {m:Nat}:n=m + 1->h.IsTuple p its.toArray->Vals xs its->allM (data M H m) xs=some l->Lies M H h n (.ref p) (.ref p) (.tuple l)
section
open PySem.SeqAt
variable {X:Cx} {M:Mo} {pins:List (Addr × Obj)} {σ:L2.St} {H:Hp} {s:Shared}
theorem lies (m:aJ X.K M) (I:Inv X pins σ H s) {n:Nat} {x:V} {v:Value} {d:PyData} (rx:RelV x v) (h:data M H n x=some d):Lies M H s.heap n x v d:=by
 cases x with
 | non=>cases (show v=Value.none from rx);cases n<;>(cases h;exact .non)
 | bl b=>cases (show v=Value.bool b from rx);cases n<;>(cases h;exact .bl b)
 | int i=>obtain⟨t,e⟩:=(show ∃t,v=Value.int i t from rx);subst e;cases n<;>(cases h;exact .int i t)
 | str x=>obtain⟨t,e⟩:=(show ∃t,v=Value.str x t from rx);subst e;cases n<;>(cases h;exact .str x t)
 | ref p=>
  cases (show v=Value.ref p from rx)
  cases n with
  | zero=>cases h
  | succ n=>
   unfold data at h
   split at h
   ·rename_i xs e
    obtain⟨l,hl,rfl⟩:=Option.map_eq_some_iff.mp h
    obtain⟨its,rv,pl,_⟩:=I.list (bW m e)
    exact .lst rfl pl.isList rv hl
   ·rename_i xs e
    obtain⟨l,hl,rfl⟩:=Option.map_eq_some_iff.mp h
    obtain⟨its,rv,pl,_⟩:=I.tuple (dI m e)
    exact .tup rfl pl rv hl
   ·cases h
 | _=>cases n<;>cases h
theorem hB {n:Nat} {A:Around} (ih:∀ (x y:V) (v u:Value) (d e:PyData),RelV x v->RelV y u->data M H n x=some d->data M H n y=some e->EqAt A s v u (PyData.eqv d e))
  {xs ys:List V} {vs us:List Value} {l l':List PyData} (r1:Vals xs vs) (r2:Vals ys us) (h1:allM (data M H n) xs=some l) (h2:allM (data M H n) ys=some l'):
  ∀j (q1:j < vs.toArray.size) (q2:j < us.toArray.size),EqAt A s vs.toArray[j] us.toArray[j] (pairEq l l' j):=by
 intro j q1 q2
 have q1':j < vs.length:=by simpa using q1
 have q2':j < us.length:=by simpa using q2
 obtain⟨x,ex,rx⟩:=Vals.back r1 (List.getElem?_eq_getElem q1')
 obtain⟨y,ey,ry⟩:=Vals.back r2 (List.getElem?_eq_getElem q2')
 obtain⟨d,ed,fd⟩:=gJ h1 ex
 obtain⟨e,ee,fe⟩:=gJ h2 ey
 have:=ih x y _ _ d e rx ry fd fe
 show EqAt A s vs.toArray[j] us.toArray[j] (PyData.eqv (l.getD j .none) (l'.getD j .none))
 rw[List.getD_eq_getElem?_getD,List.getD_eq_getElem?_getD,ed,ee]
 simpa using this
theorem pE {n:Nat} {A:Around} (hu:A.units < cLine) (ih:∀ (x y:V) (v u:Value) (d e:PyData),RelV x v->RelV y u->data M H n x=some d->data M H n y=some e->EqAt A.in1 s v u (PyData.eqv d e))
  {p q:Addr} {xs ys:List V} {vs us:List Value} {l l':List PyData} (hp:s.heap.IsList p vs.toArray) (hq:s.heap.IsList q us.toArray) (r1:Vals xs vs) (r2:Vals ys us) (h1:allM (data M H n) xs=some l) (h2:allM (data M H n) ys=some l'):
  RcAt A s (.ref p) (.ref q) (PyData.eqvAll l l')/\RcNeAt A s (.ref p) (.ref q) (!PyData.eqvAll l l'):=by
 have n1:vs.length=l.length:=by rw[cE h1];exact r1.length.symm
 have n2:us.length=l'.length:=by rw[cE h2];exact r2.length.symm
 by_cases hz:l.length=l'.length
 ·have hs:vs.toArray.size=us.toArray.size:=by simp;omega
  have e1:=RcAt.lists hp hq hs hu (hB ih r1 r2 h1 h2)
  have e2:=RcNeAt.lists hp hq hs hu (hB ih r1 r2 h1 h2)
  rw[List.size_toArray,n1,eqvAll_same_length hz]at e1 e2
  exact⟨e1,e2⟩
 ·have hs:(vs.toArray.size != us.toArray.size)=true:=by simp;omega
  rw[eqvAll_other_length hz]
  exact⟨RcAt.lists_lengths hp hq hs hu,RcNeAt.lists_lengths hp hq hs hu⟩
theorem mN {n:Nat} {A:Around} (hu:A.units < cLine) (ih:∀ (x y:V) (v u:Value) (d e:PyData),RelV x v->RelV y u->data M H n x=some d->data M H n y=some e->EqAt A.in1 s v u (PyData.eqv d e))
  {p q:Addr} {xs ys:List V} {vs us:List Value} {l l':List PyData} (hp:s.heap.IsTuple p vs.toArray) (hq:s.heap.IsTuple q us.toArray) (r1:Vals xs vs) (r2:Vals ys us) (h1:allM (data M H n) xs=some l) (h2:allM (data M H n) ys=some l'):
  RcAt A s (.ref p) (.ref q) (PyData.eqvAll l l')/\RcNeAt A s (.ref p) (.ref q) (!PyData.eqvAll l l'):=by
 have n1:vs.length=l.length:=by rw[cE h1];exact r1.length.symm
 have n2:us.length=l'.length:=by rw[cE h2];exact r2.length.symm
 have e1:=RcAt.tuples hp hq hu (hB ih r1 r2 h1 h2)
 have e2:=RcNeAt.tuples hp hq hu (hB ih r1 r2 h1 h2)
 rw[List.size_toArray,List.size_toArray,n1,n2,eqvAll_eq]at e1 e2
 exact⟨e1,e2⟩
theorem pD {n:Nat} {A:Around} {p q:Addr} {d e:PyData} (h1:data M H n (.ref p)=some d) (h2:data M H n (.ref q)=some e) (h:RcAt A s (.ref p) (.ref q) (PyData.eqv d e)):EqAt A s (.ref p) (.ref q) (PyData.eqv d e):=by
 by_cases hpq:p=q
 ·subst hpq
  have hd:=h1.symm.trans h2
  cases hd
  rw[jI _ _ _ h1]
  exact EqAt.same _
 ·exact EqAt.of_refs hpq h
theorem m5 (m:aJ X.K M) (I:Inv X pins σ H s):∀ (n:Nat) (A:Around) (x y:V) (v u:Value) (d e:PyData),A.units + n < cLine->RelV x v->RelV y u->data M H n x=some d->data M H n y=some e->EqAt A s v u (PyData.eqv d e):=by
 intro n
 induction n with
 | zero=>
  intro A x y v u d e hu rx ry h1 h2
  cases lies m I rx h1 with
  | non=>
   cases lies m I ry h2 with
   | non=>exact EqAt.same _
   | bl b2=>exact EqAt.none_bool b2
   | int i2 t2=>exact EqAt.none_int i2 t2
   | str z2 t2=>exact EqAt.none_str z2 t2
   | lst z2 hl2 r2 a2=>exact absurd z2 (by omega)
   | tup z2 hl2 r2 a2=>exact absurd z2 (by omega)
  | bl b1=>
   cases lies m I ry h2 with
   | non=>exact EqAt.bool_none b1
   | bl b2=>exact EqAt.bool_bool b1 b2
   | int i2 t2=>exact EqAt.bool_int b1 i2 t2
   | str z2 t2=>exact EqAt.bool_str b1 z2 t2
   | lst z2 hl2 r2 a2=>exact absurd z2 (by omega)
   | tup z2 hl2 r2 a2=>exact absurd z2 (by omega)
  | int i1 t1=>
   cases lies m I ry h2 with
   | non=>exact EqAt.int_none i1 t1
   | bl b2=>exact EqAt.int_bool i1 t1 b2
   | int i2 t2=>exact EqAt.int_int i1 t1 i2 t2
   | str z2 t2=>exact EqAt.int_str i1 t1 z2 t2
   | lst z2 hl2 r2 a2=>exact absurd z2 (by omega)
   | tup z2 hl2 r2 a2=>exact absurd z2 (by omega)
  | str z1 t1=>
   cases lies m I ry h2 with
   | non=>exact EqAt.str_none z1 t1
   | bl b2=>exact EqAt.str_bool z1 t1 b2
   | int i2 t2=>exact EqAt.str_int z1 t1 i2 t2
   | str z2 t2=>exact EqAt.str_str z1 t1 z2 t2
   | lst z2 hl2 r2 a2=>exact absurd z2 (by omega)
   | tup z2 hl2 r2 a2=>exact absurd z2 (by omega)
  | lst z1 hl1 r1 a1=>
   exact absurd z1 (by omega)
  | tup z1 hl1 r1 a1=>
   exact absurd z1 (by omega)
 | succ n ih=>
  intro A x y v u d e hu rx ry h1 h2
  have hu0:A.units < cLine:=by omega
  have ih1:∀ (x y:V) (v u:Value) (d e:PyData),RelV x v->RelV y u->data M H n x=some d->data M H n y=some e->EqAt A.in1 s v u (PyData.eqv d e):=
   fun x y v u d e=>ih A.in1 x y v u d e (by show A.units + 1 + n < cLine;omega)
  cases lies m I rx h1 with
  | non=>
   cases lies m I ry h2 with
   | non=>exact EqAt.same _
   | bl b2=>exact EqAt.none_bool b2
   | int i2 t2=>exact EqAt.none_int i2 t2
   | str z2 t2=>exact EqAt.none_str z2 t2
   | lst z2 hl2 r2 a2=>exact EqAt.none_list hl2 hu0
   | tup z2 hl2 r2 a2=>exact EqAt.none_tuple hl2 hu0
  | bl b1=>
   cases lies m I ry h2 with
   | non=>exact EqAt.bool_none b1
   | bl b2=>exact EqAt.bool_bool b1 b2
   | int i2 t2=>exact EqAt.bool_int b1 i2 t2
   | str z2 t2=>exact EqAt.bool_str b1 z2 t2
   | lst z2 hl2 r2 a2=>exact EqAt.bool_list b1 hl2 hu0
   | tup z2 hl2 r2 a2=>exact EqAt.bool_tuple b1 hl2 hu0
  | int i1 t1=>
   cases lies m I ry h2 with
   | non=>exact EqAt.int_none i1 t1
   | bl b2=>exact EqAt.int_bool i1 t1 b2
   | int i2 t2=>exact EqAt.int_int i1 t1 i2 t2
   | str z2 t2=>exact EqAt.int_str i1 t1 z2 t2
   | lst z2 hl2 r2 a2=>exact EqAt.int_list i1 t1 hl2 hu0
   | tup z2 hl2 r2 a2=>exact EqAt.int_tuple i1 t1 hl2 hu0
  | str z1 t1=>
   cases lies m I ry h2 with
   | non=>exact EqAt.str_none z1 t1
   | bl b2=>exact EqAt.str_bool z1 t1 b2
   | int i2 t2=>exact EqAt.str_int z1 t1 i2 t2
   | str z2 t2=>exact EqAt.str_str z1 t1 z2 t2
   | lst z2 hl2 r2 a2=>exact EqAt.str_list z1 t1 hl2 hu0
   | tup z2 hl2 r2 a2=>exact EqAt.str_tuple z1 t1 hl2 hu0
  | lst z1 hl1 r1 a1=>
   cases lies m I ry h2 with
   | non=>exact EqAt.list_none hl1 hu0
   | bl b2=>exact EqAt.list_bool b2 hl1 hu0
   | int i2 t2=>exact EqAt.list_int i2 t2 hl1 hu0
   | str z2 t2=>exact EqAt.list_str z2 t2 hl1 hu0
   | lst z2 hl2 r2 a2=>
    cases z1;cases z2
    exact pD h1 h2 (pE hu0 ih1 hl1 hl2 r1 r2 a1 a2).1
   | tup z2 hl2 r2 a2=>exact EqAt.list_tuple hl1 hl2 hu0
  | tup z1 hl1 r1 a1=>
   cases lies m I ry h2 with
   | non=>exact EqAt.tuple_none hl1 hu0
   | bl b2=>exact EqAt.tuple_bool b2 hl1 hu0
   | int i2 t2=>exact EqAt.tuple_int i2 t2 hl1 hu0
   | str z2 t2=>exact EqAt.tuple_str z2 t2 hl1 hu0
   | lst z2 hl2 r2 a2=>exact EqAt.tuple_list hl1 hl2 hu0
   | tup z2 hl2 r2 a2=>
    cases z1;cases z2
    exact pD h1 h2 (mN hu0 ih1 hl1 hl2 r1 r2 a1 a2).1
theorem mO (m:aJ X.K M) (I:Inv X pins σ H s) {n:Nat} {A:Around} {x y:V} {v u:Value} {d e:PyData} (hu:A.units + (n + 1) < cLine) (rx:RelV x v) (ry:RelV y u) (h1:data M H (n + 1) x=some d) (h2:data M H (n + 1) y=some e):
  RcAt A s v u (PyData.eqv d e)/\RcNeAt A s v u (!PyData.eqv d e):=by
 have hu0:A.units < cLine:=by omega
 have ih1:∀ (x y:V) (v u:Value) (d e:PyData),RelV x v->RelV y u->data M H n x=some d->data M H n y=some e->EqAt A.in1 s v u (PyData.eqv d e):=
  fun x y v u d e=>m5 m I n A.in1 x y v u d e (by show A.units + 1 + n < cLine;omega)
 cases lies m I rx h1 with
 | non=>
  cases lies m I ry h2 with
  | non=>exact⟨RcAt.none_none,RcNeAt.none_none⟩
  | bl b2=>exact⟨RcAt.none_bool b2,RcNeAt.none_bool b2⟩
  | int i2 t2=>exact⟨RcAt.none_int i2 t2,RcNeAt.none_int i2 t2⟩
  | str z2 t2=>exact⟨RcAt.none_str z2 t2,RcNeAt.none_str z2 t2⟩
  | lst z2 hl2 r2 a2=>exact⟨RcAt.none_list hl2 hu0,RcNeAt.none_list hl2 hu0⟩
  | tup z2 hl2 r2 a2=>exact⟨RcAt.none_tuple hl2 hu0,RcNeAt.none_tuple hl2 hu0⟩
 | bl b1=>
  cases lies m I ry h2 with
  | non=>exact⟨RcAt.bool_none b1,RcNeAt.bool_none b1⟩
  | bl b2=>exact⟨RcAt.bool_bool b1 b2,RcNeAt.bool_bool b1 b2⟩
  | int i2 t2=>exact⟨RcAt.bool_int b1 i2 t2,RcNeAt.bool_int b1 i2 t2⟩
  | str z2 t2=>exact⟨RcAt.bool_str b1 z2 t2,RcNeAt.bool_str b1 z2 t2⟩
  | lst z2 hl2 r2 a2=>exact⟨RcAt.bool_list b1 hl2 hu0,RcNeAt.bool_list b1 hl2 hu0⟩
  | tup z2 hl2 r2 a2=>exact⟨RcAt.bool_tuple b1 hl2 hu0,RcNeAt.bool_tuple b1 hl2 hu0⟩
 | int i1 t1=>
  cases lies m I ry h2 with
  | non=>exact⟨RcAt.int_none i1 t1,RcNeAt.int_none i1 t1⟩
  | bl b2=>exact⟨RcAt.int_bool i1 t1 b2,RcNeAt.int_bool i1 t1 b2⟩
  | int i2 t2=>exact⟨RcAt.int_int i1 t1 i2 t2,RcNeAt.int_int i1 t1 i2 t2⟩
  | str z2 t2=>exact⟨RcAt.int_str i1 t1 z2 t2,RcNeAt.int_str i1 t1 z2 t2⟩
  | lst z2 hl2 r2 a2=>exact⟨RcAt.int_list i1 t1 hl2 hu0,RcNeAt.int_list i1 t1 hl2 hu0⟩
  | tup z2 hl2 r2 a2=>exact⟨RcAt.int_tuple i1 t1 hl2 hu0,RcNeAt.int_tuple i1 t1 hl2 hu0⟩
 | str z1 t1=>
  cases lies m I ry h2 with
  | non=>exact⟨RcAt.str_none z1 t1,RcNeAt.str_none z1 t1⟩
  | bl b2=>exact⟨RcAt.str_bool z1 t1 b2,RcNeAt.str_bool z1 t1 b2⟩
  | int i2 t2=>exact⟨RcAt.str_int z1 t1 i2 t2,RcNeAt.str_int z1 t1 i2 t2⟩
  | str z2 t2=>exact⟨RcAt.str_str z1 t1 z2 t2,RcNeAt.str_str z1 t1 z2 t2⟩
  | lst z2 hl2 r2 a2=>exact⟨RcAt.str_list z1 t1 hl2 hu0,RcNeAt.str_list z1 t1 hl2 hu0⟩
  | tup z2 hl2 r2 a2=>exact⟨RcAt.str_tuple z1 t1 hl2 hu0,RcNeAt.str_tuple z1 t1 hl2 hu0⟩
 | lst z1 hl1 r1 a1=>
  cases lies m I ry h2 with
  | non=>exact⟨RcAt.list_none hl1 hu0,RcNeAt.list_none hl1 hu0⟩
  | bl b2=>exact⟨RcAt.list_bool b2 hl1 hu0,RcNeAt.list_bool b2 hl1 hu0⟩
  | int i2 t2=>exact⟨RcAt.list_int i2 t2 hl1 hu0,RcNeAt.list_int i2 t2 hl1 hu0⟩
  | str z2 t2=>exact⟨RcAt.list_str z2 t2 hl1 hu0,RcNeAt.list_str z2 t2 hl1 hu0⟩
  | lst z2 hl2 r2 a2=>
   cases z1;cases z2
   exact pE hu0 ih1 hl1 hl2 r1 r2 a1 a2
  | tup z2 hl2 r2 a2=>exact⟨RcAt.list_tuple hl1 hl2 hu0,RcNeAt.list_tuple hl1 hl2 hu0⟩
 | tup z1 hl1 r1 a1=>
  cases lies m I ry h2 with
  | non=>exact⟨RcAt.tuple_none hl1 hu0,RcNeAt.tuple_none hl1 hu0⟩
  | bl b2=>exact⟨RcAt.tuple_bool b2 hl1 hu0,RcNeAt.tuple_bool b2 hl1 hu0⟩
  | int i2 t2=>exact⟨RcAt.tuple_int i2 t2 hl1 hu0,RcNeAt.tuple_int i2 t2 hl1 hu0⟩
  | str z2 t2=>exact⟨RcAt.tuple_str z2 t2 hl1 hu0,RcNeAt.tuple_str z2 t2 hl1 hu0⟩
  | lst z2 hl2 r2 a2=>exact⟨RcAt.tuple_list hl1 hl2 hu0,RcNeAt.tuple_list hl1 hl2 hu0⟩
  | tup z2 hl2 r2 a2=>
   cases z1;cases z2
   exact mN hu0 ih1 hl1 hl2 r1 r2 a1 a2
end
section
variable (M:Mo)
noncomputable def qj (i:Int):Bool:=decide (-(2 ^ 64) < i) && decide (i < 2 ^ 64)
noncomputable def iE (op:Operator) (x y:V) (H:Hp) (Q:VK):Prop:=match op,x,y with
 | .Add,.int i,.int j=>Q (.int (i + j)) H
 | .Add,.str i,.str j=>i.length + j.length<=sizeLine/\Q (.str (i++j)) H
 | .Add,.ref a,.ref b=>match rd M H a,rd M H b with
  | some (.lst xs),some (.lst ys)=>xs.length + ys.length<=sizeLine/\∀p,H p=none->M p=none->Q (.ref p) (upd H p (.lst (xs++ys)))
  | _,_=>False
 | .Sub,.int i,.int j=>Q (.int (i - j)) H
 | .Mult,.int i,.int j=>(qj i || qj j)=true/\Q (.int (i * j)) H
 | .Mult,.str x,.int k=>(-(2 ^ 63)<=k/\k < 2 ^ 63/\x.length * k.toNat<=16777216)/\Q (.str (Txt.mul x k)) H
 | .Mult,.ref a,.int k=>match H a with
  | some (.lst xs)=>-(2 ^ 63)<=k/\k < 2 ^ 63/\xs.length * k.toNat<=sizeLine/\∀p,H p=none->M p=none->Q (.ref p) (upd H p (.lst (List.replicate k.toNat xs).flatten))
  | _=>False
 | .FloorDiv,.int i,.int j=>0 < j/\j < 1073741824/\Q (.int (i / j)) H
 | .Mod,.int i,.int j=>0 < j/\Q (.int (i % j)) H
 | .Pow,.int i,.int j=>yq i j/\Q (.int (i ^ j.toNat)) H
 | .RShift,.int i,.int j=>0<=j/\Q (.int (i / 2 ^ j.toNat)) H
 | .BitAnd,.int i,.int j=>Q (.int (Builtin.bitAnd i j)) H
 | _,_,_=>False
noncomputable def eJ (op:CmpOp) (x y:V) (H:Hp) (Q:VK):Prop:=match op,x,y with
 | .Eq,_,_=>if jr x y=true then Q (.bl (decide (x=y))) H else match data M H 16 x,data M H 16 y with
  | some d,some e=>Q (.bl (PyData.eqv d e)) H
  | _,_=>False
 | .NotEq,_,_=>if jr x y=true then Q (.bl (!decide (x=y))) H else match data M H 16 x,data M H 16 y with
  | some d,some e=>Q (.bl (!PyData.eqv d e)) H
  | _,_=>False
 | .Lt,.int i,.int j=>Q (.bl (decide (i < j))) H
 | .LtE,.int i,.int j=>Q (.bl (decide (i<=j))) H
 | .Lt,.str i,.str j=>Q (.bl (decide (i.cps.toList < j.cps.toList))) H
 | .LtE,.str i,.str j=>Q (.bl (!decide (j.cps.toList < i.cps.toList))) H
 | .In,.str i,.str j=>Q (.bl (!(Builtin.Str.occurrences j i 0 j.length 1).isEmpty)) H
 | .In,_,.ref p=>match rd M H p with
  | some (.lst xs)=>cL x=true/\xs.all cL=true/\Q (.bl (uR x xs)) H
  | some (.tup xs)=>cL x=true/\xs.all cL=true/\Q (.bl (uR x xs)) H
  | _=>False
 | _,_,_=>False
noncomputable def eu (x:V) (H:Hp) (Q:Bool->Prop):Prop:=match x with
 | .non=>Q false
 | .bl b=>Q b
 | .int i=>Q (i != 0)
 | .str y=>y.length<=sizeLine/\Q ((y.length:Int) != 0)
 | .ref p=>match rd M H p with
  | some (.lst xs)=>Q (!xs.isEmpty)
  | some (.tup xs)=>Q (!xs.isEmpty)
  | _=>False
 | _=>False
noncomputable def gj (x y:V) (H:Hp) (Q:VK):Prop:=match x,y with
 | .str z,.int i=>z.length<=sizeLine/\match kK z.cps.toList i with | some c=>Q (.str ⟨#[c]⟩) H | none=>False
 | .ref p,.int i=>match rd M H p with
  | some (.lst xs)=>match kK xs i with | some v=>Q v H | none=>False
  | some (.tup xs)=>match kK xs i with | some v=>Q v H | none=>False
  | _=>False
 | _,_=>False
end
section
variable {X:Cx} {M:Mo}
theorem CD {i j:Int} (h:(qj i || qj j)=true):Aj i j:=by
 unfold qj at h
 simp only[Bool.or_eq_true,Bool.and_eq_true,decide_eq_true_eq]at h
 exact h
noncomputable def cz (M:Mo) (H:Hp):Prop:=∀a,M a ≠ none->H a=none
theorem aJ.look {K:PySem.W.Frag} {M:Mo} (m:aJ K M) {a:Addr} (h:M a ≠ none):∃o,K.lookup a=some o:=by
 cases e:M a with
 | none=>exact absurd e h
 | some u=>
  have z:=m a u e
  cases u<;>first | exact z.elim | (obtain⟨o,_,_,h1,_⟩:=z;exact⟨o,h1⟩)
theorem Inv.mj (m:aJ X.K M) {pins:List (Addr × Obj)} {σ:L2.St} {H:Hp} {s:Shared} (I:Inv X pins σ H s):cz M H:=fun a h=>by
 obtain⟨o,e⟩:=m.look h
 exact(I.bs a o (I.ok.mod.uL a o e)).2
theorem cz.new {H:Hp} {p:Addr} {o:HO} (h:cz M (upd H p o)):M p=none:=by
 cases e:M p with
 | none=>rfl
 | some u=>
  have z:=h p (by rw[e];intro z;cases z)
  rw[aA]at z
  cases z
theorem lJ (m:aJ X.K M) {pins:List (Addr × Obj)} {σ:L2.St} {Q:VK} {u:Value} {s:Shared} (h:EP X pins σ (fun v H'=>cz M H'->Q v H') u s):EP X pins σ Q u s:=by
 obtain⟨v,H',I,r,q⟩:=h
 exact⟨v,H',I,r,q (Inv.mj m I)⟩
theorem uY (m:aJ X.K M) {pins:List (Addr × Obj)} {s:Shared} {σ:L2.St} {H:Hp} {l b:Addr} {xs ys:List V} {Q:VK} (I:Inv X pins σ H s) (ha:kL X.K H l xs) (hb:kL X.K H b ys) (hz:xs.length + ys.length<=sizeLine)
  (h:∀p,H p=none->M p=none->Q (.ref p) (upd H p (.lst (xs++ys)))):wpAny (model X.prog X.w) X.A (binaryOp .Add (.ref l) (.ref b)) (EP X pins σ Q) X.xe s:=by
 obtain⟨its,r1,p1,_⟩:=I.list ha
 obtain⟨its2,r2,p2,_⟩:=I.list hb
 obtain⟨⟨c1,d1,da1,sl1⟩,n1,o1,hc1,hd1,hda1⟩:=p1
 obtain⟨⟨c2,d2,da2,sl2⟩,n2,o2,hc2,hd2,hda2⟩:=p2
 simp only at hc1 hda1 hc2 hda2
 subst hc1 hda1 hc2 hda2
 have hsz:its.toArray.size + its2.toArray.size<=sizeLine:=by rw[List.size_toArray,List.size_toArray,<-r1.length,<-r2.length];exact hz
 refine concat_meets ⟨_,o1,rfl⟩ ⟨_,o2,rfl⟩ noFill_list_add seq_list_add PySem.F.slot_list_add PySem.F.entry_list_add (PySem.F.args_list_add_2 _ _) (list_addW l b its.toArray its2.toArray n1 n2 d1 d2 sl1 sl2 hsz) ⟨o1,o2,?_⟩
 have ea:its.toArray++its2.toArray=(its++its2).toArray:=by simp
 rw[ea]
 have I2:=I.B8 (t':=s.toks) (r1.append r2) (by rw[List.length_append];exact hz)
 exact⟨.ref _,_,I2,rfl,h _ I.fresh (cz.new (Inv.mj m I2))⟩
theorem BY {x:Str} {k:Int} (h: -(2 ^ 63)<=k/\k < 2 ^ 63/\x.length * k.toNat<=16777216):MulOk x k:=by
 obtain⟨h1,h2,h3⟩:=h
 refine⟨by simp;omega,fun z _=>?_,fun z _=>?_⟩
 ·have hk:0 < k:=by omega
  intro hc
  have:=Int.lt_of_lt_of_le (Int.lt_mul_of_ediv_lt hk hc) (Int.le_refl _)
  have e:(x.length:Int) * k=((x.length * k.toNat:Nat):Int):=by
   rw[Int.natCast_mul]
   congr 1
   omega
  rw[e]at this
  omega
 ·unfold Builtin.Str.tooLong
  rw[decide_eq_false_iff_not,sizeLine_eq]
  omega
theorem CG (m:aJ X.K M) (op:Operator):iN X (binaryOp op) (iE M op):=by
 intro pins s σ H x y v u Q I rx ry h
 cases op with
 | Add=>
  cases x with
  | int i=>
   cases y with
   | int j=>
    exact BK pins s σ H _ _ v u Q I rx ry ⟨_,_,rfl,rfl,h⟩
   | _=>exact False.elim h
  | str i=>
   cases y with
   | str j=>
    exact qS pins s σ H _ _ v u Q I rx ry ⟨_,_,rfl,rfl,h.1,h.2⟩
   | _=>exact False.elim h
  | ref a=>
   cases y with
   | ref b=>
    unfold iE at h
    dsimp only at h
    split at h
    ·rename_i xs ys ea eb
     cases rx
     cases ry
     exact uY m I (bW m ea) (bW m eb) h.1 h.2
    ·exact h.elim
   | _=>exact False.elim h
  | _=>first | exact False.elim h | (cases y<;>exact False.elim h)
 | Sub=>
  cases x with
  | int i=>
   cases y with
   | int j=>
    exact BC pins s σ H _ _ v u Q I rx ry ⟨_,_,rfl,rfl,h⟩
   | _=>exact False.elim h
  | _=>first | exact False.elim h | (cases y<;>exact False.elim h)
 | Mult=>
  cases x with
  | int i=>
   cases y with
   | int j=>
    exact BG pins s σ H _ _ v u Q I rx ry ⟨_,_,rfl,rfl,CD h.1,h.2⟩
   | _=>exact False.elim h
  | str z=>
   cases y with
   | int k=>
    obtain⟨t,rfl⟩:=rx
    obtain⟨t',rfl⟩:=ry
    exact PySem.SB.mul (BY h.1) fun t' k=>⟨.str _,H,I.tok _,⟨_,rfl⟩,h.2⟩
   | _=>exact False.elim h
  | ref a=>
   cases y with
   | int k=>
    unfold iE at h
    dsimp only at h
    split at h
    ·rename_i xs ea
     exact bV (BE pins s σ H _ _ v u _ I rx ry ⟨_,_,xs,rfl,rfl,ea,h.1,h.2.1,h.2.2.1,fun p hp of=>h.2.2.2 p hp of.new⟩) fun _ _=>lJ m
    ·exact h.elim
   | _=>exact False.elim h
  | _=>first | exact False.elim h | (cases y<;>exact False.elim h)
 | FloorDiv=>
  cases x with
  | int i=>
   cases y with
   | int j=>
    exact zt pins s σ H _ _ v u Q I rx ry ⟨_,_,rfl,rfl,⟨h.1,h.2.1⟩,h.2.2⟩
   | _=>exact False.elim h
  | _=>first | exact False.elim h | (cases y<;>exact False.elim h)
 | Mod=>
  cases x with
  | int i=>
   cases y with
   | int j=>
    exact BI pins s σ H _ _ v u Q I rx ry ⟨_,_,rfl,rfl,h.1,h.2⟩
   | _=>exact False.elim h
  | _=>first | exact False.elim h | (cases y<;>exact False.elim h)
 | Pow=>
  cases x with
  | int i=>
   cases y with
   | int j=>
    exact BF pins s σ H _ _ v u Q I rx ry ⟨_,_,rfl,rfl,h.1,h.2⟩
   | _=>exact False.elim h
  | _=>first | exact False.elim h | (cases y<;>exact False.elim h)
 | RShift=>
  cases x with
  | int i=>
   cases y with
   | int j=>
    exact BD pins s σ H _ _ v u Q I rx ry ⟨_,_,rfl,rfl,h.1,h.2⟩
   | _=>exact False.elim h
  | _=>first | exact False.elim h | (cases y<;>exact False.elim h)
 | BitAnd=>
  cases x with
  | int i=>
   cases y with
   | int j=>
    exact BJ pins s σ H _ _ v u Q I rx ry ⟨_,_,rfl,rfl,h⟩
   | _=>exact False.elim h
  | _=>first | exact False.elim h | (cases y<;>exact False.elim h)
 | _=>exact False.elim h
theorem Cq {op:CmpOp} {x y:V} {H:Hp} {Q:VK} (h:eJ M op x y H Q) (e:op=.In):(∃ i j,x=.str i/\y=.str j)\/∃p,y=.ref p:=by
 cases y with
 | ref p=>exact .inr ⟨p,rfl⟩
 | str j=>cases x with
  | str i=>exact .inl ⟨i,j,rfl,rfl⟩
  | _=>subst e;exact False.elim h
 | _=>subst e;cases x<;>exact False.elim h
theorem w4 {op:CmpOp} {x y:V} {H:Hp} {Q:VK} (h:eJ M op x y H Q) (e:op=.Lt\/op=.LtE):(∃ i j,x=.int i/\y=.int j)\/∃i j,x=.str i/\y=.str j:=by
 cases x with
 | int i=>cases y with
  | int j=>exact .inl ⟨i,j,rfl,rfl⟩
  | _=>rcases e with e | e<;>(subst e;exact False.elim h)
 | str i=>cases y with
  | str j=>exact .inr ⟨i,j,rfl,rfl⟩
  | _=>rcases e with e | e<;>(subst e;exact False.elim h)
 | _=>rcases e with e | e<;>(subst e;exact False.elim h)
theorem jK (hu:X.A.units + 64 < cLine) (m:aJ X.K M) (op:CmpOp):iN X (compareOp op) (eJ M op):=by
 intro pins s σ H x y v u Q I rx ry h
 cases op with
 | Eq=>
  by_cases hs:jr x y=true
  ·exact Dv pins s σ H _ _ v u Q I rx ry ⟨hs,Eq.mp (if_pos hs) (show(if jr x y=true then _ else _)from h)⟩
  ·have h:=Eq.mp (if_neg hs) (show(if jr x y=true then _ else _)from h)
   split at h
   ·rename_i d e h1 h2
    exact(mO (n:=15) m I (by omega) rx ry h1 h2).1 X.prog X.w X.xe _ ⟨.bl _,H,I,rfl,h⟩
   ·exact h.elim
 | NotEq=>
  by_cases hs:jr x y=true
  ·exact Ds pins s σ H _ _ v u Q I rx ry ⟨hs,Eq.mp (if_pos hs) (show(if jr x y=true then _ else _)from h)⟩
  ·have h:=Eq.mp (if_neg hs) (show(if jr x y=true then _ else _)from h)
   split at h
   ·rename_i d e h1 h2
    exact(mO (n:=15) m I (by omega) rx ry h1 h2).2 X.prog X.w X.xe _ ⟨.bl _,H,I,rfl,h⟩
   ·exact h.elim
 | Lt=>
  obtain⟨i,j,rfl,rfl⟩ | ⟨i,j,rfl,rfl⟩:=w4 h (.inl rfl)
  ·exact Dt pins s σ H _ _ v u Q I rx ry ⟨_,_,rfl,rfl,h⟩
  ·exact uk pins s σ H _ _ v u Q I rx ry ⟨_,_,rfl,rfl,h⟩
 | LtE=>
  obtain⟨i,j,rfl,rfl⟩ | ⟨i,j,rfl,rfl⟩:=w4 h (.inr rfl)
  ·exact Du pins s σ H _ _ v u Q I rx ry ⟨_,_,rfl,rfl,h⟩
  ·obtain⟨t,rfl⟩:=rx
   obtain⟨t',rfl⟩:=ry
   exact PySem.P.le_str (aR I h rfl)
 | In=>
  obtain⟨i,j,rfl,rfl⟩ | ⟨p,rfl⟩:=Cq h rfl
  ·exact um pins s σ H _ _ v u Q I rx ry ⟨_,_,rfl,rfl,h⟩
  ·have h:(match rd M H p with
    | some (.lst xs)=>cL x=true/\xs.all cL=true/\Q (.bl (uR x xs)) H
    | some (.tup xs)=>cL x=true/\xs.all cL=true/\Q (.bl (uR x xs)) H
    | _=>False):=by cases x<;>exact h
   split at h
   ·rename_i e;exact mQ pins s σ H _ _ v u Q I rx ry ⟨_,_,rfl,.inl (bW m e),h.1,h.2.1,h.2.2⟩
   ·rename_i e;exact mQ pins s σ H _ _ v u Q I rx ry ⟨_,_,rfl,.inr (dI m e),h.1,h.2.1,h.2.2⟩
   ·exact h.elim
 | _=>exact False.elim h
theorem AV (m:aJ X.K M):EC X (fun x H Q=>eu M x H fun k=>Q k H):=by
 intro pins s σ H x v Q I rx h
 refine AU pins s σ H x v Q I rx ?_
 unfold eu at h
 split at h
 ·exact⟨_,rfl,h⟩
 ·exact⟨_,rfl,h⟩
 ·exact⟨_,rfl,h⟩
 ·exact⟨_,⟨h.1,rfl⟩,h.2⟩
 ·split at h
  ·rename_i e;exact⟨_,.inl ⟨_,bW m e,rfl⟩,h⟩
  ·rename_i e;exact⟨_,.inr (.inl ⟨_,dI m e,rfl⟩),h⟩
  ·exact h.elim
 ·exact h.elim
theorem Cr (m:aJ X.K M):yp X (gj M):=by
 intro value slice pins s σ H x y v u Q I rx ry h hs
 refine Cm value slice pins s σ H x y v u Q I rx ry ?_ hs
 unfold gj at h
 split at h
 ·obtain⟨h1,h⟩:=h
  split at h
  ·rename_i e;exact .inr (.inr ⟨_,_,_,rfl,rfl,h1,e,h⟩)
  ·exact h.elim
 ·split at h
  ·rename_i e
   split at h
   ·rename_i e2;exact .inl ⟨_,_,_,_,rfl,rfl,bW m e,e2,h⟩
   ·exact h.elim
  ·rename_i e
   split at h
   ·rename_i e2;exact .inr (.inl ⟨_,_,_,_,rfl,rfl,dI m e,e2,h⟩)
   ·exact h.elim
  ·exact h.elim
 ·exact h.elim
end
end Sw
namespace Sw
open PySem PySem.Spec PyProof.Rows L2
inductive Bf where | len | all | any | str | int | abs | sortset | list | max | min | dlist
 deriving DecidableEq
noncomputable def Bf.name:Bf->Str
 | .len=> "len" | .all=> "all" | .any=> "any" | .str=> "str" | .int=> "int" | .abs=> "abs" | .sortset=> "sorted" | .list=> "list" | .max=> "max" | .min=> "min" | .dlist=> "list"
inductive Mf where | startswith | split | join | append | dclear
 deriving DecidableEq
noncomputable def Mf.name:Mf->Str
 | .startswith=> "startswith" | .split=> "split" | .join=> "join" | .append=> "append" | .dclear=> "clear"
inductive Ty where | int | bool | dict | own (x:Str)
 deriving DecidableEq
noncomputable def Ty.name:Ty->Str
 | .int=> "int" | .bool=> "bool" | .dict=> "dict" | .own x=>x
mutual
inductive Ex where
 | var (i:Nat) | con (v:V) | glob (x:Str)
 | bin (op:Operator) (a b:Ex)
 | cmp (op:CmpOp) (a b:Ex) | cmp2 (o1 o2:CmpOp) (a b c:Ex)
 | and (a b:Ex) | or (a b:Ex) | not (a:Ex)
 | ite (c a b:Ex)
 | call (f:Str) (args:km)
 | blt (f:Bf) (args:km)
 | mth (m:Mf) (o:Ex) (args:km)
 | isin (a:Ex) (T:Ty)
 | idx (a b:Ex)
 | slc (a:Ex) (lo hi:km)
 | tup (es:km) | lst (es:km)
 | comp (x:Str) (fv:List (Str × Nat)) (it:Ix) (elt:Ex) (ifs:km)
 | callv (f:Ex) (args:km) | gidx (x:Str) (b:Ex)
 | cmpD (op:CmpOp) (a b:Ex) | idxD (a b:Ex) | dnew
 | lrev (a:Ex)
inductive km where
 | nil | cons (e:Ex) (r:km)
inductive Ix where
 | ex (e:Ex) | rng1 (a:Ex)
end
mutual
inductive Sx where
 | asg (i:Nat) (e:Ex)
 | exp (e:Ex) | ret (e:Ex)
 | iff (c:Ex) (a b:cR)
 | whl (c:Ex) (b:cR)
 | fr (i:Nat) (it:Ix) (b:cR)
 | rais (C:Str) (args:km)
 | tryx (b:cR) (C:Str) (i:Option Nat) (h:cR)
 | sto (o i e:Ex) | asgT (is:List Nat) (e:Ex) | frT (is:List Nat) (it:Ix) (b:cR) | raisF (C:Str) (args:km)
 | asgL (i:Nat) (f:Str) (a:Ex) (le:Expr)
 | frD (i:Nat) (e:Ex) (b:cR)
 | frE (i j:Nat) (e:Ex) (b:cR) | frV (i:Nat) (e:Ex) (b:cR)
inductive cR where
 | nil | cons (s:Sx) (r:cR)
end
noncomputable def j2 (sc:Scope) (x:Str):Bool:=match sc.names.lookup x with
 | some .local=>true | some .cell=>true | some .free=>true | _=>false
noncomputable def eL (sc:Scope) (x:Str):Bool:=match sc.names.lookup x with
 | some .local=>true | some .cell=>true | _=>false
noncomputable def ef (sc:Scope) (x:Str):Bool:=match sc.names.lookup x with
 | some .globalImplicit=>true | _=>false
noncomputable def bH (x:Str):Bool:=!(x == ("__debug__" :Str)) && !(x == ("__classdict__" :Str)) && !(decide (x= "__name__"))
noncomputable def bK:Expr->Bool
 | .Starred _ _=>false | .Set _ _ _=>false | .Slice _ _ _ _=>false | _=>true
noncomputable def fg:Expr->Bool
 | .Call (.Name _ _) [] [] _=>false | _=>true
noncomputable def fk (sc:Scope) (cu:Scope) (N ns:List Str) (fv:List (Str × Nat)):Bool:=
 decide (cu.kind=.function) && ns.all (fun x=>decide (cu.names.lookup x=some .local)) && decide (sc.kind=.function)
 && cu.names.all (fun y=>decide (y.2 ≠ .cell) && (decide (y.2 ≠ .local) || decide (cu.names.lookup y.1=some .local)) && (decide (y.2 ≠ .free) || (decide (sc.names.lookup y.1=some .cell) || decide (sc.names.lookup y.1=some .free))))
 && fv.all (fun y=>decide (N[y.2]?=some y.1) && decide (cu.names.lookup y.1=some .free))
 && decide (ns++fv.map (·.1)).Nodup
noncomputable def ek:Expr->List Expr
 | .BoolOp _ vs _=>vs
 | .BinOp a _ b _=>[a,b]
 | .UnaryOp _ a _=>[a]
 | .IfExp c a b _=>[c,a,b]
 | .Dict ks vs _=>((ks.zip vs).map fun t=>[t.1.getD default,t.2]).flatten
 | .ListComp e gs _ _=>e::(gs.map fun g=>g.target::g.iter::g.ifs).flatten
 | .Compare a _ bs _=>a::bs
 | .Call f es _ _=>f::es
 | .FormattedValue a _ _ _=>[a]
 | .JoinedStr vs _=>vs
 | .Attribute a _ _=>[a]
 | .Subscript a b _=>[a,b]
 | .List es _=>es
 | .Tuple es _ _=>es
 | .Slice l u _ _=>[l.getD default,u.getD default]
 | _=>[]
noncomputable def kd:Expr->Nat
 | .Constant _ k _=>k
 | .Tuple _ k _=>k
 | _=>0
noncomputable def cu:Expr->Scope
 | .ListComp _ _ sc _=>sc
 | _=>default
noncomputable def bo (e:Expr) (i:Nat):Expr:=(ek e).getD i default
noncomputable def se:Stmt->List Expr
 | .Return v _=>[v.getD default]
 | .Assign ts v _=>ts++[v]
 | .For t it _ _ _=>[t,it]
 | .While c _ _ _=>[c]
 | .If c _ _ _=>[c]
 | .Raise e c _=>[e.getD default,c.getD default]
 | .Try _ hs _ _ _=>hs.map fun h=>match h with | .ExceptHandler t _ _ _=>t.getD default
 | .Expr v _=>[v]
 | _=>[]
noncomputable def sb:Stmt->List Stmt × List Stmt
 | .For _ _ b _ _=>(b,[])
 | .While _ b _ _=>(b,[])
 | .If _ a b _=>(a,b)
 | .Try b hs _ _ _=>(b,(hs.map fun h=>match h with | .ExceptHandler _ _ b _=>b).flatten)
 | _=>([],[])
noncomputable def Fu:Stmt->Pos
 | .Try _ (.ExceptHandler _ _ _ p::_) _ _ _=>p
 | _=>⟨0,0,0,0⟩
noncomputable def sk (s:Stmt) (i:Nat):Expr:=(se s).getD i default
noncomputable def nx (N:List Str) (i:Nat):Str:=N.getD i Str.empty
noncomputable def Gk:V->Const
 | .int i=>.int i | .str x=>.str x | .bl b=>.bool b | _=>.none
noncomputable def Gj:V->Bool
 | .int _=>true | .str _=>true | .bl _=>true | .non=>true | _=>false
noncomputable def xr:Ex->Bool
 | .and _ _=>true | _=>false
noncomputable def Co:Ex->Bool
 | .or _ _=>true | _=>false
noncomputable def iz:Ex->Bool
 | .comp _ _ _ _ _=>true | _=>false
noncomputable def isTup:Ex->Bool
 | .tup _=>true | _=>false
noncomputable def DD:cR->Bool
 | .nil=>false | _=>true
noncomputable def km.len:km->Nat
 | .nil=>0
 | .cons _ r=>r.len + 1
noncomputable def DQ:Ex->Bool
 | .var _=>true | .idx _ _=>true | _=>false
noncomputable def isIn (fv:List (Str × Nat)) (x:Str):List Str:=x::fv.map (·.1)
noncomputable def bN (N:List Str):List Nat->List Expr->List Expr
 | [],_=>[]
 | i::is,ts=>.Name (nx N i) (ts.headD default).pos::bN N is ts.tail
mutual
noncomputable def bE (N:List Str):Ex->Expr->Expr
 | .var i,e=>.Name (nx N i) e.pos
 | .con v,e=>.Constant (Gk v) (kd e) e.pos
 | .glob x,e=>.Name x e.pos
 | .bin op a b,e=>.BinOp (bE N a (bo e 0)) op (bE N b (bo e 1)) e.pos
 | .cmp op a b,e=>.Compare (bE N a (bo e 0)) [op] [bE N b (bo e 1)] e.pos
 | .cmp2 o1 o2 a b c,e=>.Compare (bE N a (bo e 0)) [o1,o2] [bE N b (bo e 1),bE N c (bo e 2)] e.pos
 | .and a b,e=>.BoolOp .And (bE N a (bo e 0)::(cond (decide ((ek e).length=2)) [bE N b (bo e 1)] (ek (bE N b (.BoolOp .And (ek e).tail e.pos))))) e.pos
 | .or a b,e=>.BoolOp .Or (bE N a (bo e 0)::(cond (decide ((ek e).length=2)) [bE N b (bo e 1)] (ek (bE N b (.BoolOp .Or (ek e).tail e.pos))))) e.pos
 | .not a,e=>.UnaryOp .Not (bE N a (bo e 0)) e.pos
 | .ite c a b,e=>.IfExp (bE N c (bo e 0)) (bE N a (bo e 1)) (bE N b (bo e 2)) e.pos
 | .call f args,e=>.Call (.Name f (bo e 0).pos) (mC N args (ek e).tail) [] e.pos
 | .blt f args,e=>.Call (.Name f.name (bo e 0).pos) (mC N args (ek e).tail) [] e.pos
 | .mth m o args,e=>.Call (.Attribute (bE N o (bo (bo e 0) 0)) m.name (bo e 0).pos) (mC N args (ek e).tail) [] e.pos
 | .isin a T,e=>.Call (.Name "isinstance" (bo e 0).pos) [bE N a (bo e 1),.Name T.name (bo e 2).pos] [] e.pos
 | .idx a b,e=>.Subscript (bE N a (bo e 0)) (bE N b (bo e 1)) e.pos
 | .slc a lo hi,e=>.Subscript (bE N a (bo e 0)) (.Slice (mC N lo [bo (bo e 1) 0]).head? (mC N hi [bo (bo e 1) 1]).head? none (bo e 1).pos) e.pos
 | .tup es,e=>.Tuple (mC N es (ek e)) (kd e) e.pos
 | .lst es,e=>.List (mC N es (ek e)) e.pos
 | .comp x fv it elt ifs,e=>.ListComp (bE (isIn fv x) elt (bo e 0)) [⟨.Name x (bo e 1).pos,bI N it (bo e 2),mC (isIn fv x) ifs ((ek e).drop 3),0⟩] (cu e) e.pos
 | .callv f args,e=>.Call (bE N f (bo e 0)) (mC N args (ek e).tail) [] e.pos
 | .gidx x b,e=>.Subscript (.Name x (bo e 0).pos) (bE N b (bo e 1)) e.pos
 | .cmpD op a b,e=>.Compare (bE N a (bo e 0)) [op] [bE N b (bo e 1)] e.pos
 | .idxD a b,e=>.Subscript (bE N a (bo e 0)) (bE N b (bo e 1)) e.pos
 | .dnew,e=>.Dict [] [] e.pos
 | .lrev a,e=>.Call (.Name "list" (bo e 0).pos) [.Call (.Name "reversed" (bo (bo e 1) 0).pos) [bE N a (bo (bo e 1) 1)] [] (bo e 1).pos] [] e.pos
noncomputable def mC (N:List Str):km->List Expr->List Expr
 | .nil,_=>[]
 | .cons c r,es=>bE N c (es.headD default)::mC N r es.tail
noncomputable def bI (N:List Str):Ix->Expr->Expr
 | .ex c,e=>bE N c e
 | .rng1 a,e=>.Call (.Name "range" (bo e 0).pos) [bE N a (bo e 1)] [] e.pos
end
mutual
/-- what must hold besides -/
noncomputable def oE (sc:Scope) (N:List Str):Ex->Expr->Bool
 | .var i,_=>decide (i < N.length) && (j2 sc (nx N i) && bH (nx N i))
 | .con v,_=>Gj v
 | .glob x,_=>ef sc x && bH x
 | .bin _ a b,e=>oE sc N a (bo e 0) && oE sc N b (bo e 1)
 | .cmp _ a b,e=>oE sc N a (bo e 0) && oE sc N b (bo e 1)
 | .cmp2 _ _ a b c,e=>oE sc N a (bo e 0) && (oE sc N b (bo e 1) && oE sc N c (bo e 2))
 | .and a b,e=>oE sc N a (bo e 0) && (cond (decide ((ek e).length=2)) (oE sc N b (bo e 1)) (xr b && oE sc N b (.BoolOp .And (ek e).tail e.pos)))
 | .or a b,e=>oE sc N a (bo e 0) && (cond (decide ((ek e).length=2)) (oE sc N b (bo e 1)) (Co b && oE sc N b (.BoolOp .Or (ek e).tail e.pos)))
 | .not a,e=>oE sc N a (bo e 0)
 | .ite c a b,e=>oE sc N c (bo e 0) && (oE sc N a (bo e 1) && oE sc N b (bo e 2))
 | .call f args,e=>(ef sc f && bH f) && pH sc N args (ek e).tail
 | .blt f args,e=>(ef sc f.name && bH f.name) && ((decide (f ≠ .sortset) && decide (args.len ≠ 0)) && pH sc N args (ek e).tail)
 | .mth _ o args,e=>(fg (bE N o (bo (bo e 0) 0)) && ((bo e 0).pos.endLine == e.pos.line)) && (decide (args.len < 20) && (oE sc N o (bo (bo e 0) 0) && pH sc N args (ek e).tail))
 | .isin a T,e=>(ef sc "isinstance" && (ef sc T.name && bH T.name)) && oE sc N a (bo e 1)
 | .idx a b,e=>oE sc N a (bo e 0) && oE sc N b (bo e 1)
 | .slc a lo hi,e=>oE sc N a (bo e 0) && (pH sc N lo [bo (bo e 1) 0] && pH sc N hi [bo (bo e 1) 1])
 | .tup es,e=>pH sc N es (ek e)
 | .lst es,e=>pH sc N es (ek e)
 | .comp x fv it elt ifs,e=>(fk sc (cu e) N [x] fv && decide (ifs.len<=1)) && (oI sc N it (bo e 2) && (oE (cu e) (isIn fv x) elt (bo e 0) && pH (cu e) (isIn fv x) ifs ((ek e).drop 3)))
 | .callv f args,e=>(DQ f && decide (args.len ≠ 0)) && (oE sc N f (bo e 0) && pH sc N args (ek e).tail)
 | .gidx x b,e=>(ef sc x && bH x) && oE sc N b (bo e 1)
 | .cmpD _ a b,e=>oE sc N a (bo e 0) && oE sc N b (bo e 1)
 | .idxD a b,e=>oE sc N a (bo e 0) && oE sc N b (bo e 1)
 | .dnew,_=>true
 | .lrev a,e=>(ef sc "list" && ef sc "reversed") && oE sc N a (bo (bo e 1) 1)
noncomputable def pH (sc:Scope) (N:List Str):km->List Expr->Bool
 | .nil,_=>true
 | .cons c r,es=>oE sc N c (es.headD default) && pH sc N r es.tail
noncomputable def oI (sc:Scope) (N:List Str):Ix->Expr->Bool
 | .ex c,e=>oE sc N c e
 | .rng1 a,e=>ef sc "range" && oE sc N a (bo e 1)
end
noncomputable def n5:Expr->Bool
 | .ListComp _ _ _ _=>false | .SetComp _ _ _ _=>false | .DictComp _ _ _ _ _=>false | _=>true
noncomputable def qA (sc s:Scope) (x:Str) (tp p:Pos):Bool:=decide (sc.names.lookup x=some .local) && ((tp.line == p.line) && !(s.names.any fun(n,k)=>n == x && (k == .local || k == .cell)))
noncomputable def wJ:Expr->Bool
 | .Tuple _ _ _=>false | _=>true
noncomputable def oN (sc:Scope) (N:List Str):List Nat->Bool
 | []=>true
 | i::is=>(decide (i < N.length) && eL sc (nx N i)) && oN sc N is
mutual
noncomputable def bS (N:List Str):Sx->Stmt->Stmt
 | .asg i e,st=>.Assign [.Name (nx N i) (sk st 0).pos] (bE N e (sk st 1)) st.pos
 | .exp e,st=>.Expr (bE N e (sk st 0)) st.pos
 | .ret e,st=>.Return (some (bE N e (sk st 0))) st.pos
 | .iff c a b,st=>.If (bE N c (sk st 0)) (tG N a (sb st).1) (tG N b (sb st).2) st.pos
 | .whl c b,st=>.While (bE N c (sk st 0)) (tG N b (sb st).1) [] st.pos
 | .fr i it b,st=>.For (.Name (nx N i) (sk st 0).pos) (bI N it (sk st 1)) (tG N b (sb st).1) [] st.pos
 | .rais C args,st=>.Raise (some (.Call (.Name C (bo (sk st 0) 0).pos) (mC N args (ek (sk st 0)).tail) [] (sk st 0).pos)) none st.pos
 | .tryx b C i h,st=>.Try (tG N b (sb st).1) [.ExceptHandler (some (.Name C (sk st 0).pos)) (i.map (nx N)) (tG N h (sb st).2) (Fu st)] [] [] st.pos
 | .sto o i e,st=>.Assign [.Subscript (bE N o (bo (sk st 0) 0)) (bE N i (bo (sk st 0) 1)) (sk st 0).pos] (bE N e (sk st 1)) st.pos
 | .asgT is e,st=>.Assign [.Tuple (bN N is (ek (sk st 0))) (kd (sk st 0)) (sk st 0).pos] (bE N e (sk st 1)) st.pos
 | .frT is it b,st=>.For (.Tuple (bN N is (ek (sk st 0))) (kd (sk st 0)) (sk st 0).pos) (bI N it (sk st 1)) (tG N b (sb st).1) [] st.pos
 | .raisF C args,st=>.Raise (some (.Call (.Name C (bo (sk st 0) 0).pos) (mC N args (ek (sk st 0)).tail) [] (sk st 0).pos)) (some (.Constant .none (kd (sk st 1)) (sk st 1).pos)) st.pos
 | .asgL i f a le,st=>.Assign [.Name (nx N i) (sk st 0).pos] (.Call (.Name f (bo (sk st 1) 0).pos) [bE N a (bo (sk st 1) 1),le] [] (sk st 1).pos) st.pos
 | .frD i e b,st=>.For (.Name (nx N i) (sk st 0).pos) (bE N e (sk st 1)) (tG N b (sb st).1) [] st.pos
 | .frE i j e b,st=>.For (.Tuple (bN N [i,j] (ek (sk st 0))) (kd (sk st 0)) (sk st 0).pos) (.Call (.Name "enumerate" (bo (sk st 1) 0).pos) [bE N e (bo (sk st 1) 1)] [] (sk st 1).pos) (tG N b (sb st).1) [] st.pos
 | .frV i e b,st=>.For (.Name (nx N i) (sk st 0).pos) (.Call (.Attribute (bE N e (bo (bo (sk st 1) 0) 0)) "values" (bo (sk st 1) 0).pos) [] [] (sk st 1).pos) (tG N b (sb st).1) [] st.pos
noncomputable def tG (N:List Str):cR->List Stmt->List Stmt
 | .nil,_=>[]
 | .cons c r,ss=>bS N c (ss.headD default)::tG N r ss.tail
end
mutual
noncomputable def oS (sc:Scope) (N:List Str):Sx->Stmt->Bool
 | .asg i e,st=>(decide (i < N.length) && eL sc (nx N i)) && ((!iz e || qA sc (cu (sk st 1)) (nx N i) (sk st 0).pos (sk st 1).pos) && oE sc N e (sk st 1))
 | .exp e,st=>!iz e && oE sc N e (sk st 0)
 | .ret e,st=>oE sc N e (sk st 0)
 | .iff c a b,st=>oE sc N c (sk st 0) && (uB sc N a (sb st).1 && uB sc N b (sb st).2)
 | .whl c b,st=>oE sc N c (sk st 0) && uB sc N b (sb st).1
 | .fr i it b,st=>(decide (i < N.length) && eL sc (nx N i)) && (oI sc N it (sk st 1) && uB sc N b (sb st).1)
 | .rais C args,st=>(ef sc C && bH C) && pH sc N args (ek (sk st 0)).tail
 | .tryx b C i h,st=>(ef sc C && bH C) && (i.all (fun j=>decide (j < N.length) && decide (sc.names.lookup (nx N j)=some .local)) && (uB sc N b (sb st).1 && (DD h && uB sc N h (sb st).2)))
 | .sto o i e,st=>(!iz e && oE sc N o (bo (sk st 0) 0)) && (oE sc N i (bo (sk st 0) 1) && oE sc N e (sk st 1))
 | .asgT is e,st=>((!iz e && !isTup e) && oN sc N is) && oE sc N e (sk st 1)
 | .frT is it b,st=>oN sc N is && (oI sc N it (sk st 1) && uB sc N b (sb st).1)
 | .raisF C args,st=>(ef sc C && bH C) && pH sc N args (ek (sk st 0)).tail
 | .asgL i f a _,st=>(decide (i < N.length) && eL sc (nx N i)) && ((ef sc f && bH f) && oE sc N a (bo (sk st 1) 1))
 | .frD i e b,st=>(decide (i < N.length) && eL sc (nx N i)) && (oE sc N e (sk st 1) && uB sc N b (sb st).1)
 | .frE i j e b,st=>(oN sc N [i,j] && ef sc "enumerate") && (oE sc N e (bo (sk st 1) 1) && uB sc N b (sb st).1)
 | .frV i e b,st=>((decide (i < N.length) && eL sc (nx N i)) && (fg (bE N e (bo (bo (sk st 1) 0) 0)) && ((bo (sk st 1) 0).pos.endLine == (sk st 1).pos.line))) && (oE sc N e (bo (bo (sk st 1) 0) 0) && uB sc N b (sb st).1)
noncomputable def uB (sc:Scope) (N:List Str):cR->List Stmt->Bool
 | .nil,_=>true
 | .cons c r,ss=>oS sc N c (ss.headD default) && uB sc N r ss.tail
end
noncomputable def eZ (sc:Scope) (N:List Str) (b:cR) (ss:List Stmt):Prop:=tG N b ss=ss/\uB sc N b ss=true
end Sw
namespace Sw
open PySem PySem.Spec PyProof.Rows L2
@[reducible] noncomputable def St:=L2.St
@[reducible] noncomputable def XS:=Value->Option Addr->St->Hp->Prop
noncomputable def X0:XS:=fun _ _ _ _=>False
@[reducible] noncomputable def Tb:=Addr × Pos × Str
noncomputable def TabAt (H:Hp) (t:Tb):Prop:=H t.1=some (.tbl #[])\/∃c',H t.1=some (.tbl #[rawInt t.2.1.line,rawInt t.2.1.col,.ref c'])/\H c'=some (.cod t.2.2)
structure bp (M:Mo) (H H':Hp):Prop where
 same:∀a o,H a=some o->(∀ ps,o ≠ .tbl ps)->H' a=some o
 off:∀a,M a ≠ none->H a=none->H' a=none
 yt:∀a,H a ≠ none->H' a ≠ none
noncomputable def era (H:Hp) (c:Addr):Hp:=fun b=>if b=c then none else H b
structure dG where
 T:Addr
 pos:Pos
 iq:Str
 x:Str
 xi:Nat
 args:Arguments
 body:Expr
 scope:Scope
noncomputable def dG.le (D:dG):Expr:=.Lambda D.args D.body D.scope D.pos
structure qw (D:dG) (H:Hp) (f c:Addr) (v:V):Prop where
 ex:∃ (c':Addr) (pm ctv:Value),H f=some (.clo (PySem.W.kla_fn "<lambda>" D.iq D.args D.body D.scope [(D.x,c)] pm (.ref c') ctv))/\H c'=some (.cod D.iq)
 dw:∃oc,H c=some (.frz oc (.dw v))
structure bf where
 con:Str->Option V
 mod:Mo
 has:Str->Bool
 fn:Str->Sp
 cm:Bool:=true
 /-- what a call of the function at an address promises -/
 vc:Addr->Sp:=fun _ _ _ _ _=>False
 /-- the module's dicts -/
 gd:Str->Option (List (Key × V)):=fun _=>none
 /-- the lambda of the def that is looked at, the tables -/
 lm:Option (dG × List Tb):=none
noncomputable def keyOf:V->Option Key
 | .int i=>some (.inl i)
 | .str x=>some (.inr x)
 | _=>none
noncomputable def AI:V->Option Bool
 | .bl b=>some b
 | _=>none
noncomputable def Ey:V->Option Str
 | .str x=>some x
 | _=>none
noncomputable def known (M:Mo) (H:Hp):V->Bool
 | .ref p=>match H p with
  | some (.lst _)=>true | some (.tup _)=>true | some (.dK _)=>true | some (.frz _ (.lst _))=>true | _=>false
 | .non=>true | .bl _=>true | .int _=>true | .str _=>true
 | _=>false
noncomputable def my (T:Ty) (H:Hp):V->Bool
 | .int _=>decide (T=.int)
 | .bl _=>decide (T=.bool) || decide (T=.int)
 | .ref p=>match H p with
  | some (.dK _)=>decide (T=.dict) | _=>false
 | _=>false
noncomputable def xm (x:V) (H:Hp):Bool:=match x with
 | .ref p=>(match H p with | some (.dK _)=>true | _=>false)
 | _=>false
section
variable (M:Mo)
noncomputable def eQ (f:Bf) (vs:List V) (H:Hp) (Q:VK):Prop:=match f,vs with
 | .len,[.str y]=>y.length<=sizeLine/\Q (.int y.length) H
 | .len,[.ref p]=>match rd M H p with
  | some (.lst xs)=>Q (.int xs.length) H
  | some (.tup xs)=>Q (.int xs.length) H
  | _=>False
 | .all,[.ref p]=>match rd M H p with
  | some (.lst xs)=>match allM AI xs with | some bs=>Q (.bl (bs.all id)) H | none=>False
  | _=>False
 | .any,[.ref p]=>match rd M H p with
  | some (.lst xs)=>match allM AI xs with | some bs=>Q (.bl (bs.any id)) H | none=>False
  | _=>False
 | .str,[.int i]=>i.natAbs.log2 < 1920/\Q (.str (toString i)) H
 | .int,[.str x]=>x.length<=640/\match PySem.intText? x with | some n=>Q (.int n) H | none=>False
 | .abs,[.int i]=>Q (.int (if i < 0 then -i else i)) H
 | .int,[.bl b]=>Q (.int (if b then 1 else 0)) H
 | .max,[.int i,.int j]=>Q (.int (if j > i then j else i)) H
 | .list,[.ref p]=>match rd M H p with
  | some (.lst xs)=>∀l,H l=none->M l=none->Q (.ref l) (upd H l (.lst xs))
  | some (.tup xs)=>∀l,H l=none->M l=none->Q (.ref l) (upd H l (.lst xs))
  | _=>False
 | .dlist,[.ref p]=>match H p with
  | some (.dK kvs)=>∀l,H l=none->M l=none->Q (.ref l) (upd H l (.lst (kvs.map fun y=>kV y.1)))
  | _=>False
 | _,_=>False
noncomputable def f_ (m:Mf) (x:V) (vs:List V) (H:Hp) (Q:VK):Prop:=match m,x,vs with
 | .startswith,.str x,[.str y]=>Q (.bl (Txt.startswith x y)) H
 | .join,.str x,[.ref p]=>match rd M H p with
  | some (.lst xs)=>match allM Ey xs with
   | some ts=>JoinOk x ts=true/\Q (.str (Txt.join x ts)) H
   | none=>False
  | _=>False
 | .split,.str x,[.str y]=>(y.length == 0)=false/\x.length<=1000000/\∀l,H l=none->M l=none->Q (.ref l) (upd H l (.lst ((Txt.split x y).map V.str)))
 | .append,.ref p,[v]=>match H p with
  | some (.lst xs)=>xs.length < sizeLine/\Q .non (upd H p (.lst (xs++[v])))
  | _=>False
 | .dclear,.ref p,[]=>match H p with
  | some (.dK _)=>Q .non (upd H p (.dK []))
  | _=>False
 | _,_,_=>False
noncomputable def AA (m:Mf) (x:V) (H:Hp):Bool:=match m with
 | .append=>(match x with | .ref p=>(match rd M H p with | some (.lst _)=>true | _=>false) | _=>false)
 | .dclear=>xm x H
 | _=>(match x with | .str _=>true | _=>false)
noncomputable def t8 (x:V) (lo hi:Option Int) (H:Hp) (Q:VK):Prop:=match x with
 | .str z=>z.length<=sizeLine/\Q (.str (Txt.slice z lo hi)) H
 | .ref p=>match rd M H p with
  | some (.lst xs)=>∀l,H l=none->M l=none->Q (.ref l) (upd H l (.lst (jJ xs lo hi)))
  | _=>False
 | _=>False
noncomputable def bD (x:V) (H:Hp) (k:List V->(Hp->Prop)->Prop):Prop:=match x with
 | .str z=>z.length<=sizeLine/\k (z.cps.toList.map fun c=>.str ⟨#[c]⟩) (fun _=>True)
 | .ref p=>match rd M H p with
  | some (.lst xs)=>k xs (fun H'=>rd M H' p=some (.lst xs))
  | some (.tup xs)=>k xs (fun H'=>rd M H' p=some (.tup xs))
  | _=>False
 | _=>False
end
noncomputable def cV (te:TE) (tt:TT) (fvs:St) (D:Addr) (aC:Hp->Prop):List V->List V->Hp->(Hp->Prop)->Prop
 | [],acc,H,k=>aC H/\H D=some (.lst acc)/\k H
 | v::r,acc,H,k=>aC H/\tt (some v::fvs) H fun ok H1=>
  if ok=true then te (some v::fvs) H1 fun y H2=>H2 D=some (.lst acc)/\acc.length < sizeLine/\cV te tt fvs D aC r (acc++[y]) (upd H2 D (.lst (acc++[y]))) k
  else cV te tt fvs D aC r acc H1 k
noncomputable def jd (i:Nat) (tb:TS) (aC:Hp->Prop):List V->TS
 | [],D,σ,H=>aC H/\D.nx σ H
 | v::r,D,σ,H=>aC H/\tb {D with nx:=jd i tb aC r D,ct:=jd i tb aC r D,bk:=D.nx} (σ.set i (some v)) H
noncomputable def il:St->List Nat->List V->St
 | σ,i::is,x::xs=>il (σ.set i (some x)) is xs
 | σ,_,_=>σ
noncomputable def ic (M:Mo) (is:List Nat) (tb:TS) (aC:Hp->Prop):List V->TS
 | [],D,σ,H=>aC H/\D.nx σ H
 | v::r,D,σ,H=>aC H/\match v with
  | .ref p=>(match rd M H p with
   | some (.tup xs)=>xs.length=is.length/\tb {D with nx:=ic M is tb aC r D,ct:=ic M is tb aC r D,bk:=D.nx} (il σ is xs) H
   | _=>False)
  | _=>False
noncomputable def vz (x k v:V) (H:Hp) (Q:Hp->Prop):Prop:=match x with
 | .ref p=>(match H p with
  | some (.lst xs)=>(match k with | .int j=>(match yr xs.length j with | some n=>Q (upd H p (.lst (xs.set n v))) | none=>False) | _=>False)
  | some (.dK kvs)=>(match keyOf k with | some kk=>kvs.length < sizeLine/\Q (upd H p (.dK (putK kvs kk v))) | none=>False)
  | _=>False)
 | _=>False
noncomputable def p0 (M:Mo) (x y:V) (H:Hp) (Q:VK):Prop:=match x with
 | .ref p=>(match rd M H p with
  | some (.dK kvs)=>(match keyOf y with | some k=>(match dz kvs k with | some v=>Q v H | none=>False) | none=>False)
  | _=>False)
 | _=>False
noncomputable def qg (M:Mo) (H:Hp):V->Option (List (Key × V))
 | .ref p=>(match rd M H p with | some (.dK kvs)=>some kvs | _=>none)
 | _=>none
noncomputable def fO (M:Mo) (H:Hp):Nat->V->V->Bool
 | 0,_,_=>false
 | n + 1,x,y=>match qg M H x,qg M H y with
  | some a,some b=>decide (x ≠ y) && (decide (a.length=b.length) && a.all fun e=>match dz b e.1 with | some u=>fO M H n e.2 u | none=>false)
  | none,none=>(match data M H 0 x,data M H 0 y with
   | some d,some e=>PyData.eqv d e
   | _,_=>false)
  | _,_=>false
noncomputable def xZ (M:Mo) (op:CmpOp) (x y:V) (H:Hp) (Q:VK):Prop:=match op with
 | .NotEq=>(qg M H x).isSome=true/\(qg M H y).isSome=true/\fO M H 4 x y=true/\Q (.bl false) H
 | _=>False
noncomputable def iU (p:Addr) (o:Obj) (kvs:List (Key × V)) (D:Ends):Ends where
 nx:=fun σ H=>H p=some (.frz o (.dK kvs))/\D.nx σ (upd H p (.dK kvs))
 rt:=fun v H=>H p=some (.frz o (.dK kvs))/\D.rt v (upd H p (.dK kvs))
 bk:=fun _ _=>False
 ct:=fun _ _=>False
noncomputable def jc (M:Mo) (i j:Nat) (tb:TS) (aC:Hp->Prop):List (Nat × V)->TS
 | [],D,σ,H=>aC H/\D.nx σ H
 | y::r,D,σ,H=>aC H/\∀t,H t=none->M t=none->tb {D with nx:=jc M i j tb aC r D,ct:=jc M i j tb aC r D,bk:=D.nx} ((σ.set i (some (.int y.1))).set j (some y.2)) (upd H t (.tup [.int y.1,y.2]))
noncomputable def vars (σ:St) (fv:List (Str × Nat)):St:=fv.map fun y=>(σ[y.2]?).join
noncomputable def gy (bd:V->Hp->Option St) (te:TE) (tt:TT) (fvs:St) (D:Addr) (aC:Hp->Prop):List V->List V->Hp->(Hp->Prop)->Prop
 | [],acc,H,k=>aC H/\H D=some (.lst acc)/\k H
 | v::r,acc,H,k=>aC H/\match bd v H with
  | some w=>tt (w++fvs) H fun ok H1=>if ok=true then te (w++fvs) H1 fun y H2=>H2 D=some (.lst acc)/\acc.length < sizeLine/\gy bd te tt fvs D aC r (acc++[y]) (upd H2 D (.lst (acc++[y]))) k
   else gy bd te tt fvs D aC r acc H1 k
  | none=>False
noncomputable def gx {ι:Type} (nxt:ι->Hp->(St->Hp->Prop)->Prop) (te:TE) (tt:TT) (fvs:St) (D:Addr) (aC:Hp->Prop):List ι->List V->Hp->(Hp->Prop)->Prop
 | [],acc,H,k=>aC H/\H D=some (.lst acc)/\k H
 | v::r,acc,H,k=>aC H/\nxt v H fun w H0=>tt (w++fvs) H0 fun ok H1=>if ok=true then te (w++fvs) H1 fun y H2=>H2 D=some (.lst acc)/\acc.length < sizeLine/\gx nxt te tt fvs D aC r (acc++[y]) (upd H2 D (.lst (acc++[y]))) k
   else gx nxt te tt fvs D aC r acc H1 k
noncomputable def lK (M:Mo) (x:V) (H:Hp) (k:List (Nat × V)->(Hp->Prop)->Prop):Prop:=match x with
 | .ref p=>(match rd M H p with
  | some (.lst xs)=>k ((List.range xs.length).zip xs) (fun H'=>rd M H' p=some (.lst xs))
  | _=>False)
 | _=>False
noncomputable def pU (M:Mo) (x:V) (H:Hp) (Q:VK):Prop:=match x with
 | .ref p=>(match rd M H p with
  | some (.lst xs)=>∀l,H l=none->M l=none->Q (.ref l) (upd H l (.lst xs.reverse))
  | _=>False)
 | _=>False
mutual
noncomputable def wE (Γ:bf):Ex->XS->TE
 | .var i,_=>fun σ H Q=>match σ[i]? with | some (some v)=>Q v H | _=>False
 | .con v,_=>fun _ H Q=>Q v H
 | .glob x,_=>fun _ H Q=>match Γ.con x with | some v=>Q v H | none=>False
 | .bin op a b,Ξ=>fun σ H Q=>wE Γ a Ξ σ H fun x H1=>wE Γ b Ξ σ H1 fun y H2=>iE Γ.mod op x y H2 Q
 | .cmp op a b,Ξ=>fun σ H Q=>wE Γ a Ξ σ H fun x H1=>wE Γ b Ξ σ H1 fun y H2=>eJ Γ.mod op x y H2 Q
 | .cmp2 o1 o2 a b c,Ξ=>fun σ H Q=>wE Γ a Ξ σ H fun x H1=>wE Γ b Ξ σ H1 fun y H2=>eJ Γ.mod o1 x y H2 fun z H3=>∃k,z=.bl k/\
  if k=true then wE Γ c Ξ σ H3 fun u H4=>eJ Γ.mod o2 y u H4 Q else Q (.bl false) H3
 | .and a b,Ξ=>fun σ H Q=>wE Γ a Ξ σ H fun x H1=>eu Γ.mod x H1 fun k=>if k=true then wE Γ b Ξ σ H1 Q else Q x H1
 | .or a b,Ξ=>fun σ H Q=>wE Γ a Ξ σ H fun x H1=>eu Γ.mod x H1 fun k=>if k=true then Q x H1 else wE Γ b Ξ σ H1 Q
 | .not a,Ξ=>fun σ H Q=>wE Γ a Ξ σ H fun x H1=>eu Γ.mod x H1 fun k=>Q (.bl (!k)) H1
 | .ite c a b,Ξ=>fun σ H Q=>wT Γ c Ξ σ H fun k H1=>if k=true then wE Γ a Ξ σ H1 Q else wE Γ b Ξ σ H1 Q
 | .call f args,Ξ=>fun σ H Q=>(Γ.cm=true/\Γ.has f=true)/\wEs Γ args Ξ σ H fun vs H1=>Γ.fn f vs H1 Q fun C d H'=>Ξ C d σ H'
 | .blt f args,Ξ=>fun σ H Q=>Γ.cm=true/\wEs Γ args Ξ σ H fun vs H1=>eQ Γ.mod f vs H1 Q
 | .mth m o args,Ξ=>fun σ H Q=>wE Γ o Ξ σ H fun x H1=>AA Γ.mod m x H1=true/\wEs Γ args Ξ σ H1 fun vs H2=>f_ Γ.mod m x vs H2 Q
 | .isin a T,Ξ=>fun σ H Q=>wE Γ a Ξ σ H fun x H1=>match T with
  | .own _=>False
  | T=>known Γ.mod H1 x=true/\Q (.bl (my T H1 x)) H1
 | .idx a b,Ξ=>fun σ H Q=>wE Γ a Ξ σ H fun x H1=>wE Γ b Ξ σ H1 fun y H2=>gj Γ.mod x y H2 Q
 | .slc a lo hi,Ξ=>fun σ H Q=>wE Γ a Ξ σ H fun x H1=>wP Γ lo Ξ σ H1 fun l H2=>wP Γ hi Ξ σ H2 fun u H3=>t8 Γ.mod x l u H3 Q
 | .tup es,Ξ=>fun σ H Q=>wEs Γ es Ξ σ H fun xs H1=>xs.length<=sizeLine/\∀p,H1 p=none->Γ.mod p=none->Q (.ref p) (upd H1 p (.tup xs))
 | .lst es,Ξ=>fun σ H Q=>wEs Γ es Ξ σ H fun xs H1=>xs.length<=sizeLine/\∀p,H1 p=none->Γ.mod p=none->Q (.ref p) (upd H1 p (.lst xs))
 | .comp _ fv it elt ifs,Ξ=>fun σ H Q=>Γ.cm=true/\wI Γ it Ξ σ H fun xs aC H1=>∀D,H1 D=none->Γ.mod D=none->
  cV (wE Γ elt fun C d _ H'=>Ξ C d σ H') (wTs Γ ifs X0) (vars σ fv) D aC xs [] (upd H1 D (.lst [])) fun H'=>Q (.ref D) H'
 | .callv f args,Ξ=>fun σ H Q=>Γ.cm=true/\wE Γ f Ξ σ H fun x H1=>match x with
  | .ref a=>wEs Γ args Ξ σ H1 fun vs H2=>Γ.vc a vs H2 Q fun C d H'=>Ξ C d σ H'
  | _=>False
 | .gidx x b,Ξ=>fun σ H Q=>match Γ.gd x with
  | some kvs=>wE Γ b Ξ σ H fun y H1=>(match keyOf y with | some k=>(match dz kvs k with | some v=>Q v H1 | none=>False) | none=>False)
  | none=>False
 | .cmpD op a b,Ξ=>fun σ H Q=>wE Γ a Ξ σ H fun x H1=>wE Γ b Ξ σ H1 fun y H2=>xZ Γ.mod op x y H2 Q
 | .idxD a b,Ξ=>fun σ H Q=>wE Γ a Ξ σ H fun x H1=>wE Γ b Ξ σ H1 fun y H2=>p0 Γ.mod x y H2 Q
 | .dnew,_=>fun _ H Q=>∀p,H p=none->Γ.mod p=none->Q (.ref p) (upd H p (.dK []))
 | .lrev a,Ξ=>fun σ H Q=>Γ.cm=true/\wE Γ a Ξ σ H fun x H1=>pU Γ.mod x H1 Q
noncomputable def wT (Γ:bf):Ex->XS->TT
 | .and a b,Ξ=>fun σ H Q=>wT Γ a Ξ σ H fun k H1=>if k=true then wT Γ b Ξ σ H1 Q else Q false H1
 | .or a b,Ξ=>fun σ H Q=>wT Γ a Ξ σ H fun k H1=>if k=true then Q true H1 else wT Γ b Ξ σ H1 Q
 | .not a,Ξ=>fun σ H Q=>wT Γ a Ξ σ H fun k H1=>Q (!k) H1
 | .ite c a b,Ξ=>fun σ H Q=>wT Γ c Ξ σ H fun k H1=>if k=true then wT Γ a Ξ σ H1 Q else wT Γ b Ξ σ H1 Q
 | .var i,_=>fun σ H Q=>match σ[i]? with | some (some v)=>eu Γ.mod v H fun k=>Q k H | _=>False
 | .cmp op a b,Ξ=>fun σ H Q=>wE Γ a Ξ σ H fun x H1=>wE Γ b Ξ σ H1 fun y H2=>eJ Γ.mod op x y H2 fun x H'=>∃k,x=.bl k/\Q k H'
 | .cmp2 o1 o2 a b c,Ξ=>fun σ H Q=>wE Γ a Ξ σ H fun x H1=>wE Γ b Ξ σ H1 fun y H2=>eJ Γ.mod o1 x y H2 fun z H3=>∃k,z=.bl k/\
  if k=true then wE Γ c Ξ σ H3 fun u H4=>eJ Γ.mod o2 y u H4 fun x H'=>∃k,x=.bl k/\Q k H' else ∃k,V.bl false=.bl k/\Q k H3
 | .call f args,Ξ=>fun σ H Q=>(Γ.cm=true/\Γ.has f=true)/\wEs Γ args Ξ σ H fun vs H1=>Γ.fn f vs H1 (fun x H1=>eu Γ.mod x H1 fun k=>Q k H1) fun C d H'=>Ξ C d σ H'
 | .blt f args,Ξ=>fun σ H Q=>Γ.cm=true/\wEs Γ args Ξ σ H fun vs H1=>eQ Γ.mod f vs H1 fun x H1=>eu Γ.mod x H1 fun k=>Q k H1
 | .mth m o args,Ξ=>fun σ H Q=>wE Γ o Ξ σ H fun x H1=>AA Γ.mod m x H1=true/\wEs Γ args Ξ σ H1 fun vs H2=>f_ Γ.mod m x vs H2 fun x H1=>eu Γ.mod x H1 fun k=>Q k H1
 | .isin a T,Ξ=>fun σ H Q=>wE Γ a Ξ σ H fun x H1=>match T with
  | .own _=>False
  | T=>known Γ.mod H1 x=true/\Q (my T H1 x) H1
 | .idx a b,Ξ=>fun σ H Q=>wE Γ a Ξ σ H fun x H1=>wE Γ b Ξ σ H1 fun y H2=>gj Γ.mod x y H2 fun x H1=>eu Γ.mod x H1 fun k=>Q k H1
 | .con v,_=>fun _ H Q=>eu Γ.mod v H fun k=>Q k H
 | .cmpD op a b,Ξ=>fun σ H Q=>wE Γ a Ξ σ H fun x H1=>wE Γ b Ξ σ H1 fun y H2=>xZ Γ.mod op x y H2 fun x H'=>∃k,x=.bl k/\Q k H'
 | _,_=>fun _ _ _=>False
noncomputable def wEs (Γ:bf):km->XS->TA
 | .nil,_=>fun _ H Q=>Q [] H
 | .cons e r,Ξ=>fun σ H Q=>wE Γ e Ξ σ H fun x H1=>wEs Γ r Ξ σ H1 fun xs H2=>Q (x::xs) H2
noncomputable def wP (Γ:bf):km->XS->St->Hp->(Option Int->Hp->Prop)->Prop
 | .nil,_=>fun _ H Q=>Q none H
 | .cons e .nil,Ξ=>fun σ H Q=>wE Γ e Ξ σ H fun x H1=>match x with | .int i=>Q (some i) H1 | _=>False
 | _,_=>fun _ _ _=>False
noncomputable def wTs (Γ:bf):km->XS->TT
 | .nil,_=>fun _ H Q=>Q true H
 | .cons e _,Ξ=>wT Γ e Ξ
noncomputable def wI (Γ:bf):Ix->XS->St->Hp->(List V->(Hp->Prop)->Hp->Prop)->Prop
 | .ex e,Ξ,σ,H,k=>wE Γ e Ξ σ H fun x H1=>bD Γ.mod x H1 fun xs aC=>k xs aC H1
 | .rng1 a,Ξ,σ,H,k=>wE Γ a Ξ σ H fun x H1=>match x with
  | .int j=>-(2 ^ 62)<=j/\j < 2 ^ 62/\k ((List.range j.toNat).map fun i:Nat=>.int i) (fun _=>True) H1
  | _=>False
end
mutual
noncomputable def wS:Sx->bf->XS->TS
 | .asg i e,Γ,Ξ=>fun D σ H=>wE Γ e Ξ σ H fun v H1=>D.nx (σ.set i (some v)) H1
 | .exp e,Γ,Ξ=>fun D σ H=>wE Γ e Ξ σ H fun _ H1=>D.nx σ H1
 | .ret e,Γ,Ξ=>fun D σ H=>wE Γ e Ξ σ H D.rt
 | .iff c a b,Γ,Ξ=>fun D σ H=>wT Γ c Ξ σ H fun k H1=>if k=true then wSs a Γ Ξ D σ H1 else wSs b Γ Ξ D σ H1
 | .whl c b,Γ,_=>fun D σ H=>∃W:Nat->St->Hp->Prop,(∃ m,W m σ H)/\∀m σ H,W m σ H->wT Γ c X0 σ H fun k H1=>
  if k=true then ∃N:St->Hp->Prop,(∀ σ' H',N σ' H'->∃m',m' < m/\W m' σ' H')/\wSs b Γ X0 {D with nx:=N,ct:=N,bk:=D.nx} σ H1 else D.nx σ H1
 | .fr i it b,Γ,_=>fun D σ H=>Γ.cm=true/\wI Γ it X0 σ H fun xs aC H1=>jd i (wSs b Γ X0) aC xs D σ H1
 | .rais _ _,_,_=>fun _ _ _=>False
 | .tryx b _ _ _,Γ,_=>fun D σ H=>wSs b Γ X0 D σ H
 | .asgL i f a le,Γ,Ξ=>fun Dn σ H=>match Γ.lm with
  | some (D,Ts)=>le=D.le/\(Γ.cm=true/\Γ.has f=true)/\wE Γ a Ξ σ H fun v1 H1=>(∀ t ∈ Ts,TabAt H1 t)/\∃v,σ[D.xi]?=some (some v)/\∀H2 g c,bp Γ.mod H1 H2->(∀ t ∈ Ts,TabAt H2 t)->H1 c=none->Γ.mod c=none->H1 g=none->Γ.mod g=none->qw D H2 g c v->
   Γ.fn f [v1,.ref g] H2 (fun r H3=>Dn.nx (σ.set i (some r)) (era H3 c)) fun _ _ _=>False
  | none=>False
 | .sto o i e,Γ,Ξ=>fun D σ H=>wE Γ e Ξ σ H fun v H1=>wE Γ o Ξ σ H1 fun x H2=>wE Γ i Ξ σ H2 fun k H3=>vz x k v H3 (D.nx σ)
 | .asgT is e,Γ,Ξ=>fun D σ H=>Γ.cm=true/\wE Γ e Ξ σ H fun x H1=>match x with
  | .ref p=>(match rd Γ.mod H1 p with | some (.tup xs)=>xs.length=is.length/\D.nx (il σ is xs) H1 | _=>False)
  | _=>False
 | .frT is it b,Γ,_=>fun D σ H=>Γ.cm=true/\wI Γ it X0 σ H fun xs aC H1=>ic Γ.mod is (wSs b Γ X0) aC xs D σ H1
 | .raisF _ _,_,_=>fun _ _ _=>False
 | .frD i e b,Γ,_=>fun D σ H=>Γ.cm=true/\wE Γ e X0 σ H fun x H1=>match x with
  | .ref p=>(match H1 p with
   | some (.dK kvs)=>∀o,jd i (wSs b Γ X0) (fun H'=>H' p=some (.frz o (.dK kvs))) (kvs.map fun y=>kV y.1) (iU p o kvs D) σ (upd H1 p (.frz o (.dK kvs)))
   | _=>False)
  | _=>False
 | .frE i j e b,Γ,_=>fun D σ H=>Γ.cm=true/\wE Γ e X0 σ H fun x H1=>lK Γ.mod x H1 fun ps aC=>jc Γ.mod i j (wSs b Γ X0) aC ps D σ H1
 | .frV i e b,Γ,_=>fun D σ H=>Γ.cm=true/\wE Γ e X0 σ H fun x H1=>match x with
  | .ref p=>(match H1 p with
   | some (.dK kvs)=>∀o,jd i (wSs b Γ X0) (fun H'=>H' p=some (.frz o (.dK kvs))) (kvs.map fun y=>y.2) (iU p o kvs D) σ (upd H1 p (.frz o (.dK kvs)))
   | _=>False)
  | _=>False
noncomputable def wSs:cR->bf->XS->TS
 | .nil,_,_=>fun D σ H=>D.nx σ H
 | .cons s r,Γ,Ξ=>fun D σ H=>wS s Γ Ξ {D with nx:=wSs r Γ Ξ D} σ H
end
end Sw
namespace Sw
open PySem PySem.Spec PyProof.Rows L2
structure ig (J:It) (xs:List V) (aC:Hp->Prop):Prop where
 go:∀i H,aC H->i < xs.length->J.go i H
 kn:∀i H x H',i < xs.length->J.kn i H x H'->aC H->H'=H/\xs[i]?=some x
 stop:∀i H,aC H->xs.length<=i->J.stop i H
section
variable {X:Cx} {M:Mo} {pins:List (Addr × Obj)} {σ:L2.St} {H:Hp} {s:Shared} {p:Addr} {kvs:List (Key × V)} {A:Around} {E:Value->Shared->Prop}
theorem zY {x:V} {k:Key} (h:keyOf x=some k):x=kV k:=by
 cases x<;>first | (cases h;rfl) | cases h
theorem pZ {k:Key} {u:Value} (h:lE k u=true):RelV (kV k) u:=by
 rcases bC h with ⟨i,t,rfl,rfl⟩ | ⟨x,t,rfl,rfl⟩
 ·exact⟨t,rfl⟩
 ·exact⟨t,rfl⟩
theorem _root_.L2.KV.get:∀ {xs:List (Key × V)} {ys:List (Key × Value)} {i:Nat} {x:Key × V},KV xs ys->xs[i]?=some x->∃u,ys[i]?=some (x.1,u)/\RelV x.2 u
 | _,_,_,_,.nil,e=>by simp at e
 | _,y::_,0,_,.cons r _,e=>by
  simp at e;subst e
  obtain⟨e1,e2⟩:=r
  exact⟨y.2,by rw[e1];rfl,e2⟩
 | _,_,i + 1,x,.cons _ t,e=>by
  obtain⟨u,h1,h2⟩:=L2.KV.get (i:=i) (x:=x) t (by simpa using e)
  exact⟨u,by simpa using h1,h2⟩
theorem _root_.L2.Inv.swap {o u:HO} (I:Inv X pins σ H s) (e:H p=some o) (nt:∀xs,o ≠ .tup xs) (no:∀y,o ≠ .own y) (nb:∀ps,o ≠ .tbl ps) (nf:∀b v,X.H₀ p ≠ some (.frz b v)) (new:bU X.prog X.w (upd H p u) s.heap p u):Inv X pins σ (upd H p u) s:=by
 have ne:∀b,H b=none->b ≠ p:=fun b hb z=>by subst z;rw[hb]at e;cases e
 have up:∀b,H b=none->upd H p u b=none:=fun b hb=>by rw[ae (ne b hb)];exact hb
 have tp:∀b xs,H b=some (.tup xs)->upd H p u b=some (.tup xs):=fun b xs q=>by
  rw[ae (fun z=>by subst z;rw[q]at e;exact nt xs (Option.some.inj e).symm)];exact q
 have ow:∀b y,H b=some (.own y)->upd H p u b=some (.own y):=fun b y q=>by
  rw[ae (fun z=>by subst z;rw[q]at e;exact no y (Option.some.inj e).symm)];exact q
 refine⟨I.ok,I.os,I.bare,⟨I.base.keep,I.base.slot,fun b ob q n hx=>up b (I.base.free b ob q n hx),I.base.there,fun b xs q=>tp b xs (I.base.fR b xs q),fun b ob v q=>?_,fun b ps q=>?_⟩,I.loc,I.cell,up _ I.free,fun x c q=>up c (I.d9 x c q),fun q hq=>?_,fun b v q=>?_,I.len⟩
 ·rw[ae (fun z=>by subst z;exact nf ob v q)];exact I.base.eW b ob v q
 ·obtain⟨more,q2⟩:=I.base.fM b ps q
  exact⟨more,by rw[ae (fun z=>by subst z;rw[q2]at e;exact nb _ (Option.some.inj e).symm)];exact q2⟩
 ·obtain⟨h1,h2,h3⟩:=I.pin q hq
  exact⟨h1,up _ h2,h3⟩
 ·by_cases hb:b=p
  ·subst hb;rw[aA]at q;cases q;exact new
  ·rw[ae hb]at q
   exact(I.aW b v q).aC (fun _ _ _ r=>r) (fun c r=>ow c _ r) fun c xs r=>tp c xs r
noncomputable def NF (X:Cx) (p:Addr):Prop:=∀b v,X.H₀ p ≠ some (.frz b v)
theorem _root_.L2.Inv.nf (I:Inv X pins σ H s) (e:H p=some (.dK kvs)):NF X p:=fun b v q=>by
 have:=I.base.eW p b v q
 rw[e]at this;cases this
theorem _root_.L2.Inv.freeze (I:Inv X pins σ H s) (e:H p=some (.dK kvs)):∃o es ep,s.heap.get? p=some o/\o.data=.dict es ep/\Inv X pins σ (upd H p (.frz o (.dK kvs))) s:=by
 have z:=I.aW p _ e
 obtain⟨z1,z2,vs,rel,o,es,ep,ho,hx,hd,r⟩:=id z
 exact⟨o,es,ep,ho,hd,I.swap e (fun _ q=>by cases q) (fun _ q=>by cases q) (fun _ q=>by cases q) (I.nf e) ⟨ho,z1,z2,vs,rel,o,es,ep,ho,hx,hd,r⟩⟩
theorem _root_.L2.Inv.C7 {o:Obj} (nf:NF X p) (I:Inv X pins σ H s) (e:H p=some (.frz o (.dK kvs))):Inv X pins σ (upd H p (.dK kvs)) s:=by
 obtain⟨_,z⟩:=I.aW p _ e
 obtain⟨z1,z2,vs,rel,o,es,ep,ho,hx,hd,r⟩:=z
 exact I.swap e (fun _ q=>by cases q) (fun _ q=>by cases q) (fun _ q=>by cases q) nf ⟨z1,z2,vs,rel,o,es,ep,ho,hx,hd,r⟩
theorem _root_.L2.Inv.frozen {o:Obj} {es:Array DictEntry} {ep:Nat} (I:Inv X pins σ H s) (e:H p=some (.frz o (.dK kvs))) (hd:o.data=.dict es ep):∃vs,KV kvs vs/\s.heap.DictAt (aG X.prog X.w) p vs ep:=by
 obtain⟨h0,z⟩:=I.aW p _ e
 obtain⟨z1,z2,vs,rel,o',es',ep',ho,hx,hd',r⟩:=z
 rw[h0]at ho;cases ho
 rw[hd]at hd';cases hd'
 exact⟨vs,rel,o,es,h0,hx,hd,r⟩
noncomputable def E4 (p:Addr) (o:Obj) (kvs:List (Key × V)):It:=
 ⟨fun i H=>H p=some (.frz o (.dK kvs))/\i < kvs.length,fun i H x H'=>H'=H/\∃y,kvs[i]?=some y/\x=kV y.1,fun i H=>H p=some (.frz o (.dK kvs))/\kvs.length<=i⟩
theorem tS {P:Program} {w:World} {K:PySem.W.Frag} {tg:Expr} (it:Addr) {o:Obj} {es:Array DictEntry} {ep:Nat} (hd:o.data=.dict es ep):Turn P w K tg (E4 p o kvs) [it] it (fun i h=>h.IsKeyIter it p i kvs.length ep) where
 mem:=by simp
 obj:=fun i h st b hb=>by
  have e:b=it:=by simpa using hb
  subst e
  obtain⟨o,e,c,d⟩:=st
  exact⟨o,e,fun v z=>by rw[d]at z;cases z⟩
 keep:=fun i h h' st k=>st.at fun o e=>k it (by simp) o e
 item:=by
  intro X hP hw hK hc i pins s σ H E I hf st hg
  subst hP hw hK
  obtain⟨e,hlt⟩:=hg
  obtain⟨vs,rel,dat⟩:=I.frozen e hd
  obtain⟨u,hu,_⟩:=rel.get (List.getElem?_eq_getElem hlt)
  obtain⟨f0,f1,f2,f3,f4,f5⟩:=hf it (by simp)
  rw[rel.length]at st
  refine wpAny_pyNext_dict_item st dat hu fun key h' hk st' sb=>?_
  have I1:Inv X pins σ H {s with heap:=h'}:=I.turned (t':=s.toks) (fun b o hb e=>(sb.2 b hb).trans e) f0 f1 f3 f4 f5
  obtain⟨o',e',c',d'⟩:=id st'
  rw[<-rel.length]at st'
  exact⟨key,rfl,m3 (s:={s with heap:=h'}) e' c' d' (by decide) ⟨_,H,I1,pZ hk,⟨rfl,_,List.getElem?_eq_getElem hlt,rfl⟩,st',fun b hb=>(hf b hb).1⟩⟩
 done:=by
  intro X hP hw hK hc i pins s σ H E I hf st hg
  subst hP hw hK
  obtain⟨e,hle⟩:=hg
  obtain⟨vs,rel,dat⟩:=I.frozen e hd
  obtain⟨f0,f1,f2,f3,f4,f5⟩:=hf it (by simp)
  rw[rel.length]at st
  exact wpAny_pyNext_dict_end (I.ok.hd hc) st dat (List.getElem?_eq_none (by rw[<-rel.length];exact hle)) fun h' eb=>⟨rfl,I.turned (t':=s.toks) (fun b o hb e=>eb b o hb e) f0 f1 f3 f4 f5⟩
 self:=fun _ _ _ _ _ st h=>wpAny_pyIter_keyiter st h
theorem nY {tg iter:Expr} {body:List Stmt} {wi:TI} {g:TG} {tb:TS} {pos:Pos} (hp:PassesOwn (model X.prog X.w) X.A X.env X.xe) (hc:X.calm=true) (hi:PI X tg iter wi) (hg:PG X tg g) (hb:vh X body tb)
  (hs:∀x,foldedSetIterable iter X.env x=pure x):PS X (.For tg iter body [] pos) (fun D σ H=>wi σ H fun J H1=>∃D':Ends,(∀ (pins:List (Addr × Obj)) f s',SP X pins D' f s'->SP X pins D f s')/\∃W:Nat->Nat->L2.St->Hp->Prop,(∃ m,W 0 m σ H1)/\∀i m σ H,W i m σ H->
   (J.stop i H/\D'.nx σ H)\/(J.go i H/\∃N:L2.St->Hp->Prop,(∀ σ' H',N σ' H'->∃m',m' < m/\W (i + 1) m' σ' H')/\∀x H',J.kn i H x H'->g x σ H' fun σ2 H2=>tb {D' with nx:=N,ct:=N,bk:=D'.nx} σ2 H2)):=by
 intro pins s σ H D I h
 refine wpAny_For (bV (hi pins s σ H _ I h) fun v s1 h1=>bV h1 fun itv s2 h2=>?_) hs
 obtain⟨it,fp,tn,J,H2,e,I2,T,st2,f2,D',hD,W,⟨m0,w0⟩,turn⟩:=h2
 subst e
 have stat:∀ {H':Hp},(∀ b ∈ fp,H' b=none)->∀b ∈ fp,kj X pins H' b:=fun hn b hb=>⟨hn b hb,(f2 b hb).2⟩
 refine codeAny_forLoop_any (fun n s'=>∃i σ' H',Inv X pins σ' H' s'/\tn i s'.heap/\(∀ b ∈ fp,H' b=none)/\W i n σ' H') ?_ m0 ⟨0,σ,H2,I2,st2,fun b hb=>(f2 b hb).1,w0⟩
 rintro n s3 ⟨i,σ3,H3,I3,st3,fr3,w3⟩
 rcases turn i n σ3 H3 w3 with ⟨stop,qn⟩ | ⟨go,N,hN,step⟩
 ·refine wpAny_passesOwn hp (bV (T.done X rfl rfl rfl hc i pins s3 σ3 H3 X.xe I3 (stat fr3) st3 stop) fun r s4 z=>?_)
  obtain⟨hr,I4⟩:=z
  subst hr
  exact wpAny_execs_nil (hD pins .next s4 ⟨σ3,H3,I4,qn⟩)
 ·refine wpAny_passesOwn hp (bV (T.item X rfl rfl rfl hc i pins s3 σ3 H3 X.xe I3 (stat fr3) st3 go) fun r s4 z=>?_)
  obtain⟨u,hr,h4⟩:=z
  subst hr
  refine wpAny_passesOwn hp (bV h4 fun _ s5 z=>?_)
  obtain⟨x,H5,I5,r5,y5,st5,fr5⟩:=z
  have I5':=I5.pinned (stat fr5) (T.obj _ _ st5)
  refine wpAny_passesOwn hp (bV (hg _ s5 σ3 H5 x u _ I5' r5 (step x H5 y5)) fun _ s6 z=>?_)
  obtain⟨σ6,H6,I6,q6⟩:=z
  refine wpAny_passesOwn hp (bV (hb _ s6 σ6 H6 _ I6 q6) fun f s7 q7=>?_)
  have again:∀ {σ7:L2.St} {H7:Hp},Inv X (pins++jy fp s5.heap) σ7 H7 s7->N σ7 H7->∃m,m < n/\∃i σ' H',Inv X pins σ' H' s7/\tn i s7.heap/\(∀ b ∈ fp,H' b=none)/\W i m σ' H':=fun{σ7 H7} I7 n7=>by
   obtain⟨m',hm,w7⟩:=hN σ7 H7 n7
   refine⟨m',hm,i + 1,σ7,H7,I7.eo,T.keep _ _ _ st5 fun b hb o e=>(I7.pin (b,o) (List.mem_append_right _ (List.mem_append_right _ (df hb e)))).1,fun b hb=>?_,w7⟩
   obtain⟨o,e,d⟩:=T.obj _ _ st5 b hb
   exact(I7.pin (b,o) (List.mem_append_right _ (List.mem_append_right _ (df hb e)))).2.1
  cases f with
  | next=>obtain⟨σ7,H7,I7,n7⟩:=q7;exact again I7 n7
  | cont=>obtain⟨σ7,H7,I7,n7⟩:=q7;exact again I7 n7
  | brk=>obtain⟨σ7,H7,I7,q7⟩:=q7;exact hD pins .next s7 ⟨σ7,H7,I7.eo,q7⟩
  | ret v=>obtain⟨x7,σ7,H7,I7,r7,q7⟩:=q7;exact hD pins (.ret v) s7 ⟨x7,σ7,H7,I7.eo,r7,q7⟩
theorem mH {o:Obj} {D:Ends} (nf:NF X p):∀ (pins:List (Addr × Obj)) f s',SP X pins (iU p o kvs D) f s'->SP X pins D f s':=by
 intro pins f s' h
 cases f with
 | next=>obtain⟨σ,H,I,e,q⟩:=h;exact⟨σ,_,I.C7 nf e,q⟩
 | cont=>obtain⟨σ,H,I,q⟩:=h;exact q.elim
 | brk=>obtain⟨σ,H,I,q⟩:=h;exact q.elim
 | ret v=>obtain⟨x,σ,H,I,r,e,q⟩:=h;exact⟨x,σ,_,I.C7 nf e,r,q⟩
noncomputable def sM (X:Cx) (J:Addr->Obj->List (Key × V)->It) (te:TE):TI:=fun σ H R=>∃Q:VK,te σ H Q/\∀x H1,Q x H1->∃p kvs,x=.ref p/\H1 p=some (.dK kvs)/\∀o,NF X p->R (J p o kvs) (upd H1 p (.frz o (.dK kvs)))
theorem za {tg l:Expr} {te:TE} (hl:PE X l te):PI X tg l (sM X E4 te):=by
 intro pins s σ H R I h
 obtain⟨Q,h,hq⟩:=h
 refine bV (hl pins s σ H _ I h) fun v s1 z=>?_
 obtain⟨x,H1,I1,r1,q1⟩:=z
 obtain⟨p,kvs,e,ed,q⟩:=hq x H1 q1
 subst e
 cases r1
 obtain⟨o,es,ep,ho,hd,I2⟩:=I1.freeze ed
 obtain⟨vs,rel,dat⟩:=I2.frozen aA hd
 have hs:(p == sysModules)=false:=(sX I1.aW ed).2.1
 refine wpAny_pyIter_dict hs dat ?_
 rw[<-rel.length]
 refine⟨s1.heap.objs.size,[s1.heap.objs.size],_,_,_,rfl,I2.kept (t':=s1.toks) fun b o e=>Heap.get?_push_of_some _ e,tS _ hd,⟨_,Heap.get?_push_size _ rfl,rfl,rfl⟩,fun b hb=>?_,q o (I1.nf ed)⟩
 have e:b=s1.heap.objs.size:=by simpa using hb
 subst e
 exact I2.p_ (Nat.le_refl _) (I2.aW.fresh (Nat.le_refl _))
theorem vG {o:Obj}:ig (E4 p o kvs) (kvs.map fun y=>kV y.1) (fun H=>H p=some (.frz o (.dK kvs))) where
 go:=fun i H st e=>⟨st,by simpa using e⟩
 kn:=fun i H x H' e y st=>by
  obtain⟨y1,y,y2,rfl⟩:=y
  exact⟨y1,by rw[List.getElem?_map,y2];rfl⟩
 stop:=fun i H st h=>⟨st,by simpa using h⟩
end
end Sw
namespace Sw
open PySem PySem.Spec PyProof.Rows L2
section
variable {X:Cx} {M:Mo} {pins:List (Addr × Obj)} {σ:L2.St} {H:Hp} {s:Shared}
theorem yj (I:Inv X pins σ H s) (hc:X.calm=true) {a:Addr} {xs:List V} {bs:List Bool} (hq:kL X.K H a xs) (eb:allM AI xs=some bs) {Q:VK} (h:Q (.bl (bs.all id)) H):
  wpAny (model X.prog X.w) X.A (call (.builtin "all") [.ref a]) (EP X pins σ Q) X.xe s:=by
 obtain⟨its,rv,pl,hz⟩:=I.list hq
 have hl:=pl.isList
 have hlt:a < s.heap.objs.size:=by obtain⟨_,e,_⟩:=hl;exact Heap.lt_size e
 refine call_all_walk (wpAny_pyIter_list hl ?_)
 refine⟨s.heap.objs.size,[s.heap.objs.size,a],[s.heap.objs.size],its.toArray.size,_,_,fun i=>(bs[i]?).getD true,rfl,Walks.list (A:=X.A.in1) (I.ok.hd hc) _ a (Nat.ne_of_lt hlt) its.toArray,
  ⟨⟨_,Heap.get?_push_size _ rfl,rfl,rfl⟩,hl.push _⟩,fun i v s' Q' E' hP hQ=>?_,fun h' tk hk=>?_⟩
 ·obtain⟨x,ex,rx⟩:=Vals.back rv (by simpa using hP)
  obtain⟨b,e,fx⟩:=gJ eb ex
  cases x<;>first | (cases fx;cases rx;simp only[e,Option.getD_some]at hQ;exact wpAny_truthy_bool hQ) | cases fx
 ·have e:((List.range its.toArray.size).all fun i=>(bs[i]?).getD true)=bs.all id:=by
   rw[List.size_toArray,<-rv.length,<-cE eb];exact LSm.range_all bs
  rw[e]
  exact⟨.bl _,H,I.kept (t':=tk) (LSm.kept_iter hk),rfl,h⟩
theorem yh (I:Inv X pins σ H s) (hc:X.calm=true) {a:Addr} {xs:List V} {bs:List Bool} (hq:kL X.K H a xs) (eb:allM AI xs=some bs) {Q:VK} (h:Q (.bl (bs.any id)) H):
  wpAny (model X.prog X.w) X.A (call (.builtin "any") [.ref a]) (EP X pins σ Q) X.xe s:=by
 obtain⟨its,rv,pl,hz⟩:=I.list hq
 have hl:=pl.isList
 have hlt:a < s.heap.objs.size:=by obtain⟨_,e,_⟩:=hl;exact Heap.lt_size e
 refine call_any_walk (wpAny_pyIter_list hl ?_)
 refine⟨s.heap.objs.size,[s.heap.objs.size,a],[s.heap.objs.size],its.toArray.size,_,_,fun i=>(bs[i]?).getD false,rfl,Walks.list (A:=X.A.in1) (I.ok.hd hc) _ a (Nat.ne_of_lt hlt) its.toArray,
  ⟨⟨_,Heap.get?_push_size _ rfl,rfl,rfl⟩,hl.push _⟩,fun i v s' Q' E' hP hQ=>?_,fun h' tk hk=>?_⟩
 ·obtain⟨x,ex,rx⟩:=Vals.back rv (by simpa using hP)
  obtain⟨b,e,fx⟩:=gJ eb ex
  cases x<;>first | (cases fx;cases rx;simp only[e,Option.getD_some]at hQ;exact wpAny_truthy_bool hQ) | cases fx
 ·have e:((List.range its.toArray.size).any fun i=>(bs[i]?).getD false)=bs.any id:=by
   rw[List.size_toArray,<-rv.length,<-cE eb];exact LSm.range_any bs
  rw[e]
  exact⟨.bl _,H,I.kept (t':=tk) (LSm.kept_iter hk),rfl,h⟩
noncomputable def Gm:Bf->Value
 | .str=>.type "str" | .int=>.type "int" | .list=>.type "list"
 | .len=>.builtin "len" | .all=>.builtin "all" | .any=>.builtin "any" | .abs=>.builtin "abs" | .sortset=>.builtin "sorted"
 | .max=>.builtin "max" | .min=>.builtin "min" | .dlist=>.type "list"
theorem rT:∀ {xs:List V} {us:List Value},us.length=xs.length->(∀ (i:Nat) u,us[i]?=some u->∃x,xs[i]?=some x/\RelV x u)->Vals xs us
 | [],[],_,_=>.nil
 | [],_::_,h,_=>by simp at h
 | _::_,[],h,_=>by simp at h
 | x::xs,u::us,h,f=>by
  obtain⟨y,e,r⟩:=f 0 u rfl
  have e:some x=some y:=e
  cases e
  exact .cons r (rT (by simpa using h) fun i v hv=>by simpa using f (i + 1) v (by simpa using hv))
theorem xR (hc:X.calm=true) (mo:aJ X.K M) {p:Addr} {kvs:List (Key × V)} {Q:VK} (I:Inv X pins σ H s) (e:H p=some (.dK kvs)) (h:∀l,H l=none->M l=none->Q (.ref l) (upd H l (.lst (kvs.map fun y=>kV y.1)))):wpAny (model X.prog X.w) X.A (call (.type "list") [.ref p]) (EP X pins σ Q) X.xe s:=by
 obtain⟨z1,z2,vs,rel,o,es,ep,ho,hx,hd,r⟩:=I.aW p _ e
 have dat:s.heap.DictAt (aG X.prog X.w) p vs ep:=⟨o,es,ho,hx,hd,r⟩
 refine PySem.W.kdl_call (PySem.W.kdl_dict (knd:=aG X.prog X.w) z2) (I.ok.hd hc) dat (by rw[<-rel.length];exact z1) fun h' tk acc c k el it=>?_
 have hv:Vals (kvs.map fun y=>kV y.1) acc.toList:=by
  refine rT (by rw[Array.length_toList,it.1,List.length_map,rel.length]) fun i u hu=>?_
  have hu':acc[i]?=some u:=by simpa using hu
  obtain⟨ky,x,h1,h2⟩:=it.2 i u hu'
  have hlt:i < kvs.length:=by rw[rel.length];exact(List.getElem?_eq_some_iff.mp h1).1
  obtain⟨u2,h3,_⟩:=rel.get (List.getElem?_eq_getElem hlt)
  rw[h1]at h3
  cases h3
  exact⟨kV kvs[i].1,by rw[List.getElem?_map,List.getElem?_eq_getElem hlt];rfl,pZ h2⟩
 have I1:Inv X pins σ (upd H s.heap.objs.size (.lst (kvs.map fun y=>kV y.1))) {s with heap:=h',toks:=tk}:=I.laid k (Nat.le_refl _) ⟨by rw[List.length_map];exact z1,acc.toList,c,hv,by simpa using el⟩
 exact⟨.ref _,_,I1,rfl,h _ (I.aW.fresh (Nat.le_refl _)) (cz.new (Inv.mj mo I1))⟩
theorem CF (hc:X.calm=true) (m:aJ X.K M) (f:Bf):ij X (Gm f) (eQ M f):=by
 intro pins s σ H xs us Q I r h
 cases f with
 | len=>
  cases xs with
  | nil=>exact False.elim h
  | cons x t=>
   cases t with
   | cons _ _=>first | exact False.elim h | (cases x<;>exact False.elim h)
   | nil=>
    cases x with
    | str y=>
     exact oD pins s σ H _ _ Q I r ⟨_,rfl,h.1,h.2⟩
    | ref p=>
     unfold eQ at h
     dsimp only at h
     split at h
     ·rename_i e;exact jk pins s σ H _ _ Q I r ⟨_,_,rfl,.inl (bW m e),h⟩
     ·rename_i e;exact jk pins s σ H _ _ Q I r ⟨_,_,rfl,.inr (dI m e),h⟩
     ·exact h.elim
    | _=>exact False.elim h
 | all=>
  cases xs with
  | nil=>exact False.elim h
  | cons x t=>
   cases t with
   | cons _ _=>first | exact False.elim h | (cases x<;>exact False.elim h)
   | nil=>
    cases x with
    | ref p=>
     obtain⟨u,rfl,ru⟩:=vals1 r
     cases ru
     unfold eQ at h
     dsimp only at h
     split at h
     ·rename_i e
      split at h
      ·rename_i eb;exact yj I hc (bW m e) eb h
      ·exact h.elim
     ·exact h.elim
    | _=>exact False.elim h
 | any=>
  cases xs with
  | nil=>exact False.elim h
  | cons x t=>
   cases t with
   | cons _ _=>first | exact False.elim h | (cases x<;>exact False.elim h)
   | nil=>
    cases x with
    | ref p=>
     obtain⟨u,rfl,ru⟩:=vals1 r
     cases ru
     unfold eQ at h
     dsimp only at h
     split at h
     ·rename_i e
      split at h
      ·rename_i eb;exact yh I hc (bW m e) eb h
      ·exact h.elim
     ·exact h.elim
    | _=>exact False.elim h
 | str=>
  cases xs with
  | nil=>exact False.elim h
  | cons x t=>
   cases t with
   | cons _ _=>first | exact False.elim h | (cases x<;>exact False.elim h)
   | nil=>
    cases x with
    | int i=>
     exact oC pins s σ H _ _ Q I r ⟨_,rfl,h.1,h.2⟩
    | _=>exact False.elim h
 | int=>
  cases xs with
  | nil=>exact False.elim h
  | cons x t=>
   cases t with
   | cons _ _=>first | exact False.elim h | (cases x<;>exact False.elim h)
   | nil=>
    cases x with
    | str x=>
     obtain⟨u,rfl,ru⟩:=vals1 r
     obtain⟨t,rfl⟩:=ru
     obtain⟨h1,h⟩:=h
     split at h
     ·rename_i n e
      exact PySem.W.KIN.call_text e h1 ⟨.int n,H,I.tok _,⟨_,rfl⟩,h⟩
     ·exact h.elim
    | bl b=>
     exact u0 pins s σ H _ _ Q I r (.inr ⟨_,rfl,h⟩)
    | _=>exact False.elim h
 | abs=>
  cases xs with
  | nil=>exact False.elim h
  | cons x t=>
   cases t with
   | cons _ _=>first | exact False.elim h | (cases x<;>exact False.elim h)
   | nil=>
    cases x with
    | int i=>
     exact x_ pins s σ H _ _ Q I r ⟨_,rfl,h⟩
    | _=>exact False.elim h
 | max=>
  cases xs with
  | nil=>exact False.elim h
  | cons x t=>
   cases x with
   | int i=>
    cases t with
    | nil=>exact False.elim h
    | cons y t=>
     cases t with
     | cons _ _=>first | exact False.elim h | (cases y<;>exact False.elim h)
     | nil=>
      cases y with
      | int j=>exact uZ hc pins s σ H _ _ Q I r ⟨_,_,rfl,h⟩
      | _=>exact False.elim h
   | _=>exact False.elim h
 | list=>
  cases xs with
  | nil=>exact False.elim h
  | cons x t=>
   cases t with
   | cons _ _=>first | exact False.elim h | (cases x<;>exact False.elim h)
   | nil=>
    cases x with
    | ref p=>
     unfold eQ at h
     dsimp only at h
     split at h
     ·rename_i e;exact bV (ji pins s σ H _ _ (fun v H'=>cz M H'->Q v H') I r ⟨_,_,rfl,.inl (bW m e),fun l hl of=>h l hl of.new⟩) fun _ _=>lJ m
     ·rename_i e;exact bV (ji pins s σ H _ _ (fun v H'=>cz M H'->Q v H') I r ⟨_,_,rfl,.inr (dI m e),fun l hl of=>h l hl of.new⟩) fun _ _=>lJ m
     ·exact h.elim
    | _=>exact False.elim h
 | dlist=>
  cases xs with
  | nil=>exact False.elim h
  | cons x t=>
   cases t with
   | cons _ _=>first | exact False.elim h | (cases x<;>exact False.elim h)
   | nil=>
    cases x with
    | ref p=>
     obtain⟨u,rfl,ru⟩:=vals1 r
     cases ru
     unfold eQ at h
     dsimp only at h
     split at h
     ·rename_i e;exact xR hc m I e h
     ·exact h.elim
    | _=>exact False.elim h
 | _=>exact False.elim h
noncomputable def Fo:Mf->String
 | .append=> "list" | .dclear=> "dict" | _=> "str"
noncomputable def B0:Mf->String
 | .startswith=> "str.startswith" | .split=> "str.split" | .join=> "str.join" | .append=> "list.append" | .dclear=> "dict.clear"
theorem rX:∀ {xs:List V} {us:List Value} {ts:List Str},Vals xs us->allM Ey xs=some ts->∃l:List (Str × Tok),strValues l=us/\l.map (·.1)=ts
 | [],_,ts,.nil,h=>by rw[allM_nil h];exact⟨[],rfl,rfl⟩
 | x::xs,_,ts,.cons r t,h=>by
  obtain⟨a,l,h1,h2,rfl⟩:=allM_cons h
  obtain⟨q,e1,e2⟩:=rX t h2
  cases x<;>first | cases h1 | skip
  obtain⟨tk,rfl⟩:=r
  exact⟨(_,tk)::q,by rw[<-e1];rfl,by rw[<-e2];rfl⟩
theorem mF:∀ (l:List (Str × Tok)),Vals ((l.map (·.1)).map V.str) (strValues l)
 | []=>.nil
 | p::r=>.cons ⟨p.2,rfl⟩ (mF r)
theorem vA (mo:aJ X.K M) {pins:List (Addr × Obj)} {σ:L2.St} {H:Hp} {s:Shared} {x y:Str} {t u:Tok} {Q:VK} (I:Inv X pins σ H s) (hy:(y.length == 0)=false) (hx:x.length<=1000000)
  (h:∀l,H l=none->M l=none->Q (.ref l) (upd H l (.lst ((Txt.split x y).map V.str)))):wpAny (model X.prog X.w) X.A (call (.builtin "str.split") [.str x t,.str y u]) (EP X pins σ Q) X.xe s:=by
 have hsz:x.length<=sizeLine:=by rw[sizeLine_eq];omega
 have hsz2:(Builtin.Str.partsBetween x (Builtin.Str.occurrences x y 0 x.length (x.length + 1)) y.length).length<=sizeLine:=by
  rw[PyProof.Rows.len_partsBetween]
  have:=PySem.StrLaws.occ_length_le x y 0 x.length (x.length + 1)
  rw[sizeLine_eq]
  omega
 have fin:∀ (l:List (Str × Tok)) (k:Nat),l.map (·.1)=Txt.split x y->l.length<=sizeLine->EP X pins σ Q (.ref s.heap.objs.size) {s with heap:=s.heap.push {cls:=.type "list",data:=.seq (strValues l).toArray},toks:=k}:=fun l k e hl=>by
  have I2:=I.B8 (t':=k) (ys:=(Txt.split x y).map V.str) (its:=strValues l) (by rw[<-e];exact mF l) (by rw[<-e,List.length_map,List.length_map];exact hl)
  exact⟨.ref _,_,I2,rfl,h _ I.fresh (cz.new (Inv.mj mo I2))⟩
 cases q1:(decide (x.length < y.length) || decide (Builtin.Str.strKind x < Builtin.Str.strKind y))with
 | true=>exact call_meets PySem.F.slot_str_split (typeIs_str _ _ _) PySem.F.entry_str_split (PySem.F.args_str_split_2 _ _) (meets_str_split_cannot_occur x y t u q1) (fin [(x,t)] s.toks (by unfold Txt.split;rw[if_pos q1];rfl) (by show 1<=_;decide))
 | false=>
  have n1:¬ (decide (x.length < y.length) || decide (Builtin.Str.strKind x < Builtin.Str.strKind y))=true:=by rw[q1];decide
  cases q2:(Builtin.Str.occurrences x y 0 x.length (x.length + 1)).isEmpty with
  | true=>exact call_meets PySem.F.slot_str_split (typeIs_str _ _ _) PySem.F.entry_str_split (PySem.F.args_str_split_2 _ _) (meets_str_split_not_found x y t u q1 hy q2) (fin [(x,t)] s.toks (by unfold Txt.split;rw[if_neg n1,if_pos q2];rfl) (by show 1<=_;decide))
  | false=>
   have n2:¬ (Builtin.Str.occurrences x y 0 x.length (x.length + 1)).isEmpty=true:=by rw[q2];decide
   refine call_meets PySem.F.slot_str_split (typeIs_str _ _ _) PySem.F.entry_str_split (PySem.F.args_str_split_2 _ _) (meets_str_split_sep x y t u q1 hy q2 hsz hsz2) ?_
   have z:=fin (numbered s.toks (Builtin.Str.partsBetween x (Builtin.Str.occurrences x y 0 x.length (x.length + 1)) y.length)) (s.toks + (Builtin.Str.partsBetween x (Builtin.Str.occurrences x y 0 x.length (x.length + 1)) y.length).length)
    (by unfold Txt.split;rw[if_neg n1,if_neg n2];exact numbered_texts _ _) (by have:=congrArg List.length (numbered_texts s.toks (Builtin.Str.partsBetween x (Builtin.Str.occurrences x y 0 x.length (x.length + 1)) y.length));rw[List.length_map]at this;rw[this];exact hsz2)
   rw[<-strsFrom_eq]at z
   exact z
theorem wW (mo:aJ X.K M) (m:Mf):GR X (B0 m) (f_ M m):=by
 intro pins s σ H x xs v us Q I rx r h
 cases m with
 | startswith=>
  cases x with
  | str x=>
   cases xs with
   | nil=>exact False.elim h
   | cons y t=>
    cases t with
    | cons _ _=>first | exact False.elim h | (cases y<;>exact False.elim h)
    | nil=>
     cases y with
     | str y=>
      obtain⟨u,rfl,ru⟩:=vals1 r
      obtain⟨t,rfl⟩:=rx
      obtain⟨t',rfl⟩:=ru
      exact PySem.SC.startswith ⟨.bl _,H,I,rfl,h⟩
     | _=>exact False.elim h
  | _=>exact False.elim h
 | split=>
  cases x with
  | str x=>
   cases xs with
   | nil=>exact False.elim h
   | cons y t=>
    cases t with
    | cons _ _=>first | exact False.elim h | (cases y<;>exact False.elim h)
    | nil=>
     cases y with
     | str y=>
      obtain⟨u,rfl,ru⟩:=vals1 r
      obtain⟨t,rfl⟩:=rx
      obtain⟨t',rfl⟩:=ru
      exact vA mo I h.1 h.2.1 h.2.2
     | _=>exact False.elim h
  | _=>exact False.elim h
 | join=>
  cases x with
  | str x=>
   cases xs with
   | nil=>exact False.elim h
   | cons y t=>
    cases t with
    | cons _ _=>first | exact False.elim h | (cases y<;>exact False.elim h)
    | nil=>
     cases y with
     | ref p=>
      obtain⟨u,rfl,ru⟩:=vals1 r
      obtain⟨t,rfl⟩:=rx
      cases ru
      unfold f_ at h
      dsimp only at h
      split at h
      ·rename_i e
       split at h
       ·rename_i ts et
        obtain⟨its,rv,pl,_⟩:=I.list (bW mo e)
        obtain⟨l,e1,e2⟩:=rX rv et
        exact PySem.SC.join (l:=l) (texts:=ts) (by rw[e1];exact pl.isList) e2 h.1 fun t' k=>⟨.str _,H,I.tok _,⟨_,rfl⟩,h.2⟩
       ·exact h.elim
      ·exact h.elim
     | _=>exact False.elim h
  | _=>exact False.elim h
 | append=>
  cases x with
  | ref p=>
   cases xs with
   | nil=>exact False.elim h
   | cons y t=>
    cases t with
    | cons _ _=>first | exact False.elim h | (cases y<;>exact False.elim h)
    | nil=>
     obtain⟨u,rfl,ru⟩:=vals1 r
     unfold f_ at h
     dsimp only at h
     split at h
     ·rename_i e
      exact mU pins s σ H _ _ _ _ Q I rx r ⟨_,_,_,rfl,rfl,e,h.1,h.2⟩
     ·exact h.elim
  | _=>exact False.elim h
 | dclear=>
  cases x with
  | ref p=>
   cases xs with
   | nil=>
    unfold f_ at h
    dsimp only at h
    cases r
    cases rx
    split at h
    ·rename_i e1
     exact Aa I e1 fun s' I'=>⟨.non,_,I',rfl,h⟩
    ·exact h.elim
   | cons _ _=>exact False.elim h
  | _=>exact False.elim h
theorem Cn {K:PySem.W.Frag} (mo:aJ K M) {x:V} {H:Hp} (h:(match x with | .ref p=>(match rd M H p with | some (.lst _)=>true | _=>false) | _=>false)=true):EJ K "list" x H:=by
 cases x with
 | ref p=>
  dsimp only at h
  split at h
  ·rename_i e;exact .inl ⟨rfl,_,bW mo e⟩
  ·cases h
 | _=>cases h
theorem xk {K:PySem.W.Frag} {x:V} {H:Hp} (h:xm x H=true):EJ K "dict" x H:=by
 unfold xm at h
 cases x with
 | ref p=>
  dsimp only at h
  split at h
  ·rename_i e;exact .inr (.inr (.inl ⟨rfl,.inl ⟨_,e⟩⟩))
  ·cases h
 | _=>cases h
theorem wV {K:PySem.W.Frag} (mo:aJ K M) {m:Mf} {x:V} {H:Hp} (h:AA M m x H=true):EJ K (Fo m) x H:=by
 cases m with
 | append=>exact Cn mo h
 | dclear=>exact xk h
 | _=>cases x<;>first | exact rfl | cases h
theorem A5:ET X (fun x lo hi H Q=>∃z,x=.str z/\z.length<=sizeLine/\Q (.str (Txt.slice z lo hi)) H):=by
 intro pins s σ H x v vl vu lo hi sl Q I rx hs pl pu h
 obtain⟨z,rfl,hz,q⟩:=h
 obtain⟨t,rfl⟩:=rx
 refine⟨"str",_,F.slot_str_getitem.lookup,typeIs_str _ _ _,?_⟩
 cases pl with
 | none=>
  cases pu with
  | none=>exact wpAny_getItem_str_slice (l:=none) (u:=none) (st:=none) hs rfl (post_val_or_str ⟨Nat.le_trans (Txt.slice_le z _ _) hz,fun t' k=>⟨.str _,H,I.tok _,⟨_,rfl⟩,q⟩⟩)
  | int j uj=>exact wpAny_getItem_str_slice (l:=none) (u:=some (j,uj)) (st:=none) hs rfl (post_val_or_str ⟨Nat.le_trans (Txt.slice_le z _ _) hz,fun t' k=>⟨.str _,H,I.tok _,⟨_,rfl⟩,q⟩⟩)
 | int i ui=>
  cases pu with
  | none=>exact wpAny_getItem_str_slice (l:=some (i,ui)) (u:=none) (st:=none) hs rfl (post_val_or_str ⟨Nat.le_trans (Txt.slice_le z _ _) hz,fun t' k=>⟨.str _,H,I.tok _,⟨_,rfl⟩,q⟩⟩)
  | int j uj=>exact wpAny_getItem_str_slice (l:=some (i,ui)) (u:=some (j,uj)) (st:=none) hs rfl (post_val_or_str ⟨Nat.le_trans (Txt.slice_le z _ _) hz,fun t' k=>⟨.str _,H,I.tok _,⟨_,rfl⟩,q⟩⟩)
theorem A4 (m:aJ X.K M):ET X (t8 M):=by
 intro pins s σ H x v vl vu lo hi sl Q I rx hs pl pu h
 unfold t8 at h
 split at h
 ·exact A5 pins s σ H _ v vl vu lo hi sl Q I rx hs pl pu ⟨_,rfl,h.1,h.2⟩
 ·split at h
  ·rename_i e
   obtain⟨T,id,h1,h2,h3⟩:=yO pins s σ H _ v vl vu lo hi sl (fun v H'=>cz M H'->Q v H') I rx hs pl pu ⟨_,_,rfl,bW m e,fun p hp of=>h p hp of.new⟩
   exact⟨T,id,h1,h2,bV h3 fun _ _=>lJ m⟩
  ·exact h.elim
 ·exact h.elim
end
theorem vF {K:PySem.W.Frag} {M:Mo} (m:aJ K M) {a:Addr} {xs:List V}:ig (Gr K a) xs (fun H=>rd M H a=some (.lst xs)) where
 go:=fun i H st e=>⟨xs,xs[i],bW m st,List.getElem?_eq_getElem e⟩
 kn:=fun i H x H' _ y st=>⟨y.1,y.2 xs (bW m st)⟩
 stop:=fun i H st h=>⟨xs,bW m st,h⟩
theorem yP {K:PySem.W.Frag} {M:Mo} (m:aJ K M) {a:Addr} {xs:List V}:ig (Gq K a) xs (fun H=>rd M H a=some (.tup xs)) where
 go:=fun i H st e=>⟨xs,xs[i],dI m st,List.getElem?_eq_getElem e⟩
 kn:=fun i H x H' _ y st=>⟨y.1,y.2 xs (dI m st)⟩
 stop:=fun i H st h=>⟨xs,dI m st,h⟩
theorem t9 (lo:Int) (n:Nat):ig (F_ lo n) ((List.range n).map fun i:Nat=>.int (lo + i)) (fun _=>True) where
 go:=fun i H st e=>by
  show i < n
  simpa using e
 kn:=fun i H x H' e y st=>by
  obtain⟨y1,y2⟩:=y
  subst y2
  refine⟨y1,?_⟩
  have e:i < n:=by simpa using e
  rw[List.getElem?_map,List.getElem?_range e]
  rfl
 stop:=fun i H st h=>by
  show n<=i
  simpa using h
noncomputable def EZ (z:Str):It:=⟨fun i _=>i < z.cps.size,fun i H x H'=>H'=H/\∃c,z.cps[i]?=some c/\x=.str ⟨#[c]⟩,fun i _=>z.cps.size<=i⟩
theorem yQ (z:Str):ig (EZ z) (z.cps.toList.map fun c=>.str ⟨#[c]⟩) (fun _=>True) where
 go:=fun i H st e=>by
  show i < z.cps.size
  simpa using e
 kn:=fun i H x H' e y st=>by
  obtain⟨y1,c,y2,y3⟩:=y
  subst y3
  refine⟨y1,?_⟩
  rw[List.getElem?_map]
  simp[y2]
 stop:=fun i H st h=>by
  show z.cps.size<=i
  simpa using h
theorem vp {P:Program} {w:World} {K:PySem.W.Frag} {tg:Expr} (it:Addr) (z:Str) (t:Tok):Turn P w K tg (EZ z) [it] it (fun i h=>h.IsStrIter it (strIterType z) z t i) where
 mem:=by simp
 obj:=fun i h st b hb=>by
  have e:b=it:=by simpa using hb
  subst e
  obtain⟨o,ho,hc,hd⟩:=st
  exact⟨o,ho,fun v q=>by rw[hd]at q;cases q⟩
 keep:=fun i h h' st k=>by
  obtain⟨o,ho,r⟩:=st
  exact⟨o,k it (by simp) _ ho,r⟩
 item:=by
  intro X hP hw hK hc i pins s σ H E I hf st hg
  subst hP hw hK
  obtain⟨f0,f1,f2,f3,f4,f5⟩:=hf it (by simp)
  have hg:i < z.cps.size:=hg
  have hx:z.cps[i]?=some z.cps[i]:=Array.getElem?_eq_getElem hg
  have fin:∀ (ty:String),ty ≠ "x" ->strIterType z=ty->(["enumerate","zip","dict_itemiterator","dict_reverseitemiterator","odict_iterator","itertools.zip_longest","itertools.pairwise"].contains ty=false)->∀h',h'.IsStrIter it ty z t (i + 1)->Heap.SameBut it s.heap h'->
    ∃u,some (Value.str ⟨#[z.cps[i]]⟩ s.toks)=some u/\wpAny (model X.prog X.w) X.A (letOwnedTupleGo tg (.ref it) u) (fun _ s2=>∃x H',Inv X pins σ H' s2/\RelV x u/\(EZ z).kn i H x H'/\s2.heap.IsStrIter it (strIterType z) z t (i + 1)/\∀b ∈ [it],H' b=none) E {s with heap:=h',toks:=s.toks + 1}:=by
   intro ty _ e hn h' st' sb
   have I1:Inv X pins σ H {s with heap:=h',toks:=s.toks + 1}:=I.turned (fun b o hb e=>sb.extBut b o hb e) f0 f1 f3 f4 f5
   obtain⟨o,ho,hcl,hd⟩:=id st'
   refine⟨_,rfl,m3 (s:={s with heap:=h',toks:=s.toks + 1}) ho hcl hd hn ⟨.str ⟨#[z.cps[i]]⟩,H,I1,⟨_,rfl⟩,⟨rfl,_,hx,rfl⟩,by rw[e];exact st',fun b hb=>(hf b hb).1⟩⟩
  cases ha:z.cps.all (·< 128)
  ·have e:strIterType z= "str_iterator" :=by simp[strIterType,ha]
   rw[e]at st
   exact wpAny_pyNext_wide_item st hx fun h' st' sb=>fin _ (by decide) e (by decide) h' st' sb
  ·have e:strIterType z= "str_ascii_iterator" :=by simp[strIterType,ha]
   rw[e]at st
   exact wpAny_pyNext_ascii_item st hx fun h' st' sb=>fin _ (by decide) e (by decide) h' st' sb
 done:=by
  intro X hP hw hK hc i pins s σ H E I hf st hg
  subst hP hw hK
  obtain⟨f0,f1,f2,f3,f4,f5⟩:=hf it (by simp)
  have hg:z.cps.size<=i:=hg
  have hx:z.cps[i]?=none:=by simp[hg]
  cases ha:z.cps.all (·< 128)
  ·have e:strIterType z= "str_iterator" :=by simp[strIterType,ha]
   rw[e]at st
   exact wpAny_pyNext_wide_end (I.ok.hd hc) st hx fun h' eb=>⟨rfl,I.turned (t':=s.toks) (fun b o hb e=>eb b o hb e) f0 f1 f3 f4 f5⟩
  ·have e:strIterType z= "str_ascii_iterator" :=by simp[strIterType,ha]
   rw[e]at st
   exact wpAny_pyNext_ascii_end (I.ok.hd hc) st hx fun h' eb=>⟨rfl,I.turned (t':=s.toks) (fun b o hb e=>eb b o hb e) f0 f1 f3 f4 f5⟩
 self:=fun A i s Q E st h=>by
  cases ha:z.cps.all (·< 128)
  ·have e:strIterType z= "str_iterator" :=by simp[strIterType,ha]
   rw[e]at st
   exact wpAny_pyIter_striter_wide st h
  ·have e:strIterType z= "str_ascii_iterator" :=by simp[strIterType,ha]
   rw[e]at st
   exact wpAny_pyIter_striter_ascii st h
section
variable {X:Cx} {tg:Expr}
noncomputable def uS (wi:L2.St->Hp->(List V->(Hp->Prop)->Hp->Prop)->Prop):TI:=fun σ H R=>∃k,wi σ H k/\∀J xs aC H1,ig J xs aC->k xs aC H1->R J H1
theorem rm {M:Mo} {x:V} {H:Hp} {k k':List V->(Hp->Prop)->Prop} (h:bD M x H k) (hk:∀xs aC,k xs aC->k' xs aC):bD M x H k':=by
 unfold bD at h ⊢
 split at h
 ·exact⟨h.1,hk _ _ h.2⟩
 ·split at h
  ·first | exact hk _ _ h | (rename_i e;rw[e];exact hk _ _ h)
  ·first | exact hk _ _ h | (rename_i e;rw[e];exact hk _ _ h)
  ·exact h.elim
 ·exact h.elim
theorem Bu {pins:List (Addr × Obj)} {σ:L2.St} {H:Hp} {s:Shared} {R:It->Hp->Prop} {z:Str} {t:Tok} (I:Inv X pins σ H s) (q:R (EZ z) H):
  wpAny (model X.prog X.w) X.A (pyIter (.str z t)) (EV X pins σ tg R) X.xe s:=by
 refine wpAny_pyIter_strU ?_
 refine⟨s.heap.objs.size,[s.heap.objs.size],_,_,H,rfl,I.kept (t':=s.toks) fun b o e=>Heap.get?_push_of_some _ e,vp _ z t,⟨_,Heap.get?_push_size _ rfl,rfl,rfl⟩,fun b hb=>?_,q⟩
 have e:b=s.heap.objs.size:=by simpa using hb
 subst e
 exact I.p_ (Nat.le_refl _) (I.aW.fresh (Nat.le_refl _))
theorem Bt {M:Mo} (m:aJ X.K M) {pins:List (Addr × Obj)} {σ:L2.St} {H:Hp} {s:Shared} {R:It->Hp->Prop} {x:V} {v:Value} (I:Inv X pins σ H s) (rx:RelV x v)
  (h:bD M x H fun xs aC=>∀J,ig J xs aC->R J H):wpAny (model X.prog X.w) X.A (pyIter v) (EV X pins σ tg R) X.xe s:=by
 unfold bD at h
 split at h
 ·obtain⟨t,rfl⟩:=rx
  exact Bu I (h.2 _ (yQ _))
 ·cases rx
  split at h
  ·rename_i xs e
   obtain⟨its,rv,p,hz⟩:=I.list (bW m e)
   refine wpAny_pyIter_list p.isList ?_
   refine⟨s.heap.objs.size,[s.heap.objs.size],_,_,H,rfl,I.kept (t':=s.toks) fun b o e=>Heap.get?_push_of_some _ e,tQ _ _,⟨_,Heap.get?_push_size _ rfl,rfl,rfl⟩,fun b hb=>?_,h _ (vF m)⟩
   have e:b=s.heap.objs.size:=by simpa using hb
   subst e
   exact I.p_ (Nat.le_refl _) (I.aW.fresh (Nat.le_refl _))
  ·rename_i xs e
   obtain⟨its,rv,p,hz⟩:=I.tuple (dI m e)
   refine wpAny_pyIter_tuple (show s.heap.IsTuple _ its.toArray from p) ?_
   refine⟨s.heap.objs.size,[s.heap.objs.size],_,_,H,rfl,I.kept (t':=s.toks) fun b o e=>Heap.get?_push_of_some _ e,qD _ _,⟨_,Heap.get?_push_size _ rfl,rfl,rfl⟩,fun b hb=>?_,h _ (yP m)⟩
   have e:b=s.heap.objs.size:=by simpa using hb
   subst e
   exact I.p_ (Nat.le_refl _) (I.aW.fresh (Nat.le_refl _))
  ·exact h.elim
 ·exact h.elim
end
end Sw
namespace PySem.Sg
open PySem PySem.Spec PyProof.Rows L2
section
variable {prog:Program} {w:World} {A:Around} {E:Value->Shared->Prop} {s:Shared}
end
end PySem.Sg
namespace Zl
open PySem
section
variable {prog:Program} {w:World} {A:Around} {s:Shared} {R:Result->Shared->Prop} {S I:Addr} {n:Nat} {J:Nat->Array Value->Heap->Prop} {F:Array Value->Heap->Prop} {res:Value}
structure Walk (prog:Program) (w:World) (A:Around) (s:Shared) (S I:Addr) (n:Nat) (J:Nat->Array Value->Heap->Prop) (F:Array Value->Heap->Prop):Prop where
 iM:n<=sizeLine
 size:∀i acc h,J i acc h->acc.size=i
 keep:∀i acc h h',J i acc h->(∀ b o,b ≠ S->h.get? b=some o->h'.get? b=some o)->J i acc h'
 item:∀i acc h tk (Q:Option Value->Shared->Prop) (E:Value->Shared->Prop),i < n->J i acc h->S < h.objs.size->
  (∀ v h',J (i + 1) (acc.push v) h'->(∀ o,h.get? S=some o->h'.get? S=some o)->Q (some v) {s with heap:=h',toks:=tk})->wpAny (model prog w) A (pyNext (.ref I)) Q E {s with heap:=h,toks:=tk}
 done:∀acc h tk (Q:Option Value->Shared->Prop) (E:Value->Shared->Prop),J n acc h->S < h.objs.size->
  (∀ h',F acc h'->(∀ o,h.get? S=some o->h'.get? S=some o)->Q none {s with heap:=h',toks:=tk})->wpAny (model prog w) A (pyNext (.ref I)) Q E {s with heap:=h,toks:=tk}
theorem qe (W:Walk prog w A.in1 s S I n J F) (hR:∀h' acc c tk,F acc h'->h'.get? S=some {cls:=.type "list",dict:=none,data:=.seq acc c,slots:=#[]}->R (.ok (.ret res)) {s with heap:=h',toks:=tk}):
  ∀ (k i:Nat) (h:Heap) (tk c:Nat) (acc:Array Value),n - i=k->i<=n->J i acc h->h.get? S=some {cls:=.type "list",dict:=none,data:=.seq acc c,slots:=#[]}->
   codeAny (model prog w) A (.builtin "list.extend.loop" ⟨[.ref S,.ref I,res],[]⟩) R {s with heap:=h,toks:=tk}
 | 0,i,h,tk,c,acc,hk,hi,hj,hS=>by
  have e:i=n:=by omega
  subst e
  refine codeAny_builtin PySem.F.entry_extend_loop ?_
  rw[Around.under_plainId PySem.F.plain_extend_loop _]
  show wpAny _ A.in1 (pyNext (.ref I) >>= _) _ _ _
  exact wpAny_bind (W.done acc h tk _ _ hj (Heap.lt_size hS) fun h' f sm=>wpAny_pure (hR h' acc c tk f (sm _ hS)))
 | k + 1,i,h,tk,c,acc,hk,hi,hj,hS=>by
  have lt:i < n:=by omega
  have sz:=W.size i acc h hj
  have iM:=W.iM
  refine codeAny_builtin PySem.F.entry_extend_loop ?_
  rw[Around.under_plainId PySem.F.plain_extend_loop _]
  show wpAny _ A.in1 (pyNext (.ref I) >>= _) _ _ _
  refine wpAny_bind (W.item i acc h tk _ _ lt hj (Heap.lt_size hS) fun v h' hj' sm=>?_)
  have hS':=sm _ hS
  show wpAny _ A.in1 (updateSeq S (·.push v) >>= _) _ _ _
  refine wpAny_bind ?_
  refine wpAny_updateSeq hS' rfl (wpAny_pure ⟨plainId_quiet PySem.F.plain_extend_loop _,?_⟩) (by omega) (by show(acc.push v).size<=sizeLine + 1;rw[Array.size_push];omega)
  exact qe W hR k (i + 1) _ tk _ (acc.push v) (by omega) lt (W.keep _ _ _ _ hj' fun b o hb e=>(Heap.get?_update_other _ _ (Ne.symm hb)).trans e) (Heap.get?_update_self _ hS' rfl)
end
section
variable {prog:Program} {w:World} {A:Around} {E:Value->Shared->Prop} {s:Shared} {I:Addr} {n:Nat} {J:Nat->Array Value->Heap->Prop} {F:Array Value->Heap->Prop} {T:String}
theorem uI {Q:Value->Shared->Prop} (W:Walk prog w A.in1.in1 s s.heap.objs.size I n J F) (hj:J 0 #[] s.heap) (tl:T ≠ "list") (tt:T ≠ "tuple") (hT:s.TypeIs (.ref I) T)
  (self:∀ (B:Around) (t:Shared) (K:Value->Shared->Prop) (X:Value->Shared->Prop),t.TypeIs (.ref I) T->K (.ref I) t->wpAny (model prog w) B (pyIter (.ref I)) K X t)
  (hint:∀ (B:Around) (t:Shared) (K:Bool->Shared->Prop) (X:Value->Shared->Prop),t.TypeIs (.ref I) T->(∀ b,K b t)->wpAny (model prog w) B (Builtin.List.listLengthHint (.ref I)) K X t)
  (hQ:∀h' acc c tk,F acc h'->h'.get? s.heap.objs.size=some {cls:=.type "list",dict:=none,data:=.seq acc c,slots:=#[]}->Q (.ref s.heap.objs.size) {s with heap:=h',toks:=tk}):
  wpAny (model prog w) A (call (.type "list") [.ref I]) Q E s:=by
 refine callType_codes (Q₁:=fun obj s₁=>obj=.ref s.heap.objs.size/\s₁={s with heap:=s.heap.push {cls:=.type "list",data:=.seq #[]}}) PySem.F.called_list (PySem.F.typeCall_list_1 _) PySem.F.entry_list_init
  (code_list_new _ ⟨rfl,rfl⟩) fun obj s₁ h₁=>?_
 obtain⟨rfl,rfl⟩:=h₁
 have hS:(s.heap.push {cls:=.type "list",data:=.seq #[]}).get? s.heap.objs.size=some {cls:=.type "list",data:=.seq #[]}:=Heap.get?_push_size _ rfl
 have iS:I ≠ s.heap.objs.size:=by
  obtain⟨o,ho,_⟩:=hT
  exact Nat.ne_of_lt (Heap.lt_size ho)
 have ex:∀h:Heap,(∀ b o,b ≠ s.heap.objs.size->s.heap.get? b=some o->h.get? b=some o)->Shared.TypeIs {s with heap:=h} (.ref I) T:=fun h k=>by
  obtain⟨o,ho,hc⟩:=hT
  exact⟨o,k I o iS ho,hc⟩
 refine⟨⟨_,hS,rfl⟩,PySem.F.args_list_init_2 _ _,?_⟩
 show wpAny _ _ (do let old<-Builtin.List.listItems (.ref s.heap.objs.size);Builtin.List.listUpdate (.ref s.heap.objs.size) (fun _=>#[]);letGo old.toList.reverse;Builtin.List.listExtendWith (.ref s.heap.objs.size) (.ref I) .none) _ _ _
 refine wpAny_bind ?_
 unfold Builtin.List.listItems
 refine wpAny_bind (wpAny_seqItems hS rfl (wpAny_pure ?_))
 show wpAny _ _ (updateSeq s.heap.objs.size (fun _=>#[]) >>= fun _=>letGo (#[]:Array Value).toList.reverse >>= fun _=>Builtin.List.listExtendWith (.ref s.heap.objs.size) (.ref I) .none) _ _ _
 refine wpAny_bind (wpAny_updateSeq hS rfl ?_)
 have hS2:=Heap.get?_update_self (Obj.mapSeq (fun _=>(#[]:Array Value))) hS rfl
 have k2:∀b o,b ≠ s.heap.objs.size->s.heap.get? b=some o->((s.heap.push {cls:=.type "list",data:=.seq #[]}).update s.heap.objs.size (Obj.mapSeq (fun _=>(#[]:Array Value)))).get? b=some o:=
  fun b o hb e=>(Heap.get?_update_other _ _ (Ne.symm hb)).trans (Heap.get?_push_of_some _ e)
 refine wpAny_bind (wpAny_letGo ?_)
 generalize (s.heap.push {cls:=.type "list",data:=.seq #[]}).update s.heap.objs.size (Obj.mapSeq (fun _=>(#[]:Array Value)))=h2 at hS2 k2
 have loop:∀ (h:Heap) (c:Nat) (tk:Nat),(∀ b o,b ≠ s.heap.objs.size->s.heap.get? b=some o->h.get? b=some o)->h.get? s.heap.objs.size=some {cls:=.type "list",data:=.seq #[] c}->
   codeAny (model prog w) A.in1 (.builtin "list.extend.loop" ⟨[.ref s.heap.objs.size,.ref I,.none],[]⟩) (wants (fun r s₂=>r=.none/\Q (.ref s.heap.objs.size) s₂) E) {s with heap:=h,toks:=tk}:=fun h c tk k hs=>
  qe W (fun h' acc c tk f e=>⟨rfl,hQ h' acc c tk f e⟩) n 0 h tk c #[] (Nat.sub_zero _) (Nat.zero_le _) (W.keep _ _ _ _ hj k) hs
 unfold Builtin.List.listExtendWith
 refine wpAny_bind (wpAny_typeOf (T:=T) (ex h2 k2) ?_)
 have h1:Builtin.List.listSameRef (.ref s.heap.objs.size) (.ref I)=false:=by simp[Builtin.List.listSameRef,Ne.symm iS]
 have h3:(Value.type T == Value.type "list")=false:=by simp[tl]
 have h4:(Value.type T == Value.type "tuple")=false:=by simp[tt]
 simp only[h1,h3,h4,Bool.or_false,Bool.false_eq_true,if_false]
 refine wpAny_bind (self _ _ _ _ (ex h2 k2) ?_)
 refine wpAny_bind (wpAny_holding (hint _ _ _ _ (ex h2 k2) fun room=>?_))
 refine wpAny_ite_split (fun _=>?_) (fun _=>wpAny_pure ⟨plainId_quiet PySem.F.plain_extend_loop _,loop h2 _ _ k2 hS2⟩)
 refine wpAny_bind (wpAny_rule ?_)
 refine wpAny_bind ?_
 show wpAny _ _ (updateSeq s.heap.objs.size (·.push .none) >>= fun _=>updateSeq s.heap.objs.size (·.pop)) _ _ _
 refine wpAny_bind (wpAny_updateSeq hS2 rfl ?_)
 have hS3:=Heap.get?_update_self (Obj.mapSeq (·.push Value.none)) hS2 rfl
 refine wpAny_updateSeq (hz:=by seq_fits) hS3 rfl ?_
 have hS4:=Heap.get?_update_self (Obj.mapSeq (·.pop)) hS3 rfl
 exact wpAny_pure ⟨plainId_quiet PySem.F.plain_extend_loop _,loop _ _ _ (fun b o hb e=>(Heap.get?_update_other _ _ (Ne.symm hb)).trans ((Heap.get?_update_other _ _ (Ne.symm hb)).trans (k2 b o hb e))) hS4⟩
end
end Zl
namespace Zl
open PySem
theorem nd {a b:Nat} (h:a < b\/b < a):@Ne Addr a b:=fun e=>by
 have e:(a:Nat)=b:=e
 omega
theorem yR:typeLookup (.type "list_reverseiterator") "__len__" =pure none:=by rw[typeLookup_type,builtinLookup_eq_fast];kernel_rfl
theorem vM:typeLookup (.type "list_reverseiterator") "__length_hint__" =pure (some (.builtin "list_reverseiterator.__length_hint__")):=by rw[typeLookup_type,builtinLookup_eq_fast];kernel_rfl
structure GL (h₀:Heap) (r l S:Nat) (xs:Array Value) (i:Nat) (acc:Array Value) (h:Heap):Prop where
 acc:acc.toList=xs.toList.reverse.take i
 le:i<=xs.size
 it:h.IsRevIter r l ((xs.size:Int) - 1 - (i:Int))
 lst:h.IsList l xs
 old:∀b o,b ≠ r->b ≠ S->h₀.get? b=some o->h.get? b=some o
section
variable {prog:Program} {w:World} {A:Around} {E:Value->Shared->Prop} {s:Shared}
theorem vL {r l S:Nat} {xs:Array Value} (hh:A.handled=none) (iM:xs.size<=sizeLine) (rl:r ≠ l) (rs:r < S) (ls:l < S):
  Walk prog w A s S r xs.size (GL s.heap r l S xs) (fun acc h=>acc.toList=xs.toList.reverse/\∀b o,b ≠ r->b ≠ S->s.heap.get? b=some o->h.get? b=some o) where
 iM:=iM
 size:=fun i acc h j=>by
  rw[<-Array.length_toList,j.acc,List.length_take,List.length_reverse,Array.length_toList]
  have:=j.le
  omega
 keep:=fun i acc h h' j k=>⟨j.acc,j.le,j.it.at fun o e=>k _ o (nd (by omega)) e,j.lst.at fun o e=>k _ o (nd (by omega)) e,fun b o b1 b2 e=>k b o b2 (j.old b o b1 b2 e)⟩
 item:=fun i acc h tk Q E lt j hS q=>by
  have en:(xs.size:Int) - 1 - (i:Int)=((xs.size - 1 - i:Nat):Int):=by omega
  have it:=j.it
  rw[en]at it
  have hx:=Array.getElem?_eq_getElem (xs:=xs) (i:=xs.size - 1 - i) (by omega)
  refine wpAny_pyNext_rev_item (s:={s with heap:=h,toks:=tk}) it j.lst hx fun h' it' sb=>?_
  have en2:((xs.size - 1 - i:Nat):Int) - 1=(xs.size:Int) - 1 - ((i + 1:Nat):Int):=by omega
  rw[en2]at it'
  refine q _ h' ⟨?_,lt,it',j.lst.at fun o e=>sb.extBut _ _ (Ne.symm rl) e,fun b o b1 b2 e=>sb.extBut _ _ b1 (j.old b o b1 b2 e)⟩ fun o e=>sb.extBut _ _ (nd (by omega)) e
  rw[Array.toList_push,j.acc,List.take_succ,List.getElem?_reverse (by simpa using lt)]
  congr 1
  have e2:xs.toList[xs.toList.length - 1 - i]?=some xs[xs.size - 1 - i]:=by
   rw[Array.length_toList,Array.getElem?_toList]
   exact hx
  rw[e2]
  rfl
 done:=fun acc h tk Q E j hS q=>by
  have it:=j.it
  rw[show(xs.size:Int) - 1 - ((xs.size:Nat):Int)= -1 by omega]at it
  refine wpAny_pyNext_rev_end (s:={s with heap:=h,toks:=tk}) hh it fun h' eb=>?_
  refine q h' ⟨?_,fun b o b1 b2 e=>eb b o b1 (j.old b o b1 b2 e)⟩ fun o e=>eb _ _ (nd (by omega)) e
  rw[j.acc,List.take_of_length_le (by simp)]
theorem w6 {l:Nat} {xs:Array Value} {Q:Value->Shared->Prop} (hh:A.handled=none) (hl:s.heap.IsList l xs) (iM:xs.size<=sizeLine)
  (q:∀h' acc c tk,acc.toList=xs.toList.reverse->(∀ b o,s.heap.get? b=some o->h'.get? b=some o)->h'.get? (s.heap.objs.size + 1)=some {cls:=.type "list",dict:=none,data:=.seq acc c,slots:=#[]}->Q (.ref (s.heap.objs.size + 1)) {s with heap:=h',toks:=tk}):
  wpAny (model prog w) A (call (.type "reversed") [.ref l]) (fun v s'=>wpAny (model prog w) A (call (.type "list") [v]) Q E s') E s:=by
 have lt:l < s.heap.objs.size:=by obtain⟨o,e,_⟩:=id hl;exact Heap.lt_size e
 refine call_reversed_list hl ?_
 have st:Heap.IsRevIter (s.heap.push (revObj l ((xs.size:Int) - 1))) s.heap.objs.size l ((xs.size:Int) - 1 - ((0:Nat):Int)):=⟨_,Heap.get?_push_size _ rfl,rfl,by unfold revObj;simp⟩
 have hs:(s.heap.push (revObj l ((xs.size:Int) - 1))).objs.size=s.heap.objs.size + 1:=Heap.size_push ..
 have k:∀b o,s.heap.get? b=some o->(s.heap.push (revObj l ((xs.size:Int) - 1))).get? b=some o:=fun b o e=>Heap.get?_push_of_some _ e
 generalize s.heap.push (revObj l ((xs.size:Int) - 1))=h' at st hs k
 have W:=vL (prog:=prog) (w:=w) (A:=A.in1.in1) (s:={s with heap:=h'}) (r:=s.heap.objs.size) (l:=l) (S:=h'.objs.size) (xs:=xs) hh iM (by omega) (by omega) (by omega)
 refine uI (T:= "list_reverseiterator") (s:={s with heap:=h'}) W ⟨rfl,Nat.zero_le _,st,hl.at fun o e=>k _ o e,fun b o _ _ e=>e⟩ (by decide) (by decide) (Heap.IsRevIter.typeIs (s:={s with heap:=h'}) st) (fun B t K X hT hK=>?_) (fun B t K X hT hK=>?_) (fun h2 acc c tk f e=>?_)
 ·refine wpAny_pyIter_slot hT PySem.F.slot_lri_iter (wpAny_call_entry PySem.F.slot_lri_iter hT PySem.F.entry_lri_iter ?_ (PySem.F.args_lri_iter_1 _))
  show wpAny _ _ (ret (.ref _)) _ _ t
  exact wpAny_pure ⟨_,rfl,"list_reverseiterator",_,hT,PySem.F.slot_lri_next.lookup,hK⟩
 ·unfold Builtin.List.listLengthHint
  refine wpAny_bind (wpAny_specialOf hT yR ?_)
  show wpAny _ _ (specialOf (Value.ref _) (Str.ofString "__length_hint__") >>= _) _ _ _
  refine wpAny_bind (wpAny_specialOf hT vM ?_)
  generalize hid:("list_reverseiterator.__length_hint__" :String)=id0
  wp_delta
  rw[show splitId id0=some ("list_reverseiterator","__length_hint__")from by subst hid;decide +kernel]
  subst hid
  refine wpAny_bind (wpAny_isInstance (b:=true) hT (by rw[isSubtype_type];kernel_rfl) ?_)
  refine wpAny_pure ?_
  exact hK _
 ·obtain⟨f1,f2⟩:=f
  show Q (.ref h'.objs.size) _
  have e':h2.get? h'.objs.size=some {cls:=.type "list",dict:=none,data:=.seq acc c,slots:=#[]}:=e
  dsimp only at f2
  rw[hs]at e' f2 ⊢
  exact q h2 acc c tk f1 (fun b o x=>by
   have:@LT.lt Nat _ b s.heap.objs.size:=Heap.lt_size x
   exact f2 b o (nd (by omega)) (nd (by omega)) (k b o x)) e'
end
end Zl
namespace Sw
open PySem PySem.Spec PyProof.Rows L2
section
variable {X:Cx} {M:Mo} {pins:List (Addr × Obj)} {σ:L2.St} {H:Hp} {s:Shared}
theorem zH (mo:aJ X.K M) (hc:X.calm=true) {x:V} {u:Value} {Q:VK} (I:Inv X pins σ H s) (r:RelV x u) (h:pU M x H Q):
  wpAny (model X.prog X.w) X.A (call (.type "reversed") [u]) (fun v s1=>wpAny (model X.prog X.w) X.A (call (.type "list") [v]) (EP X pins σ Q) X.xe s1) X.xe s:=by
 unfold pU at h
 cases x with
 | ref p=>
  cases (show u=Value.ref p from r)
  dsimp only at h
  split at h
  ·rename_i xs e
   obtain⟨its,rv,pl,hz⟩:=I.list (bW mo e)
   refine Zl.w6 (I.ok.hd hc) pl.isList (by rw[List.size_toArray,<-rv.length];exact hz) fun h' acc c tk ea k el=>?_
   have hv:Vals xs.reverse its.reverse:=rv.reverse
   have ea':acc=its.reverse.toArray:=by
    apply Array.toList_inj.mp
    rw[ea]
   subst ea'
   have I1:Inv X pins σ (upd H (s.heap.objs.size + 1) (.lst xs.reverse)) {s with heap:=h',toks:=tk}:=I.laid k (Nat.le_succ _) ⟨by rw[List.length_reverse];exact hz,its.reverse,c,hv,el⟩
   exact⟨.ref _,_,I1,rfl,h _ (I.aW.fresh (Nat.le_succ _)) (cz.new (Inv.mj mo I1))⟩
  ·exact h.elim
 | _=>exact h.elim
theorem _root_.L2.Inv.rW {h':Heap} {t':Nat} {fp:List Addr} (I:Inv X pins σ H s) (f:∀b ∈ fp,kj X pins H b) (k:∀b o,b ∉ fp->s.heap.get? b=some o->h'.get? b=some o):Inv X pins σ H {s with heap:=h',toks:=t'}:=by
 have nf:∀b u,H b=some u->b ∉ fp:=fun b u e m=>by rw[(f b m).1]at e;cases e
 refine I.step (g':=s.gens) (d':=s.drawn) (ch:=fp) (fun b hb=>⟨(f b hb).2.2.2.1,(f b hb).2.1,(f b hb).2.2.2.2.1,(f b hb).2.2.2.2.2⟩) (fun b o _ _ m e _=>k b o m e) (fun b o _ _ m e _=>⟨o.slots,k b o m e⟩) (fun _ _ _ _ n=>n)
  (fun b o m e=>⟨o,k b o m e⟩) (fun _ _ e=>e) (fun _ _ _ e=>e) (fun b ps e=>⟨#[],by rw[e];simp⟩) (fun m hm=>?_) (fun b u e=>?_) I.bare
 ·obtain⟨o,es,ep,ho,r⟩:=hm
  exact⟨o,es,ep,k _ o (fun z=>(f _ z).2.1 rfl) ho,r⟩
 ·refine(I.aW b u e).aC (fun c v q r=>k c v ?_ r) (fun _ q=>q) fun _ _ q=>q
  rcases q with z | z
  ·rw[z];exact nf b u e
  ·exact nf c _ z
theorem xP {xs:List V} {i:Nat} {x:V} (h:xs[i]?=some x):((List.range xs.length).zip xs)[i]?=some (i,x):=by
 have lt:=(List.getElem?_eq_some_iff.mp h).1
 rw[List.getElem?_zip_eq_some]
 exact⟨by rw[List.getElem?_range lt],h⟩
noncomputable def EI (M:Mo) (p:Addr) (xs:List V):It:=
 ⟨fun i H=>rd M H p=some (.lst xs)/\i < ((List.range xs.length).zip xs).length,fun i H x H'=>∃t a,H t=none/\M t=none/\((List.range xs.length).zip xs)[i]?=some a/\x=.ref t/\H'=upd H t (.tup [.int a.1,a.2]),
  fun i H=>rd M H p=some (.lst xs)/\((List.range xs.length).zip xs).length<=i⟩
theorem jf (xs:List V):((List.range xs.length).zip xs).length=xs.length:=by rw[List.length_zip,List.length_range,Nat.min_self]
theorem tR {P:Program} {w:World} {K:PySem.W.Frag} (mo:aJ K M) {ts:List Expr} {kt} {pt:Pos} {e it p:Addr} {xs:List V} (hei:e ≠ it) (hpe:p ≠ e) (hpi:p ≠ it):
  Turn P w K (.Tuple ts kt pt) (EI M p xs) [e,it] e (fun i h=>(∃ old,IsEnum h e it i old)/\h.IsListIter it p i) where
 mem:=by simp
 obj:=fun i h st b hb=>by
  obtain⟨⟨old,he⟩,o1,e1,c1,d1⟩:=st
  simp only[List.mem_cons,List.not_mem_nil,or_false]at hb
  rcases hb with rfl | rfl
  ·exact⟨_,he,fun v z=>by cases z⟩
  ·exact⟨_,e1,fun v z=>by rw[d1]at z;cases z⟩
 keep:=fun i h h' st k=>by
  obtain⟨⟨old,he⟩,h1⟩:=st
  exact⟨⟨old,k _ (by simp) _ he⟩,h1.at fun o e=>k _ (by simp) o e⟩
 item:=by
  intro X hP hw hK hc i pins s σ H E I hf st hg
  subst hP hw hK
  obtain⟨g1,lt⟩:=hg
  rw[jf]at lt
  obtain⟨⟨old,he⟩,h1⟩:=st
  obtain⟨us,r1,l1,z1⟩:=I.list (bW mo g1)
  have le1:=r1.length
  obtain⟨xv,hxv⟩:∃v,us[i]?=some v:=⟨_,List.getElem?_eq_getElem (by omega)⟩
  have hx:us.toArray[i]?=some xv:=by simpa using hxv
  obtain⟨x,ex,rx⟩:=Vals.back r1 hxv
  refine wpAny_pyNext_enum_item he h1 l1.isList hx hei fun h' a1 a2 a5 a6 k=>?_
  refine⟨_,rfl,wpAny_letOwnedTupleGo_enum (s:={s with heap:=h',toks:=s.toks + 1}) a1 fun h3 hz3 sb=>?_⟩
  have elt:e < s.heap.objs.size:=Heap.lt_size he
  have ilt:it < s.heap.objs.size:=by obtain⟨o1,e1,_⟩:=id h1;exact Heap.lt_size e1
  have there:∀b ∈ [e,it],b < s.heap.objs.size:=fun b hb=>by
   simp only[List.mem_cons,List.not_mem_nil,or_false]at hb
   rcases hb with rfl | rfl
   ·exact elt
   ·exact ilt
  have up:∀b ∈ [e,it],upd H s.heap.objs.size (.tup [.int i,x]) b=none:=fun b hb=>by rw[ae (Nat.ne_of_lt (there b hb))];exact(hf b hb).1
  have I0:Inv X pins σ (upd H s.heap.objs.size (.tup [.int i,x])) {s with heap:=s.heap.push {cls:=.type "tuple",data:=.seq #[.int i s.toks,xv]},toks:=s.toks + 1}:=
   I.laid (fun b o e=>Heap.get?_push_of_some _ e) (Nat.le_refl _) ⟨by rw[sizeLine_eq];simp,_,.cons ⟨_,rfl⟩ (.cons rx .nil),IsTup.new _ _⟩
  have I1:Inv X pins σ (upd H s.heap.objs.size (.tup [.int i,x])) {s with heap:=h3,toks:=s.toks + 1}:=by
   refine L2.Inv.rW (s:={s with heap:=s.heap.push {cls:=.type "tuple",data:=.seq #[.int i s.toks,xv]},toks:=s.toks + 1}) (h':=h3) (fp:=[e,it]) I0 (fun b hb=>⟨up b hb,(hf b hb).2⟩) fun b o hb q=>?_
   simp only[List.mem_cons,List.not_mem_nil,or_false,not_or]at hb
   rcases Heap.get?_push_cases q with ⟨rfl,rfl⟩ | q'
   ·exact(sb.2 _ hb.1).trans a5
   ·exact(sb.2 b hb.1).trans (k b _ hb.1 hb.2 q')
  refine⟨.ref s.heap.objs.size,_,I1,rfl,⟨s.heap.objs.size,(i,x),I.aW.fresh (Nat.le_refl _),cz.new (Inv.mj mo I1),xP ex,rfl,rfl⟩,⟨⟨_,hz3⟩,a2.extBut sb.extBut (Ne.symm hei)⟩,up⟩
 done:=by
  intro X hP hw hK hc i pins s σ H E I hf st hg
  subst hP hw hK
  obtain⟨g1,le⟩:=hg
  rw[jf]at le
  obtain⟨⟨old,he⟩,h1⟩:=st
  obtain⟨us,r1,l1,z1⟩:=I.list (bW mo g1)
  have le1:=r1.length
  refine wpAny_pyNext_enum_end (I.ok.hd hc) he h1 l1.isList (by simp;omega) fun h' k=>⟨rfl,I.rW (t':=s.toks) hf fun b o hb q=>?_⟩
  simp only[List.mem_cons,List.not_mem_nil,or_false,not_or]at hb
  exact k b o hb.2 q
 self:=fun _ _ _ _ _ st h=>by
  obtain⟨⟨old,he⟩,_⟩:=st
  exact wpAny_pyIter_enum he h
end
end Sw
namespace Sw
open PySem PySem.Spec PyProof.Rows L2
theorem rF (env:Env):∀ (names:List (Str × NameKind)) (acc:List (Str × Addr)),(∀ y ∈ names,y.2=.free->∃c,env.cells.lookup y.1=some c)->
  ∃cl,((forIn names acc (fun(x:Str × NameKind) (r:List (Str × Addr))=>if(x.2 == .free)=true then(do let a<-cellOf env x.1;pure (ForInStep.yield ((x.1,a)::r)))else pure (ForInStep.yield r)):Sem (List (Str × Addr)))=pure (cl++acc))/\
   (∀ y ∈ cl,env.cells.lookup y.1=some y.2)/\(∀ y ∈ names,y.2=.free->∃c,(y.1,c) ∈ cl):=by
 intro names
 induction names with
 | nil=>intro acc _;exact⟨[],rfl,(fun _ h=>by cases h),(fun _ h=>by cases h)⟩
 | cons x r ih=>
  intro acc h
  obtain⟨n,k⟩:=x
  cases hk:(k == NameKind.free)with
  | false=>
   obtain⟨cl,e,h1,h2⟩:=ih acc fun y hy=>h y (List.mem_cons_of_mem _ hy)
   refine⟨cl,?_,h1,fun y hy hf=>?_⟩
   ·simp only[List.forIn_cons,hk,Bool.false_eq_true,if_false]
    exact e
   ·rcases List.mem_cons.mp hy with rfl | hy
    ·have hf:k=.free:=hf
     rw[hf]at hk;cases hk
    ·exact h2 y hy hf
  | true=>
   have hkf:k=.free:=by simpa using hk
   obtain⟨c,hc⟩:=h (n,k) List.mem_cons_self hkf
   obtain⟨cl,e,h1,h2⟩:=ih ((n,c)::acc) fun y hy=>h y (List.mem_cons_of_mem _ hy)
   refine⟨cl++[(n,c)],?_,fun y hy=>?_,fun y hy hf=>?_⟩
   ·simp only[List.forIn_cons,hk,if_true]
    unfold cellOf
    have hc':env.cells.lookup n=some c:=hc
    rw[hc']
    simp only[List.append_assoc,List.singleton_append]
    exact e
   ·rcases List.mem_append.mp hy with hy | hy
    ·exact h1 y hy
    ·have ey:y=(n,c):=by simpa using hy
     subst ey;exact hc
   ·rcases List.mem_cons.mp hy with rfl | hy
    ·exact⟨c,List.mem_append_right _ (by simp)⟩
    ·obtain⟨d,hd⟩:=h2 y hy hf
     exact⟨d,List.mem_append_left _ hd⟩
theorem rE {env:Env} {cu:Scope} (h:∀y ∈ cu.names,y.2=.free->∃c,env.cells.lookup y.1=some c):
  ∃cl,closureFor cu env=pure cl/\(∀ y c,cl.lookup y=some c->env.cells.lookup y=some c)/\(∀ y,(y,NameKind.free) ∈ cu.names->∃c,cl.lookup y=some c):=by
 obtain⟨cl,e,h1,h2⟩:=rF env cu.names [] h
 refine⟨cl,?_,fun y c hl=>h1 (y,c) (PySem.mem_of_lookup hl),fun y hy=>?_⟩
 ·rw[List.append_nil]at e
  unfold closureFor
  simp only[e]
  rfl
 ·obtain⟨c,hc⟩:=h2 (y,.free) hy rfl
  cases q:cl.lookup y with
  | some d=>exact⟨d,rfl⟩
  | none=>
   exfalso
   clear h1 h2 e
   induction cl with
   | nil=>cases hc
   | cons z r ih=>
    obtain⟨a,b⟩:=z
    simp only[List.lookup_cons]at q
    cases hb:(y == a)with
    | true=>rw[hb]at q;cases q
    | false=>
     rw[hb]at q
     rcases List.mem_cons.mp hc with hc | hc
     ·cases hc
      simp at hb
     ·exact ih hc q
theorem fZ {cu:Scope} {env:Env} {y:Str}:(relabel cu env).names.lookup y=(cu.names.lookup y).map fun k=>if(k == .free && env.scope.kind == .function && env.kindOf y == some .cell)then .cell else k:=by
 unfold relabel
 dsimp only
 generalize cu.names=names
 induction names with
 | nil=>rfl
 | cons z r ih=>
  obtain⟨n,k⟩:=z
  simp only[List.map_cons,List.lookup_cons]
  cases hb:(y == n)with
  | true=>
   have e:y=n:=by simpa using hb
   subst e
   by_cases hc:(k == NameKind.free && env.scope.kind == .function && env.kindOf y == some .cell)=true
   ·simp only[hc,if_true,List.lookup_cons,hb,Option.map_some]
   ·simp only[hc,if_false,List.lookup_cons,hb,Option.map_some,Bool.false_eq_true]
  | false=>
   by_cases hc:(k == NameKind.free && env.scope.kind == .function && env.kindOf n == some .cell)=true
   ·simp only[hc,if_true,List.lookup_cons,hb];exact ih
   ·simp only[hc,if_false,List.lookup_cons,hb,Bool.false_eq_true];exact ih
theorem gf {α β:Type} [BEq α] [LawfulBEq α] {l:List (α × β)} {a:α} {b:β} (h:l.lookup a=some b):(a,b) ∈ l:=by
 induction l with
 | nil=>cases h
 | cons x r ih=>
  obtain⟨c,d⟩:=x
  simp only[List.lookup_cons]at h
  cases hb:(a == c)with
  | true=>
   rw[hb]at h
   have e:a=c:=by simpa using hb
   subst e
   cases h
   exact List.mem_cons_self
  | false=>rw[hb]at h;exact List.mem_cons_of_mem _ (ih h)
structure cY (X X':Cx) (cu:Scope) (N':List Str):Prop where
 prog:X'.prog=X.prog
 w:X'.w=X.w
 K:X'.K=X.K
 mg:X'.mg=X.mg
 base:X'.base=X.base
 A:X'.A=X.A
 calm:X'.calm=true
 stack:X'.stack=X.stack
 frame:X'.env.frame=X.env.frame
 N:X'.N=N'
 scope:X'.env.scope=relabel cu X.env
noncomputable def yu (X:Cx) (ifs:List Expr) (tt:TT):Prop:=
 ∀ (pins:List (Addr × Obj)) (s:Shared) (σ:L2.St) (H:Hp) (Q:Bool->Hp->Prop),Inv X pins σ H s->tt σ H Q->
  wpAny (model X.prog X.w) X.A (forIn ifs true fun c r=>if r=true then do let ok<-isTrue c X.env (eval c X.env);pure (ForInStep.yield ok)else pure (ForInStep.yield r)) (TP X pins σ Q) X.xe s
theorem vj {σ:L2.St} {fv:List (Str × Nat)} {i:Nat} {v:V} (h:(vars σ fv)[i]?=some (some v)):∃y,fv[i]?=some y/\σ[y.2]?=some (some v):=by
 unfold vars at h
 rw[List.getElem?_map]at h
 cases e:fv[i]? with
 | none=>rw[e]at h;cases h
 | some y=>
  rw[e]at h
  refine⟨y,rfl,?_⟩
  have h:(σ[y.2]?).join=some v:=by simpa using h
  cases q:σ[y.2]? with
  | none=>rw[q]at h;cases h
  | some z=>rw[q]at h;simp at h;rw[h]
set_option maxHeartbeats 8000000 in
theorem Inv.AB {X:Cx} {pins:List (Addr × Obj)} {σ:L2.St} {H:Hp} {s:Shared} {C:Addr} {h':Heap} (I:Inv X pins σ H s) (f:kj X pins H C) (sb:Heap.SameBut C s.heap h'):Inv X pins σ H {s with heap:=h'}:=by
 have same:∀b o,b ≠ C->s.heap.get? b=some o->h'.get? b=some o:=fun b o hb e=>sb.extBut b o hb e
 obtain⟨f0,f1,f2,f3,f4,f5⟩:=f
 refine I.ya (ch:=[C]) (s':={s with heap:=h'}) rfl ⟨fun b o e n hb hx=>same b o (by simpa using hx) e,fun b o e n hb hx=>⟨o.slots,same b o (by simpa using hx) e⟩,fun b o e n _=>n,fun b o e hb=>⟨o,same b o (by simpa using hb) e⟩,fun _ _ q=>q,fun _ _ _ q=>q,fun b ps q=>⟨#[],by simpa using q⟩⟩ (fun b o e=>?_) I.bare (fun b hb=>?_)
 ·refine(I.aW b o e).aC (fun c u hcu q=>same c u (fun z=>?_) q) (fun _ q=>q) fun _ _ q=>q
  subst z
  rcases hcu with z | z
  ·rw[<-z,f0]at e;cases e
  ·rw[f0]at z;cases z
 ·rw[show b=C by simpa using hb]
  exact⟨f3,f1,f4,f5⟩
end Sw
namespace Sw
open PySem PySem.Spec PyProof.Rows L2
noncomputable def fP (P:Program) (w:World):rQ:=fun _ _ _ _ _ _=>False
noncomputable def eE (X:Cx) (Ξ:XS):Prop:=True
theorem eE.no {X:Cx} {Ξ:XS}:eE X Ξ:=trivial
section
variable {X:Cx} {pins:List (Addr × Obj)} {σ:L2.St} {H:Hp} {s s':Shared}
theorem sf {Q:VK} {us:List Value} {vs:List V} {k:Nat} {f:Addr} {fd:FuncData} {ps:List Str} {sp:Sp} {Ξ:XS} (F:cO X.prog X.w X.K X.mg X.base (fP X.prog X.w) k f fd ps sp) (hr:eS k X.A) (hb:Binds X.K fd ps []) (xo:eE X Ξ)
  (I:Inv X pins σ H s) (r:Vals vs us) (h:sp vs H Q fun C d H'=>Ξ C d σ H'):wpAny (model X.prog X.w) X.A (call (.ref f) us) (EP X pins σ Q) X.xe s:=by
 have hl:(us++[]).length=ps.length:=by rw[List.append_nil,<-r.length];exact F.len _ _ _ _ h
 refine wpAny_call (codeAny_mono (F.run X.A X.stack s H ⟨us,[]⟩ us vs Q (fun C d H'=>Ξ C d σ H') hr I.iD (by have:=hb s us I.jF hl;rwa[List.append_nil]at this) r h) fun r s' hq=>?_)
 cases r with
 | error e=>exact False.elim hq
 | ok fl=>
  cases fl with
  | ret u=>exact I.after hq
  | next=>exact False.elim hq
  | brk=>exact False.elim hq
  | cont=>exact False.elim hq
end
theorem rS {P:Program} {w:World} {K:PySem.W.Frag} {mg:Str->Option Value} {base:Heap} {N:List Str} {qual:Str} {scope:Scope} {f:Addr} {cd:Value} {A:Around} {outer:List Env} {s:Shared} {H:Hp} {E:XK}:
  eE (gu (fP P w) P w K mg base N qual scope f cd A outer s H E) (fun C d _ H'=>E C d H'):=trivial
end Sw
namespace Sw
open PySem PySem.Spec PyProof.Rows L2
noncomputable def nA (X:Cx):Prop:=∃e0 o0 L,X.stack=e0::o0/\e0.frame=some L/\X.env.frame=some L
structure FI {ι:Type} (J:It) (xs:List ι) (aC:Hp->Prop) (nxt:ι->Hp->(L2.St->Hp->Prop)->Prop) (g:TG) (n:Nat):Prop where
 go:∀i H,aC H->i < xs.length->J.go i H
 kn:∀i a H y H' R,xs[i]?=some a->J.kn i H y H'->aC H->nxt a H R->∃w,w.length=n/\R w H'/\∀ (w0 f:L2.St) (Q:L2.St->Hp->Prop),w0.length=n->Q (w++f) H'->g y (w0++f) H' Q
 stop:∀i H,aC H->xs.length<=i->J.stop i H
theorem rD {X:Cx} {M:Mo} (mo:aJ X.K M) {sc cu:Scope} {elt iter tg:Expr} {ifs:List Expr} {ns:List Str} {pos:Pos} {fv:List (Str × Nat)} {te:TE} {tt:TT} {ι:Type} {nxt:ι->Hp->(L2.St->Hp->Prop)->Prop} {g:TG} {wi:TI} (hc:X.calm=true)
  (hcf:∀y,(sc.names.lookup y=some .cell\/sc.names.lookup y=some .free)->X.env.kindOf y=some .cell\/X.env.kindOf y=some .free)
  (ok:fk sc cu X.N ns fv=true) (hi:PI X tg iter wi) (hg:∀X',cY X X' cu (ns++fv.map (·.1))->(ns++fv.map (·.1)).Nodup->(∀ x ∈ ns,X'.env.scope.names.lookup x=some .local)->PG X' tg g)
  (top:nA X) {Ξ:XS} (xo:eE X Ξ) {use:Option (Value->Sem Unit)} {R:Value->Shared->Prop} {pins:List (Addr × Obj)} {s:Shared} {σ:L2.St} {H:Hp} {Q:V->Hp->Prop}
  (he:∀X',cY X X' cu (ns++fv.map (·.1))->eE X' (fun C d _ H'=>Ξ C d σ H')->PE X' elt te) (ht:∀X',cY X X' cu (ns++fv.map (·.1))->yu X' ifs tt)
  (hs:∀v,foldedSetIterable iter X.env v=pure v) (I:Inv X pins σ H s)
  (h:wi σ H fun J H1=>∃ (xs:List ι) (aC:Hp->Prop),FI J xs aC nxt g ns.length/\∃kf:Addr->Hp->Prop,(∀ D H',kf D H'->Q (.ref D) H')/\∀D,H1 D=none->M D=none->gx nxt te tt (vars σ fv) D aC xs [] (upd H1 D (.lst [])) (kf D))
  (hfin:∀D C s' H',Inv X pins σ H' s'->kj X pins H' C->(∃ m,s'.heap.Ns C m)->Q (.ref D) H'->compPost (model X.prog X.w) X.A X.xe use R (.ref D) C (.ok .next) s'):
  wpAny (model X.prog X.w) X.A (comprehension (.ListComp elt [⟨tg,iter,ifs,0⟩] cu pos) cu X.env (firstIterPos [⟨tg,iter,ifs,0⟩] pos) (newList []) (firstAsync [⟨tg,iter,ifs,0⟩]) (firstIter [⟨tg,iter,ifs,0⟩] X.env) use) R X.xe s:=by
 unfold fk at ok
 simp only[Bool.and_eq_true,decide_eq_true_eq,List.all_eq_true,Bool.or_eq_true]at ok
 obtain⟨⟨⟨⟨⟨hkind,hxl⟩,hsk⟩,hnames⟩,hfv⟩,hND⟩:=ok
 have hfr:∀y ∈ cu.names,y.2=.free->X.env.kindOf y.1=some .cell\/X.env.kindOf y.1=some .free:=fun y hy hf=>by
  rcases(hnames y hy).2 with q | q
  ·exact absurd hf q
  ·exact hcf _ q
 obtain⟨cl,hclos,hcl1,hcl2⟩:=rE (env:=X.env) (cu:=cu) fun y hy hf=>I.ok.has _ (hfr y hy hf)
 refine wpAny_comprehension_free (cl:=cl) rfl hs hclos hkind (fun y hy hl=>?_) ?_
 ·rcases(hnames y hy).1.2 with q | q
  ·exact absurd hl q
  ·exact q
 show wpAny _ _ (eval iter X.env) _ _ _
 refine bV (hi pins s σ H _ I h) fun v s1 h1=>bV h1 fun itv s2 h2=>?_
 obtain⟨it,fp,tn,J,H2,rfl,I2,T,st2,f2,xs,aC,SQ,kf,hkf,hW⟩:=h2
 refine wpAny_newObj_type (wpAny_newFunctionEnv (fun y hy=>(hnames y hy).1.1) (by intro y hy;simp at hy) (fun h₁ hns₁ hsb₁=>?_) hkind)
 dsimp only at hns₁ hsb₁ ⊢
 generalize hG:s2.heap.push {cls:=.type "list",dict:=none,data:=.seq ([]:List Value).toArray}=G at hns₁ hsb₁ ⊢
 have hC:G.objs.size=s2.heap.objs.size + 1:=by rw[<-hG,Heap.size_push]
 have old:∀b o,s2.heap.get? b=some o->h₁.get? b=some o:=fun b o e=>
  hsb₁.extBut b o (by rw[hC];exact Nat.ne_of_lt (Nat.lt_succ_of_lt (Heap.lt_size e))) (Heap.get?_push_of_some _ (hG ▸ Heap.get?_push_of_some _ e))
 have hD1:h₁.get? s2.heap.objs.size=some {cls:=.type "list",data:=.seq ([]:List Value).toArray 0}:=
  hsb₁.extBut _ _ (by rw[hC];exact Nat.ne_of_lt (Nat.lt_succ_self _)) (Heap.get?_push_of_some _ (hG ▸ Heap.get?_push_size _ rfl))
 have fD:H2 s2.heap.objs.size=none:=I2.aW.fresh (Nat.le_refl _)
 have fC:H2 G.objs.size=none:=I2.aW.fresh (by rw[hC];exact Nat.le_succ _)
 have fpLt:∀b ∈ fp,b < s2.heap.objs.size:=fun b hb=>by
  obtain⟨o,e,_⟩:=T.obj 0 _ st2 b hb
  exact Heap.lt_size e
 have clLt:∀y c,cl.lookup y=some c->c < s2.heap.objs.size:=fun y c e=>by
  obtain⟨v,q⟩:=I2.cell y c (hcl1 y c e)
  exact q.lt
 let X':Cx:={prog:=X.prog,w:=X.w,K:=X.K,mg:=X.mg,base:=X.base,A:=X.A,N:=ns++fv.map (·.1),s₀:=s2,H₀:=H2,env:=compEnvC cu cl G.objs.size X.env,outer:=X.stack,stack:=X.stack,ex:=fp,fn:=fun _=>false,calm:=true,pn:=[],xe:=notedBy (model X.prog X.w) X.A (compEnvC cu cl G.objs.size X.env) fun e s'=>compPost (model X.prog X.w) X.A X.xe use R (.ref s2.heap.objs.size) G.objs.size (.error e) s'}
 have CO:cY X X' cu (ns++fv.map (·.1)):=⟨rfl,rfl,rfl,rfl,rfl,rfl,rfl,rfl,rfl,rfl,rfl⟩
 have okX:X'.Ok:=by
  refine⟨I.ok.mod,hkind,I.ok.glob,I.ok.blt,(by show s2.heap.objs.size<=G.objs.size;rw[hC];exact Nat.le_succ _),fun y z c e1 e2=>I.ok.inj y z c (hcl1 _ _ e1) (hcl1 _ _ e2),fun y hy=>?_,fun y c hf=>absurd (show false=true from hf) Bool.false_ne_true,fun _=>I.ok.hd hc,I.ok.frames,.inl rfl,
   fun b hb=>⟨?_,fun y c e=>?_⟩,I2.bs,?_,fun b o e hb=>?_,fun b hb hm=>?_,I2.stack,I2.nH⟩
  ·have hy:(relabel cu X.env).names.lookup y=some .cell\/(relabel cu X.env).names.lookup y=some .free:=hy
   rw[fZ]at hy
   cases q:cu.names.lookup y with
   | none=>rw[q]at hy;rcases hy with hy | hy<;>cases hy
   | some k=>
    have hm:=gf q
    have kf:k=.free:=by
     rw[q]at hy
     simp only[Option.map_some]at hy
     by_cases hk:k=.free
     ·exact hk
     ·have e:(k == NameKind.free)=false:=by simpa using hk
      simp only[e,Bool.false_and,Bool.false_eq_true,if_false]at hy
      rcases hy with hy | hy
      ·exact absurd (Option.some.inj hy) (hnames _ hm).1.1
      ·exact Option.some.inj hy
    subst kf
    exact hcl2 y hm
  ·exact Nat.ne_of_lt (Nat.lt_of_lt_of_le (fpLt b hb) (by show _<=G.objs.size;rw[hC];exact Nat.le_succ _))
  ·exact(f2 b hb).2.2.2.2.1 y c (hcl1 y c e)
  ·exact Nat.le_trans I.ok.tE I2.sz
  ·rcases(f2 b hb).2.2.2.1 with z | z
   ·exact I.ok.wL b o e z
   ·exact absurd (Nat.lt_of_lt_of_le (Heap.lt_size e) I.ok.tE) (Nat.not_lt.mpr z)
  ·rcases List.mem_cons.mp (I2.nG b hm)with z | z
   ·exact(f2 b hb).2.1 z
   ·exact(f2 b hb).2.2.1 z
 have loc0:∀ (s':Shared) (H':Hp),(∀ y c,cl.lookup y=some c->s'.heap.get? c=s2.heap.get? c)->∀ (m:Str->Option Value) (i:Nat) (y:Str) (v:V),(ns++fv.map (·.1))[i]?=some y->(List.replicate ns.length none++vars σ fv)[i]?=some (some v)->∃u,RelV v u/\Look X'.env s'.heap m y u:=by
  intro s' H' hkc m i y v e1 e2
  by_cases hin:i < ns.length
  ·rw[List.getElem?_append_left (by rw[List.length_replicate];exact hin),List.getElem?_replicate,if_pos hin]at e2
   cases e2
  ·have hge:ns.length<=i:=Nat.le_of_not_lt hin
   rw[List.getElem?_append_right hge]at e1
   rw[List.getElem?_append_right (by rw[List.length_replicate];exact hge),List.length_replicate]at e2
   obtain⟨z,ez,sz⟩:=vj e2
   rw[List.getElem?_map,ez]at e1
   have ey:z.1=y:=by simpa using e1
   subst ey
   obtain⟨hN,hlf⟩:=hfv z (List.mem_of_getElem? ez)
   obtain⟨m2,hn2,hl2⟩:=I2.loc
   have hkz:X.env.kindOf z.1=some .cell\/X.env.kindOf z.1=some .free:=hfr _ (gf hlf) rfl
   have hvz:Ag X.env.scope z.1:=by
    rcases hkz with q | q
    ·exact .inr (.inl q)
    ·exact .inr (.inr q)
   obtain⟨u,ru,lk⟩:=hl2 z.2 z.1 v hN sz hvz
   refine⟨u,ru,.inr ⟨?_,?_⟩⟩
   ·show(relabel cu X.env).names.lookup z.1=some .cell\/(relabel cu X.env).names.lookup z.1=some .free
    rw[fZ,hlf]
    simp only[Option.map_some]
    by_cases q:((NameKind.free == NameKind.free) && X.env.scope.kind == .function && X.env.kindOf z.1 == some .cell)=true
    ·rw[if_pos q];exact .inl rfl
    ·rw[if_neg q];exact .inr rfl
   ·obtain⟨c,hcz⟩:=hcl2 z.1 (gf hlf)
    rcases lk with ⟨q,_⟩ | ⟨_,c',hc',cell⟩
    ·rcases hkz with z1 | z1<;>(rw[z1]at q;cases q)
    ·have:c'=c:=by
      have:=hcl1 _ _ hcz
      rw[hc']at this
      exact Option.some.inj this
     subst this
     refine⟨c',hcz,?_⟩
     obtain⟨o,ho,hd⟩:=cell
     exact⟨o,by rw[hkc _ _ hcz];exact ho,hd⟩
 have hxr:∀x ∈ ns,(relabel cu X.env).names.lookup x=some .local:=fun x hx=>lookup_relabel_local (hxl x hx)
 have I0:∀tk0,Inv X' [] (List.replicate ns.length none++vars σ fv) (upd H2 s2.heap.objs.size (.lst [])) {s2 with heap:=h₁,toks:=tk0}:=fun tk0=>by
  refine⟨okX,rfl,I2.bare,Un.laid old (Nat.le_refl _) fD,⟨_,hns₁,fun i y v e1 e2 _=>loc0 {s2 with heap:=h₁,toks:=tk0} H2 (fun y c e=>?_) _ i y v e1 e2⟩,fun y c e=>?_,?_,fun y c e=>?_,fun p hp=>absurd (show p ∈ ([]:List (Addr × Obj))from hp) (by simp),I2.aW.laid old (Nat.le_refl _) ⟨Nat.zero_le _,[],0,.nil,hD1⟩,?_⟩
  ·obtain⟨v,o,ho,hd⟩:=I2.cell y c (hcl1 y c e)
   exact(old c o ho).trans ho.symm
  ·obtain⟨v,o,ho,hd⟩:=I2.cell y c (hcl1 y c e)
   exact⟨v,o,old c o ho,hd⟩
  ·show upd H2 s2.heap.objs.size (.lst []) G.objs.size=none
   rw[ae (by rw[hC];exact Nat.ne_of_gt (Nat.lt_succ_self _))]
   exact fC
  ·rw[ae (Nat.ne_of_lt (clLt y c e))]
   exact I2.d9 y c (hcl1 y c e)
  ·show(List.replicate ns.length none++vars σ fv).length=(ns++fv.map (·.1)).length
   simp[vars]
 have fpN:∀b ∈ fp,∀o,(upd H2 s2.heap.objs.size o) b=none:=fun b hb o=>by
  rw[ae (Nat.ne_of_lt (fpLt b hb))]
  exact(f2 b hb).1
 have fpX:∀ {H':Hp},(∀ b ∈ fp,H' b=none)->∀b ∈ fp,kj X' [] H' b:=fun hn b hb=>by
  refine⟨hn b hb,(okX.ES b hb).1,okX.xK b hb,.inl hb,(okX.ES b hb).2,fun p hp=>absurd (show p ∈ ([]:List (Addr × Obj))from hp) (by simp)⟩
 have toOut:∀ (s':Shared) (σ':L2.St) (H':Hp) (pins':List (Addr × Obj)),Inv X' pins' σ' H' s'->Inv X pins σ H' s':=fun s' σ' H' pins' I'=>by
  have B:=I'.base
  refine I2.ya (ch:=fp) (s':=s') I'.os ⟨fun b o e n hb hx=>B.keep b o e n hb hx,fun b o e n hb hx=>B.slot b o e n hb hx,B.free,fun b o e hx=>B.there b o e hx,B.fR,B.eW,B.fM⟩ I'.aW I'.bare (fun b hb=>?_)
  obtain⟨f0,f1,f2',f3,f4,f5⟩:=f2 b hb
  exact⟨f3,f1,f4,f5⟩
 have xoC:eE X' (fun C d _ H'=>Ξ C d σ H'):=trivial
 have fin:∀ (s':Shared) (σ':L2.St) (H':Hp),Inv X' [] σ' H' s'->Q (.ref s2.heap.objs.size) H'->compPost (model X.prog X.w) X.A X.xe use R (.ref s2.heap.objs.size) G.objs.size (.ok .next) s':=by
  intro s' σ' H' I' q
  obtain⟨m,hm,_⟩:=id I'.loc
  have I3:Inv X pins σ H' s':=toOut s' σ' H' [] I'
  exact hfin _ _ s' H' I3 (I2.p_ (by rw[hC];exact Nat.le_succ _) I'.free) ⟨m,hm⟩ q
 have loop:∀s₃:Shared,(∃ tk0,s₃={s2 with heap:=h₁,toks:=tk0})->
   codeAny (model X.prog X.w) X.A (.compLoop (.ListComp elt [⟨tg,iter,ifs,0⟩] cu pos) 0 (.ref it) (.ref s2.heap.objs.size) (compEnvC cu cl G.objs.size X.env))
    (compPost (model X.prog X.w) X.A X.xe use R (.ref s2.heap.objs.size) G.objs.size) s₃:=by
  rintro s₃ ⟨tk0,rfl⟩
  refine codeAny_loop rfl (fun n s'=>∃i acc H' v0,v0.length=ns.length/\Inv X' [] (v0++vars σ fv) H' s'/\tn i s'.heap/\(∀ b ∈ fp,H' b=none)/\i + n=xs.length/\gx nxt te tt (vars σ fv) s2.heap.objs.size aC (xs.drop i) acc H' (kf s2.heap.objs.size))
   (fun n s' hI=>?_) xs.length ⟨0,[],_,_,List.length_replicate,I0 tk0,T.keep 0 _ _ st2 (fun b hb o e=>old b o e),fun b hb=>fpN b hb _,by omega,by simpa using hW _ fD (cz.new (Inv.mj (X:=X') mo (I0 tk0)))⟩
  obtain⟨i,acc,H',v0,hv0,I',st',fr',hin,cw⟩:=hI
  show wpAny _ _ ((compTurn (.ListComp elt [⟨tg,iter,ifs,0⟩] cu pos) 0 (.ref it) (.ref s2.heap.objs.size) (compEnvC cu cl G.objs.size X.env)).onRaise (fun x=>do noteFrame x (compEnvC cu cl G.objs.size X.env);theTreesLotGoes x)) _ _ _
  refine wpAny_noted ?_
  rw[compTurn_list]
  refine wpAny_bind (wpAny_standAt (wpAny_bind ?_))
  cases ed:xs.drop i with
  | nil=>
   rw[ed]at cw
   obtain⟨hst,hD,hq⟩:=cw
   have hle:xs.length<=i:=by simpa using ed
   refine wpAny_mono (T.done X' rfl rfl rfl rfl i [] s' _ H' (fun _ _=>False) I' (fpX fr') st' (SQ.stop i H' hst hle)) (fun r s4 ⟨hr,I4⟩=>?_) fun _ _ z=>z.elim
   subst hr
   exact wpAny_pure (fin s4 _ H' I4 (hkf _ _ hq))
  | cons v r=>
   rw[ed]at cw
   obtain⟨hst,cw⟩:=cw
   have hlt:i < xs.length:=by
    have:=congrArg List.length ed
    simp at this
    omega
   have hvi:xs[i]?=some v:=by
    have:=congrArg (fun l=>l[0]?) ed
    simpa using this
   have hdr:xs.drop (i + 1)=r:=by
    have:=congrArg List.tail ed
    simpa[List.tail_drop]using this
   refine wpAny_mono (T.item X' rfl rfl rfl rfl i [] s' _ H' (fun _ _=>False) I' (fpX fr') st' (SQ.go i H' hst hlt)) (fun r' s4 ⟨u,hr,h4⟩=>?_) fun _ _ z=>z.elim
   subst hr
   refine wpAny_bind (wpAny_mono h4 (fun _ s5 ⟨y,H5,I5,r5,y5,st5,fr5⟩=>?_) fun _ _ z=>z.elim)
   obtain⟨w,hwl,cw,hgw⟩:=SQ.kn i v H' y H5 _ hvi y5 hst cw
   have I5':=I5.pinned (fpX fr5) (T.obj _ _ st5)
   refine wpAny_bind (wpAny_mono (hg X' CO hND (fun x hx=>hxr x hx) _ s5 _ H5 y u (fun σ6 H6=>σ6=w++vars σ fv/\H6=H5) I5' r5 (hgw v0 _ _ hv0 ⟨rfl,rfl⟩)) (fun _ s6 ⟨σ6,H6,I6,e6,e6'⟩=>?_) fun _ _ z=>z)
   subst e6 e6'
   refine wpAny_bind (wpAny_mono (ht X' CO _ s6 _ H6 _ I6 cw) (fun okb s7 ⟨H7,I7,q7⟩=>?_) fun _ _ z=>z)
   have again:∀ {s8:Shared} {H8:Hp} {acc':List V},Inv X' ([]++jy fp s5.heap) (w++vars σ fv) H8 s8->gx nxt te tt (vars σ fv) s2.heap.objs.size aC r acc' H8 (kf s2.heap.objs.size)->
     ∃m,m < n/\∃i acc H' v0,v0.length=ns.length/\Inv X' [] (v0++vars σ fv) H' s8/\tn i s8.heap/\(∀ b ∈ fp,H' b=none)/\i + m=xs.length/\gx nxt te tt (vars σ fv) s2.heap.objs.size aC (xs.drop i) acc H' (kf s2.heap.objs.size):=by
    intro s8 H8 acc' I8 c8
    refine⟨n - 1,by omega,i + 1,acc',H8,w,hwl,I8.eo,T.keep _ _ _ st5 fun b hb o e=>(I8.pin (b,o) (List.mem_append_right _ (List.mem_append_right _ (df hb e)))).1,fun b hb=>?_,by omega,by rw[hdr];exact c8⟩
    obtain⟨o,e,d⟩:=T.obj _ _ st5 b hb
    exact(I8.pin (b,o) (List.mem_append_right _ (List.mem_append_right _ (df hb e)))).2.1
   cases okb with
   | false=>
    simp only[Bool.false_eq_true,if_false]at q7 ⊢
    exact wpAny_pure ⟨rfl,again I7 q7⟩
   | true=>
    simp only[if_true]at q7 ⊢
    refine wpAny_bind (wpAny_bind (wpAny_mono (he X' CO xoC _ s7 _ H7 _ I7 q7) (fun yv s8 ⟨yy,H8,I8,r8,hD8,hz8,q8⟩=>?_) fun _ _ z=>z))
    refine wpAny_bind (wpAny_mono (mU (X:=X') _ s8 _ H8 (.ref s2.heap.objs.size) [yy] (.ref s2.heap.objs.size) [yv] (fun _ H9=>H9=upd H8 s2.heap.objs.size (.lst (acc++[yy]))) I8 rfl (.cons r8 .nil) ⟨_,acc,yy,rfl,rfl,hD8,hz8,rfl⟩) (fun _ s9 ⟨_,H9,I9,_,e9⟩=>?_) fun _ _ z=>z)
    subst e9
    exact wpAny_pure (wpAny_pure ⟨rfl,again I9 q8⟩)
 exact codeAny_compStart_list (loop _ ⟨_,rfl⟩) (T.self _ 0 _ _ _ (T.keep 0 _ _ st2 (fun b hb o e=>old b o e)) (loop _ ⟨_,rfl⟩))
noncomputable def BV (bd:V->Hp->Option L2.St) (v:V) (H:Hp) (R:L2.St->Hp->Prop):Prop:=match bd v H with
 | some w=>R w H
 | none=>False
theorem m_ {bd:V->Hp->Option L2.St} {te:TE} {tt:TT} {fvs:L2.St} {D:Addr} {aC:Hp->Prop} {k:Hp->Prop}:∀ (xs acc:List V) (H:Hp),gy bd te tt fvs D aC xs acc H k=gx (BV bd) te tt fvs D aC xs acc H k
 | [],_,_=>rfl
 | v::r,acc,H=>by
  unfold gy gx
  simp only[m_ r]
  rfl
theorem m9 {X:Cx} {M:Mo} (mo:aJ X.K M) {sc cu:Scope} {elt iter tg:Expr} {ifs:List Expr} {ns:List Str} {pos:Pos} {fv:List (Str × Nat)} {te:TE} {tt:TT} {bd:V->Hp->Option L2.St} {g:TG} {wi:L2.St->Hp->(List V->(Hp->Prop)->Hp->Prop)->Prop} (hc:X.calm=true)
  (hcf:∀y,(sc.names.lookup y=some .cell\/sc.names.lookup y=some .free)->X.env.kindOf y=some .cell\/X.env.kindOf y=some .free)
  (ok:fk sc cu X.N ns fv=true) (hi:PI X tg iter (uS wi)) (hg:∀X',cY X X' cu (ns++fv.map (·.1))->(ns++fv.map (·.1)).Nodup->(∀ x ∈ ns,X'.env.scope.names.lookup x=some .local)->PG X' tg g) (hgb:∀v w w0 f H Q,bd v H=some w->w0.length=ns.length->Q (w++f) H->g v (w0++f) H Q) (hgl:∀v w H,bd v H=some w->w.length=ns.length)
  (top:nA X) {Ξ:XS} (xo:eE X Ξ) {use:Option (Value->Sem Unit)} {R:Value->Shared->Prop} {pins:List (Addr × Obj)} {s:Shared} {σ:L2.St} {H:Hp} {Q:V->Hp->Prop}
  (he:∀X',cY X X' cu (ns++fv.map (·.1))->eE X' (fun C d _ H'=>Ξ C d σ H')->PE X' elt te) (ht:∀X',cY X X' cu (ns++fv.map (·.1))->yu X' ifs tt)
  (hs:∀v,foldedSetIterable iter X.env v=pure v) (I:Inv X pins σ H s)
  {kk:List V->(Hp->Prop)->Hp->Prop} (h:wi σ H kk) (hkk:∀xs aC H1,kk xs aC H1->∃kf:Addr->Hp->Prop,(∀ D H',kf D H'->Q (.ref D) H')/\∀D,H1 D=none->M D=none->gy bd te tt (vars σ fv) D aC xs [] (upd H1 D (.lst [])) (kf D))
  (hfin:∀D C s' H',Inv X pins σ H' s'->kj X pins H' C->(∃ m,s'.heap.Ns C m)->Q (.ref D) H'->compPost (model X.prog X.w) X.A X.xe use R (.ref D) C (.ok .next) s'):
  wpAny (model X.prog X.w) X.A (comprehension (.ListComp elt [⟨tg,iter,ifs,0⟩] cu pos) cu X.env (firstIterPos [⟨tg,iter,ifs,0⟩] pos) (newList []) (firstAsync [⟨tg,iter,ifs,0⟩]) (firstIter [⟨tg,iter,ifs,0⟩] X.env) use) R X.xe s:=by
 refine rD (nxt:=BV bd) mo hc hcf ok hi hg top xo he ht hs I ⟨kk,h,fun J xs aC H1 sq q=>⟨xs,aC,⟨sq.go,fun i a H y H' R e y1 st nx=>?_,sq.stop⟩,?_⟩⟩ hfin
 ·obtain⟨hlt,_⟩:=List.getElem?_eq_some_iff.mp e
  obtain⟨eH,ev⟩:=sq.kn i H y H' hlt y1 st
  subst eH
  rw[e]at ev
  obtain rfl:a=y:=Option.some.inj ev
  unfold BV at nx
  split at nx
  ·rename_i w ew
   exact⟨w,hgl _ _ _ ew,nx,fun w0 f Q hw q=>hgb _ _ _ _ _ _ ew hw q⟩
  ·exact nx.elim
 ·obtain⟨kf,k1,k2⟩:=hkk xs aC H1 q
  exact⟨kf,k1,fun D h1 h2=>by rw[<-m_];exact k2 D h1 h2⟩
noncomputable def iA:List Nat->AJ
 | []=>Ej
 | i::is=>AE (jb i) (iA is)
theorem fj:∀ {is:List Nat} {xs:List V} {σ:L2.St} {H:Hp} {Q:L2.St->Hp->Prop},xs.length=is.length->Q (il σ is xs) H->iA is xs σ H Q
 | [],[],σ,H,Q,_,q=>⟨rfl,q⟩
 | i::is,x::xs,σ,H,Q,hl,q=>⟨x,xs,rfl,fj (by simpa using hl) q⟩
 | [],_::_,_,_,_,hl,_=>by simp at hl
 | _::_,[],_,_,_,hl,_=>by simp at hl
theorem rG:∀ (is:List Nat) {ts:List Expr} {N:List Str} {env:Env},assignEach (bN N is ts) env=(bN N is ts).map fun t=>(false,assign t env)
 | [],_,_,_=>rfl
 | _::is,ts,N,env=>congrArg (_::·) (rG is (ts:=ts.tail) (N:=N) (env:=env))
theorem nr:∀ (is:List Nat) {ts:List Expr} {N:List Str},(bN N is ts).length=is.length
 | [],_,_=>rfl
 | _::is,_,_=>congrArg (·+ 1) (nr is)
theorem rH {is:List Nat} {ts:List Expr} {N:List Str} {env:Env}:(assignEach (bN N is ts) env).length=is.length:=by
 rw[rG,List.length_map,nr]
theorem oG {is:List Nat} {ts:List Expr} {N:List Str} {env:Env}:(assignEach (bN N is ts) env).findIdx? (·.1)=none:=by
 rw[rG,List.findIdx?_eq_none_iff]
 intro x hx
 obtain⟨t,_,rfl⟩:=List.mem_map.mp hx
 rfl
section
variable {X':Cx}
end
theorem lM {te:TE} {tt:TT} {fvs:L2.St} {D:Addr} {aC:Hp->Prop} {k:Hp->Prop}:∀ (xs acc:List V) (H:Hp),cV te tt fvs D aC xs acc H k=gy (fun v _=>some [some v]) te tt fvs D aC xs acc H k
 | [],_,_=>rfl
 | v::r,acc,H=>by
  show(aC H/\tt (some v::fvs) H fun ok H1=>if ok=true then te (some v::fvs) H1 fun y H2=>H2 D=some (.lst acc)/\acc.length < sizeLine/\cV te tt fvs D aC r (acc++[y]) (upd H2 D (.lst (acc++[y]))) k else cV te tt fvs D aC r acc H1 k)=(aC H/\tt (some v::fvs) H fun ok H1=>if ok=true then te (some v::fvs) H1 fun y H2=>H2 D=some (.lst acc)/\acc.length < sizeLine/\gy (fun v _=>some [some v]) te tt fvs D aC r (acc++[y]) (upd H2 D (.lst (acc++[y]))) k else gy (fun v _=>some [some v]) te tt fvs D aC r acc H1 k)
  simp only[lM r]
theorem sA {v:V} {w w0 f:L2.St} {H:Hp} {Q:L2.St->Hp->Prop} (e:(some [some v]:Option L2.St)=some w) (hw:w0.length=([0]:List Nat).length) (q:Q (w++f) H):jb 0 v (w0++f) H Q:=by
 cases e
 match w0,hw with
 | [a],_=>exact q
section
variable {X:Cx} {M:Mo} {sc cu:Scope} {elt iter:Expr} {ifs:List Expr} {x:Str} {px pos:Pos} {fv:List (Str × Nat)} {te:L2.St->TE} {tt:TT} {wi:L2.St->Hp->(List V->(Hp->Prop)->Hp->Prop)->Prop} {Ξ:XS}
theorem zm (mo:aJ X.K M) (hc:X.calm=true) (top:nA X) (xo:eE X Ξ)
  (hcf:∀y,(sc.names.lookup y=some .cell\/sc.names.lookup y=some .free)->X.env.kindOf y=some .cell\/X.env.kindOf y=some .free)
  (ok:fk sc cu X.N [x] fv=true) (hi:PI X (.Name x px) iter (uS wi))
  (he:∀σ X',cY X X' cu (x::fv.map (·.1))->eE X' (fun C d _ H'=>Ξ C d σ H')->PE X' elt (te σ)) (ht:∀X',cY X X' cu (x::fv.map (·.1))->yu X' ifs tt)
  (hs:∀v,foldedSetIterable iter X.env v=pure v):
  PE X (.ListComp elt [⟨.Name x px,iter,ifs,0⟩] cu pos) (fun σ H Q=>wi σ H fun xs aC H1=>∀D,H1 D=none->M D=none->cV (te σ) tt (vars σ fv) D aC xs [] (upd H1 D (.lst [])) fun H'=>Q (.ref D) H'):=by
 intro pins s σ H Q I h
 rw[eval_ListComp]
 refine m9 (bd:=fun v _=>some [some v]) (g:=jb 0) mo hc hcf ok hi (fun X' c nd hl=>gZ (by rw[c.N];exact nd) (by rw[c.N];rfl) (.inl (hl x (by simp))) (.inr (hl x (by simp)))) (fun v w w0 f H Q e hw q=>sA e hw q) (fun v w H e=>by cases e;rfl) top xo (he σ) ht hs (use:=none) (R:=EP X pins σ Q) I h (fun xs aC H1 q=>⟨fun D H'=>Q (.ref D) H',fun _ _ z=>z,fun D h1 h2=>(lM _ _ _).mp (q D h1 h2)⟩) fun D C s' H' I' f ⟨m,hm⟩ q=>?_
 refine⟨m,hm,fun h' sb=>⟨.ref D,H',?_,rfl,q⟩⟩
 exact Inv.AB I' f sb
theorem yY (mo:aJ X.K M) (hc:X.calm=true) (top:nA X) (xo:eE X Ξ)
  (hcf:∀y,(sc.names.lookup y=some .cell\/sc.names.lookup y=some .free)->X.env.kindOf y=some .cell\/X.env.kindOf y=some .free)
  (ok:fk sc cu X.N [x] fv=true) (hi:PI X (.Name x px) iter (uS wi))
  (he:∀σ X',cY X X' cu (x::fv.map (·.1))->eE X' (fun C d _ H'=>Ξ C d σ H')->PE X' elt (te σ)) (ht:∀X',cY X X' cu (x::fv.map (·.1))->yu X' ifs tt)
  (hs:∀v,foldedSetIterable iter X.env v=pure v) {i:Nat} {t:Str} {tp spos:Pos} (hN:X.N.Nodup) (hit:X.N[i]?=some t) (hx:Loc X.env.scope t) (hf:X.fn t=true\/X.env.scope.names.lookup t=some .local)
  (hsw:swapsWith (.ListComp elt [⟨.Name x px,iter,ifs,0⟩] cu pos) (some (.Name t tp)) spos.line X.env=pure true):
  PS X (.Assign [.Name t tp] (.ListComp elt [⟨.Name x px,iter,ifs,0⟩] cu pos) spos) (fun D σ H=>wi σ H fun xs aC H1=>∀B,H1 B=none->M B=none->cV (te σ) tt (vars σ fv) B aC xs [] (upd H1 B (.lst [])) fun H'=>D.nx (σ.set i (some (.ref B))) H'):=by
 intro pins s σ H D I h
 rw[exec_Assign_Name_used _ _ _ _ hsw]
 refine wpAny_bind (wpAny_standAt (wpAny_bind ?_))
 show wpAny _ _ (do let _<-comprehension _ _ _ _ _ _ _ (some _)) _ _ _
 refine wpAny_bind ?_
 refine m9 (bd:=fun v _=>some [some v]) (g:=jb 0) mo hc hcf ok hi (fun X' c nd hl=>gZ (by rw[c.N];exact nd) (by rw[c.N];rfl) (.inl (hl x (by simp))) (.inr (hl x (by simp)))) (fun v w w0 f H Q e hw q=>sA e hw q) (fun v w H e=>by cases e;rfl) top xo (he σ) ht hs (Q:=fun v H'=>D.nx (σ.set i (some v)) H') I h (fun xs aC H1 q=>⟨fun B H'=>D.nx (σ.set i (some (.ref B))) H',fun _ _ z=>z,fun D h1 h2=>(lM _ _ _).mp (q D h1 h2)⟩) fun B C s' H' I' f ⟨m,hm⟩ q=>?_
 show wpAny _ _ (assign (.Name t tp) X.env (.ref B)) _ _ _
 refine wpAny_bind (wpAny_standAt ?_)
 unfold bindName
 refine wpAny_bind (wpAny_holding (wpAny_point ?_))
 refine wpAny_bind (mI I' hN hit hx (v:=.ref B) rfl (fun s2 I2 ⟨a,sb,ha⟩=>?_) hf)
 refine wpAny_point ?_
 have hne:C ≠ a:=fun z=>by
  subst z
  rcases ha with z | z
  ·exact f.2.1 z
  ·exact f.2.2.2.2.1 _ _ z rfl
 obtain⟨o,es,ep,ho,r⟩:=hm
 have ho2:s2.heap.get? C=some o:=(sb.2 C hne).trans ho
 refine⟨m,⟨o,es,ep,ho2,r⟩,fun h' sb2=>?_⟩
 exact wpAny_pure (wpAny_pure ⟨_,H',Inv.AB I2 f sb2,q⟩)
end
end Sw
namespace Sw
open PySem PySem.Spec PyProof.Rows L2
open PySem.W (Frag keepIn ktsIn mroIn kitOne)
noncomputable def dD:List Str:=["len","all","any","str","int","abs","sorted","list","max","min","isinstance","range","bool","dict","reversed","enumerate"]
noncomputable def oW (mg:Str->Option Value) (x:Str) (u:Value):Prop:=mg x=some u\/(mg x=none/\bootBuiltins x=some u)
structure cQ (P:Program) (w:World) (K:Frag) (mg:Str->Option Value) (base:Heap) (k:Nat) (vc:Addr->Sp):Prop where
 run:∀ (A:Around) (outer:List Env) (s:Shared) (H:Hp) (f:Addr) (us:List Value) (vs:List V) (Q:VK) (E:XK),eS k A->lV P w K mg base A outer s H->Vals vs us->vc f vs H Q E->
  codeAny (model P w) A (.call (.ref f) ⟨us,[]⟩) (CR (fP P w) outer P w H s Q E) s
 xG:∀ (s:Shared) (H:Hp) (f:Addr) (vs:List V) (Q:VK) (E:XK),K.In s.heap->fK P w H s.heap->vc f vs H Q E->PySem.W.FnAt f s.heap
theorem cQ.mono {P:Program} {w:World} {K:Frag} {mg:Str->Option Value} {base:Heap} {j k:Nat} {vc:Addr->Sp} (F:cQ P w K mg base j vc) (h:j<=k):cQ P w K mg base k vc:=
 ⟨fun A outer s H f us vs Q E hr=>F.run A outer s H f us vs Q E (hr.mono h),F.xG⟩
theorem cQ.none {P:Program} {w:World} {K:Frag} {mg:Str->Option Value} {base:Heap} {k:Nat}:cQ P w K mg base k (fun _ _ _ _ _=>False):=
 ⟨fun _ _ _ _ _ _ _ _ _ _ _ _ h=>h.elim,fun _ _ _ _ _ _ _ _ h=>h.elim⟩
theorem cQ.or {P:Program} {w:World} {K:Frag} {mg:Str->Option Value} {base:Heap} {k:Nat} {a b:Addr->Sp} (F:cQ P w K mg base k a) (G:cQ P w K mg base k b):cQ P w K mg base k (fun f vs H Q E=>a f vs H Q E\/b f vs H Q E):=
 ⟨fun A outer s H f us vs Q E hr he hv h=>h.elim (F.run A outer s H f us vs Q E hr he hv) (G.run A outer s H f us vs Q E hr he hv),fun s H f vs Q E hk ho h=>h.elim (F.xG s H f vs Q E hk ho) (G.xG s H f vs Q E hk ho)⟩
noncomputable def AM (P:Program) (w:World) (mg:Str->Option Value) (base:Heap) (x:Str) (kvs:List (Key × V)):Prop:=∃a vs,mg x=some (.ref a)/\KV kvs vs/\base.DictOf (aG P w) a vs
structure aP (P:Program) (w:World) (K:Frag) (mg:Str->Option Value) (base:Heap) (Γ:bf) (k:Nat):Prop where
 mod:aJ K Γ.mod
 con:∀x v,Γ.con x=some v->∃u,mg x=some u/\RelV v u
 fn:∀f,Γ.has f=true->∃fa fd ps,mg f=some (.ref fa)/\keepIn K (.ref fa)=true/\cO P w K mg base (fP P w) k fa fd ps (Γ.fn f)/\Binds K fd ps []
 no:∀x ∈ dD,mg x=none
 vc:cQ P w K mg base k Γ.vc
 gd:∀x kvs,Γ.gd x=some kvs->AM P w mg base x kvs
structure Ctx (X:Cx) (Γ:bf) (sc:Scope) (k:Nat):Prop where
 g:aP X.prog X.w X.K X.mg X.base Γ k
 room:Γ.cm=true->eS (k + 1) X.A
 calm:Γ.cm=true->X.calm=true
 un:X.A.units + 64 < cLine
 Ge:∀x,j2 sc x=true->Ag X.env.scope x
 gl:∀x,ef sc x=true->Gl X x
 cf:∀y,(sc.names.lookup y=some .cell\/sc.names.lookup y=some .free)->X.env.kindOf y=some .cell\/X.env.kindOf y=some .free
 top:nA X
section
variable {X:Cx} {a b e:Expr} {rest:List Expr} {ta tb:TE} {pos:Pos} {M:Mo}
theorem PE.of {t t':TE} (h:PE X e t) (i:∀σ H Q,t' σ H Q->t σ H Q):PE X e t':=fun pins s σ H Q I q=>h pins s σ H Q I (i σ H Q q)
theorem PT.of {t t':TT} (h:PT X e t) (i:∀σ H Q,t' σ H Q->t σ H Q):PT X e t':=fun pins s σ H Q I q=>h pins s σ H Q I (i σ H Q q)
theorem PE.never {t:TE} (i:∀σ H Q,¬t σ H Q):PE X e t:=fun pins s σ H Q I q=>(i σ H Q q).elim
theorem PT.never {t:TT} (i:∀σ H Q,¬t σ H Q):PT X e t:=fun pins s σ H Q I q=>(i σ H Q q).elim
theorem tU {x:V} {H:Hp} {Q Q':Bool->Prop} (h:eu M x H Q) (i:∀k,Q k->Q' k):eu M x H Q':=by
 unfold eu at h ⊢
 cases x with
 | non=>exact i _ h
 | bl b=>exact i _ h
 | int j=>exact i _ h
 | str y=>exact⟨h.1,i _ h.2⟩
 | ref p=>
  dsimp only at h ⊢
  split at h
  ·exact i _ h
  ·exact i _ h
  ·exact h.elim
 | _=>exact h.elim
theorem ko (m:aJ X.K M) {pins:List (Addr × Obj)} {s:Shared} {σ:L2.St} {H:Hp} {x:V} {v:Value} {Q:Bool->Prop} {Q':Bool->Shared->Prop} (I:Inv X pins σ H s) (rx:RelV x v) (q:eu M x H Q)
  (h:∀k s',Inv X pins σ H s'->Q k->Q' k s'):wpAny (model X.prog X.w) X.A (truthy v) Q' X.xe s:=by
 refine bV (AV m pins s σ H x v (fun k H2=>H2=H/\Q k) I rx (tU q fun k z=>⟨rfl,z⟩)) fun k s2 ⟨H2,I2,e2,q2⟩=>?_
 subst e2
 exact h k s2 I2 q2
theorem sy (m:aJ X.K M) (ha:PE X a ta) (hb:PE X (.BoolOp .And (b::rest) pos) tb):PE X (.BoolOp .And (a::b::rest) pos) (fun σ H Q=>ta σ H fun x H1=>eu M x H1 fun k=>if k=true then tb σ H1 Q else Q x H1):=by
 intro pins s σ H Q I h
 refine BoolOp_and (bV (ha pins s σ H _ I h) fun v s1 ⟨x,H1,I1,r1,q1⟩=>ko m I1 r1 q1 fun k s2 I2 q2=>?_)
 cases k with
 | true=>exact hb pins s2 σ H1 Q I2 q2
 | false=>exact⟨x,H1,I2,r1,q2⟩
theorem wc (m:aJ X.K M) (ha:PE X a ta) (hb:PE X (.BoolOp .Or (b::rest) pos) tb):PE X (.BoolOp .Or (a::b::rest) pos) (fun σ H Q=>ta σ H fun x H1=>eu M x H1 fun k=>if k=true then Q x H1 else tb σ H1 Q):=by
 intro pins s σ H Q I h
 refine BoolOp_or (bV (ha pins s σ H _ I h) fun v s1 ⟨x,H1,I1,r1,q1⟩=>ko m I1 r1 q1 fun k s2 I2 q2=>?_)
 cases k with
 | false=>exact hb pins s2 σ H1 Q I2 q2
 | true=>exact⟨x,H1,I2,r1,q2⟩
theorem ze (m:aJ X.K M) (ha:PE X a ta):PE X (.UnaryOp .Not a pos) (fun σ H Q=>ta σ H fun x H1=>eu M x H1 fun k=>Q (.bl (!k)) H1):=by
 intro pins s σ H Q I h
 refine UnaryOp_ (bV (ha pins s σ H _ I h) fun v s1 ⟨x,H1,I1,r1,q1⟩=>not_of (ko m I1 r1 q1 fun k s2 I2 q2=>⟨.bl (!k),H1,I2,rfl,q2⟩))
theorem Bl (m:aJ X.K M) (ha:PE X a ta) (he:∀whole,isTrue a X.env whole=(do let v<-whole;standAt a.pos;holding [v] (truthy v))):PT X a (fun σ H Q=>ta σ H fun x H1=>eu M x H1 fun k=>Q k H1):=by
 intro pins s σ H Q I h
 exact isTrue_plain (bV (ha pins s σ H _ I h) fun v s1 ⟨x,H1,I1,r1,q1⟩=>ko m I1 r1 q1 fun k s2 I2 q2=>⟨H1,I2,q2⟩) (he _)
theorem Bn {c:Expr} {tc:TT} {t u:TT} (hc:PT X c tc) (ha:PT X a t) (hb:PT X b u):PT X (.IfExp c a b pos) (fun σ H Q=>tc σ H fun k H1=>if k=true then t σ H1 Q else u σ H1 Q):=by
 intro pins s σ H Q I h
 show wpAny _ _ (do if<-isTrue c X.env (eval c X.env)then isTrue a X.env (eval a X.env)else isTrue b X.env (eval b X.env)) _ _ _
 refine wpAny_bind (bV (hc pins s σ H _ I h) fun k s1 ⟨H1,I1,q1⟩=>?_)
 cases k with
 | true=>exact ha pins s1 σ H1 Q I1 q1
 | false=>exact hb pins s1 σ H1 Q I1 q1
end
section
variable {X:Cx}
theorem bF {e:Expr} {es:List Expr} {env:Env} (h:bK e=true):starEach (e::es) env=(false,eval e env)::starEach es env:=by
 cases e<;>first | rfl | cases h
theorem plain_any:∀ {es:List Expr} {env:Env} {pos:Pos},(∀ e ∈ es,bK e=true)->(backTo pos (starEach es env)).any (·.1)=false
 | [],_,_,_=>rfl
 | e::es,env,pos,h=>by
  rw[bF (h e List.mem_cons_self)]
  show(false || (backTo pos (starEach es env)).any (·.1))=false
  rw[plain_any fun e he=>h e (List.mem_cons_of_mem _ he)]
  rfl
theorem plain_all:∀ {es:List Expr} {env:Env} {pos:Pos},(∀ e ∈ es,bK e=true)->(backTo pos (starEach es env)).all (fun x=>!x.1)=true
 | [],_,_,_=>rfl
 | e::es,env,pos,h=>by
  rw[bF (h e List.mem_cons_self)]
  show((!false) && (backTo pos (starEach es env)).all (fun x=>!x.1))=true
  rw[plain_all fun e he=>h e (List.mem_cons_of_mem _ he)]
  rfl
theorem a2 {a b:Bool} (h:(a && b)=true):a=true/\b=true:=Bool.and_eq_true_iff.mp h
theorem eO {N:List Str} {i:Nat} (h:decide (i < N.length)=true):N[i]?=some (nx N i):=by
 have h:=of_decide_eq_true h
 unfold nx
 rw[List.getD_eq_getElem?_getD,List.getElem?_eq_getElem h]
 rfl
theorem bg {N:List Str} (e:Ex) {a:Expr}:bK (bE N e a)=true:=by cases e<;>rfl
theorem jl {N:List Str} (it:Ix) {a:Expr}:bK (bI N it a)=true:=by
 cases it with
 | ex e=>exact bg e
 | rng1 _=>rfl
theorem eX {N:List Str}:∀ (cs:km) {es:List Expr},∀e ∈ mC N cs es,bK e=true
 | .nil,_=>fun e h=>nomatch (show e ∈ []from h)
 | .cons c r,es=>fun e h=>(List.mem_cons.mp (show e ∈ bE N c (es.headD default)::mC N r es.tail from h)).elim (fun q=>q ▸ bg c) (eX r e)
theorem kJ {N:List Str}:∀ (cs:km) {es:List Expr},(mC N cs es).length=cs.len
 | .nil,_=>rfl
 | .cons _ r,_=>congrArg (·+ 1) (kJ r)
theorem de {x:Str} (h:bH x=true):(x == ("__debug__" :Str))=false/\(x == ("__classdict__" :Str))=false/\x ≠ "__name__" :=by
 unfold bH at h
 simp only[Bool.and_eq_true,Bool.not_eq_true',decide_eq_false_iff_not]at h
 exact⟨h.1.1,h.1.2,h.2⟩
end
end Sw
namespace Sw
open PySem PySem.Spec PyProof.Rows L2
open PySem.W (Frag keepIn ktsIn mroIn kitOne)
theorem Ac (f:Bf):bootBuiltins f.name=some (Gm f):=by cases f<;>kernel_rfl
theorem Ew (f:Bf):f.name ∈ dD:=by cases f<;>decide +kernel
theorem zO:("isinstance" :Str) ∈ dD:=by decide +kernel
theorem xu:("range" :Str) ∈ dD:=by decide +kernel
theorem u5:bootBuiltins "isinstance" =some (.builtin "isinstance"):=by kernel_rfl
noncomputable def E6:Ty->Option String
 | .int=>some "int" | .bool=>some "bool" | .dict=>some "dict" | .own _=>none
theorem Ab:∀ {T:Ty} {n:String},E6 T=some n->bootBuiltins T.name=some (.type n)/\T.name ∈ dD:=by
 intro T n h
 cases T<;>first | (cases h;exact⟨by kernel_rfl,by decide +kernel⟩) | cases h
theorem Cc {K:Frag} {M:Mo} {H:Hp} {x:V} {T:Ty} {n:String} (h:known M H x=true) (ht:E6 T=some n):∃t,jQ K H x t/\kitOne K t (.type n)=some (my T H x):=by
 cases x with
 | non=>exact⟨_,.non,by cases T<;>first | (cases ht;kernel_rfl) | cases ht⟩
 | bl b=>exact⟨_,.bl b,by cases T<;>first | (cases ht;kernel_rfl) | cases ht⟩
 | int i=>exact⟨_,.int i,by cases T<;>first | (cases ht;kernel_rfl) | cases ht⟩
 | str y=>exact⟨_,.str y,by cases T<;>first | (cases ht;kernel_rfl) | cases ht⟩
 | ref p=>
  unfold known at h
  dsimp only at h
  split at h
  ·rename_i xs e
   exact⟨_,.lst e,by unfold my;simp only[e];cases T<;>first | (cases ht;kernel_rfl) | cases ht⟩
  ·rename_i xs e
   exact⟨_,.tup e,by unfold my;simp only[e];cases T<;>first | (cases ht;kernel_rfl) | cases ht⟩
  ·rename_i xs e
   exact⟨_,.dK e,by unfold my;simp only[e];cases T<;>first | (cases ht;kernel_rfl) | cases ht⟩
  ·rename_i o xs e
   exact⟨_,.frz e,by unfold my;simp only[e];cases T<;>first | (cases ht;kernel_rfl) | cases ht⟩
  ·cases h
 | _=>cases h
section
variable {X:Cx} {Γ:bf} {sc:Scope} {k:Nat} {Ξ:XS}
theorem zJ {pins:List (Addr × Obj)} {s:Shared} {σ:L2.St} {H:Hp} {x:Str} {u:Value} {pos:Pos} {Q:Value->Shared->Prop} {E:Value->Shared->Prop} (I:Inv X pins σ H s) (hg:Gl X x) (hv:oW X.mg x u) (ho:bH x=true) (h:Q u s):
  wpAny (model X.prog X.w) X.A (eval (.Name x pos) X.env) Q E s:=by
 obtain⟨o1,o2,o3⟩:=de ho
 rcases hv with hv | ⟨hv,hb⟩
 ·exact i9 I hg hv h o1
 ·exact gh I hg hv hb h o3 o1
theorem zj {a:Expr} {ta:TE} {y:Str} {p py pos:Pos} {R:V->Hp->VK->Prop} (C:Ctx X Γ sc k) (hg:Gl X "isinstance") (ha:PE X a ta) (hp:bK a=true) (hy:Gl X y) (ho:bH y=true)
  (hR:∀ (pins:List (Addr × Obj)) (s:Shared) (σ:L2.St) (H:Hp) (x:V) (v:Value) (Q:VK),Inv X pins σ H s->RelV x v->R x H Q->∃u,oW X.mg y u/\wpAny (model X.prog X.w) X.A (call (.builtin "isinstance") [v,u]) (EP X pins σ Q) X.xe s):
  PE X (.Call (.Name "isinstance" p) [a,.Name y py] [] pos) (fun σ H Q=>ta σ H fun x H1=>R x H1 Q):=by
 intro pins s σ H Q I h
 refine wpAny_Call_Name_kw (gh I hg (C.g.no _ zO) u5 ?_)
 have hs:=bF (env:=X.env) (es:=[.Name y py]) hp
 refine PyProof.Rows.callWith_builtin1 ?_ hs rfl
 rw[hs]
 show wpAny _ _ (spliced ((false,eval a X.env)::backTo pos (starEach [.Name y py] X.env))) _ _ s
 refine Calls.spliced_cons (bV (ha pins s σ H _ I h) fun v s1 ⟨x,H1,I1,r1,q1⟩=>?_)
 obtain⟨u,hv,z⟩:=hR pins s1 σ H1 x v Q I1 r1 q1
 exact Calls.spliced_cons (zJ I1 hy hv ho (Calls.spliced_nil z))
theorem Ctx.comp {X':Cx} {cu:Scope} {N':List Str} (C:Ctx X Γ sc k) (c:cY X X' cu N') (hc:Γ.cm=true):Ctx X' Γ cu k:=by
 have look:∀y,X'.env.scope.names.lookup y=(cu.names.lookup y).map fun k=>if(k == .free && X.env.scope.kind == .function && X.env.kindOf y == some .cell)then .cell else k:=fun y=>by
  rw[c.scope];exact fZ
 refine⟨by rw[c.prog,c.w,c.K,c.mg,c.base];exact C.g,fun h=>by rw[c.A];exact C.room h,fun _=>c.calm,by rw[c.A];exact C.un,fun x h=>?_,fun x h=>?_,fun y h=>?_,let ⟨e0,o0,L,t1,t2,t3⟩:=C.top;⟨e0,o0,L,c.stack.trans t1,t2,c.frame.trans t3⟩⟩
 ·have l:=look x
  unfold j2 at h
  unfold Ag
  split at h
  ·rename_i e;rw[e]at l;exact .inl l
  ·rename_i e;rw[e]at l;exact .inr (.inl l)
  ·rename_i e
   rw[e]at l
   simp only[Option.map_some]at l
   by_cases q:((NameKind.free == NameKind.free) && X.env.scope.kind == .function && X.env.kindOf x == some .cell)=true
   ·rw[if_pos q]at l;exact .inr (.inl l)
   ·rw[if_neg q]at l;exact .inr (.inr l)
  ·cases h
 ·have l:=look x
  unfold ef at h
  split at h
  ·rename_i e;rw[e]at l;exact l
  ·cases h
 ·have l:=look y
  rcases h with h | h
  ·rw[h]at l;exact .inl l
  ·rw[h]at l
   simp only[Option.map_some]at l
   by_cases q:((NameKind.free == NameKind.free) && X.env.scope.kind == .function && X.env.kindOf y == some .cell)=true
   ·rw[if_pos q]at l;exact .inl l
   ·rw[if_neg q]at l;exact .inr l
end
end Sw
namespace Sw
open PySem PySem.Spec PyProof.Rows L2
open PySem.W (Frag keepIn ktsIn mroIn kitOne)
section
open PySem.SeqAt
variable {X:Cx} {M:Mo} {pins:List (Addr × Obj)} {σ:L2.St} {H:Hp} {s:Shared}
theorem Ax {K:Frag} (m:aJ K M) {p:Addr} {kvs:List (Key × V)} (h:rd M H p=some (.dK kvs)):Rd H p (.dK kvs):=by
 rcases kZ h with h | ⟨_,h⟩
 ·exact h
 ·exact(m p _ h).elim
theorem tq {K:Frag} (m:aJ K M) {x:V} {kvs:List (Key × V)} (h:qg M H x=some kvs):∃p,x=.ref p/\Rd H p (.dK kvs):=by
 unfold qg at h
 cases x with
 | ref p=>
  dsimp only at h
  split at h
  ·rename_i e;cases h;exact⟨p,rfl,Ax m e⟩
  ·cases h
 | _=>cases h
theorem zP (m:aJ X.K M):yp X (p0 M):=by
 intro value slice pins s σ H x y v u Q I rx ry h hs
 unfold p0 at h
 cases x with
 | ref p=>
  dsimp only at h
  cases (show v=Value.ref p from rx)
  split at h
  ·rename_i kvs e
   split at h
   ·rename_i k ek
    split at h
    ·rename_i y' ev
     obtain⟨z,hd,vs,rel,dd⟩:=sW I.aW (Ax m e)
     obtain⟨w',hw,rw'⟩:=ke.some_of (v:=y') (o:=valueAt vs k) (by rw[<-ev];exact rel.val k)
     rw[zY ek]at ry
     exact tail_any dd.mapOf.typeIs PySem.F.slot_dict_getitem.lookup (wpAny_getItem_of (sG ry) dd.mapOf hw ⟨y',H,I.tok _,rw',h⟩) hs
    ·exact h.elim
   ·exact h.elim
  ·exact h.elim
 | _=>exact h.elim
noncomputable def C2 (X:Cx) (A:Around) (s:Shared) (v u:Value):Prop:=∀ (E:Value->Shared->Prop) (Q:Bool->Shared->Prop),Q true s->wpAny (model X.prog X.w) A (eqBool v u) Q E s
theorem kX {nm:String} {A:Around} {E:Value->Shared->Prop} {a b:Addr} {ka kb:List (Key × Value)} {Q:Bool->Shared->Prop} (ha:(a == sysModules)=false) (hb:(b == sysModules)=false)
  (da:s.heap.DictOf (aG X.prog X.w) a ka) (db:s.heap.DictOf (aG X.prog X.w) b kb) (hl:ka.length=kb.length) (hit:∀ (i:Nat) (k:Key) (v:Value),ka[i]?=some (k,v)->∃y,valueAt kb k=some y/\C2 X A s v y) (h:Q true s):
  wpAny (model X.prog X.w) A (Builtin.Dict.samePairs nm a b) Q E s:=by
 obtain⟨oa,ea,pa,ga,_,fa,xa,ra,_⟩:=da
 obtain⟨ob,eb,pb,gb,_,fb,xb,rb,_⟩:=db
 have la:ea.size=ka.length:=by rw[<-ra.length,Array.length_toList]
 have lb:eb.size=kb.length:=by rw[<-rb.length,Array.length_toList]
 have at_b:∀k,(eb.findIdx? fun e=>(aG X.prog X.w).is k e.key).bind (fun j=>eb[j]?.map (·.val))=valueAt kb k:=fun k=>by
  rw[<-rb.find k]
  cases q:eb.findIdx? fun e=>(aG X.prog X.w).is k e.key with
  | none=>
   have q2:eb.toList.find? (fun e=>(aG X.prog X.w).is k e.key)=none:=by
    rw[List.find?_eq_none]
    intro e he
    have:=(Array.findIdx?_eq_none_iff.mp q) e (by simpa using he)
    simpa using this
   rw[q2];rfl
  | some j=>
   obtain⟨hj,h1,h2⟩:=Array.findIdx?_eq_some_iff_getElem.mp q
   have q2:eb.toList.find? (fun e=>(aG X.prog X.w).is k e.key)=some eb[j]:=by
    rw[List.find?_eq_some_iff_getElem]
    exact⟨h1,j,by simpa using hj,by simp,fun i hi=>by simpa using h2 i hi⟩
   rw[q2,Option.bind_some,Array.getElem?_eq_getElem hj]
 unfold Builtin.Dict.samePairs
 unfold Builtin.Dict.showsAll
 rw[ha,hb]
 simp only[Bool.false_eq_true,if_false]
 refine wpAny_bind (wpAny_pure (wpAny_bind (wpAny_pure (wpAny_bind (wpAny_dictEntries ga fa (wpAny_bind (wpAny_dictEntries gb fb ?_)))))))
 have hne:(ea.size != eb.size)=false:=by rw[la,lb,hl];simp
 rw[hne]
 simp only[Bool.false_eq_true,if_false]
 refine wpAny_bind (wpAny_dictEpoch ga fa (wpAny_bind ?_))
 rw[Std.Legacy.Range.forIn_eq_forIn_range']
 simp only[Std.Legacy.Range.size,Nat.sub_zero,Nat.add_sub_cancel,Nat.div_one]
 refine wpAny_forIn_list _ (fun l q s'=>s'=s/\q=(none,())/\l <:+ List.range' 0 ea.size) _ ?_ ?_ _ _ ⟨rfl,rfl,List.suffix_refl _⟩
 ·intro i l q s' hI
  obtain⟨rfl,rfl,suf⟩:=hI
  have hi:i < ea.size:=by
   have:=suf.subset List.mem_cons_self
   simpa using this
  have hik:i < ka.length:=by omega
  obtain⟨y,hy,eqt⟩:=hit i ka[i].1 ka[i].2 (List.getElem?_eq_getElem hik)
  obtain⟨hkey,hval⟩:=ra.get? (i:=i) (e:=ea[i]) (k:=ka[i].1) (v:=ka[i].2) (by rw[Array.getElem?_toList,Array.getElem?_eq_getElem hi]) (List.getElem?_eq_getElem hik)
  obtain⟨k2,hk2,hash⟩:=xa ea[i] (Array.getElem_mem hi)
  obtain rfl:k2=ka[i].1:=(aG X.prog X.w).inj _ _ _ hk2 hkey
  refine wpAny_bind (wpAny_dictEntries ga fa ?_)
  rw[Array.getElem?_eq_getElem hi]
  show wpAny _ _ (holding [ea[i].key,ea[i].val] _ >>= _) _ _ _
  rw[hash]
  refine wpAny_bind (wpAny_holding (wpAny_bind (wpAny_dictFind_of hkey gb fb xb ?_)))
  have z:=at_b ka[i].1
  rw[hy]at z
  cases q:eb.findIdx? fun e=>(aG X.prog X.w).is ka[i].1 e.key with
  | none=>rw[q]at z;cases z
  | some j=>
   obtain⟨hj,_⟩:=Array.findIdx?_eq_some_iff_getElem.mp q
   rw[q,Option.bind_some,Array.getElem?_eq_getElem hj]at z
   have zv:eb[j].val=y:=Option.some.inj z
   refine wpAny_bind (wpAny_dictEntries gb fb ?_)
   rw[Array.getElem?_eq_getElem hj]
   rw[<-zv,<-hval]at eqt
   refine wpAny_holding (eqt _ _ ?_)
   show wpAny _ _ (if(!true)=true then _ else _) _ _ _
   rw[if_neg (by decide)]
   refine wpAny_bind (wpAny_dictEpoch ga fa ?_)
   rw[if_neg (by simp)]
   exact wpAny_pure ⟨rfl,rfl,(List.suffix_cons i l).trans suf⟩
 ·intro q s' hI
  obtain⟨rfl,rfl,_⟩:=hI
  exact wpAny_pure h
theorem xM {A:Around} {E:Value->Shared->Prop} {a b:Addr} {ka kb:List (Key × Value)} {Q:Value->Shared->Prop} (ha:(a == sysModules)=false) (hb:(b == sysModules)=false)
  (da:s.heap.DictOf (aG X.prog X.w) a ka) (db:s.heap.DictOf (aG X.prog X.w) b kb) (hu:A.units < cLine) (hl:ka.length=kb.length) (hit:∀ (i:Nat) (k:Key) (v:Value),ka[i]?=some (k,v)->∃y,valueAt kb k=some y/\C2 X A.in1 s v y) (h:Q (.bool true) s):
  wpAny (model X.prog X.w) A (richCompare .Eq (.ref a) (.ref b)) Q E s:=by
 have T1:=da.typeIs
 have T2:=db.typeIs
 refine wpAny_richCompare_same_room (op:=.Eq) T1 T2 PySem.F.slot_dict_eq ?_ hu
 refine wpAny_call_entry PySem.F.slot_dict_eq T1 PySem.F.entry_dict_eq ?_ (PySem.F.args_dict_eq_2 _ _)
 show wpAny _ _ (Builtin.Dict.dictSlotArgs "__eq__" _ >>= _) _ _ s
 unfold Builtin.Dict.dictSlotArgs
 refine wpAny_bind (wpAny_bind (wpAny_notOrdered_dict T1 ?_))
 show wpAny _ _ (pure (Value.ref a,Value.ref b)) _ _ s
 refine wpAny_pure (wpAny_bind (wpAny_isInstance (T:= "dict") T2 PySem.F.sub_dict_dict ?_))
 rw[if_neg (by decide)]
 refine wpAny_bind (wpAny_pure (wpAny_bind (wpAny_pure (wpAny_bind (kX ha hb da db hl hit ?_)))))
 exact wpAny_pure ⟨_,rfl,fun x=>(by cases x),h⟩
theorem wQ {A:Around} {E:Value->Shared->Prop} {a b:Addr} {ka kb:List (Key × Value)} {Q:Value->Shared->Prop} (ha:(a == sysModules)=false) (hb:(b == sysModules)=false)
  (da:s.heap.DictOf (aG X.prog X.w) a ka) (db:s.heap.DictOf (aG X.prog X.w) b kb) (hu:A.units < cLine) (hl:ka.length=kb.length) (hit:∀ (i:Nat) (k:Key) (v:Value),ka[i]?=some (k,v)->∃y,valueAt kb k=some y/\C2 X A.in1 s v y) (h:Q (.bool false) s):
  wpAny (model X.prog X.w) A (richCompare .NotEq (.ref a) (.ref b)) Q E s:=by
 have T1:=da.typeIs
 have T2:=db.typeIs
 refine wpAny_richCompare_same_room (op:=.NotEq) T1 T2 PySem.F.slot_dict_ne ?_ hu
 refine wpAny_call_entry PySem.F.slot_dict_ne T1 PySem.F.entry_dict_ne ?_ (PySem.F.args_dict_ne_2 _ _)
 show wpAny _ _ (Builtin.Dict.dictSlotArgs "__ne__" _ >>= _) _ _ s
 unfold Builtin.Dict.dictSlotArgs
 refine wpAny_bind (wpAny_bind (wpAny_notOrdered_dict T1 ?_))
 show wpAny _ _ (pure (Value.ref a,Value.ref b)) _ _ s
 refine wpAny_pure (wpAny_bind (wpAny_isInstance (T:= "dict") T2 PySem.F.sub_dict_dict ?_))
 rw[if_neg (by decide)]
 refine wpAny_bind (wpAny_pure (wpAny_bind (wpAny_pure (wpAny_bind (kX ha hb da db hl hit ?_)))))
 exact wpAny_pure ⟨_,rfl,fun x=>(by cases x),h⟩
theorem sN {n:Nat} {A:Around} (ih:∀ (x y:V) (v u:Value),RelV x v->RelV y u->fO M H n x y=true->C2 X A s v u) {a b:List (Key × V)} {as bs:List (Key × Value)} (ra:KV a as) (rb:KV b bs)
  (h:(a.all fun e=>match dz b e.1 with | some u=>fO M H n e.2 u | none=>false)=true):∀ (i:Nat) (k:Key) (v:Value),as[i]?=some (k,v)->∃y,valueAt bs k=some y/\C2 X A s v y:=by
 intro i k v e
 have hi:i < a.length:=by
  have:=(List.getElem?_eq_some_iff.mp e).1
  rw[ra.length];exact this
 obtain⟨u,hu,ru⟩:=KV.get ra (List.getElem?_eq_getElem hi)
 rw[e]at hu
 cases hu
 have z:=List.all_eq_true.mp h a[i] (List.getElem_mem hi)
 split at z
 ·rename_i y ey
  obtain⟨w',hw,rw'⟩:=ke.some_of (v:=y) (o:=valueAt bs a[i].1) (by rw[<-ey];exact rb.val _)
  exact⟨w',hw,ih _ _ _ _ ru rw' z⟩
 ·cases z
theorem m7 (m:aJ X.K M) (I:Inv X pins σ H s) {n:Nat} {x y:V} {v u:Value} (rx:RelV x v) (ry:RelV y u) (dx:(qg M H x).isSome=true) (dy:(qg M H y).isSome=true) (h:fO M H (n + 1) x y=true):
  ∃p q a b as bs,v=.ref p/\u=.ref q/\p ≠ q/\(p == sysModules)=false/\(q == sysModules)=false/\KV a as/\KV b bs/\s.heap.DictOf (aG X.prog X.w) p as/\s.heap.DictOf (aG X.prog X.w) q bs/\as.length=bs.length/\
   (a.all fun e=>match dz b e.1 with | some u=>fO M H n e.2 u | none=>false)=true:=by
 obtain⟨a,ea⟩:=Option.isSome_iff_exists.mp dx
 obtain⟨b,eb⟩:=Option.isSome_iff_exists.mp dy
 obtain⟨p,rfl,e1⟩:=tq m ea
 obtain⟨q,rfl,e2⟩:=tq m eb
 cases (show v=Value.ref p from rx)
 cases (show u=Value.ref q from ry)
 have h':(decide (V.ref p ≠ V.ref q) && (decide (a.length=b.length) && a.all fun e=>match dz b e.1 with | some u=>fO M H n e.2 u | none=>false))=true:=by
  unfold fO at h
  rw[ea,eb]at h
  exact h
 obtain⟨h1,h2⟩:=a2 h'
 obtain⟨h2,h3⟩:=a2 h2
 obtain⟨_,hd1,vs,rel1,dd1⟩:=sW I.aW e1
 obtain⟨_,hd2,us,rel2,dd2⟩:=sW I.aW e2
 exact⟨p,q,a,b,vs,us,rfl,rfl,fun z=>of_decide_eq_true h1 (by rw[z]),hd1,hd2,rel1,rel2,dd1,dd2,by rw[<-rel1.length,<-rel2.length];exact of_decide_eq_true h2,h3⟩
theorem z8 (m:aJ X.K M) (I:Inv X pins σ H s):∀ (n:Nat) (A:Around) (x y:V) (v u:Value),A.units + n < cLine->RelV x v->RelV y u->fO M H n x y=true->C2 X A s v u:=by
 intro n
 induction n with
 | zero=>intro A x y v u _ _ _ h;cases h
 | succ n ih=>
  intro A x y v u hu rx ry h
  cases dx:qg M H x with
  | some a=>
   cases dy:qg M H y with
   | some b=>
    obtain⟨p,q,a,b,as,bs,rfl,rfl,hne,h1,h2,ra,rb,da,db,hl,hh⟩:=m7 m I rx ry (by rw[dx];rfl) (by rw[dy];rfl) h
    intro E Q hq
    unfold eqBool
    refine wpAny_holding ?_
    rw[if_neg (by intro z;have:=eq_of_beq z;injection this;contradiction)]
    exact wpAny_bind (xM h1 h2 da db (by omega) hl (sN (fun x y v u=>ih A.in1 x y v u (by show A.units + 1 + n < cLine;omega)) ra rb hh) (wpAny_truthy_bool hq))
   | none=>unfold fO at h;rw[dx,dy]at h;cases h
  | none=>
   cases dy:qg M H y with
   | some b=>unfold fO at h;rw[dx,dy]at h;cases h
   | none=>
    unfold fO at h
    rw[dx,dy]at h
    dsimp only at h
    split at h
    ·rename_i d e h1 h2
     have z:=m5 m I 0 A x y v u d e (by omega) rx ry h1 h2
     rw[h]at z
     exact fun E Q hq=>z X.prog X.w E Q hq
    ·cases h
theorem tD (hu:X.A.units + 64 < cLine) (m:aJ X.K M) (op:CmpOp):iN X (compareOp op) (xZ M op):=by
 intro pins s σ H x y v u Q I rx ry h
 cases op with
 | NotEq=>
  obtain⟨dx,dy,hd,q⟩:=(show(qg M H x).isSome=true/\(qg M H y).isSome=true/\fO M H 4 x y=true/\Q (.bl false) H from h)
  obtain⟨p,r,a,b,as,bs,rfl,rfl,hne,h1,h2,ra,rb,da,db,hl,hh⟩:=m7 m I rx ry dx dy hd
  exact wQ h1 h2 da db (by omega) hl (sN (fun x y v u=>z8 m I 3 X.A.in1 x y v u (by show X.A.units + 1 + 3 < cLine;omega)) ra rb hh) ⟨.bl false,H,I,rfl,q⟩
 | _=>exact h.elim
end
end Sw
namespace Sw
open PySem PySem.Spec PyProof.Rows L2
open PySem.W (Frag keepIn ktsIn mroIn kitOne)
theorem Gh (m:Mf):PlainAttrs (Fo m)/\Slot (Fo m) m.name (B0 m)/\typeOf (.builtin (B0 m))=pure (.type "method_descriptor"):=by
 cases m
 ·exact⟨F.plainAttrs_str,F.slot_str_startswith,F.type_str_startswith⟩
 ·exact⟨F.plainAttrs_str,F.slot_str_split,F.type_str_split⟩
 ·exact⟨F.plainAttrs_str,F.slot_str_join,F.type_str_join⟩
 ·exact⟨F.plainAttrs_list,F.slot_list_append,F.type_list_append⟩
 ·exact⟨F.plainAttrs_dict,F.slot_dict_clear,F.type_dict_clear⟩
theorem fm {o:Expr} {m:Str} {env:Env} {t:Sem Value} (h:fg o=true):attributeBase o m env t=t:=by
 cases o with
 | Call f args kws pos=>
  cases f with
  | Name x p=>
   cases args with
   | nil=>
    cases kws with
    | nil=>cases h
    | cons _ _=>rfl
   | cons _ _=>rfl
  | _=>rfl
 | _=>rfl
section
variable {X:Cx}
theorem zg {M:Mo} (mo:aJ X.K M) {m:Mf} {o:Expr} {apos cpos:Pos} {to:TE} (ho:PE X o to) (hn:fg o=true) (hl:(apos.endLine == cpos.line)=true):
  PE X (.Call (.Attribute o m.name apos) [] [] cpos) (fun σ H Q=>to σ H fun x H1=>AA M m x H1=true/\f_ M m x [] H1 Q):=by
 obtain⟨pa,slot,hty⟩:=Gh m
 intro pins s σ H Q I h
 refine wpAny_Call_method0_late (fm hn) hl (bV (ho pins s σ H _ I h) fun v s1 ⟨x,H1,I1,r1,ty,q1⟩=>?_)
 obtain⟨h1,h2⟩:=qB I1 r1 (wV mo ty)
 exact⟨_,_,pa,slot,hty,h1,h2,Calls.callWith_builtin rfl (PySem.evalArgs_none (wW mo m pins s1 σ H1 x [] v [] Q I1 r1 .nil q1))⟩
theorem Bx {M:Mo} (mo:aJ X.K M) {m:Mf} {o e:Expr} {es:List Expr} {apos cpos:Pos} {to:TE} {t:TA} (ho:PE X o to) (ha:PA X (e::es) t) (hp:∀e' ∈ e::es,bK e'=true) (hn:fg o=true) (hl:(apos.endLine == cpos.line)=true) (hf:(e::es).length < 20):
  PE X (.Call (.Attribute o m.name apos) (e::es) [] cpos) (fun σ H Q=>to σ H fun x H1=>AA M m x H1=true/\t σ H1 fun vs H2=>f_ M m x vs H2 Q):=by
 obtain⟨pa,slot,hty⟩:=Gh m
 have hfew:((backTo cpos (starEach (e::es) X.env)).all (fun x=>!x.1) && (backToKw cpos (keywordEach [] X.env)).all (fun x=>x.1.isSome)
   && decide ((e::es).length + ([]:List Keyword).length + (if([]:List Keyword).isEmpty then 0 else 1) < 30))=true:=by
  rw[plain_all hp]
  simp only[Bool.true_and]
  rw[Bool.and_eq_true]
  refine⟨rfl,decide_eq_true ?_⟩
  simp at hf ⊢
  omega
 intro pins s σ H Q I h
 refine wpAny_Call_method_late (fm hn) hfew hl rfl (bV (ho pins s σ H _ I h) fun v s1 ⟨x,H1,I1,r1,ty,q1⟩=>?_)
 obtain⟨h1,h2⟩:=qB I1 r1 (wV mo ty)
 refine⟨_,_,pa,slot,hty,h1,h2,?_⟩
 have hA:=ha cpos pins s1 σ H1 _ I1 q1
 have hs:=bF (env:=X.env) (es:=es) (hp e List.mem_cons_self)
 rw[hs]at hA ⊢
 refine Calls.callWith_builtin (by show(false || (backTo cpos (starEach es X.env)).any (·.1))=false;rw[plain_any fun e he=>hp e (List.mem_cons_of_mem _ he)];rfl) (Calls.evalArgs_plain ?_)
 exact bV hA fun us s2 ⟨vs,H2,I2,r2,q2⟩=>wW mo m pins s2 σ H2 x vs v us Q I2 r1 r2 q2
end
section
variable (Γ:bf) (k:Nat)
theorem j4 {o1 o2:CmpOp} {b c:Expr} (h:bK c=true):lastMarks [o1,o2] [b,c]=false:=by
 show behindInMarks o2 c=false
 cases c<;>first | rfl | cases h
theorem g8 {op:CmpOp} {b:Expr} (h:bK b=true):behindInMarks op b=false:=by
 cases b<;>first | rfl | cases h
theorem wz {X:Cx} {Γ:bf} {sc:Scope} {k:Nat} {Ξ:XS} {f:Str} {es:List Expr} {t:TA} {p pos:Pos} (C:Ctx X Γ sc k) (xo:eE X Ξ) (hg:Gl X f) (ho:bH f=true) (ha:PA X es t) (hp:∀e ∈ es,bK e=true) (h0:es=[]->t=fun _ H Q=>Q [] H):
  PE X (.Call (.Name f p) es [] pos) (fun σ H Q=>(Γ.cm=true/\Γ.has f=true)/\t σ H fun vs H1=>Γ.fn f vs H1 Q fun C d H'=>Ξ C d σ H'):=by
 intro pins s σ H Q I ⟨⟨hc,hh⟩,h⟩
 obtain⟨fa,fd,ps,hm,hk,F,hb⟩:=C.g.fn f hh
 refine wpAny_Call_Name_kw (i9 I hg hm ?_ (de ho).1)
 cases es with
 | nil=>
  rw[h0 rfl]at h
  exact PySem.W.callWith_K0 I.jF hk (sf (us:=[]) F ((C.room hc).mono (Nat.le_succ _)) hb xo I .nil h)
 | cons e es=>
  refine PySem.W.callWith_K (h₀:=X.base) I.ok.mod.uL hk (bV (ha pos pins s σ H _ I h) fun us s1 ⟨vs,H1,I1,r,q⟩=>⟨I1.jF,?_⟩) (bF (hp e List.mem_cons_self)) (plain_any fun e he=>hp e (List.mem_cons_of_mem _ he))
  exact sf F ((C.room hc).mono (Nat.le_succ _)) hb xo I1 r q
theorem zp {X:Cx} {M:Mo} {e:Expr} {es:List Expr} {t:TA} {p pos:Pos} {x:Str} (hc:X.calm=true) (mo:aJ X.K M) (f:Bf) (hx:f.name=x) (hg:Gl X x) (hm:X.mg x=none) (ho:bH x=true) (ha:PA X (e::es) t) (hp:∀e' ∈ e::es,bK e'=true):
  PE X (.Call (.Name x p) (e::es) [] pos) (Fe (eQ M f) t):=by
 subst hx
 have hb:=CF hc mo f
 have hv:=Ac f
 have he:=bF (env:=X.env) (es:=es) (hp e List.mem_cons_self)
 have hpl:=plain_any (env:=X.env) (pos:=pos) (es:=es) fun e he=>hp e (List.mem_cons_of_mem _ he)
 obtain⟨o1,o2,o3⟩:=de ho
 cases f with
 | str=>exact g4 hb hg hm hv ha o3 o1 he hpl
 | int=>exact g4 hb hg hm hv ha o3 o1 he hpl
 | list=>exact g4 hb hg hm hv ha o3 o1 he hpl
 | dlist=>exact g4 hb hg hm hv ha o3 o1 he hpl
 | _=>exact wA hb hg hm hv ha o3 o1 he hpl
theorem k_ {b:Expr} (h:bK b=true):oM b:=by
 intro o i
 cases b<;>first | rfl | cases h
theorem eA {e:Expr} {env:Env} (h:bK e=true) (v:Value):foldedSetIterable e env v=pure v:=by
 cases e<;>first | rfl | cases h
theorem wq {X:Cx} {M:Mo} {sc cu:Scope} {elt iter:Expr} {ifs:List Expr} {x:Str} {px pos:Pos} {fv:List (Str × Nat)} {tt:TT} {wi:L2.St->Hp->(List V->(Hp->Prop)->Hp->Prop)->Prop} {Ξ:XS} {Γ:bf} {el:Ex} (mo:aJ X.K M) (hc:X.calm=true) (top:nA X) (xo:eE X Ξ)
  (hcf:∀y,(sc.names.lookup y=some .cell\/sc.names.lookup y=some .free)->X.env.kindOf y=some .cell\/X.env.kindOf y=some .free)
  (ok:fk sc cu X.N [x] fv=true) (hi:PI X (.Name x px) iter (uS wi))
  (he:∀σ X',cY X X' cu (x::fv.map (·.1))->eE X' (fun C d _ H'=>Ξ C d σ H')->PE X' elt (wE Γ el fun C d _ H'=>Ξ C d σ H')) (ht:∀X',cY X X' cu (x::fv.map (·.1))->yu X' ifs tt)
  (hs:∀v,foldedSetIterable iter X.env v=pure v):
  PE X (.ListComp elt [⟨.Name x px,iter,ifs,0⟩] cu pos) (fun σ H Q=>wi σ H fun xs aC H1=>∀D,H1 D=none->M D=none->cV (wE Γ el fun C d _ H'=>Ξ C d σ H') tt (vars σ fv) D aC xs [] (upd H1 D (.lst [])) fun H'=>Q (.ref D) H'):=
 zm (te:=fun σ=>wE Γ el fun C d _ H'=>Ξ C d σ H') mo hc top xo hcf ok hi he ht hs
theorem boot_list:bootBuiltins ("list" :Str)=some (.type "list"):=by kernel_rfl
theorem boot_reversed:bootBuiltins ("reversed" :Str)=some (.type "reversed"):=by kernel_rfl
theorem u6:bootBuiltins ("enumerate" :Str)=some (.type "enumerate"):=by kernel_rfl
theorem zi {X:Cx} {M:Mo} {e:Expr} {te:TE} {p p2 pos pos2:Pos} (hc:X.calm=true) (mo:aJ X.K M) (g1:Gl X "list") (m1:X.mg "list" =none) (g2:Gl X "reversed") (m2:X.mg "reversed" =none) (ha:PE X e te) (hp:bK e=true):
  PE X (.Call (.Name "list" p) [.Call (.Name "reversed" p2) [e] [] pos2] [] pos) (fun σ H Q=>te σ H fun x H1=>pU M x H1 Q):=by
 intro pins s σ H Q I h
 have hs:=bF (env:=X.env) (es:=[]) hp
 refine wpAny_Call_Name_kw (gh I g1 m1 boot_list ?_)
 refine PyProof.Rows.callWith_type1 ?_ rfl rfl
 refine Calls.spliced_cons (wpAny_Call_Name_kw (gh I g2 m2 boot_reversed ?_))
 refine PyProof.Rows.callWith_type1 ?_ hs rfl
 rw[hs]
 refine Calls.spliced_cons (bV (ha pins s σ H _ I h) fun u s1 ⟨x,H1,I1,r1,q1⟩=>Calls.spliced_nil ?_)
 exact bV (zH mo hc I1 r1 q1) fun v s2 z=>Calls.spliced_nil z
noncomputable def Gd (M:Mo) (ta:TE):TI:=fun σ H R=>∃Q0:V->Hp->Prop,ta σ H Q0/\∀x H2,Q0 x H2->∃p xs,x=.ref p/\rd M H2 p=some (.lst xs)/\R (EI M p xs) H2
theorem y_ {X:Cx} {M:Mo} {a:Expr} {ta:TE} {ts:List Expr} {kt} {pt p pos:Pos} (mo:aJ X.K M) (hg:Gl X "enumerate") (hm:X.mg "enumerate" =none) (ha:PE X a ta) (hp:bK a=true):
  PI X (.Tuple ts kt pt) (.Call (.Name "enumerate" p) [a] [] pos) (Gd M ta):=by
 intro pins s σ H R I ⟨Q0,hw,hq⟩
 have hs:=bF (env:=X.env) (es:=[]) hp
 refine Call_ (gh I hg hm u6 (PyProof.Rows.callWith_type1 ?_ hs rfl))
 rw[hs]
 refine Calls.spliced_cons (bV (ha pins s σ H _ I hw) fun v s2 ⟨x,H2,I2,r1,q2⟩=>Calls.spliced_nil ?_)
 obtain⟨p1,xs,rfl,e1,hR⟩:=hq x H2 q2
 cases (show v=Value.ref p1 from r1)
 obtain⟨us,_,l1,_⟩:=I2.list (bW mo e1)
 have lt1:@LT.lt Nat _ p1 s2.heap.objs.size:=by obtain⟨o,e,_⟩:=id l1.isList;exact Heap.lt_size e
 refine call_enumerate_list l1.isList fun h' he h1 hsz k=>?_
 refine wpAny_pyIter_enum (s:={s2 with heap:=h'}) he ⟨_,_,_,_,H2,rfl,I2.kept (t':=s2.toks) k,tR mo (Zl.nd (by omega)) (Zl.nd (by omega)) (Zl.nd (by omega)),⟨⟨_,he⟩,h1⟩,fun b hb=>?_,hR⟩
 have ge:s2.heap.objs.size<=b:=by
  simp only[List.mem_cons,List.not_mem_nil,or_false]at hb
  rcases hb with rfl | rfl<;>first | exact Nat.le_refl _ | exact Nat.le_add_right _ _
 exact I2.p_ ge (I2.aW.fresh ge)
section
variable {X:Cx} {M:Mo} {sc cu:Scope} {elt a:Expr} {ifs:List Expr} {xs:List Str} {ts:List Expr} {kt:Nat} {pt p p2 pos:Pos} {fv:List (Str × Nat)} {ta:TE} {tt:TT} {te:L2.St->TE} {Ξ:XS}
end
theorem yV {X:Cx}:yu X [] (fun _ H Q=>Q true H):=fun pins s σ H Q I q=>by
 show wpAny _ _ (pure true) _ _ _
 exact wpAny_pure ⟨H,I,q⟩
theorem yU {X:Cx} {c:Expr} {t:TT} (h:PT X c t):yu X [c] t:=fun pins s σ H Q I q=>by
 show wpAny _ _ (forIn [c] true fun c r=>if r=true then do let ok<-isTrue c X.env (eval c X.env);pure (ForInStep.yield ok)else pure (ForInStep.yield r)) _ _ _
 rw[List.forIn_cons]
 simp only[if_true,List.forIn_nil]
 refine wpAny_bind (wpAny_bind (bV (h pins s σ H Q I q) fun b s1 z=>wpAny_pure ?_))
 exact wpAny_pure z
theorem Bs {X:Cx} {e:Expr} {te:TE} (h:PE X e te):PO X (some e) (fun σ H Q=>te σ H fun x H1=>match x with | .int i=>Q (some i) H1 | _=>False):=by
 intro pins s σ H Q I hw
 rw[evalPart_some]
 refine bV (h pins s σ H _ I hw) fun u s1 ⟨x,H1,I1,r1,q1⟩=>?_
 cases x with
 | int i=>
  obtain⟨t,e⟩:=(show ∃t,u=Value.int i t from r1)
  subst e
  exact⟨some i,H1,I1,.int i t,q1⟩
 | _=>exact q1.elim
theorem y9 {X:Cx} {tg a:Expr} {ta:TE} {p pos:Pos} (hg:Gl X "range") (hm:X.mg "range" =none) (ha:PE X a ta) (hp:bK a=true):
  PI X tg (.Call (.Name "range" p) [a] [] pos) (uS fun σ H k=>ta σ H fun x H1=>match x with | .int j=>-(2 ^ 62)<=j/\j < 2 ^ 62/\k ((List.range j.toNat).map fun i:Nat=>.int i) (fun _=>True) H1 | _=>False):=by
 intro pins s σ H R I ⟨kk,hw,hk⟩
 have hs:=bF (env:=X.env) (es:=[]) hp
 refine Call_ (gh I hg hm boot_range (PyProof.Rows.callWith_type1 ?_ hs rfl))
 rw[hs]
 refine Calls.spliced_cons (bV (ha pins s σ H _ I hw) fun v s1 ⟨x,H1,I1,r1,q1⟩=>Calls.spliced_nil ?_)
 cases x with
 | int j=>
  obtain⟨t,e⟩:=(show ∃t,v=Value.int j t from r1)
  subst e
  obtain⟨q1,q2,q⟩:=q1
  refine call_range_1 (vN I1 (by omega) (by omega) q1 q2 ?_)
  have hq:=t9 0 j.toNat
  simp only[Int.zero_add]at hq
  rw[Int.sub_zero]
  exact hk _ _ _ _ hq q
 | _=>exact q1.elim
theorem pY {x:V} {k:Key} (h:keyOf x=some k):x=kV k:=by
 cases x<;>first | (cases h;rfl) | cases h
theorem zd {X:Cx} {M:Mo} (mo:aJ X.K M) {es:List Expr} {t:TA} {x1} {pos:Pos} (h:PA X es t):PE X (.Tuple es x1 pos) (fun σ H Q=>t σ H fun xs H1=>xs.length<=sizeLine/\∀p,H1 p=none->M p=none->Q (.ref p) (upd H1 p (.tup xs))):=by
 intro pins s σ H Q I hq
 refine wpAny_Tuple_spliced (bV (h pos pins s σ H _ I hq) fun us s1 ⟨xs,H1,I1,r,z,q⟩=>⟨by rw[<-r.length];exact z,?_⟩)
 have hf:H1 s1.heap.objs.size=none:=I1.aW.fresh (Nat.le_refl _)
 have I2:Inv X pins σ (upd H1 s1.heap.objs.size (.tup xs)) {s1 with heap:=s1.heap.push {cls:=.type "tuple",data:=.seq us.toArray}}:=I1.laid (t':=s1.toks) (fun b u e=>Heap.get?_push_of_some _ e) (Nat.le_refl _) ⟨z,us,r,⟨_,Heap.get?_push_size _ rfl,rfl,_,rfl⟩⟩
 exact⟨.ref s1.heap.objs.size,_,I2,rfl,q _ hf (cz.new (Inv.mj mo I2))⟩
theorem zh {X:Cx} {M:Mo} (mo:aJ X.K M) {es:List Expr} {t:TA} {pos:Pos} (h:PA X es t):PE X (.List es pos) (fun σ H Q=>t σ H fun xs H1=>xs.length<=sizeLine/\∀p,H1 p=none->M p=none->Q (.ref p) (upd H1 p (.lst xs))):=by
 intro pins s σ H Q I hq
 refine wpAny_List_spliced (bV (h pos pins s σ H _ I hq) fun us s1 ⟨xs,H1,I1,r,z,q⟩=>⟨by rw[<-r.length];exact z,?_⟩)
 have hf:H1 s1.heap.objs.size=none:=I1.aW.fresh (Nat.le_refl _)
 have I2:Inv X pins σ (upd H1 s1.heap.objs.size (.lst xs)) {s1 with heap:=s1.heap.push {cls:=.type "list",data:=.seq us.toArray}}:=I1.laid (t':=s1.toks) (fun b u e=>Heap.get?_push_of_some _ e) (Nat.le_refl _) ⟨z,us,0,r,Heap.get?_push_size _ rfl⟩
 exact⟨.ref s1.heap.objs.size,_,I2,rfl,q _ hf (cz.new (Inv.mj mo I2))⟩
theorem ou {X:Cx} {Γ:bf} {sc:Scope} {k:Nat} {pins:List (Addr × Obj)} {s:Shared} {σ:L2.St} {H:Hp} {x:V} {v:Value} {T:Ty} {n:String} {Q:VK} (C:Ctx X Γ sc k) (I:Inv X pins σ H s) (rx:RelV x v) (ht:E6 T=some n)
  (q:known Γ.mod H x=true/\Q (.bl (my T H x)) H):∃u,oW X.mg T.name u/\wpAny (model X.prog X.w) X.A (call (.builtin "isinstance") [v,u]) (EP X pins σ Q) X.xe s:=by
 obtain⟨b1,b2⟩:=Ab ht
 obtain⟨t,ty,kt⟩:=Cc (K:=X.K) q.1 ht
 exact⟨_,.inr ⟨C.g.no _ b2,b1⟩,uP I rx ty kt fun tk=>⟨.bl _,H,I.tok _,rfl,q.2⟩⟩
theorem zl {X:Cx} {v:V} {n:Nat} {p:Pos} (h:Gj v=true):PE X (.Constant (Gk v) n p) (fun _ H Q=>Q v H):=by
 cases v
 case int i=>exact BA
 case str x=>exact Bv
 case bl b=>exact Dq
 case non=>exact Bw
 all_goals cases h
theorem wk {X:Cx} {Γ:bf} {sc:Scope} {k:Nat} {x:Str} {p:Pos} (C:Ctx X Γ sc k) (hg:ef sc x=true) (ho:bH x=true):
  PE X (.Name x p) (fun _ H Q=>match Γ.con x with | some v=>Q v H | none=>False):=by
 intro pins s σ H Q I q
 cases e:Γ.con x with
 | none=>rw[e]at q;exact q.elim
 | some v=>
  rw[e]at q
  obtain⟨u,hu,ru⟩:=C.g.con _ _ e
  exact i9 I (C.gl _ hg) hu ⟨v,H,I,ru,q⟩ (de ho).1
theorem zc {X:Cx} {Γ:bf} {sc:Scope} {k:Nat} {i:Nat} {p:Pos} (C:Ctx X Γ sc k) (hi:decide (i < X.N.length)=true) (h:j2 sc (nx X.N i)=true/\bH (nx X.N i)=true):
  PE X (.Name (nx X.N i) p) (fun σ H Q=>match σ[i]? with | some (some v)=>Q v H | _=>False):=by
 obtain⟨o1,o2,o3⟩:=de h.2
 refine PE.of (v_ (eO hi) (C.Ge _ h.1) o1 o2) fun σ H Q q=>?_
 match e:σ[i]?,q with
 | some (some v),q=>exact⟨v,e,q⟩
theorem wg {X:Cx} {Γ:bf} {sc:Scope} {k:Nat} {a:Expr} {ta:TE} {T:Ty} {p py pos:Pos} (C:Ctx X Γ sc k) (hg:Gl X "isinstance") (ha:PE X a ta) (hp:bK a=true) (hy:Gl X T.name) (ho:bH T.name=true):
  PE X (.Call (.Name "isinstance" p) [a,.Name T.name py] [] pos) (fun σ H Q=>ta σ H fun x H1=>match(generalizing:=false) T with
   | .own _=>False
   | T=>known Γ.mod H1 x=true/\Q (.bl (my T H1 x)) H1):=by
 refine zj C hg ha hp hy ho fun pins s σ H x v Q I rx q=>?_
 cases T with
 | own c=>exact q.elim
 | int=>exact ou (T:=.int) (n:= "int") C I rx rfl q
 | bool=>exact ou (T:=.bool) (n:= "bool") C I rx rfl q
 | dict=>exact ou (T:=.dict) (n:= "dict") C I rx rfl q
theorem Bd {X:Cx} {pins:List (Addr × Obj)} {σ:L2.St} {H:Hp} {s:Shared} {Q:VK} {us:List Value} {vs:List V} {k:Nat} {f:Addr} {vc:Addr->Sp} {Ξ:XS} (F:cQ X.prog X.w X.K X.mg X.base k vc) (hr:eS k X.A) (xo:eE X Ξ)
  (I:Inv X pins σ H s) (r:Vals vs us) (h:vc f vs H Q fun C d H'=>Ξ C d σ H'):wpAny (model X.prog X.w) X.A (call (.ref f) us) (EP X pins σ Q) X.xe s:=by
 refine wpAny_call (codeAny_mono (F.run X.A X.stack s H f us vs Q (fun C d H'=>Ξ C d σ H') hr I.iD r h) fun r s' hq=>?_)
 cases r with
 | error e=>
  exact False.elim hq
 | ok fl=>
  cases fl with
  | ret u=>exact I.after hq
  | next=>exact False.elim hq
  | brk=>exact False.elim hq
  | cont=>exact False.elim hq
theorem wx {X:Cx} {Γ:bf} {sc:Scope} {k:Nat} {Ξ:XS} {f:Ex} {ast:Expr} {es:List Expr} {tf:TE} {t:TA} {pos:Pos} (C:Ctx X Γ sc k) (xo:eE X Ξ) (hf:DQ f=true) (hF:PE X (bE X.N f ast) tf) (ha:PA X es t) (hp:∀e ∈ es,bK e=true) (h0:es.length ≠ 0):
  PE X (.Call (bE X.N f ast) es [] pos) (fun σ H Q=>Γ.cm=true/\tf σ H fun x H1=>match x with
   | .ref a=>t σ H1 fun vs H2=>Γ.vc a vs H2 Q fun C d H'=>Ξ C d σ H'
   | _=>False):=by
 intro pins s σ H Q I ⟨hc,h⟩
 have key:wpAny (model X.prog X.w) X.A (eval (bE X.N f ast) X.env) (fun v s₁=>wpAny (model X.prog X.w) X.A (callWith pos v [] (backTo pos (starEach es X.env)) []) (EP X pins σ Q) X.xe s₁) X.xe s:=by
  refine bV (hF pins s σ H _ I h) fun v s1 ⟨x,H1,I1,r1,q1⟩=>?_
  cases x with
  | ref a=>
   obtain rfl:v=Value.ref a:=r1
   cases es with
   | nil=>exact absurd rfl h0
   | cons e es=>
    have hA:=ha pos pins s1 σ H1 _ I1 q1
    have hs:=bF (env:=X.env) (es:=es) (hp e List.mem_cons_self)
    rw[hs]at hA ⊢
    refine PySem.W.callWith_of (by show((false || (backTo pos (starEach es X.env)).any (·.1)) || false)=false;rw[plain_any fun e he=>hp e (List.mem_cons_of_mem _ he)];rfl) PySem.W.keeps_F (Calls.evalArgs_plain ?_)
    exact bV hA fun us s2 ⟨vs,H2,I2,r2,q2⟩=>⟨C.g.vc.xG _ _ _ _ _ _ I2.jF I2.aW q2,Bd C.g.vc ((C.room hc).mono (Nat.le_succ _)) xo I2 r2 q2⟩
  | _=>exact q1.elim
 cases f with
 | var i=>exact Call_ key
 | idx a b=>exact Call_ key
 | _=>cases hf
theorem oz {P:Program} {w:World} {h h':Heap} {a:Addr} {vs:List (Key × Value)} (d:h.DictOf (aG P w) a vs) (k:∀b o,h.get? b=some o->h'.get? b=some o):h'.DictOf (aG P w) a vs:=
 let ⟨o,es,ep,e,r⟩:=d;⟨o,es,ep,k _ _ e,r⟩
theorem zk {X:Cx} {Γ:bf} {sc:Scope} {k:Nat} {x:Str} {b:Expr} {tb:TE} {p pos:Pos} (C:Ctx X Γ sc k) (hg:ef sc x=true) (ho:bH x=true) (hb:PE X b tb) (hs:oM b):
  PE X (.Subscript (.Name x p) b pos) (fun σ H Q=>match Γ.gd x with
   | some kvs=>tb σ H fun y H1=>(match keyOf y with | some k=>(match dz kvs k with | some v=>Q v H1 | none=>False) | none=>False)
   | none=>False):=by
 intro pins s σ H Q I h
 cases e:Γ.gd x with
 | none=>rw[e]at h;exact h.elim
 | some kvs=>
  rw[e]at h
  obtain⟨a,vs,hm,kv,dd⟩:=C.g.gd x kvs e
  have ha:PE X (.Name x p) (fun _ H Q=>Q (.ref a) H):=fun pins s σ H Q I q=>i9 I (C.gl _ hg) hm ⟨.ref a,H,I,rfl,q⟩ (de ho).1
  refine Subscript_ (Ae (R:=fun x y H1=>x=.ref a/\(match keyOf y with | some k=>(match dz kvs k with | some v=>Q v H1 | none=>False) | none=>False)) ha hb I ?_ fun v u s2 x y H2 I2 rx ry q=>?_)
  ·exact(show tb σ H _ from by simpa using h)
  ·obtain⟨rfl,q⟩:=q
   obtain rfl:v=Value.ref a:=rx
   cases ek:keyOf y with
   | none=>rw[ek]at q;exact q.elim
   | some kk=>
    rw[ek]at q
    cases ev:dz kvs kk with
    | none=>simp only[ev]at q
    | some v=>
     simp only[ev]at q
     have d2:=oz dd I2.bk
     obtain⟨w',hw,rw'⟩:=ke.some_of (v:=v) (o:=valueAt vs kk) (by rw[<-ev];exact kv.val kk)
     refine tail_any d2.mapOf.typeIs PySem.F.slot_dict_getitem.lookup (wpAny_getItem_of (sG (by rw[<-pY ek];exact ry)) d2.mapOf hw ⟨v,H2,I2.tok _,rw',q⟩) (hs _ _)
theorem Ez {N:List Str} {b:Ex} {tl:List Expr} {p:Pos} (h:xr b=true):∃x r,bE N b (.BoolOp .And tl p)=.BoolOp .And (x::r) p:=by
 cases b<;>first | exact⟨_,_,rfl⟩ | cases h
theorem Fl {N:List Str} {b:Ex} {tl:List Expr} {p:Pos} (h:Co b=true):∃x r,bE N b (.BoolOp .Or tl p)=.BoolOp .Or (x::r) p:=by
 cases b<;>first | exact⟨_,_,rfl⟩ | cases h
theorem sh {N:List Str} {b:Ex} {a:Expr} {l:Bool} {e1:Expr} {tl:List Expr} {p:Pos} {o1 o2:Bool} {P:Expr->Prop} (h:cond l o1 (xr b && o2)=true)
  (h1:o1=true->P (.BoolOp .And [a,bE N b e1] p)) (h2:o2=true->∀x r,bE N b (.BoolOp .And tl p)=.BoolOp .And (x::r) p->P (.BoolOp .And (a::x::r) p)):
  P (.BoolOp .And (a::cond l [bE N b e1] (ek (bE N b (.BoolOp .And tl p)))) p):=by
 cases l with
 | true=>exact h1 h
 | false=>
  obtain⟨h,ho⟩:=a2 h
  obtain⟨x,r,e⟩:=Ez (N:=N) (tl:=tl) (p:=p) h
  rw[e]
  exact h2 ho x r e
theorem vJ {N:List Str} {b:Ex} {a:Expr} {l:Bool} {e1:Expr} {tl:List Expr} {p:Pos} {o1 o2:Bool} {P:Expr->Prop} (h:cond l o1 (Co b && o2)=true)
  (h1:o1=true->P (.BoolOp .Or [a,bE N b e1] p)) (h2:o2=true->∀x r,bE N b (.BoolOp .Or tl p)=.BoolOp .Or (x::r) p->P (.BoolOp .Or (a::x::r) p)):
  P (.BoolOp .Or (a::cond l [bE N b e1] (ek (bE N b (.BoolOp .Or tl p)))) p):=by
 cases l with
 | true=>exact h1 h
 | false=>
  obtain⟨h,ho⟩:=a2 h
  obtain⟨x,r,e⟩:=Fl (N:=N) (tl:=tl) (p:=p) h
  rw[e]
  exact h2 ho x r e
theorem zo {X:Cx} {Γ:bf} {sc:Scope} {k:Nat} {f:Bf} {es:List Expr} {t:TA} {p pos:Pos} (C:Ctx X Γ sc k) (hg:ef sc f.name=true) (ho:bH f.name=true) (h0:es.length ≠ 0) (ha:PA X es t) (hp:∀e' ∈ es,bK e'=true):
  PE X (.Call (.Name f.name p) es [] pos) (fun σ H Q=>Γ.cm=true/\t σ H fun vs H1=>eQ Γ.mod f vs H1 Q):=by
 intro pins s σ H Q I ⟨hc,q⟩
 cases es with
 | nil=>exact absurd rfl h0
 | cons e es=>exact zp (C.calm hc) C.g.mod f rfl (C.gl _ hg) (C.g.no _ (Ew f)) ho ha hp pins s σ H Q I q
theorem zf {X:Cx} {Γ:bf} {m:Mf} {o:Expr} {es:List Expr} {apos cpos:Pos} {to:TE} {t:TA} (mo:aJ X.K Γ.mod) (ho:PE X o to) (hn:fg o=true) (hl:(apos.endLine == cpos.line)=true) (hf:es.length < 20) (ha:PA X es t) (hp:∀e' ∈ es,bK e'=true) (h0:es=[]->t=fun _ H Q=>Q [] H):
  PE X (.Call (.Attribute o m.name apos) es [] cpos) (fun σ H Q=>to σ H fun x H1=>AA Γ.mod m x H1=true/\t σ H1 fun vs H2=>f_ Γ.mod m x vs H2 Q):=by
 cases es with
 | nil=>rw[h0 rfl];exact zg mo ho hn hl
 | cons e es=>exact Bx mo ho ha hp hn hl hf
theorem nil_of {N:List Str} {Γ:bf} {Ξ:XS} {es:List Expr}:∀ (args:km),mC N args es=[]->wEs Γ args Ξ=fun _ H Q=>Q [] H
 | .nil,_=>rfl
 | .cons _ _,h=>nomatch (show _::_=[]from h)
theorem wm {X:Cx} {M:Mo} (mo:aJ X.K M) {pos:Pos}:PE X (.Dict [] [] pos) (fun _ H Q=>∀p,H p=none->M p=none->Q (.ref p) (upd H p (.dK []))):=by
 intro pins s σ H Q I h
 exact bV (wo pins s σ H (fun v H'=>cz M H'->Q v H') I fun p hp of=>h p hp of.new) fun _ _=>lJ mo
theorem cN {P:List Str->Prop} {a b:List Str} (e:a=b) (h:P a):P b:=e ▸ h
theorem ir {X:Cx} {Γ:bf} {sc:Scope} {k:Nat} {e:Expr} {te:TE} {t:TT} (C:Ctx X Γ sc k) (h:PE X e te) (hl:∀whole,isTrue e X.env whole=(do let v<-whole;standAt e.pos;holding [v] (truthy v))) (i:∀σ H Q,t σ H Q->te σ H fun x H1=>eu Γ.mod x H1 fun k=>Q k H1):PT X e t:=
 PT.of (Bl C.g.mod h hl) i
mutual
theorem sE:(e:Ex)->∀ {X:Cx} {sc:Scope} {Ξ:XS} {ast:Expr},Ctx X Γ sc k->eE X Ξ->oE sc X.N e ast=true->PE X (bE X.N e ast) (wE Γ e Ξ)
 | .var i=>fun C xo h=>zc C (a2 h).1 (a2 (a2 h).2)
 | .con v=>fun C xo h=>zl h
 | .glob x=>fun C xo h=>wk C (a2 h).1 (a2 h).2
 | .bin op a b=>fun C xo h=>Dp (CG C.g.mod op) (sE a C xo (a2 h).1) (sE b C xo (a2 h).2)
 | .cmp op a b=>fun C xo h=>sx (jK C.un C.g.mod op) (sE a C xo (a2 h).1) (sE b C xo (a2 h).2) (g8 (bg b))
 | .cmp2 o1 o2 a b c=>fun C xo h=>wt (jK C.un C.g.mod o1) (jK C.un C.g.mod o2) (sE a C xo (a2 h).1) (sE b C xo (a2 (a2 h).2).1) (sE c C xo (a2 (a2 h).2).2) (j4 (bg c))
 | .and a b=>fun C xo h=>sh (P:=fun e=>PE _ e (wE Γ (.and a b) _)) (a2 h).2
   (fun h2=>sy C.g.mod (sE a C xo (a2 h).1) (wd (sE b C xo h2)))
   (fun h2 x r e=>sy C.g.mod (sE a C xo (a2 h).1) (e ▸ sE b C xo h2))
 | .or a b=>fun C xo h=>vJ (P:=fun e=>PE _ e (wE Γ (.or a b) _)) (a2 h).2
   (fun h2=>wc C.g.mod (sE a C xo (a2 h).1) (wd (sE b C xo h2)))
   (fun h2 x r e=>wc C.g.mod (sE a C xo (a2 h).1) (e ▸ sE b C xo h2))
 | .not a=>fun C xo h=>ze C.g.mod (sE a C xo h)
 | .ite c a b=>fun C xo h=>wj (sT c C xo (a2 h).1) (sE a C xo (a2 (a2 h).2).1) (sE b C xo (a2 (a2 h).2).2)
 | .call f args=>fun C xo h=>wz C xo (C.gl _ (a2 (a2 h).1).1) (a2 (a2 h).1).2 (Bc args C xo (a2 h).2) (eX args) (nil_of args)
 | .blt f args=>fun C xo h=>zo C (a2 (a2 h).1).1 (a2 (a2 h).1).2 (by rw[kJ];exact of_decide_eq_true (a2 (a2 (a2 h).2).1).2) (Bc args C xo (a2 (a2 h).2).2) (eX args)
 | .mth m o args=>fun C xo h=>zf C.g.mod (sE o C xo (a2 (a2 (a2 h).2).2).1) (a2 (a2 h).1).1 (a2 (a2 h).1).2 (by rw[kJ];exact of_decide_eq_true (a2 (a2 h).2).1) (Bc args C xo (a2 (a2 (a2 h).2).2).2) (eX args) (nil_of args)
 | .isin a T=>fun C xo h=>wg C (C.gl _ (a2 (a2 h).1).1) (sE a C xo (a2 h).2) (bg a) (C.gl _ (a2 (a2 (a2 h).1).2).1) (a2 (a2 (a2 h).1).2).2
 | .idx a b=>fun C xo h=>Az (Cr C.g.mod) (sE a C xo (a2 h).1) (sE b C xo (a2 h).2) (k_ (bg b))
 | .slc a lo hi=>fun C xo h=>wa (A4 C.g.mod) (sE a C xo (a2 h).1) (sP lo C xo (a2 (a2 h).2).1) (sP hi C xo (a2 (a2 h).2).2)
 | .tup es=>fun C xo h=>zd C.g.mod (Bc es C xo h)
 | .lst es=>fun C xo h=>zh C.g.mod (Bc es C xo h)
 | .comp x fv it elt ifs=>fun C xo h pins s σ H Q I q=>
  wq (Γ:=Γ) (el:=elt) C.g.mod (C.calm q.1) C.top xo C.cf (a2 (a2 h).1).1 (sI it C xo (a2 (a2 h).2).1)
   (fun σ X' c xc=>cN (P:=fun N=>PE X' (bE N elt _) _) c.N (sE elt (C.comp c q.1) xc (cN (P:=fun N=>oE _ N elt _=true) c.N.symm (a2 (a2 (a2 h).2).2).1)))
   (fun X' c=>cN (P:=fun N=>yu X' (mC N ifs _) _) c.N (Gg ifs (C.comp c q.1) eE.no (cN (P:=fun N=>pH _ N ifs _=true) c.N.symm (a2 (a2 (a2 h).2).2).2) (of_decide_eq_true (a2 (a2 h).1).2)))
   (eA (jl it)) pins s σ H Q I q.2
 | .callv f args=>fun C xo h=>wx C xo (a2 (a2 h).1).1 (sE f C xo (a2 (a2 h).2).1) (Bc args C xo (a2 (a2 h).2).2) (eX args) (by rw[kJ];exact of_decide_eq_true (a2 (a2 h).1).2)
 | .gidx x b=>fun C xo h=>zk C (a2 (a2 h).1).1 (a2 (a2 h).1).2 (sE b C xo (a2 h).2) (k_ (bg b))
 | .cmpD op a b=>fun C xo h=>sx (tD C.un C.g.mod op) (sE a C xo (a2 h).1) (sE b C xo (a2 h).2) (g8 (bg b))
 | .idxD a b=>fun C xo h=>Az (zP C.g.mod) (sE a C xo (a2 h).1) (sE b C xo (a2 h).2) (k_ (bg b))
 | .dnew=>fun C xo h=>wm C.g.mod
 | .lrev a=>fun C xo h pins s σ H Q I q=>zi (C.calm q.1) C.g.mod (C.gl _ (a2 (a2 h).1).1) (C.g.no _ (by decide +kernel)) (C.gl _ (a2 (a2 h).1).2) (C.g.no _ (by decide +kernel)) (sE a C xo (a2 h).2) (bg a) pins s σ H Q I q.2
theorem sT:(e:Ex)->∀ {X:Cx} {sc:Scope} {Ξ:XS} {ast:Expr},Ctx X Γ sc k->eE X Ξ->oE sc X.N e ast=true->PT X (bE X.N e ast) (wT Γ e Ξ)
 | .and a b=>fun C xo h=>sh (P:=fun e=>PT _ e (wT Γ (.and a b) _)) (a2 h).2
   (fun h2=>PW.pt (vP (sT a C xo (a2 h).1) (yT (sT b C xo h2))))
   (fun h2 x r e=>PW.pt (vP (sT a C xo (a2 h).1) fun _=>(show PT _ (.BoolOp .And (x::r) _) (wT Γ b _)from e ▸ sT b C xo h2)))
 | .or a b=>fun C xo h=>vJ (P:=fun e=>PT _ e (wT Γ (.or a b) _)) (a2 h).2
   (fun h2=>PW.pt (Ay (sT a C xo (a2 h).1) (Bk (sT b C xo h2))))
   (fun h2 x r e=>PW.pt (Ay (sT a C xo (a2 h).1) fun _=>(show PT _ (.BoolOp .Or (x::r) _) (wT Γ b _)from e ▸ sT b C xo h2)))
 | .not a=>fun C xo h=>Bm (sT a C xo h)
 | .ite c a b=>fun C xo h=>Bn (sT c C xo (a2 h).1) (sT a C xo (a2 (a2 h).2).1) (sT b C xo (a2 (a2 h).2).2)
 | .cmp op a b=>fun C xo h=>sj (jK C.un C.g.mod op) (sE a C xo (a2 h).1) (sE b C xo (a2 h).2) (g8 (bg b))
 | .cmp2 o1 o2 a b c=>fun C xo h=>vQ (jK C.un C.g.mod o1) (jK C.un C.g.mod o2) (sE a C xo (a2 h).1) (sE b C xo (a2 (a2 h).2).1) (sE c C xo (a2 (a2 h).2).2) (j4 (bg c))
 | .var i=>fun C xo h=>ir C (sE (.var i) C xo h) (fun _=>rfl) fun σ H Q q=>q
 | .call f args=>fun C xo h=>ir C (sE (.call f args) C xo h) (fun _=>rfl) fun σ H Q q=>q
 | .blt f args=>fun C xo h=>ir C (sE (.blt f args) C xo h) (fun _=>rfl) fun σ H Q q=>q
 | .mth m o args=>fun C xo h=>ir C (sE (.mth m o args) C xo h) (fun _=>rfl) fun σ H Q q=>q
 | .isin a T=>fun C xo h=>ir C (sE (.isin a T) C xo h) (fun _=>rfl) fun σ H Q q=>by cases T<;>exact q
 | .idx a b=>fun C xo h=>ir C (sE (.idx a b) C xo h) (fun _=>rfl) fun σ H Q q=>q
 | .con v=>fun C xo h=>ir C (sE (.con v) C xo h) (fun _=>rfl) fun σ H Q q=>q
 | .glob x=>fun C xo h=>PT.never fun σ H Q q=>q
 | .bin op a b=>fun C xo h=>PT.never fun σ H Q q=>q
 | .slc a lo hi=>fun C xo h=>PT.never fun σ H Q q=>q
 | .tup es=>fun C xo h=>PT.never fun σ H Q q=>q
 | .lst es=>fun C xo h=>PT.never fun σ H Q q=>q
 | .comp x fv it elt ifs=>fun C xo h=>PT.never fun σ H Q q=>q
 | .callv f args=>fun C xo h=>PT.never fun σ H Q q=>q
 | .gidx x b=>fun C xo h=>PT.never fun σ H Q q=>q
 | .cmpD op a b=>fun C xo h=>sj (tD C.un C.g.mod op) (sE a C xo (a2 h).1) (sE b C xo (a2 h).2) (g8 (bg b))
 | .idxD a b=>fun C xo h=>PT.never fun σ H Q q=>q
 | .dnew=>fun C xo h=>PT.never fun σ H Q q=>q
 | .lrev a=>fun C xo h=>PT.never fun σ H Q q=>q
theorem sP:(es:km)->∀ {X:Cx} {sc:Scope} {Ξ:XS} {ast:Expr},Ctx X Γ sc k->eE X Ξ->pH sc X.N es [ast]=true->PO X (mC X.N es [ast]).head? (wP Γ es Ξ)
 | .nil=>fun C xo h=>y8
 | .cons e .nil=>fun C xo h=>Bs (sE e C xo (a2 h).1)
 | .cons e (.cons f r)=>fun C xo h pins s σ H Q I q=>False.elim q
theorem Gg:(es:km)->∀ {X:Cx} {sc:Scope} {Ξ:XS} {asts:List Expr},Ctx X Γ sc k->eE X Ξ->pH sc X.N es asts=true->es.len<=1->yu X (mC X.N es asts) (wTs Γ es Ξ)
 | .nil=>fun C xo h hl=>yV
 | .cons e .nil=>fun C xo h hl=>yU (sT e C xo (a2 h).1)
 | .cons e (.cons _ r)=>fun C xo h hl=>absurd (Nat.le_of_succ_le_succ hl) (Nat.not_succ_le_zero _)
theorem sI:(it:Ix)->∀ {X:Cx} {sc:Scope} {Ξ:XS} {tg ast:Expr},Ctx X Γ sc k->eE X Ξ->oI sc X.N it ast=true->PI X tg (bI X.N it ast) (uS (wI Γ it Ξ))
 | .ex e=>fun C xo h pins s σ H R I ⟨kk,hw,hk⟩=>
  bV (sE e C xo h pins s σ H _ I hw) fun v s1 ⟨x,H1,I1,r1,q1⟩=>Bt C.g.mod I1 r1 (rm q1 fun xs aC q J sq=>hk J xs aC H1 sq q)
 | .rng1 a=>fun C xo h=>y9 (C.gl _ (a2 h).1) (C.g.no _ xu) (sE a C xo (a2 h).2) (bg a)
theorem Bc:(es:km)->∀ {X:Cx} {sc:Scope} {Ξ:XS} {asts:List Expr},Ctx X Γ sc k->eE X Ξ->pH sc X.N es asts=true->PA X (mC X.N es asts) (wEs Γ es Ξ)
 | .nil=>fun C xo h=>BB
 | .cons e r=>fun C xo h=>zq (sE e C xo (a2 h).1) (Bc r C xo (a2 h).2) (bF (bg e))
end
end
end Sw
namespace Sw
open PySem PySem.Spec PyProof.Rows L2
open PySem.W (Frag keepIn ktsIn mroIn kitOne tabObj CodeHd codeHdIn codeHd_of_K kla_fn kla_obj kla_eval kla_makeFunction kla_makeFunctionHit)
theorem dB {H:Hp} {c:Addr}:era H c c=none:=if_pos rfl
theorem aI {H:Hp} {b c:Addr} (h:b ≠ c):era H c b=H b:=if_neg h
theorem bJ {H:Hp} {b c:Addr} (h:H b=none):era H c b=none:=by
 unfold era;split<;>first | rfl | exact h
theorem dJ {H:Hp} {b c:Addr} {o:HO} (h:era H c b=some o):b ≠ c/\H b=some o:=by
 unfold era at h
 split at h
 ·cases h
 ·exact⟨by assumption,h⟩
section
variable {P:Program} {w:World} {H H':Hp} {h h':Heap} {c:Addr} {v:V}
theorem ja {o:HO} (ok:fK P w H h) (hn:H c=none) (new:bU P w (upd H c o) h c o):fK P w (upd H c o) h:=fun b u e=>by
 by_cases hb:b=c
 ·subst hb;rw[aA]at e;cases e;exact new
 ·rw[ae hb]at e
  exact(ok b u e).aC (fun _ _ _ q=>q) (fun d q=>by rw[ae (aD q hn)];exact q) fun d xs q=>by rw[ae (aD q hn)];exact q
end
section
variable {X:Cx} {pins:List (Addr × Obj)} {σ:L2.St} {H:Hp} {s:Shared} {h':Heap} {P:Addr} {ps more:Array Value}
theorem Inv.grown {t':Nat} (I:Inv X pins σ H s) (hT:H P=some (.tbl ps)) (hx:Heap.ExtBut P s.heap h') (hP:h'.get? P=some (tabObj (ps++more))):
  Inv X pins σ (upd H P (.tbl (ps++more))) {s with heap:=h',toks:=t'}:=by
 have k:∀b o,b ≠ P->s.heap.get? b=some o->h'.get? b=some o:=fun b o hb e=>hx b o hb e
 have np:∀b,H b=none->b ≠ P:=fun b n z=>by rw[z,hT]at n;cases n
 refine I.un (t':=t') (h':=h') (H':=upd H P (.tbl (ps++more))) ⟨fun b o e n _ _=>k b o (np b n) e,fun b o e n _ _=>⟨o.slots,k b o (np b n) e⟩,fun b o e n _=>by rw[ae (np b n)];exact n,fun b o e _=>?_,fun b xs e=>?_,fun b o x e=>?_,fun b qs e=>?_⟩ (fun b o e=>?_)
 ·by_cases hb:b=P
  ·exact⟨_,by rw[hb];exact hP⟩
  ·exact⟨o,k b o hb e⟩
 ·rw[ae (fun z=>by rw[z,hT]at e;cases e)];exact e
 ·rw[ae (fun z=>by rw[z,hT]at e;cases e)];exact e
 ·by_cases hb:b=P
  ·subst hb
   rw[hT]at e;cases e
   exact⟨more,aA⟩
  ·exact⟨#[],by rw[ae hb,e];simp⟩
 ·by_cases hb:b=P
  ·subst hb
   rw[aA]at e;cases e
   exact hP
  ·rw[ae hb]at e
   refine(I.aW b o e).aC (fun c u hc q=>k c u ?_ q) (fun c q=>by rw[ae (fun z=>by rw[z,hT]at q;cases q)];exact q) fun c xs q=>by rw[ae (fun z=>by rw[z,hT]at q;cases q)];exact q
   rcases hc with rfl | hc
   ·exact hb
   ·exact fun z=>by rw[z,hT]at hc;cases hc
theorem Inv.Ap {a:Addr} {o:HO} (I:Inv X pins σ H s) (hn:H a=none) (h0:X.s₀.heap.objs.size<=a) (hL:a ≠ X.env.locals) (hc:∀x c,X.env.cells.lookup x=some c->c ≠ a) (hp:∀p ∈ X.pn++pins,p.1 ≠ a) (new:bU X.prog X.w (upd H a o) s.heap a o):
  Inv X pins σ (upd H a o) s:=by
 have ne:∀b u,H b=some u->b ≠ a:=fun b u e=>aD e hn
 refine⟨I.ok,I.os,I.bare,⟨I.base.keep,I.base.slot,fun b ob e n hx=>?_,I.base.there,fun b xs e=>?_,fun b ob u e=>?_,fun b qs e=>?_⟩,I.loc,I.cell,by rw[ae (Ne.symm hL)];exact I.free,fun x c e=>by rw[ae (hc x c e)];exact I.d9 x c e,fun p hp'=>?_,ja I.aW hn new,I.len⟩
 ·rw[ae (Nat.ne_of_lt (Nat.lt_of_lt_of_le (Heap.lt_size e) h0))];exact I.base.free b ob e n hx
 ·have q:=I.base.fR b xs e
  rw[ae (ne _ _ q)];exact q
 ·have q:=I.base.eW b ob u e
  rw[ae (ne _ _ q)];exact q
 ·obtain⟨m,q⟩:=I.base.fM b qs e
  exact⟨m,by rw[ae (ne _ _ q)];exact q⟩
 ·obtain⟨h1,h2,h3⟩:=I.pin p hp'
  exact⟨h1,by rw[ae (hp p hp')];exact h2,h3⟩
end
structure ve (X:Cx) (D:dG) (Ts:List Tb):Prop where
 cc:∃cc,X.env.code=.ref cc/\codeHdIn X.K cc D.T=true
 B:X.base.BuiltinsAt X.mg D.T
 iq:X.env.qual++("<lambda>" :Str)=D.iq
 cl:∃c,closureFor D.scope X.env=pure [(D.x,c)]/\X.env.cells.lookup D.x=some c/\X.s₀.heap.objs.size<=c
 nm:X.N[D.xi]?=some D.x
 vs:X.env.scope.names.lookup D.x=some .cell
 d0:defaultsOf D.args X.env=([],[])
 t0:(D.T,D.pos,D.iq) ∈ Ts
 t1:∀t ∈ Ts,t.1=D.T->t=(D.T,D.pos,D.iq)
section
variable {X:Cx} {M:Mo} {pins:List (Addr × Obj)} {σ:L2.St} {H:Hp} {s:Shared} {D:dG} {Ts:List Tb}
theorem Inv.FE {v:V} (L:ve X D Ts) (I:Inv X pins σ H s) (hv:σ[D.xi]?=some (some v)) {c:Addr} (hc:X.env.cells.lookup D.x=some c):∃oc u,s.heap.get? c=some oc/\RelV v u/\oc.data=.cell (some u):=by
 obtain⟨m,hm,hl⟩:=I.loc
 obtain⟨u,rv,lk⟩:=hl D.xi D.x v L.nm hv (.inr (.inl L.vs))
 rcases lk with ⟨q,_⟩ | ⟨_,c',q,oc,h1,h2⟩
 ·have q:X.env.scope.names.lookup D.x=some .local:=q
  rw[L.vs]at q;cases q
 ·rw[hc]at q
  cases q
  exact⟨oc,u,h1,rv,h2⟩
theorem xg (L:ve X D Ts) (mo:aJ X.K M) (I:Inv X pins σ H s) (hTs:∀t ∈ Ts,TabAt H t) {E:Value->Shared->Prop} {Q:Value->Shared->Prop} {c:Addr} (hcl:closureFor D.scope X.env=pure [(D.x,c)])
  (q:∀ (g c':Addr) (pm ctv:Value) (H2:Hp) (s2:Shared),Inv X pins σ H2 s2->H2 g=some (.clo (kla_fn "<lambda>" D.iq D.args D.body D.scope [(D.x,c)] pm (.ref c') ctv))->H2 c'=some (.cod D.iq)->(∀ t ∈ Ts,TabAt H2 t)->bp M H H2->H g=none->Q (.ref g) s2):
  wpAny (model X.prog X.w) X.A (eval D.le X.env) Q E s:=by
 obtain⟨cc,hcd,hhd⟩:=L.cc
 have hns:s.heap.Ns mainGlobals X.mg:=I.mod.glob.keeps I.bk
 have hBs:s.heap.BuiltinsAt X.mg D.T:=let ⟨bm,o,h1,h2,h3,h4,h5,r⟩:=L.B;⟨bm,o,h1,h2,h3,h4,I.bk _ _ h5,r⟩
 have CH:CodeHd s.heap cc D.T:=codeHd_of_K I.jF hhd
 refine kla_eval L.d0 ?_
 rw[L.iq]
 rcases hTs _ L.t0 with hP | ⟨c',hP,hc'⟩
 ·have hP:H D.T=some (.tbl #[]):=hP
  have hgT:mainGlobals ≠ D.T:=fun z=>by
   obtain⟨o,es,ep,e,_⟩:=I.mod.glob
   have:=(I.bs _ _ e).2
   rw[z,hP]at this;cases this
  refine kla_makeFunction (mg:=X.mg) hcl I.ok.glob hns hcd CH (I.aW D.T _ hP) trivial rfl hgT hBs fun c' ctv h' tk hx hge hlt hrec htb=>?_
  have I2:=Inv.grown (t':=tk) (more:=#[rawInt D.pos.line,rawInt D.pos.col,.ref c']) I hP hx htb
  have hTlt:D.T < s.heap.objs.size:=I.aW.lt hP
  have hcn:upd H D.T (.tbl (#[]++#[rawInt D.pos.line,rawInt D.pos.col,.ref c'])) c'=none:=by
   rw[ae (Nat.ne_of_gt (Nat.lt_of_lt_of_le hTlt hge))]
   exact I.aW.fresh hge
  have I3:=Inv.Ap (a:=c') (o:=.cod D.iq) I2 hcn (Nat.le_trans I.sz hge) (Nat.ne_of_gt (Nat.lt_of_lt_of_le I.lt hge)) (fun y c e=>by
   obtain⟨_,z⟩:=I.cell y c e
   exact Nat.ne_of_lt (Nat.lt_of_lt_of_le z.lt hge)) (fun p hp=>Nat.ne_of_lt (Nat.lt_of_lt_of_le (Heap.lt_size (I.pin p hp).1) hge)) hrec
  have I4:=Inv.laid (a:=h'.objs.size) (t':=tk) (o:=.clo (kla_fn "<lambda>" D.iq D.args D.body D.scope [(D.x,c)] ((X.mg "__name__").getD .none) (.ref c') ctv)) I3
   (h':=h'.push (kla_obj "<lambda>" D.iq D.args D.body D.scope [(D.x,c)] ((X.mg "__name__").getD .none) c' ctv)) (fun b u e=>Heap.get?_push_of_some _ e) (Nat.le_refl _) (Heap.get?_push_size _ rfl)
  have old:∀b o,H b=some o->b ≠ D.T->upd (upd (upd H D.T (.tbl (#[]++#[rawInt D.pos.line,rawInt D.pos.col,.ref c']))) c' (.cod D.iq)) h'.objs.size (.clo (kla_fn "<lambda>" D.iq D.args D.body D.scope [(D.x,c)] ((X.mg "__name__").getD .none) (.ref c') ctv)) b=some o:=fun b o e ne=>by
   have hb:=I.aW.lt e
   rw[ae (Nat.ne_of_lt (Nat.lt_trans (Nat.lt_of_lt_of_le hb hge) hlt)),ae (Nat.ne_of_lt (Nat.lt_of_lt_of_le hb hge)),ae ne]
   exact e
  have hcc:upd (upd (upd H D.T (.tbl (#[]++#[rawInt D.pos.line,rawInt D.pos.col,.ref c']))) c' (.cod D.iq)) h'.objs.size (.clo (kla_fn "<lambda>" D.iq D.args D.body D.scope [(D.x,c)] ((X.mg "__name__").getD .none) (.ref c') ctv)) c'=some (.cod D.iq):=by
   rw[ae (Nat.ne_of_lt hlt),aA]
  refine q h'.objs.size c' _ ctv _ _ I4 aA hcc (fun t ht=>?_) ⟨fun a o e n=>old a o e (fun z=>n #[] (by rw[z,hP]at e;exact(Option.some.inj e).symm)),fun a ma e=>?_,fun a h z=>?_⟩ (I.aW.fresh (Nat.le_trans hge (Nat.le_of_lt hlt)))
  ·by_cases ht1:t.1=D.T
   ·have:=L.t1 t ht ht1
    subst this
    refine .inr ⟨c',?_,hcc⟩
    show upd _ _ _ D.T=_
    rw[ae (Nat.ne_of_lt (Nat.lt_trans (Nat.lt_of_lt_of_le hTlt hge) hlt)),ae (Nat.ne_of_lt (Nat.lt_of_lt_of_le hTlt hge)),aA]
    rfl
   ·rcases hTs t ht with q | ⟨c2,q,q2⟩
    ·exact .inl (old _ _ q ht1)
    ·exact .inr ⟨c2,old _ _ q ht1,old _ _ q2 (fun z=>by rw[z,hP]at q2;cases q2)⟩
  ·obtain⟨ob,e2⟩:=mo.look ma
   have hlt2:a < s.heap.objs.size:=Heap.lt_size (I.jF _ _ e2)
   rw[ae (Nat.ne_of_lt (Nat.lt_trans (Nat.lt_of_lt_of_le hlt2 hge) hlt)),ae (Nat.ne_of_lt (Nat.lt_of_lt_of_le hlt2 hge)),ae (fun z=>by rw[z,hP]at e;cases e)]
   exact e
  ·by_cases ha:a=D.T
   ·rw[ha,ae (Nat.ne_of_lt (Nat.lt_trans (Nat.lt_of_lt_of_le hTlt hge) hlt)),ae (Nat.ne_of_lt (Nat.lt_of_lt_of_le hTlt hge)),aA]at z
    cases z
   ·cases q:H a with
    | none=>exact h q
    | some o=>rw[old a o q ha]at z;cases z
 ·have hP:H D.T=some (.tbl #[rawInt D.pos.line,rawInt D.pos.col,.ref c']):=hP
  have hc':H c'=some (.cod D.iq):=hc'
  refine kla_makeFunctionHit (mg:=X.mg) (cv:=.ref c') hcl I.ok.glob hns hcd CH (I.aW D.T _ hP) (by simp[TriplesOk,rawInt]) (by simp[codeAmong,rawInt]) hBs fun ctv h' tk hk hsz=>?_
  have I2:=Inv.kept (t':=tk) I hk
  have I4:=Inv.laid (a:=h'.objs.size) (t':=tk) (o:=.clo (kla_fn "<lambda>" D.iq D.args D.body D.scope [(D.x,c)] ((X.mg "__name__").getD .none) (.ref c') ctv)) I2
   (h':=h'.push (kla_obj "<lambda>" D.iq D.args D.body D.scope [(D.x,c)] ((X.mg "__name__").getD .none) c' ctv)) (fun b u e=>Heap.get?_push_of_some _ e) (Nat.le_refl _) (Heap.get?_push_size _ rfl)
  have old:∀b o,H b=some o->upd H h'.objs.size (.clo (kla_fn "<lambda>" D.iq D.args D.body D.scope [(D.x,c)] ((X.mg "__name__").getD .none) (.ref c') ctv)) b=some o:=fun b o e=>by
   rw[ae (Nat.ne_of_lt (Nat.lt_of_lt_of_le (I.aW.lt e) hsz))]
   exact e
  refine q h'.objs.size c' _ ctv _ _ I4 aA (old _ _ hc') (fun t ht=>?_) ⟨fun a o e n=>old a o e,fun a ma e=>?_,fun a h z=>?_⟩ (I.aW.fresh hsz)
  ·rcases hTs t ht with q | ⟨c2,q,q2⟩
   ·exact .inl (old _ _ q)
   ·exact .inr ⟨c2,old _ _ q,old _ _ q2⟩
  ·obtain⟨ob,e2⟩:=mo.look ma
   have hlt2:a < s.heap.objs.size:=Heap.lt_size (I.jF _ _ e2)
   rw[ae (Nat.ne_of_lt (Nat.lt_of_lt_of_le hlt2 hsz))]
   exact e
  ·cases q:H a with
   | none=>exact h q
   | some o=>rw[old a o q]at z;cases z
theorem zK {k:Nat} {f:Addr} {fd:FuncData} {ps:List Str} {sp:Sp} {us:List Value} {vs:List V} {Q:VK} {c:Addr} {oc:Obj} {v:V} {u:Value} (F:cO X.prog X.w X.K X.mg X.base (fP X.prog X.w) k f fd ps sp) (hr:eS k X.A) (hb:Binds X.K fd ps []) (I:Inv X pins σ H s)
  (hc:X.env.cells.lookup D.x=some c) (c0:X.s₀.heap.objs.size<=c) (ho:s.heap.get? c=some oc) (rv:RelV v u) (hd:oc.data=.cell (some u)) (r:Vals vs us) (h:sp vs (upd H c (.frz oc (.dw v))) (fun r H3=>Q r (era H3 c)) fun _ _ _=>False):
  wpAny (model X.prog X.w) X.A (call (.ref f) us) (EP X pins σ Q) X.xe s:=by
 have hn:H c=none:=I.d9 _ _ hc
 have nL:c ≠ X.env.locals:=fun z=>by
  obtain⟨m,⟨o,es,ep,e,dd,_⟩,_⟩:=I.loc
  rw[<-z,ho]at e
  cases e
  rw[hd]at dd
  cases dd
 have nf:∀b ∈ sR X.stack,b ≠ c:=fun b hb z=>by
  subst z
  rcases List.mem_cons.mp (I.nG _ hb)with e | hb
  ·exact nL e
  ·obtain⟨_,o,e,_⟩:=I.ok.iB.mem hb
   exact absurd (Heap.lt_size e) (Nat.not_lt.mpr c0)
 have e0:lV X.prog X.w X.K X.mg X.base X.A X.stack s (upd H c (.frz oc (.dw v))):=
  ⟨I.ok.frames,I.ok.mod,fun b o e=>⟨(I.bs b o e).1,by rw[ae (fun z=>by rw[z]at e;exact absurd (Nat.lt_of_lt_of_le (Heap.lt_size e) I.ok.tE) (Nat.not_lt.mpr c0))];exact(I.bs b o e).2⟩,Nat.le_trans I.ok.tE I.sz,I.stack,fun b hb=>by rw[ae (nf b hb)];exact I.nH b hb,ja I.aW hn ⟨ho,u,rv,oc,ho,hd⟩,I.bare⟩
 have hl:(us++[]).length=ps.length:=by rw[List.append_nil,<-r.length];exact F.len _ _ _ _ h
 refine wpAny_call (codeAny_mono (F.run X.A X.stack s _ ⟨us,[]⟩ us vs _ _ hr e0 (by have:=hb s us I.jF hl;rwa[List.append_nil]at this) r h) fun r s' hq=>?_)
 cases r with
 | error e=>exact False.elim hq
 | ok fl=>
  cases fl with
  | ret w'=>
   obtain⟨rv',H3,os,bare,un,aW,rr,q⟩:=hq
   have h3:H3 c=some (.frz oc (.dw v)):=un.eW c oc _ aA
   have hk3:s'.heap.get? c=some oc:=(aW c _ h3).1
   have ne:∀ {b:Addr} {o:HO},H b=some o->b ≠ c:=fun e=>aD e hn
   have eq:∀ {b:Addr},b ≠ c->upd H c (.frz oc (.dw v)) b=H b:=fun n=>ae n
   have un2:Un (sR X.stack) [] H (era H3 c) s.heap s'.heap:=by
    refine⟨fun b o e n f x=>?_,fun b o e n f x=>?_,fun b o e n x=>?_,un.there,fun b xs e=>?_,fun b o x e=>?_,fun b ps e=>?_⟩
    ·by_cases z:b=c
     ·subst z
      rw[ho]at e
      cases e
      exact hk3
     ·exact un.keep b o e (by rw[eq z];exact n) f x
    ·exact un.slot b o e (by rw[eq (nf b f)];exact n) f x
    ·by_cases z:b=c
     ·rw[z];exact dB
     ·rw[aI z];exact un.free b o e (by rw[eq z];exact n) x
    ·rw[aI (ne e)];exact un.fR b xs (by rw[eq (ne e)];exact e)
    ·rw[aI (ne e)];exact un.eW b o x (by rw[eq (ne e)];exact e)
    ·rw[aI (ne e)];exact un.fM b ps (by rw[eq (ne e)];exact e)
   have hok2:fK X.prog X.w (era H3 c) s'.heap:=fun b o e=>by
    obtain⟨ne,e⟩:=dJ e
    exact(aW b o e).aC (fun _ _ _ q=>q) (fun d q=>by rw[aI (fun z=>by rw[z,h3]at q;cases q)];exact q) fun d xs q=>by rw[aI (fun z=>by rw[z,h3]at q;cases q)];exact q
   exact⟨rv',era H3 c,I.ya os un2 hok2 bare (fun b hb=>absurd hb (by simp)),rr,q⟩
  | next=>exact False.elim hq
  | brk=>exact False.elim hq
  | cont=>exact False.elim hq
theorem By {Γ:bf} {sc:Scope} {k:Nat} {f:Str} {a:Expr} {ta:TE} {p pos:Pos} (C:Ctx X Γ sc k) (L:ve X D Ts) (hg:Gl X f) (ho:bH f=true) (ha:PE X a ta) (hp:bK a=true):
  PE X (.Call (.Name f p) [a,D.le] [] pos) (fun σ H Q=>(Γ.cm=true/\Γ.has f=true)/\ta σ H fun v1 H1=>(∀ t ∈ Ts,TabAt H1 t)/\∃v,σ[D.xi]?=some (some v)/\∀H2 g c,bp Γ.mod H1 H2->(∀ t ∈ Ts,TabAt H2 t)->H1 c=none->Γ.mod c=none->H1 g=none->Γ.mod g=none->qw D H2 g c v->
   Γ.fn f [v1,.ref g] H2 (fun r H3=>Q r (era H3 c)) fun _ _ _=>False):=by
 intro pins s σ H Q I ⟨⟨hc,hh⟩,h⟩
 obtain⟨fa,fd,ps,hm,hk,F,hb⟩:=C.g.fn f hh
 have hs:=bF (env:=X.env) (es:=[D.le]) hp
 have hs2:=bF (env:=X.env) (e:=D.le) (es:=[]) rfl
 obtain⟨c,hcl,hlc,c0⟩:=L.cl
 refine wpAny_Call_Name_kw (i9 I hg hm ?_ (de ho).1)
 refine PySem.W.callWith_K (h₀:=X.base) I.ok.mod.uL hk ?_ hs (by rw[hs2];rfl)
 rw[hs,hs2]
 refine Calls.spliced_cons (bV (ha pins s σ H _ I h) fun v s1 ⟨x,H1,I1,r1,hts,w,hw,q1⟩=>Calls.spliced_cons (xg L C.g.mod I1 hts hcl fun g c' pm ctv H2 s2 I2 hg2 hc2 ht2 x2 gn=>Calls.spliced_nil ⟨I2.jF,?_⟩))
 obtain⟨oc,u,h1,rv,h2⟩:=Inv.FE L I2 hw hlc
 have hn2:H2 c=none:=I2.d9 _ _ hlc
 have off:=Inv.mj C.g.mod I2
 have mg0:Γ.mod g=none:=by
  cases q:Γ.mod g with
  | none=>rfl
  | some o=>rw[off g (by rw[q];intro z;cases z)]at hg2;cases hg2
 have mc0:Γ.mod c=none:=by
  cases q:Γ.mod c with
  | none=>rfl
  | some o=>
   obtain⟨ob,e2⟩:=C.g.mod.look (a:=c) (by rw[q];intro z;cases z)
   have:=Heap.lt_size (I.ok.mod.uL _ _ e2)
   exact absurd (Nat.lt_of_lt_of_le this I.ok.tE) (Nat.not_lt.mpr c0)
 have ne:∀ {b:Addr} {o:HO},H2 b=some o->b ≠ c:=fun e=>aD e hn2
 have keep:∀b o,H2 b=some o->upd H2 c (.frz oc (.dw w)) b=some o:=fun b o e=>by rw[ae (ne e)];exact e
 refine zK (D:=D) F ((C.room hc).mono (Nat.le_succ _)) hb I2 hlc c0 h1 rv h2 (.cons r1 (.cons (show RelV (.ref g) (.ref g)from rfl) .nil)) (q1 _ g c ⟨fun b o e n=>keep b o (x2.same b o e n),fun b m e=>?_,fun b n z=>?_⟩ (fun t ht=>?_) (I1.d9 _ _ hlc) mc0 gn mg0 ⟨⟨c',pm,ctv,keep _ _ hg2,keep _ _ hc2⟩,oc,aA⟩)
 ·rw[ae (fun z=>m (by rw[z];exact mc0))]
  exact x2.off b m e
 ·cases q:H2 b with
  | none=>exact x2.yt b n q
  | some o=>rw[keep b o q]at z;cases z
 ·rcases ht2 t ht with q | ⟨c2,q,q2⟩
  ·exact .inl (keep _ _ q)
  ·exact .inr ⟨c2,keep _ _ q,keep _ _ q2⟩
end
section
variable {X:Cx} {M:Mo} {pins:List (Addr × Obj)} {σ:L2.St} {H:Hp} {s:Shared} {p:Addr} {kvs:List (Key × V)}
noncomputable def EY (p:Addr) (o:Obj) (kvs:List (Key × V)):It:=
 ⟨fun i H=>H p=some (.frz o (.dK kvs))/\i < kvs.length,fun i H x H'=>H'=H/\∃y,kvs[i]?=some y/\x=y.2,fun i H=>H p=some (.frz o (.dK kvs))/\kvs.length<=i⟩
theorem oY {P:Program} {w:World} {K:PySem.W.Frag} {tg:Expr} (it:Addr) {o:Obj} {es:Array DictEntry} {ep:Nat} (hd:o.data=.dict es ep):Turn P w K tg (EY p o kvs) [it] it (fun i h=>h.IsValIter it p i kvs.length ep) where
 mem:=by simp
 obj:=fun i h st b hb=>by
  have e:b=it:=by simpa using hb
  subst e
  obtain⟨o,e,c,d⟩:=st
  exact⟨o,e,fun v z=>by rw[d]at z;cases z⟩
 keep:=fun i h h' st k=>let ⟨o,e,r⟩:=st;⟨o,k it (by simp) o e,r⟩
 item:=by
  intro X hP hw hK hc i pins s σ H E I hf st hg
  subst hP hw hK
  obtain⟨e,hlt⟩:=hg
  obtain⟨vs,rel,dat⟩:=I.frozen e hd
  obtain⟨u,hu,ru⟩:=rel.get (List.getElem?_eq_getElem hlt)
  obtain⟨f0,f1,f2,f3,f4,f5⟩:=hf it (by simp)
  rw[rel.length]at st
  refine wpAny_pyNext_values_item st dat hu fun h' st' sb=>?_
  have I1:Inv X pins σ H {s with heap:=h'}:=I.turned (t':=s.toks) (fun b o hb e=>(sb.2 b hb).trans e) f0 f1 f3 f4 f5
  obtain⟨o',e',c',d'⟩:=id st'
  rw[<-rel.length]at st'
  exact⟨u,rfl,m3 (s:={s with heap:=h'}) e' c' d' (by decide) ⟨_,H,I1,ru,⟨rfl,_,List.getElem?_eq_getElem hlt,rfl⟩,st',fun b hb=>(hf b hb).1⟩⟩
 done:=by
  intro X hP hw hK hc i pins s σ H E I hf st hg
  subst hP hw hK
  obtain⟨e,hle⟩:=hg
  obtain⟨vs,rel,dat⟩:=I.frozen e hd
  obtain⟨f0,f1,f2,f3,f4,f5⟩:=hf it (by simp)
  rw[rel.length]at st
  exact wpAny_pyNext_values_end (I.ok.hd hc) st dat (List.getElem?_eq_none (by rw[<-rel.length];exact hle)) fun h' eb=>⟨rfl,I.turned (t':=s.toks) (fun b o hb e=>eb b o hb e) f0 f1 f3 f4 f5⟩
 self:=fun _ _ _ _ _ st h=>wpAny_pyIter_valiter st h
theorem vE {o:Obj}:ig (EY p o kvs) (kvs.map fun y=>y.2) (fun H=>H p=some (.frz o (.dK kvs))) where
 go:=fun i H st e=>⟨st,by simpa using e⟩
 kn:=fun i H x H' e y st=>by
  obtain⟨y1,y,y2,rfl⟩:=y
  exact⟨y1,by rw[List.getElem?_map,y2];rfl⟩
 stop:=fun i H st h=>⟨st,by simpa using h⟩
end
end Sw
namespace Sw
open PySem PySem.Spec PyProof.Rows L2
open PySem.W (Frag keepIn ktsIn mroIn kitOne)
structure jR (X:Cx) (Γ:bf) (sc:Scope) (k:Nat):Prop extends Ctx X Γ sc k where
 nd:X.N.Nodup
 loc:∀x,eL sc x=true->Loc X.env.scope x/\(X.fn x=true\/X.env.scope.names.lookup x=some .local)
 Gi:∀x,sc.names.lookup x=some .local->X.env.scope.names.lookup x=some .local
 CV:X.stack=X.env::X.outer/\X.env.frame=some X.env.locals
 lam:∀D Ts,Γ.lm=some (D,Ts)->ve X D Ts
section
variable {X:Cx} {Γ:bf} {sc:Scope} {k:Nat}
theorem jR.hZ (C:jR X Γ sc k):jR X.hZ Γ sc k:=⟨⟨C.g,C.room,C.calm,C.un,C.Ge,C.gl,C.cf,C.top⟩,C.nd,C.loc,C.Gi,C.CV,fun D Ts h=>let l:=C.lam D Ts h;⟨l.cc,l.B,l.iq,l.cl,l.nm,l.vs,l.d0,l.t0,l.t1⟩⟩
theorem PS.hZ {st:Stmt} {t:TS} (h:PS X.hZ st t):PS X st t:=fun pins s σ H D I hw=>
 wpAny_mono (h pins s σ H D (I.kM _) hw) (fun _ _ q=>q.e_) fun _ _ z=>False.elim z
theorem i7 {e:Expr} {t:Option Expr} {n:Nat} {env:Env} (h:n5 e=true):swapsWith e t n env=pure false:=by
 cases e<;>first | rfl | cases h
theorem ox {i:Nat} {tb:TS} {J:It} {xs:List V} {aC:Hp->Prop} {D:Ends} {σ:L2.St} {H:Hp} (sq:ig J xs aC) (h:jd i tb aC xs D σ H):
  ∃W:Nat->Nat->L2.St->Hp->Prop,(∃ m,W 0 m σ H)/\∀n m σ H,W n m σ H->
   (J.stop n H/\D.nx σ H)\/(J.go n H/\∃N:L2.St->Hp->Prop,(∀ σ' H',N σ' H'->∃m',m' < m/\W (n + 1) m' σ' H')/\∀x H',J.kn n H x H'->jb i x σ H' fun σ2 H2=>tb {D with nx:=N,ct:=N,bk:=D.nx} σ2 H2):=by
 refine⟨fun n m σ H=>m=xs.length - n/\n<=xs.length/\jd i tb aC (xs.drop n) D σ H,⟨xs.length,by simp,Nat.zero_le _,by simpa using h⟩,?_⟩
 rintro n m σ H ⟨rfl,hn,hw⟩
 cases e:xs.drop n with
 | nil=>
  rw[e]at hw
  have hle:xs.length<=n:=by simpa using e
  exact .inl ⟨sq.stop n H hw.1 hle,hw.2⟩
 | cons v r=>
  rw[e]at hw
  have hlt:n < xs.length:=by
   have:=congrArg List.length e
   simp at this
   omega
  have hvi:xs[n]?=some v:=by
   have:=congrArg (fun l=>l[0]?) e
   simpa using this
  have hdr:xs.drop (n + 1)=r:=by
   have:=congrArg List.tail e
   simpa[List.tail_drop]using this
  refine .inr ⟨sq.go n H hw.1 hlt,jd i tb aC r D,fun σ' H' z=>⟨xs.length - (n + 1),by omega,rfl,hlt,by rw[hdr];exact z⟩,fun x H' y=>?_⟩
  obtain⟨eH,ev⟩:=sq.kn n H x H' hlt y hw.1
  subst eH
  rw[hvi]at ev
  obtain rfl:v=x:=Option.some.inj ev
  exact hw.2
end
section
variable {X:Cx} {Γ:bf} {sc:Scope} {k:Nat} {M:Mo}
theorem yE (hu:X.A.units + 64 < cLine):EG X (fun x k v H Q=>vz x k v H Q):=by
 intro pins s σ H o i v ov iv u Q I ro ri rv h
 unfold vz at h
 cases o with
 | ref p=>
  dsimp only at h
  split at h
  ·rename_i xs e
   cases i with
   | int j=>
    dsimp only at h
    split at h
    ·rename_i n en
     exact set_list pins s σ H _ _ v ov iv u Q I ro ri rv ⟨_,_,_,_,rfl,rfl,e,en,h⟩
    ·exact h.elim
   | _=>exact h.elim
  ·rename_i kvs e
   split at h
   ·rename_i kk ek
    cases (show ov=Value.ref p from ro)
    have ei:=pY ek
    subst ei
    exact uV (by omega) I (Ai.k e h.1) ri rv fun s' I'=>⟨_,I',h.2⟩
   ·exact h.elim
  ·exact h.elim
 | _=>exact h.elim
theorem Bo {o i value:Expr} {to ti tv:TE} {pos pos':Pos} (hu:X.A.units + 64 < cLine) (ho:PE X o to) (hi:PE X i ti) (hv:PE X value tv) (hs:swapsWith value (some (.Subscript o i pos')) pos.line X.env=pure false):
  PS X (.Assign [.Subscript o i pos'] value pos) (fun D σ H=>tv σ H fun v H1=>to σ H1 fun x H2=>ti σ H2 fun k H3=>vz x k v H3 (D.nx σ)):=by
 intro pins s σ H D I h
 refine wpAny_Assign_Subscript (bV (hv pins s σ H _ I h) fun r s1 ⟨v,H1,I1,rv,q1⟩=>bV (ho pins s1 σ H1 _ I1 q1) fun u s2 ⟨x,H2,I2,rx,q2⟩=>bV (hi pins s2 σ H2 _ I2 q2) fun iv s3 ⟨y,H3,I3,ry,q3⟩=>?_) hs
 exact bV (yE hu pins s3 σ H3 x y v u iv r _ I3 rx ry rv q3) fun _ s4 ⟨H4,I4,q4⟩=>⟨σ,H4,I4,q4⟩
theorem gY (C:jR X Γ sc k):∀ {is:List Nat} {ts:List Expr},oN sc X.N is=true->C1 X (bN X.N is ts) (iA is)
 | [],_,_=>zb
 | i::is,_,h=>vZ (gZ C.nd (eO (a2 (a2 h).1).1) (C.loc _ (a2 (a2 h).1).2).1 (C.loc _ (a2 (a2 h).1).2).2) (gY C (a2 h).2) rfl
theorem y0 (mo:aJ X.K M) (hc:X.calm=true) {is:List Nat} {ts:List Expr} {e:Expr} {te:TE} {kt} {pt pos:Pos} (hp:C1 X ts (iA is)) (hn:(assignEach ts X.env).length=is.length) (hst:(assignEach ts X.env).findIdx? (·.1)=none) (he:PE X e te) (h1:n5 e=true) (h2:wJ e=true):
  PS X (.Assign [.Tuple ts kt pt] e pos) (fun D σ H=>te σ H fun x H1=>match x with | .ref p=>(match rd M H1 p with | some (.tup xs)=>xs.length=is.length/\D.nx (il σ is xs) H1 | _=>False) | _=>False):=by
 intro pins s σ H D I h
 refine wpAny_Assign_stores (bV (he pins s σ H _ I h) fun v s1 ⟨x,H1,I1,r1,q1⟩=>?_) (show swapsWith e (some (.Tuple ts kt pt)) pos.line X.env=pure false from i7 h1) (by cases e<;>first | rfl | cases h2)
 cases x with
 | ref p=>
  dsimp only at q1
  split at q1
  ·rename_i xs ex
   exact bV (qQ (k:=kt) hc hp hn hst pins s1 σ H1 (.ref p) v D.nx I1 r1 ⟨p,xs,rfl,dI mo ex,q1.1,fj q1.1 q1.2⟩) fun _ s2 q=>q
  ·exact q1.elim
 | _=>exact q1.elim
theorem xC (mo:aJ X.K M) {is:List Nat} {tb:TS} {J:It} {xs:List V} {aC:Hp->Prop} {D:Ends} {σ:L2.St} {H:Hp} (sq:ig J xs aC) (h:ic M is tb aC xs D σ H):
  ∃W:Nat->Nat->L2.St->Hp->Prop,(∃ m,W 0 m σ H)/\∀n m σ H,W n m σ H->
   (J.stop n H/\D.nx σ H)\/(J.go n H/\∃N:L2.St->Hp->Prop,(∀ σ' H',N σ' H'->∃m',m' < m/\W (n + 1) m' σ' H')/\∀x H',J.kn n H x H'->zR X.K is.length (iA is) x σ H' fun σ2 H2=>tb {D with nx:=N,ct:=N,bk:=D.nx} σ2 H2):=by
 refine⟨fun n m σ H=>m=xs.length - n/\n<=xs.length/\ic M is tb aC (xs.drop n) D σ H,⟨xs.length,by simp,Nat.zero_le _,by simpa using h⟩,?_⟩
 rintro n m σ H ⟨rfl,hn,hw⟩
 cases e:xs.drop n with
 | nil=>
  rw[e]at hw
  have hle:xs.length<=n:=by simpa using e
  exact .inl ⟨sq.stop n H hw.1 hle,hw.2⟩
 | cons v r=>
  rw[e]at hw
  have hlt:n < xs.length:=by
   have:=congrArg List.length e
   simp at this
   omega
  have hvi:xs[n]?=some v:=by
   have:=congrArg (fun l=>l[0]?) e
   simpa using this
  have hdr:xs.drop (n + 1)=r:=by
   have:=congrArg List.tail e
   simpa[List.tail_drop]using this
  refine .inr ⟨sq.go n H hw.1 hlt,ic M is tb aC r D,fun σ' H' z=>⟨xs.length - (n + 1),by omega,rfl,hlt,by rw[hdr];exact z⟩,fun x H' y=>?_⟩
  obtain⟨eH,ev⟩:=sq.kn n H x H' hlt y hw.1
  subst eH
  rw[hvi]at ev
  obtain rfl:v=x:=Option.some.inj ev
  obtain⟨_,hw⟩:=hw
  cases v with
  | ref p=>
   dsimp only at hw
   split at hw
   ·rename_i ys ex
    exact⟨p,ys,rfl,dI mo ex,hw.1,fj hw.1 hw.2⟩
   ·exact hw.elim
  | _=>exact hw.elim
end
section
variable {X:Cx} {Γ:bf} {sc:Scope} {k:Nat} {M:Mo}
theorem Cu {te:TE} {tb:TS} {i:Nat} {D:Ends} {σ:L2.St} {H:Hp}
  (h:te σ H fun x H1=>match x with
   | .ref p=>(match H1 p with
    | some (.dK kvs)=>∀o,jd i tb (fun H'=>H' p=some (.frz o (.dK kvs))) (kvs.map fun y=>kV y.1) (iU p o kvs D) σ (upd H1 p (.frz o (.dK kvs)))
    | _=>False)
   | _=>False):
  sM X E4 te σ H fun J H1=>∃D':Ends,(∀ (pins:List (Addr × Obj)) f s',SP X pins D' f s'->SP X pins D f s')/\∃W:Nat->Nat->L2.St->Hp->Prop,(∃ m,W 0 m σ H1)/\∀n m σ H,W n m σ H->
   (J.stop n H/\D'.nx σ H)\/(J.go n H/\∃N:L2.St->Hp->Prop,(∀ σ' H',N σ' H'->∃m',m' < m/\W (n + 1) m' σ' H')/\∀x H',J.kn n H x H'->jb i x σ H' fun σ2 H2=>tb {D' with nx:=N,ct:=N,bk:=D'.nx} σ2 H2):=by
 refine⟨_,h,fun x H1 q=>?_⟩
 cases x with
 | ref p=>
  dsimp only at q
  split at q
  ·rename_i kvs e
   exact⟨p,kvs,rfl,e,fun o nf=>⟨iU p o kvs D,mH nf,ox vG (q o)⟩⟩
  ·exact q.elim
 | _=>exact q.elim
theorem Cs {te:TE} {tb:TS} {i:Nat} {D:Ends} {σ:L2.St} {H:Hp}
  (h:te σ H fun x H1=>match x with
   | .ref p=>(match H1 p with
    | some (.dK kvs)=>∀o,jd i tb (fun H'=>H' p=some (.frz o (.dK kvs))) (kvs.map fun y=>y.2) (iU p o kvs D) σ (upd H1 p (.frz o (.dK kvs)))
    | _=>False)
   | _=>False):
  sM X EY te σ H fun J H1=>∃D':Ends,(∀ (pins:List (Addr × Obj)) f s',SP X pins D' f s'->SP X pins D f s')/\∃W:Nat->Nat->L2.St->Hp->Prop,(∃ m,W 0 m σ H1)/\∀n m σ H,W n m σ H->
   (J.stop n H/\D'.nx σ H)\/(J.go n H/\∃N:L2.St->Hp->Prop,(∀ σ' H',N σ' H'->∃m',m' < m/\W (n + 1) m' σ' H')/\∀x H',J.kn n H x H'->jb i x σ H' fun σ2 H2=>tb {D' with nx:=N,ct:=N,bk:=D'.nx} σ2 H2):=by
 refine⟨_,h,fun x H1 q=>?_⟩
 cases x with
 | ref p=>
  dsimp only at q
  split at q
  ·rename_i kvs e
   exact⟨p,kvs,rfl,e,fun o nf=>⟨iU p o kvs D,mH nf,ox vE (q o)⟩⟩
  ·exact q.elim
 | _=>exact q.elim
theorem xD {i j:Nat} {tb:TS} {p:Addr} {xs:List V} {D:Ends} {σ:L2.St} {H:Hp} (h:jc M i j tb (fun H=>rd M H p=some (.lst xs)) ((List.range xs.length).zip xs) D σ H):
  ∃W:Nat->Nat->L2.St->Hp->Prop,(∃ m,W 0 m σ H)/\∀n m σ H,W n m σ H->
   ((EI M p xs).stop n H/\D.nx σ H)\/((EI M p xs).go n H/\∃N:L2.St->Hp->Prop,(∀ σ' H',N σ' H'->∃m',m' < m/\W (n + 1) m' σ' H')/\∀x H',(EI M p xs).kn n H x H'->zR X.K [i,j].length (iA [i,j]) x σ H' fun σ2 H2=>tb {D with nx:=N,ct:=N,bk:=D.nx} σ2 H2):=by
 refine⟨fun n m σ H=>m=((List.range xs.length).zip xs).length - n/\n<=((List.range xs.length).zip xs).length/\jc M i j tb (fun H=>rd M H p=some (.lst xs)) (((List.range xs.length).zip xs).drop n) D σ H,⟨((List.range xs.length).zip xs).length,by simp,Nat.zero_le _,by simpa using h⟩,?_⟩
 rintro n m σ H ⟨rfl,hn,hw⟩
 cases e:((List.range xs.length).zip xs).drop n with
 | nil=>
  rw[e]at hw
  have hle:((List.range xs.length).zip xs).length<=n:=by simpa using e
  exact .inl ⟨⟨hw.1,hle⟩,hw.2⟩
 | cons v r=>
  rw[e]at hw
  have hlt:n < ((List.range xs.length).zip xs).length:=by
   have:=congrArg List.length e
   rw[List.length_drop,List.length_cons]at this
   omega
  have hvi:((List.range xs.length).zip xs)[n]?=some v:=by
   have:=congrArg (fun l=>l[0]?) e
   simpa using this
  have hdr:((List.range xs.length).zip xs).drop (n + 1)=r:=by
   have:=congrArg List.tail e
   simpa[List.tail_drop]using this
  refine .inr ⟨⟨hw.1,hlt⟩,jc M i j tb (fun H=>rd M H p=some (.lst xs)) r D,fun σ' H' z=>⟨((List.range xs.length).zip xs).length - (n + 1),by omega,rfl,hlt,by rw[hdr];exact z⟩,fun x H' y=>?_⟩
  obtain⟨t,y,h1,h2,h3,rfl,rfl⟩:=y
  rw[hvi]at h3
  cases h3
  exact⟨t,_,rfl,qo.of aA,rfl,fj rfl (hw.2 t h1 h2)⟩
theorem Ct {te:TE} {tb:TS} {i j:Nat} {D:Ends} {σ:L2.St} {H:Hp} (h:te σ H fun x H1=>lK M x H1 fun ps aC=>jc M i j tb aC ps D σ H1):
  Gd M te σ H fun J H1=>∃D':Ends,(∀ (pins:List (Addr × Obj)) f s',SP X pins D' f s'->SP X pins D f s')/\∃W:Nat->Nat->L2.St->Hp->Prop,(∃ m,W 0 m σ H1)/\∀n m σ H,W n m σ H->
   (J.stop n H/\D'.nx σ H)\/(J.go n H/\∃N:L2.St->Hp->Prop,(∀ σ' H',N σ' H'->∃m',m' < m/\W (n + 1) m' σ' H')/\∀x H',J.kn n H x H'->zR X.K [i,j].length (iA [i,j]) x σ H' fun σ2 H2=>tb {D' with nx:=N,ct:=N,bk:=D'.nx} σ2 H2):=by
 refine⟨_,h,fun x H1 q=>?_⟩
 unfold lK at q
 cases x with
 | ref p=>
  dsimp only at q
  split at q
  ·rename_i xs e
   exact⟨p,xs,rfl,e,D,fun _ _ _ z=>z,xD q⟩
  ·exact q.elim
 | _=>exact q.elim
theorem uh {tg:Expr} {o:Expr} {apos cpos:Pos} {te:TE} (ho:PE X o te) (hn:fg o=true) (hl:(apos.endLine == cpos.line)=true):
  PI X tg (.Call (.Attribute o "values" apos) [] [] cpos) (sM X EY te):=by
 intro pins s σ H R I h
 obtain⟨Q,h,hq⟩:=h
 refine wpAny_Call_method0_late (fm hn) hl (bV (ho pins s σ H _ I h) fun v s1 z=>?_)
 obtain⟨x,H1,I1,r1,q1⟩:=z
 obtain⟨p,kvs,e,ed,q⟩:=hq x H1 q1
 subst e
 obtain⟨h1,h2⟩:=qB I1 r1 (xk (show xm (.ref p) H1=true by unfold xm;simp only[ed]))
 cases r1
 refine⟨_,_,F.plainAttrs_dict,F.slot_dict_values,F.type_dict_values,h1,h2,Calls.callWith_builtin rfl (PySem.evalArgs_none ?_)⟩
 obtain⟨ob,es,ep,hob,hd,I2⟩:=I1.freeze ed
 obtain⟨vs,rel,dat⟩:=I2.frozen aA hd
 have hs:(p == sysModules)=false:=(sX I1.aW ed).2.1
 refine call_meetsIn F.slot_dict_values dat.dictOf.typeIs F.entry_dict_values (F.args_dict_values_1 _) (meets_dict_values (aG X.prog X.w) p hs) ⟨⟨vs,dat.dictOf⟩,?_⟩
 refine wpAny_pyIter_values (s:={s1 with heap:=s1.heap.push {cls:=.type "dict_values",data:=.fields #[.ref p]}}) (d:=p) ⟨_,Heap.get?_push_size _ rfl,rfl,rfl⟩ (dat.push _) ?_
 rw[<-rel.length]
 have I3:Inv X pins σ _ {s1 with heap:=s1.heap.push {cls:=.type "dict_values",data:=.fields #[.ref p]}}:=I2.kept (t':=s1.toks) fun b o e=>Heap.get?_push_of_some _ e
 refine⟨_,[(s1.heap.push {cls:=.type "dict_values",data:=.fields #[.ref p]}).objs.size],_,_,_,rfl,I3.kept (t':=s1.toks) fun b o e=>Heap.get?_push_of_some _ e,oY _ hd,⟨_,Heap.get?_push_size _ rfl,rfl,rfl⟩,fun b hb=>?_,q ob (I1.nf ed)⟩
 have e:b=(s1.heap.push {cls:=.type "dict_values",data:=.fields #[.ref p]}).objs.size:=by simpa using hb
 subst e
 exact I3.p_ (Nat.le_refl _) (I3.aW.fresh (Nat.le_refl _))
end
theorem lL {N:List Str} {e:Ex} {a:Expr} (h:(!iz e)=true):n5 (bE N e a)=true:=by
 cases e<;>first | rfl | cases h
theorem C4 {N:List Str} {e:Ex} {a:Expr} (h:(!isTup e)=true):wJ (bE N e a)=true:=by
 cases e<;>first | rfl | cases h
section
variable {X:Cx} {Γ:bf} {sc:Scope} {k:Nat} {Ξ:XS}
theorem y6 {i:Nat} {x:Str} {fv:List (Str × Nat)} {it:Ix} {el:Ex} {ifs:km} {tp pos:Pos} {a:Expr} (C:jR X Γ sc k) (xo:eE X Ξ) (h1:X.N[i]?=some (nx X.N i)) (h2:eL sc (nx X.N i)=true) (h3:qA sc (cu a) (nx X.N i) tp a.pos=true) (h:oE sc X.N (.comp x fv it el ifs) a=true):
  PS X (.Assign [.Name (nx X.N i) tp] (bE X.N (.comp x fv it el ifs) a) pos) (wS (.asg i (.comp x fv it el ifs)) Γ Ξ):=by
 obtain⟨k1,k0⟩:=a2 h3
 obtain⟨k2,k3⟩:=a2 k0
 have k1:=of_decide_eq_true k1
 have k3:=(Bool.not_eq_true' _).mp k3
 intro pins s σ H D I ⟨hc,q⟩
 refine yY (te:=fun σ=>wE Γ el fun C d _ H'=>Ξ C d σ H') C.g.mod (C.calm hc) C.toCtx.top xo C.cf (a2 (a2 h).1).1 (sI _ _ it C.toCtx xo (a2 (a2 h).2).1)
   (fun σ X' c xc=>cN (P:=fun N=>PE X' (bE N el _) _) c.N (sE _ _ el (C.toCtx.comp c hc) xc (cN (P:=fun N=>oE _ N el _=true) c.N.symm (a2 (a2 (a2 h).2).2).1)))
   (fun X' c=>cN (P:=fun N=>yu X' (mC N ifs _) _) c.N (Gg _ _ ifs (C.toCtx.comp c hc) eE.no (cN (P:=fun N=>pH _ N ifs _=true) c.N.symm (a2 (a2 (a2 h).2).2).2) (of_decide_eq_true (a2 (a2 h).1).2)))
   (eA (jl it)) C.nd h1 (C.loc _ h2).1 (C.loc _ h2).2 ?_ pins s σ H D I q
 have e1:(X.env.kindOf (nx X.N i) == some .local)=true:=by
  have:=C.Gi _ k1
  show(X.env.scope.names.lookup (nx X.N i) == some .local)=true
  rw[this];rfl
 have e2:(X.env.blockKind == .function)=true:=by
  unfold Env.blockKind
  rw[I.ok.kind];rfl
 show(pure (X.env.blockKind == .function && X.env.kindOf (nx X.N i) == some .local && tp.line == a.pos.line && !((cu a).names.any fun(n,k)=>n == nx X.N i && (k == .local || k == .cell))):Sem Bool)=_
 rw[e1,e2,k2,k3]
 rfl
theorem y4 {i:Nat} {e:Ex} {tp pos:Pos} {a:Expr} (C:jR X Γ sc k) (xo:eE X Ξ) (hi:decide (i < X.N.length)=true) (hl:eL sc (nx X.N i)=true) (hu:(!iz e || qA sc (cu a) (nx X.N i) tp a.pos)=true) (he:oE sc X.N e a=true):
  PS X (.Assign [.Name (nx X.N i) tp] (bE X.N e a) pos) (wS (.asg i e) Γ Ξ):=by
 rcases Bool.or_eq_true_iff.mp hu with hu | hu
 ·exact qO C.nd (eO hi) (C.loc _ hl).1 (sE _ _ e C.toCtx xo he) (i7 (lL hu)) (C.loc _ hl).2
 ·cases hq:iz e with
  | false=>exact qO C.nd (eO hi) (C.loc _ hl).1 (sE _ _ e C.toCtx xo he) (i7 (lL (by rw[hq];rfl))) (C.loc _ hl).2
  | true=>cases e<;>first | exact y6 C xo (eO hi) hl (by assumption) he | exact ps_asgN C xo (eO hi) hl (by assumption) he | (cases hq;done)
theorem vU {i:Nat} {f:Str} {a:Ex} {le ast:Expr} {tp p p2 pos:Pos} (C:jR X Γ sc k) (xo:eE X Ξ) (hi:decide (i < X.N.length)=true) (hl:eL sc (nx X.N i)=true) (hg:ef sc f=true) (ho:bH f=true) (he:oE sc X.N a ast=true):
  PS X (.Assign [.Name (nx X.N i) tp] (.Call (.Name f p) [bE X.N a ast,le] [] p2) pos) (wS (.asgL i f a le) Γ Ξ):=by
 intro pins s σ H Dn I q0
 have q:(match Γ.lm with
  | some (D,Ts)=>le=D.le/\(Γ.cm=true/\Γ.has f=true)/\wE Γ a Ξ σ H fun v1 H1=>(∀ t ∈ Ts,TabAt H1 t)/\∃v,σ[D.xi]?=some (some v)/\∀H2 g c,bp Γ.mod H1 H2->(∀ t ∈ Ts,TabAt H2 t)->H1 c=none->Γ.mod c=none->H1 g=none->Γ.mod g=none->qw D H2 g c v->
   Γ.fn f [v1,.ref g] H2 (fun r H3=>Dn.nx (σ.set i (some r)) (era H3 c)) fun _ _ _=>False
  | none=>False):=q0
 clear q0
 cases hlm:Γ.lm with
 | none=>rw[hlm]at q;exact q.elim
 | some DT=>
  obtain⟨D,Ts⟩:=DT
  rw[hlm]at q
  obtain⟨rfl,q⟩:=q
  exact qO C.nd (eO hi) (C.loc _ hl).1 (By C.toCtx (C.lam D Ts hlm) (C.gl _ hg) ho (sE _ _ a C.toCtx xo he) (bg a)) rfl (C.loc _ hl).2 pins s σ H Dn I q
theorem PS.never {st:Stmt} {t:TS} (h:∀D σ H,¬t D σ H):PS X st t:=fun pins s σ H D I q=>(h D σ H q).elim
theorem yX {body hb:List Stmt} {x:Str} {np hp pos:Pos} {n:Option Str} {tb:TS} (hne:hb ≠ []) (h:vh X.hZ body tb):PS X (.Try body [.ExceptHandler (some (.Name x np)) n hb hp] [] [] pos) tb:=fun pins s σ H D I hw=>by
 cases hb with
 | nil=>exact absurd rfl hne
 | cons b₀ hb=>
 refine wpAny_Try_except ?_
 refine wpAny_mono (h pins s σ H D (I.kM _) hw) (fun f s1 q=>?_) fun _ _ z=>False.elim z
 have q':=q.e_
 cases f with
 | next=>exact wpAny_execs_nil q'
 | brk=>exact q'
 | cont=>exact q'
 | ret u=>exact q'
theorem CK {N:List Str} {ss:List Stmt}:∀ {h:cR},DD h=true->tG N h ss ≠ []
 | .cons _ _,_=>List.cons_ne_nil _ _
end
mutual
theorem sS:(st:Sx)->∀ {X:Cx} {Γ:bf} {sc:Scope} {k:Nat} {Ξ:XS} {ast:Stmt},jR X Γ sc k->eE X Ξ->oS sc X.N st ast=true->PS X (bS X.N st ast) (wS st Γ Ξ)
 | .asg i e=>fun C xo h=>y4 C xo (a2 (a2 h).1).1 (a2 (a2 h).1).2 (a2 (a2 h).2).1 (a2 (a2 h).2).2
 | .exp e=>fun C xo h=>yZ (sE _ _ e C.toCtx xo (a2 h).2) (i7 (lL (a2 h).1))
 | .ret e=>fun C xo h=>Bq (sE _ _ e C.toCtx xo h)
 | .iff c a b=>fun C xo h=>Dm (sT _ _ c C.toCtx xo (a2 h).1) (vH a C xo (a2 (a2 h).2).1) (vH b C xo (a2 (a2 h).2).2)
 | .whl c b=>fun C xo h=>PS.hZ (vS PassesOwn.never (sT _ _ c C.hZ.toCtx eE.no (a2 h).1) (vH b C.hZ eE.no (a2 h).2))
 | .fr i it b=>fun C xo h pins s σ H D I q=>
  PS.hZ (vT PassesOwn.never (C.calm q.1) (sI _ _ it C.hZ.toCtx eE.no (a2 (a2 h).2).1) (gZ C.nd (eO (a2 (a2 h).1).1) (C.loc _ (a2 (a2 h).1).2).1 (C.loc _ (a2 (a2 h).1).2).2) (vH b C.hZ eE.no (a2 (a2 h).2).2) (eA (jl it))) pins s σ H D I
   ⟨_,q.2,fun J xs aC H1 sq z=>ox sq z⟩
 | .rais x args=>fun C xo h=>PS.never fun D σ H q=>q
 | .tryx b x i hs=>fun C xo h=>yX (CK (a2 (a2 (a2 (a2 h).2).2).2).1) (vH b C.hZ eE.no (a2 (a2 (a2 h).2).2).1)
 | .asgL i f a le=>fun C xo h=>vU C xo (a2 (a2 h).1).1 (a2 (a2 h).1).2 (a2 (a2 (a2 h).2).1).1 (a2 (a2 (a2 h).2).1).2 (a2 (a2 h).2).2
 | .frE i j e b=>fun C xo h pins s σ H D I q=>
  PS.hZ (nY PassesOwn.never (C.calm q.1) (y_ (X:=Cx.hZ _) C.g.mod (C.hZ.gl _ (a2 (a2 h).1).2) (C.g.no _ (by decide +kernel)) (sE _ _ e C.hZ.toCtx eE.no (a2 (a2 h).2).1) (bg e)) (qQ (X:=Cx.hZ _) (C.calm q.1) (gY C.hZ (a2 (a2 h).1).1) rH oG) (vH b C.hZ eE.no (a2 (a2 h).2).2) (fun _=>rfl)) pins s σ H D I
   (Ct q.2)
 | .frV i e b=>fun C xo h pins s σ H D I q=>
  PS.hZ (nY PassesOwn.never (C.calm q.1) (uh (X:=Cx.hZ _) (sE _ _ e C.hZ.toCtx eE.no (a2 (a2 h).2).1) (a2 (a2 (a2 h).1).2).1 (a2 (a2 (a2 h).1).2).2) (gZ C.nd (eO (a2 (a2 (a2 h).1).1).1) (C.loc _ (a2 (a2 (a2 h).1).1).2).1 (C.loc _ (a2 (a2 (a2 h).1).1).2).2) (vH b C.hZ eE.no (a2 (a2 h).2).2) (fun _=>rfl)) pins s σ H D I
   (Cs q.2)
 | .sto o i e=>fun C xo h=>Bo C.un (sE _ _ o C.toCtx xo (a2 (a2 h).1).2) (sE _ _ i C.toCtx xo (a2 (a2 h).2).1) (sE _ _ e C.toCtx xo (a2 (a2 h).2).2) (i7 (lL (a2 (a2 h).1).1))
 | .asgT is e=>fun C xo h pins s σ H D I q=>y0 C.g.mod (C.calm q.1) (gY C (a2 (a2 h).1).2) rH oG (sE _ _ e C.toCtx xo (a2 h).2) (lL (a2 (a2 (a2 h).1).1).1) (C4 (a2 (a2 (a2 h).1).1).2) pins s σ H D I q.2
 | .frT is it b=>fun C xo h pins s σ H D I q=>
  PS.hZ (vT PassesOwn.never (C.calm q.1) (sI _ _ it C.hZ.toCtx eE.no (a2 (a2 h).2).1) (qQ (X:=Cx.hZ _) (C.calm q.1) (gY C.hZ (a2 h).1) rH oG) (vH b C.hZ eE.no (a2 (a2 h).2).2) (eA (jl it))) pins s σ H D I
   ⟨_,q.2,fun J xs aC H1 sq z=>xC C.g.mod sq z⟩
 | .raisF x args=>fun C xo h=>PS.never fun D σ H q=>q
 | .frD i e b=>fun C xo h pins s σ H D I q=>
  PS.hZ (nY PassesOwn.never (C.calm q.1) (za (sE _ _ e C.hZ.toCtx eE.no (a2 (a2 h).2).1)) (gZ C.nd (eO (a2 (a2 h).1).1) (C.loc _ (a2 (a2 h).1).2).1 (C.loc _ (a2 (a2 h).1).2).2) (vH b C.hZ eE.no (a2 (a2 h).2).2) (eA (bg e))) pins s σ H D I
   (Cu q.2)
theorem vH:(ss:cR)->∀ {X:Cx} {Γ:bf} {sc:Scope} {k:Nat} {Ξ:XS} {asts:List Stmt},jR X Γ sc k->eE X Ξ->uB sc X.N ss asts=true->vh X (tG X.N ss asts) (wSs ss Γ Ξ)
 | .nil=>fun C xo h=>yW
 | .cons s r=>fun C xo h=>vR (sS s C xo (a2 h).1) (vH r C xo (a2 h).2)
end
theorem sB {X:Cx} {Γ:bf} {sc:Scope} {k:Nat} {Ξ:XS} {ss:cR} {asts:List Stmt} (C:jR X Γ sc k) (xo:eE X Ξ) (h:eZ sc X.N ss asts):vh X asts (wSs ss Γ Ξ):=h.1 ▸ vH ss C xo h.2
end Sw
namespace Sw
open PySem PySem.Spec PyProof.Rows L2
open PySem.W (Frag keepIn ktsIn mroIn kitOne)
noncomputable def cG (Γ:bf) (N:List Str) (n:Nat) (body:cR):Sp:=fun vs H Q E=>vs.length=n/\wSs body Γ (fun C d _ H'=>E C d H') {nx:=fun _ H'=>Q .non H',rt:=Q} (start N vs) H
section
variable {P:Program} {w:World} {K:Frag} {mg:Str->Option Value} {base:Heap} {Γ:bf} {k:Nat}
theorem zS {x qual:Str} {st:Stmt} {f:Addr} {fd:FuncData} {N ps:List Str} {body:cR} (F:qx K x qual st f fd) (S:aF N ps (aa st)) (g:aP P w K mg base Γ k) (hm:eZ (aa st) N body (af st)) (hlm:Γ.lm=none:=by rfl):
  cO P w K mg base (fP P w) (k + 2) f fd ps (cG Γ N ps.length body):=by
 obtain⟨oc,od,kV,doc,pm,an,cdv,ct,osl,rfl,lk,hcd⟩:=F.ex
 refine AF lk hcd S (fun vs H Q E h=>h.1) fun A outer s H vs Q E hr hsp=>?_
 have C:jR (gu (fP P w) P w K mg base N qual (aa st) f cdv A outer s H E) Γ (aa st) k:=by
  refine⟨⟨g,fun _=>hr,fun _=>rfl,hr.units,fun x h=>?_,fun x h=>?_,fun y h=>h,⟨_,_,_,rfl,rfl,rfl⟩⟩,S.nd,fun x h=>⟨?_,.inl rfl⟩,fun x h=>h,⟨rfl,rfl⟩,fun D Ts e=>by rw[hlm]at e;cases e⟩
  ·unfold j2 at h
   unfold Ag
   split at h<;>first | (rename_i e;first | exact .inl e | exact .inr (.inl e) | exact .inr (.inr e)) | cases h
  ·unfold ef at h
   split at h<;>first | (rename_i e;exact e) | cases h
  ·unfold eL at h
   unfold L2.Loc
   split at h<;>first | (rename_i e;first | exact .inl e | exact .inr e) | cases h
 exact⟨_,sB C rS hm,hsp.2⟩
theorem aP.mono {j:Nat} (g:aP P w K mg base Γ j) (h:j<=k):aP P w K mg base Γ k:=
 ⟨g.mod,g.con,fun f hf=>let ⟨fa,fd,ps,h1,h2,h3,h4⟩:=g.fn f hf;⟨fa,fd,ps,h1,h2,h3.mono h,h4⟩,
  g.no,g.vc.mono h,g.gd⟩
noncomputable def Off (K:Frag) (H:Hp):Prop:=∀b o,K.lookup b=some o->H b=none
theorem cO.off {CX:rQ} {f:Addr} {fd:FuncData} {ps:List Str} {sp sp':Sp} (F:cO P w K mg base CX k f fd ps sp) (len:∀vs H Q E,sp' vs H Q E->vs.length=ps.length) (h:∀vs H Q E,Off K H->sp' vs H Q E->sp vs H Q E):
  cO P w K mg base CX k f fd ps sp':=
 ⟨len,fun A outer s H args us vs Q E hr he hb hv hs=>F.run A outer s H args us vs Q E hr he hb hv (h _ _ _ _ (fun b o e=>(he.bs b o (he.mod.uL b o e)).2) hs)⟩
end
noncomputable def yo (K:Frag) (a:Addr) (xs:List V):Prop:=∃ (o:Obj) (its:Array Value) (n:Nat),K.lookup a=some o/\o.cls=.type "list" /\o.dict=none/\o.data=.seq its n/\its.size<=sizeLine/\Vals xs its.toList
noncomputable def CN (K:Frag) (a:Addr) (xs:List V):Prop:=∃ (o:Obj) (its:Array Value) (n:Nat),K.lookup a=some o/\o.cls=.type "tuple" /\o.data=.seq its n/\its.size<=sizeLine/\Vals xs its.toList
open Classical in
noncomputable def aE (K:Frag):Mo:=fun a=>if h:∃xs,yo K a xs then some (.lst h.choose)else if h:∃xs,CN K a xs then some (.tup h.choose)else none
theorem n9 (K:Frag):aJ K (aE K):=by
 intro a o h
 unfold aE at h
 split at h
 ·rename_i z;cases h;exact z.choose_spec
 ·split at h
  ·rename_i z;cases h;exact z.choose_spec
  ·cases h
theorem wX {K:Frag} {a:Addr} {xs:List V} (h:yo K a xs):aE K a=some (.lst xs):=by
 have z:∃xs,yo K a xs:=⟨xs,h⟩
 unfold aE
 rw[dif_pos z]
 obtain⟨o,its,n,h1,h2,h3,h4,h5,h6⟩:=h
 obtain⟨o',its',n',k1,k2,k3,k4,k5,k6⟩:=z.choose_spec
 rw[h1]at k1;cases k1
 rw[h4]at k4;cases k4
 rw[Vals.inj k6 h6]
theorem i8 {K:Frag} {a:Addr} {xs:List V} (h:CN K a xs):aE K a=some (.tup xs):=by
 have z:∃xs,CN K a xs:=⟨xs,h⟩
 have y:¬∃xs,yo K a xs:=fun⟨ys,o,its,n,k1,k2,_⟩=>by
  obtain⟨o',its',n',h1,h2,_⟩:=h
  rw[h1]at k1;cases k1
  rw[h2]at k2
  simp at k2
 unfold aE
 rw[dif_neg y,dif_pos z]
 obtain⟨o,its,n,h1,h2,h4,h5,h6⟩:=h
 obtain⟨o',its',n',k1,k2,k4,k5,k6⟩:=z.choose_spec
 rw[h1]at k1;cases k1
 rw[h4]at k4;cases k4
 rw[Vals.inj k6 h6]
theorem t_ {K:Frag} {H:Hp} {a:Addr} {xs:List V} (off:Off K H) (h:kL K H a xs):rd (aE K) H a=some (.lst xs):=by
 unfold rd
 rcases h with (h | ⟨o,h⟩) | h
 ·rw[h]
 ·rw[h]
 ·have z:yo K a xs:=h
  obtain⟨o,_,_,h1,_⟩:=h
  rw[off a o h1]
  exact wX z
end Sw
namespace Sw
open PySem PySem.Spec PyProof.Rows L2
open PySem.W (Frag keepIn)
noncomputable def bf.wit (Γ:bf) (l:List (Str × Sp)):bf:={Γ with has:=fun x=>(l.lookup x).isSome || Γ.has x,fn:=fun x=>(l.lookup x).getD (Γ.fn x)}
section
variable {P:Program} {w:World} {K:Frag} {mg:Str->Option Value} {base:Heap} {Γ:bf} {k:Nat}
theorem aP.E5 (g:aP P w K mg base Γ k):aP P w K mg base (Γ.wit []) k:=⟨g.mod,g.con,g.fn,g.no,g.vc,g.gd⟩
theorem aP.cF {l:List (Str × Sp)} {f:Str} {fa:Addr} {fd:FuncData} {ps:List Str} {sp:Sp} {j:Nat} (g:aP P w K mg base (Γ.wit l) k) (hm:mg f=some (.ref fa)) (hk:keepIn K (.ref fa)=true) (F:cO P w K mg base (fP P w) j fa fd ps sp) (hb:Binds K fd ps []) (h1:j<=k):
  aP P w K mg base (Γ.wit ((f,sp)::l)) k:=by
 refine⟨g.mod,g.con,fun x hx=>?_,g.no,g.vc,g.gd⟩
 have e:∀x,((f,sp)::l).lookup x=if x == f then some sp else l.lookup x:=fun x=>by
  rw[List.lookup_cons]
  cases x == f<;>rfl
 have hx:((((f,sp)::l).lookup x).isSome || Γ.has x)=true:=hx
 show ∃fa fd ps,_/\_/\cO P w K mg base (fP P w) k fa fd ps ((((f,sp)::l).lookup x).getD (Γ.fn x))/\_
 rw[e]at hx ⊢
 by_cases q:x=f
 ·subst q
  rw[beq_self_eq_true,if_pos rfl]
  exact⟨fa,fd,ps,hm,hk,F.mono h1,hb⟩
 ·have q':(x == f)=false:=by simpa using q
  rw[q']at hx ⊢
  rw[if_neg Bool.false_ne_true]at hx ⊢
  exact g.fn x hx
end
section
variable {K:Frag} {x qual:Str} {st:Stmt} {f:Addr} {fd:FuncData}
@[reducible] noncomputable def kI (x qual:Str) (st:Stmt) (ps:List Str) (us:List Value):Prop:=∀ (kV doc pm:Value) (an:Option Addr) (cdv ct:Value),bindArgs (PySem.W.fnOf x qual (aB st) (af st) (aa st) .none kV doc pm an cdv ct) ⟨us,[]⟩=pure (ps.zip us)
theorem len_one {α:Type}:∀ {us:List α},us.length=1->∃a,us=[a]
 | [a],_=>⟨a,rfl⟩
theorem fh {α:Type}:∀ {us:List α},us.length=2->∃a b,us=[a,b]
 | [a,b],_=>⟨a,b,rfl⟩
theorem uJ {α:Type}:∀ {us:List α},us.length=3->∃a b c,us=[a,b,c]
 | [a,b,c],_=>⟨a,b,c,rfl⟩
theorem w_ {α:Type}:∀ {us:List α},us.length=4->∃a b c d,us=[a,b,c,d]
 | [a,b,c,d],_=>⟨a,b,c,d,rfl⟩
theorem cI {p:Str} (F:qx K x qual st f fd) (h:∀a,kI x qual st [p] [a]):Binds K fd [p] []:=F.binds fun kV doc pm an cdv ct us hl=>by
 obtain⟨a,rfl⟩:=len_one hl
 exact h a kV doc pm an cdv ct
theorem cH {p q:Str} (F:qx K x qual st f fd) (h:∀a b,kI x qual st [p,q] [a,b]):Binds K fd [p,q] []:=F.binds fun kV doc pm an cdv ct us hl=>by
 obtain⟨a,b,rfl⟩:=fh hl
 exact h a b kV doc pm an cdv ct
theorem oF {p q r:Str} (F:qx K x qual st f fd) (h:∀a b c,kI x qual st [p,q,r] [a,b,c]):Binds K fd [p,q,r] []:=F.binds fun kV doc pm an cdv ct us hl=>by
 obtain⟨a,b,c,rfl⟩:=uJ hl
 exact h a b c kV doc pm an cdv ct
theorem Ad {p q r t:Str} (F:qx K x qual st f fd) (h:∀a b c d,kI x qual st [p,q,r,t] [a,b,c,d]):Binds K fd [p,q,r,t] []:=F.binds fun kV doc pm an cdv ct us hl=>by
 obtain⟨a,b,c,d,rfl⟩:=w_ hl
 exact h a b c d kV doc pm an cdv ct
end
end Sw
namespace Sw
open PySem PySem.Spec PyProof.Rows L2
theorem uW {te:TE} {fvs:L2.St} {D:Addr} {aC:Hp->Prop} {H0:Hp} {k:Hp->Prop} (f:V->V):∀ (xs acc:List V),(∀ v ∈ xs,∀H Q,Q (f v) H->te (some v::fvs) H Q)->(∀ l,aC (upd H0 D (.lst l)))->acc.length + xs.length<=sizeLine->
  k (upd H0 D (.lst (acc++xs.map f)))->cV te (fun _ H Q=>Q true H) fvs D aC xs acc (upd H0 D (.lst acc)) k:=by
 intro xs
 induction xs with
 | nil=>
  intro acc h1 h2 h3 h4
  exact⟨h2 _,aA,by simpa using h4⟩
 | cons v r ih=>
  intro acc h1 h2 h3 h4
  refine⟨h2 _,?_⟩
  show if true=true then _ else _
  rw[if_pos rfl]
  refine h1 v List.mem_cons_self _ _ ⟨aA,by rw[List.length_cons]at h3;omega,?_⟩
  rw[eK]
  refine ih (acc++[f v]) (fun v hv=>h1 v (List.mem_cons_of_mem _ hv)) h2 (by rw[List.length_append];simp at h3 ⊢;omega) ?_
  simpa using h4
theorem dv {i:Nat} {tb:TS} {aC:Hp->Prop} {D:Ends} {xs:List V} (Pv:Nat->L2.St->Hp->Prop) (st:∀n σ H,Pv n σ H->aC H)
  (step:∀n v σ H (D':Ends),xs[n]?=some v->Pv n σ H->(∀ σ' H',Pv (n + 1) σ' H'->D'.nx σ' H')->(∀ σ' H',Pv (n + 1) σ' H'->D'.ct σ' H')->D'.rt=D.rt->D'.bk=D.nx->tb D' (σ.set i (some v)) H)
  (fin:∀σ H,Pv xs.length σ H->D.nx σ H) {σ:L2.St} {H:Hp} (h0:Pv 0 σ H):jd i tb aC xs D σ H:=by
 have go:∀ (r:List V) (n:Nat),xs.drop n=r->n<=xs.length->∀σ H,Pv n σ H->jd i tb aC r D σ H:=by
  intro r
  induction r with
  | nil=>
   intro n e hn σ H p
   have:xs.length<=n:=by simpa using e
   have hn':n=xs.length:=by omega
   subst hn'
   exact⟨st _ σ H p,fin σ H p⟩
  | cons v r ih=>
   intro n e hn σ H p
   have hlt:n < xs.length:=by
    have:=congrArg List.length e
    simp at this
    omega
   have hv:xs[n]?=some v:=by
    have:=congrArg (fun l=>l[0]?) e
    simpa using this
   have hr:xs.drop (n + 1)=r:=by
    have:=congrArg List.tail e
    simpa[List.tail_drop]using this
   exact⟨st _ σ H p,step n v σ H _ hv p (fun σ' H' q=>ih (n + 1) hr hlt σ' H' q) (fun σ' H' q=>ih (n + 1) hr hlt σ' H' q) rfl rfl⟩
 exact go xs 0 (by simp) (Nat.zero_le _) σ H h0
structure Ext (M:Mo) (H H':Hp):Prop where
 same:∀a o,H a=some o->H' a=some o
 off:∀a,M a ≠ none->H a=none->H' a=none
theorem Ext.refl {M:Mo} {H:Hp}:Ext M H H:=⟨fun _ _ h=>h,fun _ _ h=>h⟩
theorem Ext.trans {M:Mo} {H H1 H2:Hp} (a:Ext M H H1) (b:Ext M H1 H2):Ext M H H2:=⟨fun c o h=>b.same c o (a.same c o h),fun c m h=>b.off c m (a.off c m h)⟩
theorem Ext.upd {M:Mo} {H:Hp} {p:Addr} {o:HO} (h:H p=none) (m:M p=none):Ext M H (upd H p o):=
 ⟨fun b u e=>by rw[ae (aD e h)];exact e,fun b mb e=>by rw[ae (fun z=>mb (by rw[z];exact m))];exact e⟩
theorem Ext.rd {M:Mo} {H H':Hp} {a:Addr} {u:HO} (s:Ext M H H') (e:rd M H a=some u):rd M H' a=some u:=by
 unfold Sw.rd at e ⊢
 cases q:H a with
 | none=>
  rw[q]at e
  rw[s.off a (by intro z;rw[z]at e;cases e) q]
  exact e
 | some o=>rw[s.same a o q];rw[q]at e;exact e
theorem br {M:Mo} {H:Hp} {p:Addr} {o:HO} (h:∀ob u,o ≠ .frz ob u):Sw.rd M (L2.upd H p o) p=some o:=by
 unfold Sw.rd
 rw[aA]
 cases o<;>first | rfl | exact absurd rfl (h _ _)
section
variable {M:Mo} {H:Hp} {Q:VK}
theorem v_add (i j:Int):iE M .Add (.int i) (.int j) H Q=Q (.int (i + j)) H:=rfl
theorem eh (x y:Str):iE M .Add (.str x) (.str y) H Q=(x.length + y.length<=sizeLine/\Q (.str (x++y)) H):=rfl
theorem v_sub (i j:Int):iE M .Sub (.int i) (.int j) H Q=Q (.int (i - j)) H:=rfl
theorem v_mul (i j:Int):iE M .Mult (.int i) (.int j) H Q=((qj i || qj j)=true/\Q (.int (i * j)) H):=rfl
theorem v_div (i j:Int):iE M .FloorDiv (.int i) (.int j) H Q=(0 < j/\j < 1073741824/\Q (.int (i / j)) H):=rfl
theorem v_mod (i j:Int):iE M .Mod (.int i) (.int j) H Q=(0 < j/\Q (.int (i % j)) H):=rfl
theorem v_pow (i j:Int):iE M .Pow (.int i) (.int j) H Q=(yq i j/\Q (.int (i ^ j.toNat)) H):=rfl
theorem v_lt (i j:Int):eJ M .Lt (.int i) (.int j) H Q=Q (.bl (decide (i < j))) H:=rfl
theorem tP (i j:Int):eJ M .LtE (.int i) (.int j) H Q=Q (.bl (decide (i<=j))) H:=rfl
theorem vm (x y:Str):eJ M .In (.str x) (.str y) H Q=Q (.bl (!(Builtin.Str.occurrences y x 0 y.length 1).isEmpty)) H:=rfl
theorem iR (i j:Int):eJ M .Eq (.int i) (.int j) H Q=Q (.bl (decide (i=j))) H:=by
 show Q (.bl (decide (V.int i=V.int j))) H=_
 simp only[V.int.injEq]
theorem Am (i j:Int):eJ M .NotEq (.int i) (.int j) H Q=Q (.bl (!decide (i=j))) H:=by
 show Q (.bl (!decide (V.int i=V.int j))) H=_
 simp only[V.int.injEq]
theorem jX (x y:Str):eJ M .Eq (.str x) (.str y) H Q=Q (.bl (decide (x=y))) H:=by
 show Q (.bl (decide (V.str x=V.str y))) H=_
 simp only[V.str.injEq]
theorem vk (x y:Str):eJ M .NotEq (.str x) (.str y) H Q=Q (.bl (!decide (x=y))) H:=by
 show Q (.bl (!decide (V.str x=V.str y))) H=_
 simp only[V.str.injEq]
theorem An (x y:Bool):eJ M .NotEq (.bl x) (.bl y) H Q=Q (.bl (!decide (x=y))) H:=by
 show Q (.bl (!decide (V.bl x=V.bl y))) H=_
 simp only[V.bl.injEq]
theorem vn (x y:Bool):eJ M .Eq (.bl x) (.bl y) H Q=Q (.bl (decide (x=y))) H:=by
 show Q (.bl (decide (V.bl x=V.bl y))) H=_
 simp only[V.bl.injEq]
theorem Df (a b:Addr):jr (.ref a) (.ref b)=false:=rfl
theorem jo (x:Str) (k:Int):iE M .Mult (.str x) (.int k) H Q=((-(2 ^ 63)<=k/\k < 2 ^ 63/\x.length * k.toNat<=16777216)/\Q (.str (Txt.mul x k)) H):=rfl
theorem Ao (a b:Addr):iE M .Add (.ref a) (.ref b) H Q=(match rd M H a,rd M H b with
  | some (.lst xs),some (.lst ys)=>xs.length + ys.length<=sizeLine/\∀p,H p=none->M p=none->Q (.ref p) (upd H p (.lst (xs++ys)))
  | _,_=>False):=rfl
theorem B2 (x:Str) (p:Addr):f_ M .join (.str x) [.ref p] H Q=(match rd M H p with | some (.lst xs)=>(match allM Ey xs with | some ts=>JoinOk x ts=true/\Q (.str (Txt.join x ts)) H | none=>False) | _=>False):=rfl
theorem m_split (x y:Str):f_ M .split (.str x) [.str y] H Q=((y.length == 0)=false/\x.length<=1000000/\∀l,H l=none->M l=none->Q (.ref l) (upd H l (.lst ((Txt.split x y).map V.str)))):=rfl
theorem lz (p:Addr) (v:V):f_ M .append (.ref p) [v] H Q=(match H p with | some (.lst xs)=>xs.length < sizeLine/\Q .non (upd H p (.lst (xs++[v]))) | _=>False):=rfl
theorem ff (b:Bool) {R:Bool->Prop}:eu M (.bl b) H R=R b:=rfl
theorem Ar {R:Bool->Prop}:eu M .non H R=R false:=rfl
theorem As (i:Int) {R:Bool->Prop}:eu M (.int i) H R=R (i != 0):=rfl
theorem lQ (x:Str):eQ M .len [.str x] H Q=(x.length<=sizeLine/\Q (.int x.length) H):=rfl
theorem lR (p:Addr):eQ M .len [.ref p] H Q=(match rd M H p with | some (.lst xs)=>Q (.int xs.length) H | some (.tup xs)=>Q (.int xs.length) H | _=>False):=rfl
theorem yb (i:Int):eQ M .str [.int i] H Q=(i.natAbs.log2 < 1920/\Q (.str (toString i)) H):=rfl
theorem yd (x:Str):eQ M .int [.str x] H Q=(x.length<=640/\match PySem.intText? x with | some n=>Q (.int n) H | none=>False):=rfl
theorem yf (i:Int):eQ M .abs [.int i] H Q=Q (.int (if i < 0 then -i else i)) H:=rfl
theorem p5 (z:Str) (i:Int):gj M (.str z) (.int i) H Q=(z.length<=sizeLine/\match kK z.cps.toList i with | some c=>Q (.str ⟨#[c]⟩) H | none=>False):=rfl
theorem sL (p:Addr) (i:Int):gj M (.ref p) (.int i) H Q=(match rd M H p with | some (.lst xs)=>(match kK xs i with | some v=>Q v H | none=>False) | some (.tup xs)=>(match kK xs i with | some v=>Q v H | none=>False) | _=>False):=rfl
theorem r_ (z:Str) (lo hi:Option Int):t8 M (.str z) lo hi H Q=(z.length<=sizeLine/\Q (.str (Txt.slice z lo hi)) H):=rfl
theorem pA (p:Addr) (lo hi:Option Int):t8 M (.ref p) lo hi H Q=(match rd M H p with
  | some (.lst xs)=>∀l,H l=none->M l=none->Q (.ref l) (upd H l (.lst (jJ xs lo hi)))
  | _=>False):=rfl
theorem wZ (x y:Str):f_ M .startswith (.str x) [.str y] H Q=Q (.bl (Txt.startswith x y)) H:=rfl
end
@[reducible] noncomputable def cps (x:Str):List Nat:=x.cps.toList
theorem cq (x:Str):x.length=(cps x).length:=by
 show x.cps.size=x.cps.toList.length
 simp
theorem seq {s:Sx} {r:cR} {Γ:bf} {Ξ:XS} {D:Ends} {σ:L2.St} {H:Hp} (h:wS s Γ Ξ {D with nx:=wSs r Γ Ξ D} σ H):wSs (.cons s r) Γ Ξ D σ H:=by
 rw[wSs]
 exact h
theorem eI {Γ:bf} {Ξ:XS} {D:Ends} {σ:L2.St} {H:Hp} (h:D.nx σ H):wSs .nil Γ Ξ D σ H:=by
 rw[wSs]
 exact h
end Sw
namespace Sw
theorem ax {α:Type} (a:α) (l:List α):(a::l)[0]?=some a:=rfl
theorem aw {α:Type} (a:α) (l:List α) (n:Nat):(a::l)[n + 1]?=l[n]?:=rfl
theorem ah {α:Type} (a b:α) (l:List α):(a::l).set 0 b=b::l:=rfl
theorem ag {α:Type} (a b:α) (l:List α) (n:Nat):(a::l).set (n + 1) b=a::l.set n b:=rfl
theorem ao {α β:Type} (f:α->β):List.map f []=[]:=rfl
theorem ak {α β:Type} (f:α->β) (a:α) (l:List α):List.map f (a::l)=f a::List.map f l:=rfl
theorem az {α:Type} (l:List α):[]++l=l:=rfl
theorem ay {α:Type} (a:α) (l m:List α):(a::l)++m=a::(l++m):=rfl
theorem au {α:Type}:([]:List α).length=0:=rfl
theorem aq {α:Type} (a:α) (l:List α):(a::l).length=l.length + 1:=rfl
theorem aj {α:Type} (a:α):List.replicate 0 a=[]:=rfl
theorem ai {α:Type} (a:α) (n:Nat):List.replicate (n + 1) a=a::List.replicate n a:=rfl
theorem av {α:Type} (a:Option α):(some a).join=a:=rfl
end Sw
namespace Sw
open PySem PySem.Spec PyProof.Rows L2
open PySem.W (Frag keepIn ktsIn mroIn kitOne fnX fnMade)
theorem cM:∀ (names:List (Str × NameKind)) (n:Nat) (acc:List (Str × Addr)),cellsFrom n names acc=cellsFrom n names []++acc
 | [],n,acc=>rfl
 | (name,kind)::r,n,acc=>by
  unfold cellsFrom
  split
  ·rw[cM r (n + 1) ((name,n)::acc),cM r (n + 1) [(name,n)],List.append_assoc]
   rfl
  ·exact cM r n acc
theorem dg {α:Type}:∀ {l m:List (Str × α)} {x:Str} {a:α},l.lookup x=some a->(l++m).lookup x=some a
 | [],_,_,_,h=>by simp at h
 | (y,b)::r,m,x,a,h=>by
  rw[List.cons_append,List.lookup_cons]
  rw[List.lookup_cons]at h
  split at h
  ·exact h
  ·exact dg h
theorem dM {α:Type}:∀ {l m:List (Str × α)} {x:Str},l.lookup x=none->(l++m).lookup x=m.lookup x
 | [],_,_,_=>rfl
 | (y,b)::r,m,x,h=>by
  rw[List.cons_append,List.lookup_cons]
  rw[List.lookup_cons]at h
  split at h
  ·cases h
  ·exact dM h
theorem qG {env iD:Env} {n:Str} {v:Value} (h1:env.scope=iD.scope) (h2:env.locals=iD.locals) (h3:env.globals=iD.globals) (hk:env.scope.kind=.function)
  (h:env.scope.names.lookup n=some .local\/env.cells.lookup n=iD.cells.lookup n):storeName env n v=storeName iD n v:=by
 obtain⟨sc,L,g,cs,q,fu,co,fr,bu⟩:=env
 obtain⟨sc0,L0,g0,cs0,q0,fu0,co0,fr0,bu0⟩:=iD
 simp only at h1 h2 h3 hk h
 subst h1 h2 h3
 rcases h with h | h
 ·unfold storeName Env.kindOf Env.blockKind
  simp only[h]
  rfl
 ·unfold storeName Env.kindOf Env.blockKind cellOf
  simp only[h,hk]
  rfl
theorem j3 {env iD:Env}:∀ (binds:List (Str × Value)),(∀ x ∈ binds,storeName env x.1 x.2=storeName iD x.1 x.2)->
  (forIn binds (⟨⟩:PUnit) fun x (_:PUnit)=>(do storeName env x.1 x.2;pure (ForInStep.yield (⟨⟩:PUnit)):Sem _))=forIn binds (⟨⟩:PUnit) fun x (_:PUnit)=>(do storeName iD x.1 x.2;pure (ForInStep.yield (⟨⟩:PUnit)):Sem _)
 | [],_=>rfl
 | x::r,h=>by
  rw[List.forIn_cons,List.forIn_cons,h x (by simp)]
  have ih:=j3 (env:=env) (iD:=iD) r fun y hy=>h y (by simp[hy])
  simp only[bind_assoc,pure_bind,ih]
section
variable {M:Model} {A:Around} {E:Value->Shared->Prop} {s:Shared}
theorem lp {scope:Scope} {globals:Addr} {clos:List (Str × Addr)} {binds:List (Str × Value)} {qual:Str} {func:Option Addr} {code:Value} {builtins:Addr} {Q:Env->Shared->Prop}
  (hk:scope.kind=.function)
  (hkind:∀x ∈ binds,scope.names.lookup x.1=some .local\/(scope.names.lookup x.1=some .cell/\((cellsFrom (s.heap.objs.size + 1) scope.names []).lookup x.1).isSome=true))
  (hQ:∀s',InCallC s s.heap.objs.size (bindL (fun x=>scope.names.lookup x) binds fun _=>none) (cellsFrom (s.heap.objs.size + 1) scope.names []) (bindC (fun x=>scope.names.lookup x) binds fun _=>none) s'->
   Q (newEnv scope s.heap.objs.size globals (cellsFrom (s.heap.objs.size + 1) scope.names []++clos) qual func code none builtins) s'):
  wpAny M A (newFunctionEnv scope globals clos binds qual func code none builtins) Q E s:=by
 simp only[newFunctionEnv,Option.isSome_none,Bool.false_eq_true,if_false]
 refine wpAny_bind (wpAny_alloc ?_)
 refine wpAny_bind (wpAny_layCells _ (fun name kind cells=>by cases hkc:kind == NameKind.cell<;>simp[hkc]) _ _ _ _ ?_)
 have ok:=cellsFrom_ok scope.names (s.heap.push {cls:=.type "frame",data:=.dict #[]}) (s.heap.objs.size + 1) [] ⟨fun _ _ hm=>(nomatch hm),List.Pairwise.nil⟩ (by rw[Heap.size_push];exact Nat.le_refl _)
 rw[Heap.size_push]at ok
 rw[show({s with heap:=s.heap.push {cls:=.type "frame",data:=.dict #[]}}:Shared).heap.objs.size=s.heap.objs.size + 1 from Heap.size_push ..]
 rw[cM]
 refine wpAny_bind ?_
 have same:=j3 (env:=newEnv scope s.heap.objs.size globals (cellsFrom (s.heap.objs.size + 1) scope.names []++clos) qual func code none builtins)
  (iD:=newEnv scope s.heap.objs.size globals (cellsFrom (s.heap.objs.size + 1) scope.names []) qual func code none builtins) binds fun x hx=>by
   refine qG rfl rfl rfl hk ?_
   rcases hkind x hx with h | ⟨h,h'⟩
   ·exact .inl h
   ·obtain⟨c,hc⟩:=Option.isSome_iff_exists.mp h'
    exact .inr ((dg hc).trans hc.symm)
 refine(show wpAny M A (forIn binds (⟨⟩:PUnit) fun x (_:PUnit)=>(do storeName (newEnv scope s.heap.objs.size globals (cellsFrom (s.heap.objs.size + 1) scope.names []++clos) qual func code none builtins) x.1 x.2;pure (ForInStep.yield (⟨⟩:PUnit)):Sem _)) _ E _ from ?_)
 rw[same]
 exact wpAny_bindParams (s₀:=s) (env:=newEnv scope s.heap.objs.size globals (cellsFrom (s.heap.objs.size + 1) scope.names []) qual func code none builtins)
  _ (fun _ _ _=>rfl) hk binds (fun _=>none) (fun _=>none) _ _
  ⟨⟨⟨_,_,rfl⟩,(Heap.Ns.new s.heap (.type "frame")).keeps (pushCells_keeps _ _),fun b o e=>pushCells_keeps _ _ b o (Heap.get?_push_of_some _ e),Nat.le_refl _⟩,
   fun n c hc=>(ok.empty n c (mem_of_lookup hc)).1,ok.apart,fun n c hm=>(ok.empty n c hm).2⟩
  hkind fun s' x=>wpAny_pure (hQ s' x)
end
end Sw
namespace Sw
open PySem PySem.Spec PyProof.Rows L2
open PySem.W (Frag keepIn ktsIn mroIn kitOne fnX fnMade)
structure cZ (N ps:List Str) (x:Str) (sc:Scope):Prop where
 kind:sc.kind=.function
 co:sc.isCoroutine=false
 gen:sc.isGenerator=false
 nd:N.Nodup
 pre:N.take ps.length=ps
 lt:ps.length < N.length
 last:N[N.length - 1]?=some x
 par:∀y ∈ ps,sc.names.lookup y=some .local\/sc.names.lookup y=some .cell
 fx:sc.names.lookup x=some .free
 only:∀y ∈ sc.names,y.2=.free->y.1=x
 hZ:∀y ∈ sc.names,y.2=.cell->y.1 ≠ x
noncomputable def ab (N:List Str) (vs:List V) (v:V):L2.St:=vs.map some++List.replicate (N.length - 1 - vs.length) none++[some v]
theorem eP:∀ (names:List (Str × NameKind)) (n:Nat) (y:Str × Addr),y ∈ cellsFrom n names []->∃z ∈ names,z.1=y.1/\z.2=.cell
 | [],_,y,h=>by simp[cellsFrom]at h
 | (name, kind) :: r, n, y, h => by
  unfold cellsFrom at h
  split at h
  ·rename_i hk
   rw[cM]at h
   rcases List.mem_append.mp h with h | h
   ·obtain⟨z,hz,e⟩:=eP r (n + 1) y h
    exact⟨z,by simp[hz],e⟩
   ·rw[List.mem_singleton.mp h]
    exact⟨(name,kind),by simp,rfl,by simpa using hk⟩
  ·obtain⟨z,hz,e⟩:=eP r n y h
   exact⟨z,by simp[hz],e⟩
theorem wC {N ps:List Str} {x:Str} {sc:Scope} (S:cZ N ps x sc) (n:Nat):(cellsFrom n sc.names []).lookup x=none:=by
 cases q:(cellsFrom n sc.names []).lookup x with
 | none=>rfl
 | some c=>
  obtain⟨z,hz,e1,e2⟩:=eP _ _ _ (PySem.mem_of_lookup q)
  exact absurd e1 (S.hZ z hz e2)
@[reducible] noncomputable def rA (qual:Str) (scope:Scope) (L f:Addr) (cd:Value) (clos:List (Str × Addr)):Env:=newEnv scope L mainGlobals (cellsFrom (L + 1) scope.names []++clos) (qual++ ".<locals>.") (some f) cd none builtinsNs
noncomputable def Ep (CX:rQ) (P:Program) (w:World) (K:Frag) (mg:Str->Option Value) (base:Heap) (N:List Str) (qual:Str) (scope:Scope) (f:Addr) (cd:Value) (clos:List (Str × Addr)) (A:Around) (outer:List Env) (s:Shared) (H:Hp) (E:XK):Cx where
 prog:=P
 w:=w
 K:=K
 mg:=mg
 base:=base
 A:=A.deeper (rA qual scope s.heap.objs.size f cd clos)
 N:=N
 s₀:=s
 H₀:=H
 env:=rA qual scope s.heap.objs.size f cd clos
 outer:=outer
 stack:=rA qual scope s.heap.objs.size f cd clos::outer
 ex:=[]
 calm:=true
 fn:=fun y=>decide (scope.names.lookup y=some .cell)
 pn:=[]
 xe:=fun e s'=>wpAny (model P w) (A.deeper (rA qual scope s.heap.objs.size f cd clos)) (leaving (rA qual scope s.heap.objs.size f cd clos) e) (fun _ s''=>CX outer H s E e s'') (fun e' s''=>CX outer H s E e' s'') s'
theorem wR {i v n:Nat} (h:v < n) (h1:¬i < v) (h2:¬i - v < n - 1 - v) (h3:i - v - (n - 1 - v) < 1):i=n - 1:=by
 have a:i - v=n - 1 - v:=Nat.le_antisymm (Nat.sub_eq_zero_iff_le.mp (Nat.lt_one_iff.mp h3)) (Nat.not_lt.mp h2)
 have b:=Nat.sub_add_cancel (Nat.not_lt.mp h1)
 have c:=Nat.sub_add_cancel (Nat.le_sub_one_of_lt h)
 rw[<-b,a,c]
theorem lH {CX:rQ} {P:Program} {w:World} {K:Frag} {mg:Str->Option Value} {base:Heap} {N ps:List Str} {x qual:Str} {scope:Scope} {f c:Addr} {cd:Value} {A:Around} {outer:List Env} {s s1:Shared} {H:Hp} {E:XK} {us:List Value} {vs:List V} {v:V} {u:Value}
  (S:cZ N ps x scope) (hd:A.handled=none) (e0:lV P w K mg base A outer s H) (hl:vs.length=ps.length) (r:Vals vs us) (hc:s.heap.IsCell c (some u)) (rv:RelV v u) (hn:H c=none)
  (xc:InCallC s s.heap.objs.size (bindL (fun x=>scope.names.lookup x) (ps.zip us) fun _=>none) (cellsFrom (s.heap.objs.size + 1) scope.names []) (bindC (fun x=>scope.names.lookup x) (ps.zip us) fun _=>none) s1):
  Inv (Ep CX P w K mg base N qual scope f cd [(x,c)] A outer s H E) [] (ab N vs v) H s1:=by
 have hpl:ps.length < N.length:=S.lt
 obtain⟨h1,tk,rfl,hk⟩:=xc.done
 have noA:∀b:Addr,b ∉ (Ep CX P w K mg base N qual scope f cd [(x,c)] A outer s H E).ex:=fun b z=>absurd (show b ∈ ([]:List Addr)from z) (by simp)
 have clt:c < s.heap.objs.size:=hc.lt
 have ownGt:∀y b,(cellsFrom (s.heap.objs.size + 1) scope.names []).lookup y=some b->s.heap.objs.size < b:=fun y b h=>xc.above y b (PySem.mem_of_lookup h)
 have split:∀y b,(cellsFrom (s.heap.objs.size + 1) scope.names []++[(x,c)]).lookup y=some b->((cellsFrom (s.heap.objs.size + 1) scope.names []).lookup y=some b)\/(y=x/\b=c):=fun y b h=>by
  cases q:(cellsFrom (s.heap.objs.size + 1) scope.names []).lookup y with
  | some b'=>rw[dg q]at h;cases h;exact .inl rfl
  | none=>
   rw[dM q,List.lookup_cons]at h
   cases hb:y == x with
   | true=>rw[hb]at h;cases h;exact .inr ⟨by simpa using hb,rfl⟩
   | false=>rw[hb]at h;cases h
 have hx:(cellsFrom (s.heap.objs.size + 1) scope.names []++[(x,c)]).lookup x=some c:=by
  rw[dM (wC S _),List.lookup_cons]
  simp
 refine⟨⟨e0.mod,S.kind,rfl,rfl,Nat.le_refl _,fun y z b h1 h2=>?_,fun y hy=>?_,fun y b hf h=>?_,fun _=>hd,Around.frames_deeper e0.frames,.inr ⟨rfl,rfl⟩,fun b z=>absurd z (noA b),e0.bs,e0.tE,fun b _ _=>noA b,fun b z=>absurd z (noA b),e0.iB,e0.xA⟩,
  rfl,e0.bare,Un.kept hk,⟨_,xc.toInCall.ns,fun i y v' h1 h2 h3=>?_⟩,fun y b h=>?_,e0.aW.fresh (Nat.le_refl _),fun y b h=>?_,fun p hp=>absurd (show p ∈ ([]:List (Addr × Obj))from hp) (by simp),e0.aW.kept hk,?_⟩
 ·rcases split y b h1 with q1 | ⟨q1,q1'⟩<;>rcases split z b h2 with q2 | ⟨q2,q2'⟩
  ·exact name_of_addr xc.apart (PySem.mem_of_lookup q1) (PySem.mem_of_lookup q2)
  ·have:=ownGt _ _ q1;subst q2';exact absurd (Nat.lt_trans this clt) (Nat.lt_irrefl _)
  ·have:=ownGt _ _ q2;subst q1';exact absurd (Nat.lt_trans this clt) (Nat.lt_irrefl _)
  ·rw[q1,q2]
 ·have hy:scope.names.lookup y=some .cell\/scope.names.lookup y=some .free:=hy
  rcases hy with hy | hy
  ·obtain⟨b,hb⟩:=gA (n:=s.heap.objs.size + 1) hy
   exact⟨b,dg hb⟩
  ·have:=S.only _ (PySem.mem_of_lookup hy) rfl
   have this:y=x:=this
   subst this
   exact⟨c,hx⟩
 ·have hy:scope.names.lookup y=some .cell:=of_decide_eq_true hf
  obtain⟨b',hb⟩:=gA (n:=s.heap.objs.size + 1) hy
  have e:some b=some b':=h.symm.trans (dg hb)
  cases e
  exact Nat.le_of_lt (ownGt _ _ hb)
 ·unfold ab at h2
  by_cases hi:i < vs.length
  ·have ha:vs[i]?=some v':=by
    rw[List.append_assoc,List.getElem?_append_left (by simpa using hi),List.getElem?_map]at h2
    cases e:vs[i]? with
    | none=>rw[e]at h2;cases h2
    | some a=>rw[e]at h2;cases h2;rfl
   obtain⟨u',hu,rv'⟩:=r.get ha
   have hp:ps[i]?=some y:=by
    rw[<-S.pre,List.getElem?_take_of_lt (by omega)];exact h1
   have ndP:ps.Nodup:=by rw[<-S.pre];exact S.nd.sublist (List.take_sublist _ _)
   refine⟨u',rv',?_⟩
   rcases S.par y (List.mem_of_getElem? hp)with k | k
   ·exact .inl ⟨k,jL ndP hp hu k⟩
   ·obtain⟨b,e⟩:=gA (n:=s.heap.objs.size + 1) k
    refine .inr ⟨.inl k,b,dg e,?_⟩
    have q:=xc.cell y b e
    rw[jM ndP hp hu (by show scope.names.lookup y ≠ _;rw[k];decide)]at q
    exact q
  ·have hlast:i=N.length - 1:=by
    rw[List.append_assoc,List.getElem?_append_right (by simpa using hi),List.length_map]at h2
    by_cases hm:i - vs.length < N.length - 1 - vs.length
    ·rw[List.getElem?_append_left (by simpa using hm),List.getElem?_replicate]at h2
     split at h2<;>cases h2
    ·rw[List.getElem?_append_right (by simpa using hm),List.length_replicate]at h2
     have:i - vs.length - (N.length - 1 - vs.length) < 1:=by
      have:=(List.getElem?_eq_some_iff.mp h2).1
      simpa using this
     exact wR (hl ▸ hpl) hi hm this
   subst hlast
   have h1:N[N.length - 1]?=some y:=h1
   rw[S.last]at h1
   cases h1
   have ev:v'=v:=by
    rw[List.append_assoc,List.getElem?_append_right (by simpa using hi),List.length_map,List.getElem?_append_right (by simp),List.length_replicate]at h2
    have e0:N.length - 1 - vs.length - (N.length - 1 - vs.length)=0:=Nat.sub_self _
    rw[e0]at h2
    simpa using h2.symm
   subst ev
   exact⟨u,rv,.inr ⟨.inr S.fx,c,hx,hc.keeps hk⟩⟩
 ·rcases split y b h with q | ⟨_,rfl⟩
  ·exact⟨_,xc.cell y b q⟩
  ·exact⟨_,hc.keeps hk⟩
 ·rcases split y b h with q | ⟨_,rfl⟩
  ·exact e0.aW.fresh (Nat.le_of_lt (ownGt _ _ q))
  ·exact hn
 ·unfold ab
  show _=N.length
  rw[List.length_append,List.length_append,List.length_map,List.length_replicate,List.length_singleton]
  omega
end Sw
namespace Sw
open PySem PySem.Spec PyProof.Rows L2
open PySem.W (Frag keepIn ktsIn mroIn kitOne fnX fnOf fnMade tabObj CodeHd codeHdIn codeHd_of_K FnAt)
section
variable {P:Program} {w:World} {H H':Hp} {h h':Heap} {c:Addr} {v:V}
theorem zQ (ok:fK P w H h) (hc:H c=some (.dw v)):fK P w (era H c) h:=fun b o e=>by
 obtain⟨ne,e⟩:=dJ e
 exact(ok b o e).aC (fun _ _ _ q=>q) (fun d q=>by rw[aI (fun z=>by rw[z,hc]at q;cases q)];exact q) fun d xs q=>by rw[aI (fun z=>by rw[z,hc]at q;cases q)];exact q
theorem AQ {fs:List Addr} (u:Un fs [] (era H c) H' h h') (hc:H c=some (.dw v)):Un fs [] H (upd H' c (.dw v)) h h' where
 keep:=fun b o q n=>u.keep b o q (bJ n)
 slot:=fun b o q n=>u.slot b o q (bJ n)
 free:=fun b o q n hx=>by rw[ae (Ne.symm (aD hc n))];exact u.free b o q (bJ n) hx
 there:=u.there
 fR:=fun b xs q=>by
  have ne:b ≠ c:=fun z=>by rw[z,hc]at q;cases q
  rw[ae ne];exact u.fR b xs (by rw[aI ne];exact q)
 eW:=fun b o x q=>by
  have ne:b ≠ c:=fun z=>by rw[z,hc]at q;cases q
  rw[ae ne];exact u.eW b o x (by rw[aI ne];exact q)
 fM:=fun b ps q=>by
  have ne:b ≠ c:=fun z=>by rw[z,hc]at q;cases q
  rw[ae ne];exact u.fM b ps (by rw[aI ne];exact q)
theorem xO {K:Frag} {mg:Str->Option Value} {base:Heap} {A:Around} {outer:List Env} {s:Shared} (e0:lV P w K mg base A outer s H) (hc:H c=some (.dw v)):lV P w K mg base A outer s (era H c):=
 ⟨e0.frames,e0.mod,fun b o e=>⟨(e0.bs b o e).1,bJ (e0.bs b o e).2⟩,e0.tE,e0.iB,fun b hb=>bJ (e0.xA b hb),zQ e0.aW hc,e0.bare⟩
end
structure fL (st:Stmt) (nm x qual:Str) (H:Hp) (f c:Addr) (v:V):Prop where
 ex:∃ (c':Addr) (doc pm ctv:Value),H f=some (.clo (fnX nm qual (aB st) (af st) (aa st) [(x,c)] .none .none doc pm none (.ref c') ctv))/\H c'=some (.cod qual)
 dw:H c=some (.dw v)
noncomputable def o_ (Γ:bf) (N ps:List Str) (st:Stmt) (nm x qual:Str) (body:cR):Addr->Sp:=fun f vs H Q _=>vs.length=ps.length/\∃c v,fL st nm x qual H f c v/\
 wSs body Γ X0 {nx:=fun _ H'=>Q .non (upd H' c (.dw v)),rt:=fun r H'=>Q r (upd H' c (.dw v))} (ab N vs v) (era H c)
section
variable {P:Program} {w:World} {K:Frag} {mg:Str->Option Value} {base:Heap} {Γ:bf} {k:Nat}
theorem nC {nm x qual:Str} {st:Stmt} {N ps:List Str} {body:cR} (S:cZ N ps x (aa st)) (g:aP P w K mg base Γ k) (hm:eZ (aa st) N body (af st)) (hlm:Γ.lm=none)
  (hb:∀ (c:Addr) (doc pm ctv cd:Value) (us:List Value),us.length=ps.length->bindArgs (fnX nm qual (aB st) (af st) (aa st) [(x,c)] .none .none doc pm none cd ctv) ⟨us,[]⟩=pure (ps.zip us)):
  cQ P w K mg base (k + 2) (o_ Γ N ps st nm x qual body):=by
 refine⟨fun A outer s H f us vs Q E hr e0 r hsp=>?_,fun s H f vs Q E _ aW hsp=>?_⟩
 ·obtain⟨hl,c,v,⟨⟨c',doc,pm,ctv,hf,hcd⟩,hc⟩,hw⟩:=hsp
  have hfo:s.heap.get? f=some {cls:=.type "function",data:=.func (fnX nm qual (aB st) (af st) (aa st) [(x,c)] .none .none doc pm none (.ref c') ctv)}:=e0.aW f _ hf
  have hco:s.heap.CodeRec (.ref c') qual:=e0.aW c' _ hcd
  obtain⟨u,rv,hcell⟩:∃u,RelV v u/\s.heap.IsCell c (some u):=e0.aW c _ hc
  have e1:=xO e0 hc
  have lim:s.heap.NoLimit:=e0.mod.nolimit.keeps fun b o e=>(e0.bs b o e).1
  have hkind:∀y ∈ ps.zip us,(aa st).names.lookup y.1=some .local\/((aa st).names.lookup y.1=some .cell/\((cellsFrom (s.heap.objs.size + 1) (aa st).names []).lookup y.1).isSome=true):=fun⟨n,v⟩ hy=>by
   rcases S.par n (List.of_mem_zip hy).1 with q | q
   ·exact .inl q
   ·exact .inr ⟨q,PySem.W.cellsFrom_some _ _ _ (.inl q)⟩
  refine codeAny_call_function hr.depth hfo rfl S.co S.gen rfl hco ((BindsTo.of_eq (hb c doc pm ctv (.ref c') us (by rw[<-r.length];exact hl))) _ _ _ _ ?_)
  refine lp S.kind hkind fun s1 xc=>?_
  refine⟨lim.keeps xc.toInCall.keep,codeAny_func ?_⟩
  have I:=lH (CX:=fP P w) (E:=fun _ _ _=>False) (qual:=qual) (f:=f) (cd:=.ref c') S hr.hd e1 hl r hcell rv dB xc
  have hr':eS (k + 1) (A.deeper (rA qual (aa st) s.heap.objs.size f (.ref c') [(x,c)])):=hr.deeper _
  have C:jR (Ep (fP P w) P w K mg base N qual (aa st) f (.ref c') [(x,c)] A outer s (era H c) (fun _ _ _=>False)) Γ (aa st) k:=by
   refine⟨⟨g,fun _=>hr',fun _=>rfl,hr'.units,fun x h=>?_,fun x h=>?_,fun y h=>h,⟨_,_,_,rfl,rfl,rfl⟩⟩,S.nd,fun y h=>⟨?_,?_⟩,fun x h=>h,⟨rfl,rfl⟩,fun D Ts e=>by rw[hlm]at e;cases e⟩
   ·unfold j2 at h
    unfold Ag
    split at h<;>first | (rename_i e;first | exact .inl e | exact .inr (.inl e) | exact .inr (.inr e)) | cases h
   ·unfold ef at h
    split at h<;>first | (rename_i e;exact e) | cases h
   ·unfold eL at h
    unfold L2.Loc
    split at h<;>first | (rename_i e;first | exact .inl e | exact .inr e) | cases h
   ·unfold eL at h
    split at h
    ·rename_i e;exact .inr e
    ·rename_i e;exact .inl (decide_eq_true e)
    ·cases h
  refine wpAny_mono (sB C eE.no hm [] s1 _ _ _ I hw) (fun fl s' hs=>?_) (fun e s' hs=>?_)
  ·have fin:∀ {σ':L2.St} {H':Hp} {r:V} {u:Value},Inv (Ep (fP P w) P w K mg base N qual (aa st) f (.ref c') [(x,c)] A outer s (era H c) (fun _ _ _=>False)) [] σ' H' s'->RelV r u->Q r (upd H' c (.dw v))->CE outer P w H s Q u s':=by
    intro σ' H' r u' J rr q
    obtain⟨oc,hoc,hod⟩:=hcell
    have hn:H' c=none:=J.base.free c oc hoc dB (by exact List.not_mem_nil)
    have hk:s'.heap.get? c=some oc:=J.base.keep c oc hoc dB (fun z=>by
     have:=e0.xA c z
     rw[hc]at this;cases this) (by exact List.not_mem_nil)
    exact⟨r,upd H' c (.dw v),J.os,J.bare,AQ J.base hc,ja J.aW hn ⟨u,rv,oc,hk,hod⟩,rr,q⟩
   cases fl with
   | ret u'=>
    obtain⟨r',σ',H',J,rr,q⟩:=hs
    exact fin J rr q
   | next=>
    obtain⟨σ',H',J,q⟩:=hs
    exact fin (r:=V.non) (u:=Value.none) J rfl q
   | brk=>
    obtain⟨_,_,_,q⟩:=hs
    exact False.elim q
   | cont=>
    obtain⟨_,_,_,q⟩:=hs
    exact False.elim q
  ·exact wpAny_mono hs (fun _ s'' z=>False.elim z) (fun e' s'' z=>False.elim z)
 ·obtain⟨_,c,v,⟨⟨c',doc,pm,ctv,hf,_⟩,_⟩,_⟩:=hsp
  exact⟨_,_,_,_,aW f _ hf⟩
theorem Al {f:Addr} {fd:FuncData} {ps:List Str} {sp:Sp} (F:cO P w K mg base (fP P w) k f fd ps sp) (hb:Binds K fd ps []) (lk:∃oc od fd' osl,K.lookup f=some ⟨oc,od,.func fd',osl⟩):
  cQ P w K mg base k (fun f' vs H Q E=>f'=f/\sp vs H Q E):=by
 refine⟨fun A outer s H f' us vs Q E hr e0 r hsp=>?_,fun s H f' vs Q E uL _ hsp=>?_⟩
 ·obtain⟨rfl,hsp⟩:=hsp
  have KX:K.In s.heap:=e0.mod.uL.keeps fun b o e=>(e0.bs b o e).1
  have hl:(us++[]).length=ps.length:=by rw[List.append_nil,<-r.length];exact F.len _ _ _ _ hsp
  exact F.run A outer s H ⟨us,[]⟩ us vs Q E hr e0 (by have:=hb s us KX hl;rwa[List.append_nil]at this) r hsp
 ·obtain⟨rfl,hsp⟩:=hsp
  obtain⟨oc,od,fd',osl,e⟩:=lk
  exact⟨oc,od,fd',osl,uL _ _ e⟩
theorem cQ.imp {a b:Addr->Sp} (F:cQ P w K mg base k a) (h:∀f vs H Q E,b f vs H Q E->a f vs H Q E):cQ P w K mg base k b:=
 ⟨fun A outer s H f us vs Q E hr e0 hv q=>F.run A outer s H f us vs Q E hr e0 hv (h _ _ _ _ _ q),fun s H f vs Q E uL aW q=>F.xG s H f vs Q E uL aW (h _ _ _ _ _ q)⟩
end
end Sw
namespace Sw
open PySem PySem.Spec PyProof.Rows L2
open PySem.W (Frag keepIn ktsIn mroIn kitOne fnX fnOf fnMade tabObj CodeHd codeHdIn codeHd_of_K FnAt nestDef_K makeFunction_K makeFunction_hit)
theorem bp.of {M:Mo} {H H':Hp} (x:Ext M H H'):bp M H H':=⟨fun a o h _=>x.same a o h,x.off,fun a h z=>by
 cases q:H a with
 | none=>exact h q
 | some o=>rw[x.same a o q]at z;cases z⟩
theorem bp.refl {M:Mo} {H:Hp}:bp M H H:=⟨fun _ _ h _=>h,fun _ _ h=>h,fun _ h=>h⟩
theorem bp.trans {M:Mo} {H H1 H2:Hp} (a:bp M H H1) (b:bp M H1 H2):bp M H H2:=⟨fun c o h n=>b.same c o (a.same c o h n) n,fun c m h=>b.off c m (a.off c m h),fun c h=>b.yt c (a.yt c h)⟩
noncomputable def nM (M:Mo) (Ts:List Tb) (ist:Stmt) (nm x iq:Str):Sp:=fun vs H Q _=>∃v,vs=[v]/\(∀ t ∈ Ts,TabAt H t)/\
 ∀H' f c,bp M H H'->(∀ t ∈ Ts,TabAt H' t)->H c=none->M c=none->H f=none->M f=none->fL ist nm x iq H' f c v->Q (.ref f) H'
section
variable {P:Program} {w:World} {K:Frag} {mg:Str->Option Value} {base:Heap}
structure Maker (K:Frag) (st ist:Stmt) (mk qual nm x iq:Str) (pos:Pos) (f cc T:Addr) (fd:FuncData):Prop where
 lk:∃ (oc:Value) (od:Option Addr) (kV doc pm:Value) (an:Option Addr) (ct:Value) (osl:Array (Option Value)),fd=fnOf mk qual (aB st) (af st) (aa st) .none kV doc pm an (.ref cc) ct/\K.lookup f=some ⟨oc,od,.func fd,osl⟩
 cd:PySem.W.codeIn K (.ref cc) qual=true
 hd:codeHdIn K cc T=true
 body:∃p1 p2,af st=[.FunctionDef nm (aB ist) (af ist) [] none [] (aa ist) none nm pos,.Return (some (.Name nm p1)) p2]
 d0:(aB ist).defaults=[]
 k0:(aB ist).kw_defaults=[]
 ann:∀env,annTrees (aB ist) none env=[]
 sc:aF [x,nm] [x] (aa st)
 cx:(aa st).names.lookup x=some .cell
 ln:(aa st).names.lookup nm=some .local
 hq:∀L a v,qualnameIn (envOfC qual (aa st) L a v) nm nm=iq
 cl:∀L a v,closureFor (aa ist) (envOfC qual (aa st) L a v)=pure [(x,L + 1)]
 cells:∀L,cellsFrom (L + 1) (aa st).names []=[(x,L + 1)]
 n1:(nm == ("__debug__" :Str))=false
 n2:(nm == ("__classdict__" :Str))=false
theorem je {Γ:bf} {k:Nat} {st ist:Stmt} {mk qual nm x iq:Str} {pos:Pos} {f cc T:Addr} {fd:FuncData} {Ts:List Tb} (D:Maker K st ist mk qual nm x iq pos f cc T fd) (g:aP P w K mg base Γ k) (B:base.BuiltinsAt mg T)
  (hT:(T,pos,iq) ∈ Ts) (hT1:∀t ∈ Ts,t.1=T->t=(T,pos,iq)):cO P w K mg base (fP P w) (k + 1) f fd [x] (nM Γ.mod Ts ist nm x iq):=by
 obtain⟨oc,od,kV,doc0,pm0,an,ct,osl,rfl,lk⟩:=D.lk
 refine⟨fun vs H Q E h=>by obtain⟨v,rfl,_⟩:=h;rfl,fun A outer s H args us vs Q E hr e0 hb r hsp=>?_⟩
 obtain⟨v,rfl,hTs,hQ⟩:=hsp
 have S:=D.sc
 have KX:K.In s.heap:=e0.mod.uL.keeps fun b o e=>(e0.bs b o e).1
 have lim:s.heap.NoLimit:=e0.mod.nolimit.keeps fun b o e=>(e0.bs b o e).1
 have hkind:∀y ∈ [x].zip us,(aa st).names.lookup y.1=some .local\/((aa st).names.lookup y.1=some .cell/\((cellsFrom (s.heap.objs.size + 1) (aa st).names []).lookup y.1).isSome=true):=fun⟨n,v⟩ hy=>by
  rcases S.par n (List.of_mem_zip hy).1 with q | q
  ·exact .inl q
  ·exact .inr ⟨q,PySem.W.cellsFrom_some _ _ _ (.inl q)⟩
 refine codeAny_call_function hr.depth (KX _ _ lk) rfl S.co S.gen rfl (PySem.W.codeRec_of KX D.cd) (hb _ _ _ _ ?_)
 refine wpAny_newFunctionEnv_cells S.kind hkind fun env he s1 xc=>?_
 subst he
 refine⟨lim.keeps xc.toInCall.keep,codeAny_func ?_⟩
 have I:Inv (gu (fP P w) P w K mg base [x,nm] qual (aa st) f (.ref cc) A outer s H E) [] (start [x,nm] [v]) H s1:=mZ S hr.hd e0 rfl r xc
 obtain⟨p1,p2,hbody⟩:=D.body
 have sz:s.heap.objs.size<=s1.heap.objs.size:=I.sz
 have hcl:(envOfC qual (aa st) s.heap.objs.size f (.ref cc)).cells.lookup x=some (s.heap.objs.size + 1):=by
  show(cellsFrom (s.heap.objs.size + 1) (aa st).names []).lookup x=_
  rw[D.cells]
  simp
 have only:∀y c,(envOfC qual (aa st) s.heap.objs.size f (.ref cc)).cells.lookup y=some c->c=s.heap.objs.size + 1:=fun y c e=>by
  have e:(cellsFrom (s.heap.objs.size + 1) (aa st).names []).lookup y=some c:=e
  rw[D.cells,List.lookup_cons]at e
  split at e
  ·cases e;rfl
  ·cases e
 -- behind the two statements
 have fin:∀ (H2:Hp) (f' c':Addr) (dc pm cv:Value) (s2:Shared),Inv (gu (fP P w) P w K mg base [x,nm] qual (aa st) f (.ref cc) A outer s H E) [] (start [x,nm] [v]) H2 s2->
   H2 f'=some (.clo (fnX nm iq (aB ist) (af ist) (aa ist) [(x,s.heap.objs.size + 1)] .none .none dc pm none (.ref c') cv))->H2 c'=some (.cod iq)->(∀ t ∈ Ts,TabAt H2 t)->bp Γ.mod H H2->s.heap.objs.size<=f'->
   wpAny (model P w) (A.deeper (envOfC qual (aa st) s.heap.objs.size f (.ref cc))) (storeName (envOfC qual (aa st) s.heap.objs.size f (.ref cc)) nm (.ref f')) (fun _ s''=>
    wpAny (model P w) (A.deeper (envOfC qual (aa st) s.heap.objs.size f (.ref cc))) (execs [.Return (some (.Name nm p1)) p2] (envOfC qual (aa st) s.heap.objs.size f (.ref cc)))
     (fun fl s'=>∃u,fl=.ret u/\CE outer P w H s Q u s') (gu (fP P w) P w K mg base [x,nm] qual (aa st) f (.ref cc) A outer s H E).xe s'')
    (gu (fP P w) P w K mg base [x,nm] qual (aa st) f (.ref cc) A outer s H E).xe s2:=by
  intro H2 f' c' dc pm cv s2 I2 hf hc hts xt hsz
  refine kO (X:=gu (fP P w) P w K mg base [x,nm] qual (aa st) f (.ref cc) A outer s H E) (i:=1) (v:=.ref f') I2 S.nd rfl (.inl D.ln) rfl (fun s3 I3=>?_)
  refine wpAny_execs_cons (wpAny_Return_some (bV (v_ (X:=gu (fP P w) P w K mg base [x,nm] qual (aa st) f (.ref cc) A outer s H E) (i:=1) (x:=nm) rfl (.inl D.ln) D.n1 D.n2 [] s3 _ H2 (fun v' H'=>v'=.ref f'/\H'=H2) I3 ⟨.ref f',rfl,rfl,rfl⟩) fun u s4 ⟨v',H',I4,ru,ev,eH⟩=>?_))
  subst ev eH
  obtain rfl:u=Value.ref f':=ru
  have hn:H' (s.heap.objs.size + 1)=none:=I4.d9 x _ hcl
  obtain⟨m,hm,hl⟩:=I4.loc
  obtain⟨u,rv,lk'⟩:=hl 0 x v rfl rfl (.inr (.inl D.cx))
  have hcell:s4.heap.IsCell (s.heap.objs.size + 1) (some u):=by
   rcases lk' with ⟨q,_⟩ | ⟨_,c,q,z⟩
   ·have q:(aa st).names.lookup x=some .local:=q
    rw[D.cx]at q;cases q
   ·have:=only x c q
    subst this
    exact z
  have ne:∀b o,H' b=some o->b ≠ s.heap.objs.size + 1:=fun b o e=>aD e hn
  have nb:∀b o,s.heap.get? b=some o->b ≠ s.heap.objs.size + 1:=fun b o e=>Nat.ne_of_lt (Nat.lt_succ_of_lt (Heap.lt_size e))
  have un:Un (sR outer) [] H (upd H' (s.heap.objs.size + 1) (.dw v)) s.heap s4.heap:=
   ⟨I4.base.keep,I4.base.slot,fun b o e n hx=>by rw[ae (nb b o e)];exact I4.base.free b o e n hx,I4.base.there,
    fun b xs e=>by have q:=I4.base.fR b xs e;rw[ae (ne _ _ q)];exact q,fun b o u e=>by have q:=I4.base.eW b o u e;rw[ae (ne _ _ q)];exact q,
    fun b qs e=>by obtain⟨m,q⟩:=I4.base.fM b qs e;exact⟨m,by rw[ae (ne _ _ q)];exact q⟩⟩
  have fresh:∀b,s.heap.objs.size<=b->Γ.mod b=none:=fun b hb=>by
   cases q:Γ.mod b with
   | none=>rfl
   | some o=>
    obtain⟨ob,e⟩:=g.mod.look (a:=b) (by rw[q];exact fun z=>nomatch z)
    exact absurd (Nat.lt_of_lt_of_le (Heap.lt_size (KX _ _ e)) hb) (Nat.lt_irrefl _)
  have keep:∀b o,H' b=some o->upd H' (s.heap.objs.size + 1) (.dw v) b=some o:=fun b o e=>by rw[ae (ne b o e)];exact e
  refine⟨.ref f',rfl,.ref f',upd H' (s.heap.objs.size + 1) (.dw v),I4.os,I4.bare,un,ja I4.aW hn ⟨u,rv,hcell⟩,rfl,hQ _ f' (s.heap.objs.size + 1) ⟨fun a o e n=>keep a o (xt.same a o e n),fun a ma e=>?_,fun a h z=>?_⟩ (fun t ht=>?_) (e0.aW.fresh (Nat.le_succ _)) (fresh _ (Nat.le_succ _)) (e0.aW.fresh hsz) (fresh _ hsz) ⟨⟨c',dc,pm,cv,keep _ _ hf,keep _ _ hc⟩,aA⟩⟩
  ·rw[ae (fun z=>ma (by rw[z];exact fresh _ (Nat.le_succ _)))]
   exact xt.off a ma e
  ·cases q:H' a with
   | none=>exact xt.yt a h q
   | some o=>rw[keep a o q]at z;cases z
  ·rcases hts t ht with q | ⟨c2,q,q2⟩
   ·exact .inl (keep _ _ q)
   ·exact .inr ⟨c2,keep _ _ q,keep _ _ q2⟩
 refine wpAny_mono (Q:=fun fl s'=>∃u,fl=.ret u/\CE outer P w H s Q u s') (E:=(gu (fP P w) P w K mg base [x,nm] qual (aa st) f (.ref cc) A outer s H E).xe) ?_ (fun fl s' hs=>by obtain⟨u,rfl,z⟩:=hs;exact z) (fun e s' hs=>hs)
 show wpAny (model P w) (A.deeper (envOfC qual (aa st) s.heap.objs.size f (.ref cc))) (execs (af st) (envOfC qual (aa st) s.heap.objs.size f (.ref cc))) _ _ s1
 rw[hbody]
 have hns:s1.heap.Ns mainGlobals mg:=I.mod.glob.keeps I.bk
 have hBs:s1.heap.BuiltinsAt mg T:=let ⟨bm,o,h1,h2,h3,h4,h5,r⟩:=B;⟨bm,o,h1,h2,h3,h4,I.bk _ _ h5,r⟩
 have CH:CodeHd s1.heap cc T:=codeHd_of_K I.jF D.hd
 refine wpAny_execs_cons (nestDef_K D.d0 D.k0 (D.ann _) ?_)
 rw[show qualnameIn (envOfC qual (aa st) s.heap.objs.size f (.ref cc)) nm nm=iq from D.hq _ _ _]
 rcases hTs _ hT with hP | ⟨c',hP,hc'⟩
 ·-- the first time
  have hP:H T=some (.tbl #[]):=hP
  have hgT:mainGlobals ≠ T:=fun z=>by
   obtain⟨o,es,ep,e,_⟩:=I.mod.glob
   have:=(I.bs _ _ e).2
   rw[z,hP]at this;cases this
  refine makeFunction_K (mg:=mg) (D.cl _ _ _) rfl hns rfl CH (I.aW T _ hP) trivial rfl hgT hBs fun c' ctv doc h' tk hx hge hlt hrec htb=>?_
  have I2:=Inv.grown (t':=tk) (more:=#[rawInt pos.line,rawInt pos.col,.ref c']) I hP hx htb
  have hTlt:T < s1.heap.objs.size:=I.aW.lt hP
  have hcn:upd H T (.tbl (#[]++#[rawInt pos.line,rawInt pos.col,.ref c'])) c'=none:=by
   rw[ae (Nat.ne_of_gt (Nat.lt_of_lt_of_le hTlt hge))]
   exact I.aW.fresh hge
  have I3:=Inv.Ap (a:=c') (o:=.cod iq) I2 hcn (Nat.le_trans sz hge) (Nat.ne_of_gt (Nat.lt_of_lt_of_le I.lt hge)) (fun y c e=>by
   obtain⟨_,z⟩:=I.cell y c e
   exact Nat.ne_of_lt (Nat.lt_of_lt_of_le z.lt hge)) (fun p hp=>absurd (show p ∈ ([]:List (Addr × Obj))from hp) List.not_mem_nil) hrec
  have I4:=Inv.laid (a:=h'.objs.size) (t':=tk) (o:=.clo (fnX nm iq (aB ist) (af ist) (aa ist) [(x,s.heap.objs.size + 1)] .none .none doc ((mg "__name__").getD .none) none (.ref c') ctv)) I3
   (h':=h'.push (fnMade nm iq (aB ist) (af ist) (aa ist) [(x,s.heap.objs.size + 1)] doc ((mg "__name__").getD .none) c' ctv)) (fun b u e=>Heap.get?_push_of_some _ e) (Nat.le_refl _) (Heap.get?_push_size _ rfl)
  have old:∀b o,H b=some o->b ≠ T->upd (upd (upd H T (.tbl (#[]++#[rawInt pos.line,rawInt pos.col,.ref c']))) c' (.cod iq)) h'.objs.size (.clo (fnX nm iq (aB ist) (af ist) (aa ist) [(x,s.heap.objs.size + 1)] .none .none doc ((mg "__name__").getD .none) none (.ref c') ctv)) b=some o:=fun b o e ne=>by
   have hb:=I.aW.lt e
   rw[ae (Nat.ne_of_lt (Nat.lt_trans (Nat.lt_of_lt_of_le hb hge) hlt)),ae (Nat.ne_of_lt (Nat.lt_of_lt_of_le hb hge)),ae ne]
   exact e
  have hcc:upd (upd (upd H T (.tbl (#[]++#[rawInt pos.line,rawInt pos.col,.ref c']))) c' (.cod iq)) h'.objs.size (.clo (fnX nm iq (aB ist) (af ist) (aa ist) [(x,s.heap.objs.size + 1)] .none .none doc ((mg "__name__").getD .none) none (.ref c') ctv)) c'=some (.cod iq):=by
   rw[ae (Nat.ne_of_lt hlt),aA]
  refine fin _ h'.objs.size c' doc _ ctv _ I4 aA hcc (fun t ht=>?_) ⟨fun a o e n=>old a o e (fun z=>n #[] (by rw[z,hP]at e;exact(Option.some.inj e).symm)),fun a ma e=>?_,fun a h z=>?_⟩ (Nat.le_trans sz (Nat.le_trans hge (Nat.le_of_lt hlt)))
  ·by_cases ht1:t.1=T
   ·have:=hT1 t ht ht1
    subst this
    refine .inr ⟨c',?_,hcc⟩
    show upd _ _ _ T=_
    rw[ae (Nat.ne_of_lt (Nat.lt_trans (Nat.lt_of_lt_of_le hTlt hge) hlt)),ae (Nat.ne_of_lt (Nat.lt_of_lt_of_le hTlt hge)),aA]
    rfl
   ·rcases hTs t ht with q | ⟨c2,q,q2⟩
    ·exact .inl (old _ _ q ht1)
    ·exact .inr ⟨c2,old _ _ q ht1,old _ _ q2 (fun z=>by rw[z,hP]at q2;cases q2)⟩
  ·obtain⟨ob,e2⟩:=g.mod.look ma
   have hlt2:a < s1.heap.objs.size:=Heap.lt_size (I.jF _ _ e2)
   rw[ae (Nat.ne_of_lt (Nat.lt_trans (Nat.lt_of_lt_of_le hlt2 hge) hlt)),ae (Nat.ne_of_lt (Nat.lt_of_lt_of_le hlt2 hge)),ae (fun z=>by rw[z,hP]at e;cases e)]
   exact e
  ·by_cases ha:a=T
   ·rw[ha,ae (Nat.ne_of_lt (Nat.lt_trans (Nat.lt_of_lt_of_le hTlt hge) hlt)),ae (Nat.ne_of_lt (Nat.lt_of_lt_of_le hTlt hge)),aA]at z
    cases z
   ·cases q:H a with
    | none=>exact h q
    | some o=>rw[old a o q ha]at z;cases z
 ·-- the code is there
  have hP:H T=some (.tbl #[rawInt pos.line,rawInt pos.col,.ref c']):=hP
  have hc':H c'=some (.cod iq):=hc'
  refine makeFunction_hit (mg:=mg) (cv:=.ref c') (D.cl _ _ _) rfl hns rfl CH (I.aW T _ hP) (by simp[TriplesOk,rawInt]) (by simp[codeAmong,rawInt]) hBs fun ctv doc h' tk hk hsz=>?_
  have I2:=Inv.kept (t':=tk) I hk
  have I4:=Inv.laid (a:=h'.objs.size) (t':=tk) (o:=.clo (fnX nm iq (aB ist) (af ist) (aa ist) [(x,s.heap.objs.size + 1)] .none .none doc ((mg "__name__").getD .none) none (.ref c') ctv)) I2
   (h':=h'.push (fnMade nm iq (aB ist) (af ist) (aa ist) [(x,s.heap.objs.size + 1)] doc ((mg "__name__").getD .none) c' ctv)) (fun b u e=>Heap.get?_push_of_some _ e) (Nat.le_refl _) (Heap.get?_push_size _ rfl)
  have old:∀b o,H b=some o->upd H h'.objs.size (.clo (fnX nm iq (aB ist) (af ist) (aa ist) [(x,s.heap.objs.size + 1)] .none .none doc ((mg "__name__").getD .none) none (.ref c') ctv)) b=some o:=fun b o e=>by
   rw[ae (Nat.ne_of_lt (Nat.lt_of_lt_of_le (I.aW.lt e) hsz))]
   exact e
  refine fin _ h'.objs.size c' doc _ ctv _ I4 aA (old _ _ hc') (fun t ht=>?_) ⟨fun a o e n=>old a o e,fun a ma e=>?_,fun a h z=>?_⟩ (Nat.le_trans sz hsz)
  ·rcases hTs t ht with q | ⟨c2,q,q2⟩
   ·exact .inl (old _ _ q)
   ·exact .inr ⟨c2,old _ _ q,old _ _ q2⟩
  ·obtain⟨ob,e2⟩:=g.mod.look ma
   have hlt2:a < s1.heap.objs.size:=Heap.lt_size (I.jF _ _ e2)
   rw[ae (Nat.ne_of_lt (Nat.lt_of_lt_of_le hlt2 hsz))]
   exact e
  ·cases q:H a with
   | none=>exact h q
   | some o=>rw[old a o q]at z;cases z
end
end Sw
namespace Sw
open PySem PySem.Spec PyProof.Rows L2
open PySem.W (Frag tabObj CodeHd codeHdIn codeHd_of_K noTabs mem_of_lookupK)
theorem uK {P:Program} {w:World} {K:Frag} {mg mb:Str->Option Value} {CX:rQ} {k:Nat} {fa a:Addr} {fd:FuncData} {x:Str} {sp:Sp} {s₁:Shared} {vs:List Value} {ns:List Int} (ts:List Addr)
  (KX:K.In s₁.heap) (hT:∀T ∈ ts,s₁.heap.get? T=some (tabObj #[])) (hcd:∀T ∈ ts,isCodeTable s₁.heap T) (hno:noTabs K=true)
  (hns:s₁.heap.Ns mainGlobals mg) (hb:s₁.heap.Ns builtinsNs mb) (hbb:∀x:Str,x ≠ "__name__" ->mb x=bootBuiltins x) (hlim:s₁.heap.NoLimit) (hg:s₁.gens=#[])
  (hbm:∃bm ob,mg "__builtins__" =some (.ref bm)/\bm ≠ builtinsNs/\s₁.heap.get? bm=some ob/\ob.cls=.type "module" /\ob.dict=some builtinsNs/\ob.data=.plain)
  (ha:s₁.heap.get? a=some {cls:=.type "list",data:=.seq vs.toArray}) (hi:IntsAre vs ns) (hl:ns.length<=sizeLine) (hr:eS k callerA)
  (F:∀base:Heap,K.In base->base.Ns mainGlobals mg->(∀ T ∈ ts,base.BuiltinsAt mg T)->cO P w K mg base CX k fa fd [x] sp) (hbind:∀ (s:Shared) (u:Value),BindsTo s fd ⟨[u],[]⟩ [(x,u)])
  (hsp:∀H:Hp,(∀ T ∈ ts,H T=some (.tbl #[]))->kL K H a (ns.map V.int)->sp [.ref a] H (fun v _=>v=.bl true) fun _ _ _=>False)
  (hCX:∀H e s',CX [] H s₁ (fun _ _ _=>False) e s'->False):
  codeAny (model P w) callerA (.call (.ref fa) ⟨[.ref a],[]⟩) (fun r s'=>r=.ok (.ret (.bool true))/\OldK s₁.heap s'.heap/\s'.os=s₁.os/\AllBare s'.gens) s₁:=by
 have rv:=mG hi
 have lenV:=hi.length
 have haT:a ∉ ts:=fun z=>by
  have:=hT a z
  rw[ha]at this;cases this
 have hKT:∀T ∈ ts,K.lookup T=none:=fun T hm=>by
  cases q:K.lookup T with
  | none=>rfl
  | some o=>
   have e:=KX _ _ q
   rw[hT T hm]at e
   cases e
   have h2:=List.all_eq_true.mp hno (T,tabObj #[]) (mem_of_lookupK q)
   exact absurd (show false=true from h2) Bool.false_ne_true
 have core:∀H:Hp,(∀ T ∈ ts,H T=some (.tbl #[]))->kL K H a (ns.map V.int)->fK P w H s₁.heap->(∀ b,H b ≠ none->b ∉ ts->b=a/\∃o xs,H b=some (.frz o (.lst xs)))->(H a ≠ none->K.lookup a=none)->
   codeAny (model P w) callerA (.call (.ref fa) ⟨[.ref a],[]⟩) (fun r s'=>r=.ok (.ret (.bool true))/\OldK s₁.heap s'.heap/\s'.os=s₁.os/\AllBare s'.gens) s₁:=by
  intro H hTs hS aW hA hK
  have fm:∀ {b:Addr} {o:Obj},s₁.heap.get? b=some o->H b=none->(mz s₁.heap H).get? b=some o:=fun e n=>xy e n
  have noB:∀ {b:Addr} {o:Obj},s₁.heap.get? b=some o->(∀ v n,o.data ≠ .seq v n)->(∀ v,o.data ≠ .fields v)->H b=none:=fun{b o} e d1 d2=>by
   cases q:H b with
   | none=>rfl
   | some u=>
    by_cases hb:b ∈ ts
    ·have:=hT b hb
     rw[e]at this;cases this
     exact absurd rfl (d2 _)
    ·obtain⟨e',_⟩:=hA b (by rw[q];exact fun z=>nomatch z) hb
     subst e'
     rw[ha]at e;cases e
     exact absurd rfl (d1 _ _)
  have nsK:∀ {b:Addr} {m:Str->Option Value},s₁.heap.Ns b m->(mz s₁.heap H).Ns b m:=fun{b m} ⟨o,es,ep,e,d,r⟩=>⟨o,es,ep,fm e (noB e (fun v n z=>by rw[d]at z;cases z) fun v z=>by rw[d]at z;cases z),d,r⟩
  have hKb:K.In (mz s₁.heap H):=fun b o e=>fm (KX b o e) (by
   cases q:H b with
   | none=>rfl
   | some u=>
    by_cases hb:b ∈ ts
    ·rw[hKT b hb]at e;cases e
    ·obtain⟨e',_⟩:=hA b (by rw[q];exact fun z=>nomatch z) hb
     subst e'
     rw[hK (by rw[q];exact fun z=>nomatch z)]at e;cases e)
  have hM:Mod K mg (mz s₁.heap H):=⟨hKb,nsK hns,⟨mb,nsK hb,hbb⟩,let ⟨mc,h1,h2⟩:=hlim;⟨mc,nsK h1,h2⟩⟩
  have hBu:∀T ∈ ts,(mz s₁.heap H).BuiltinsAt mg T:=fun T hm=>by
   obtain⟨bm,ob,b1,b2,b3,b4,b5,b6⟩:=hbm
   have n0:H bm=none:=noB b3 (fun v n z=>by rw[b6]at z;cases z) fun v z=>by rw[b6]at z;cases z
   refine⟨bm,ob,b1,b2,fun z=>?_,fun z=>?_,fm b3 n0,b4,b5,b6⟩
   ·obtain⟨o,es,ep,e,d,_⟩:=hns
    rw[z,e]at b3;cases b3;rw[d]at b6;cases b6
   ·rw[z,hTs T hm]at n0;cases n0
  have e0:lV P w K mg (mz s₁.heap H) callerA [] s₁ H:=⟨rfl,hM,fun b o e=>zD e,Nat.le_of_eq (uT _ _),trivial,fun b hb=>absurd (show b ∈ ([]:List Addr)from hb) (by simp),aW,.of_eq hg⟩
  refine codeAny_mono ((F _ hKb (nsK hns) hBu).run callerA [] s₁ H ⟨[.ref a],[]⟩ [.ref a] [.ref a] _ _ hr e0 (hbind s₁ (.ref a)) (.cons rfl .nil) (hsp H hTs hS)) fun r s' h=>?_
  cases r with
  | error e=>exact(hCX H e s' h).elim
  | ok fl=>
   cases fl with
   | next=>exact False.elim h
   | brk=>exact False.elim h
   | cont=>exact False.elim h
   | ret u=>
    obtain⟨v,H',os,bare,un,hok',r',q⟩:=h
    have q':v=.bl true:=q
    subst q'
    obtain rfl:u=Value.bool true:=r'
    have same:∀b o,b ∉ ts->s₁.heap.get? b=some o->s'.heap.get? b=some o:=fun b o hb e=>by
     cases q:H b with
     | none=>exact un.keep b o e q (by intro z;exact absurd (show b ∈ ([]:List Addr)from z) (by simp)) (by simp)
     | some u=>
      obtain⟨_,ob,xs,z⟩:=hA b (by rw[q];exact fun z=>nomatch z) hb
      have z2:=un.eW b ob _ z
      obtain⟨e1,_⟩:=aW b _ z
      obtain⟨e2,_⟩:=hok' b _ z2
      rw[e]at e1;cases e1
      exact e2
    have grew:∀T ∈ ts,∃ps,s'.heap.get? T=some (tabObj ps):=fun T hm=>by
     obtain⟨more,z⟩:=un.fM T _ (hTs T hm)
     exact⟨_,hok' T _ z⟩
    refine⟨rfl,⟨fun b o e=>?_,fun b o e=>?_⟩,os,bare⟩
    ·by_cases hb:b ∈ ts
     ·obtain⟨ps,z⟩:=grew b hb
      have:=hT b hb
      rw[e]at this;cases this
      exact .inr (.inl ⟨hcd b hb,rfl,#[],ps,rfl,by rw[Array.empty_append];exact z⟩)
     ·exact .inl (same b o hb e)
    ·by_cases hb:b ∈ ts
     ·obtain⟨ps,z⟩:=grew b hb
      exact⟨_,z⟩
     ·exact⟨o,same b o hb e⟩
 cases hk:K.lookup a with
 | some o=>
  have e:=KX a o hk
  rw[ha]at e
  cases e
  refine core (fun b=>if b ∈ ts then some (.tbl #[])else none) (fun T hm=>if_pos hm) (.inr ⟨_,vs.toArray,_,hk,rfl,rfl,rfl,by rw[List.size_toArray,lenV];exact hl,by simpa using rv⟩) (fun b u z=>?_) (fun b z hb=>absurd (if_neg hb) z) fun z=>absurd (if_neg haT) z
  by_cases hb:b ∈ ts
  ·have z':=(if_pos hb).symm.trans z
   cases z'
   exact hT b hb
  ·have z':=(if_neg hb).symm.trans z
   cases z'
 | none=>
  refine core (fun b=>if b ∈ ts then some (.tbl #[])else if b=a then some (.frz {cls:=.type "list",data:=.seq vs.toArray} (.lst (ns.map V.int)))else none) (fun T hm=>if_pos hm) (.inl (.inr ⟨{cls:=.type "list",data:=.seq vs.toArray},(if_neg haT).trans (if_pos rfl)⟩)) (fun b u z=>?_) (fun b z hb=>?_) fun _=>hk
  ·by_cases hb:b ∈ ts
   ·have z':=(if_pos hb).symm.trans z
    cases z'
    exact hT b hb
   ·by_cases hb2:b=a
    ·have z':=((if_neg hb).trans (if_pos hb2)).symm.trans z
     cases z'
     subst hb2
     exact⟨ha,by rw[List.length_map];exact hl,vs,_,rv,ha⟩
    ·have z':=((if_neg hb).trans (if_neg hb2)).symm.trans z
     cases z'
  ·by_cases hb2:b=a
   ·exact⟨hb2,_,_,(if_neg hb).trans (if_pos hb2)⟩
   ·exact absurd ((if_neg hb).trans (if_neg hb2)) z
theorem vi {l:PySem.W.OpenLaw} {n k:Nat} {q:Program} {loose:List Str} {XP:(Str->Option Value)->Heap->Prop} {YP:World->Heap->Prop} {d:DefRec} {K:Params->Frag} {CX:World->rQ} {sp:World->Sp} {x:Str} (ts:List Addr)
  (hn:l.most=some n) (hn2:n<=sizeLine) (hdf:d.params.defaults=[]) (hr:eS k callerA)
  (hY:∀ (w:World) (h:Heap),YP w h->(K w.params).In h/\∀T ∈ ts,h.get? T=some (tabObj #[]))
  (hno:∀w:World,noTabs (K w.params)=true) (hcd:∀w:World,∀T ∈ ts,∃c,codeHdIn (K w.params) c T=true)
  (F:∀ (w:World) (mg:Str->Option Value) (fa:Addr) (h:Heap),(K w.params).In h->h.Ns mainGlobals mg->mg d.name=some (.ref fa)->
   ∃fd:FuncData,(∀ (s:Shared) (u:Value),BindsTo s fd ⟨[u],[]⟩ [(x,u)])/\
    ∀base:Heap,(K w.params).In base->base.Ns mainGlobals mg->(∀ T ∈ ts,base.BuiltinsAt mg T)->cO l.prog w (K w.params) mg base (CX w) k fa fd [x] (sp w))
  (hsp:∀ (w:World) (H:Hp) (a:Addr) (ns:List Int),ns.length<=n->(∀ T ∈ ts,H T=some (.tbl #[]))->kL (K w.params) H a (ns.map V.int)->sp w [.ref a] H (fun v _=>v=.bl true) fun _ _ _=>False)
  (hCX:∀ (w:World) (H:Hp) (s:Shared) (e:Value) (s':Shared),CX w [] H s (fun _ _ _=>False) e s'->False):
  PySem.W.WalkO q loose XP YP l.row.toRowW d [] (fun f vs=>PySem.call f vs):=by
 refine Att.ql hn hdf fun w s₀ s₁ mg mb fa o pm cd doc a vs ns G Y ho hd hcd' hmg hobj hints hlen hg=>?_
 obtain⟨KX,hT⟩:=hY w _ Y
 obtain⟨fd,hb,hF⟩:=F w mg fa _ KX G.T.g hmg
 refine uK ts KX hT (fun T hm=>?_) (hno w) G.T.g G.T.b G.T.builtins G.T.nolimit hg G.T.bmain hobj hints (Nat.le_trans hlen hn2) hr hF hb (fun H hO hS=>hsp w H a ns hlen hO hS) fun H e s'=>hCX w H s₁ e s'
 obtain⟨c,hc⟩:=hcd w T hm
 exact((codeHd_of_K KX hc).tab (hT T hm)).isCodeTable
end Sw
namespace Sw
open PySem PySem.Spec PyProof.Rows L2
theorem CB {te:TE} {fvs:L2.St} {D:Addr} {aC:Hp->Prop} {H0:Hp} {k:Hp->Prop} (f:V->V):∀ (xs acc:List V),(∀ v ∈ xs,∀l Q,Q (f v) (upd H0 D (.lst l))->te (some v::fvs) (upd H0 D (.lst l)) Q)->(∀ l,aC (upd H0 D (.lst l)))->acc.length + xs.length<=sizeLine->
  k (upd H0 D (.lst (acc++xs.map f)))->cV te (fun _ H Q=>Q true H) fvs D aC xs acc (upd H0 D (.lst acc)) k:=by
 intro xs
 induction xs with
 | nil=>
  intro acc h1 h2 h3 h4
  exact⟨h2 _,aA,by simpa using h4⟩
 | cons v r ih=>
  intro acc h1 h2 h3 h4
  refine⟨h2 _,?_⟩
  show if true=true then _ else _
  rw[if_pos rfl]
  refine h1 v List.mem_cons_self _ _ ⟨aA,by rw[List.length_cons]at h3;omega,?_⟩
  rw[eK]
  refine ih (acc++[f v]) (fun v hv=>h1 v (List.mem_cons_of_mem _ hv)) h2 (by rw[List.length_append];simp at h3 ⊢;omega) ?_
  simpa using h4
theorem gw {te:TE} {fvs:L2.St} {D:Addr} {aC:Hp->Prop} {k:Hp->Prop} {xs:List V} (Pv:Nat->List V->Hp->Prop) (st:∀n acc H,Pv n acc H->aC H) (hD:∀n acc H,Pv n acc H->H D=some (.lst acc)/\acc.length=n) (hs:xs.length<=sizeLine)
  (step:∀n v acc H (Q:VK),xs[n]?=some v->Pv n acc H->(∀ y H2,H2 D=some (.lst acc)->Pv (n + 1) (acc++[y]) (upd H2 D (.lst (acc++[y])))->Q y H2)->te (some v::fvs) H Q)
  (fin:∀acc H,Pv xs.length acc H->k H) {acc:List V} {H:Hp} (h0:Pv 0 acc H):cV te (fun _ H Q=>Q true H) fvs D aC xs acc H k:=by
 have go:∀ (r:List V) (n:Nat),xs.drop n=r->n<=xs.length->∀acc H,Pv n acc H->cV te (fun _ H Q=>Q true H) fvs D aC r acc H k:=by
  intro r
  induction r with
  | nil=>
   intro n e hn acc H p
   have:xs.length<=n:=by simpa using e
   have hn':n=xs.length:=by omega
   subst hn'
   exact⟨st _ acc H p,(hD _ _ _ p).1,fin acc H p⟩
  | cons v r ih=>
   intro n e hn acc H p
   have hlt:n < xs.length:=by
    have:=congrArg List.length e
    simp at this
    omega
   have hv:xs[n]?=some v:=by
    have:=congrArg (fun l=>l[0]?) e
    simpa using this
   have hr:xs.drop (n + 1)=r:=by
    have:=congrArg List.tail e
    simpa[List.tail_drop]using this
   refine⟨st _ acc H p,?_⟩
   show if true=true then _ else _
   rw[if_pos rfl]
   refine step n v acc H _ hv p fun y H2 h2 p2=>⟨h2,by have:=(hD _ _ _ p).2;omega,ih (n + 1) hr hlt _ _ p2⟩
 exact go xs 0 (by simp) (Nat.zero_le _) acc H h0
end Sw
namespace Wd
open PySem PySem.Spec PyProof.Rows L2 Sw
@[reducible] noncomputable def jV:List Str:=["text","signs"]
noncomputable def jO:cR:=(.cons (.ret (.blt .all (.cons (.comp "sign" [("signs",1)] (.ex (.var 0)) (.cmp .In (.var 0) (.var 1)) .nil) .nil)))
 .nil)
@[reducible] noncomputable def dU:List Str:=["text"]
noncomputable def dN:cR:=(.cons (.iff (.mth .startswith (.var 0) (.cons (.con (.str "0")) .nil)) (.cons (.ret (.cmp .Eq (.var 0) (.con (.str "0"))))
 .nil) .nil)
 (.cons (.ret (.and (.cmp2 .LtE .LtE (.con (.int 1)) (.blt .len (.cons (.var 0) .nil)) (.glob "MOST_FIGURES")) (.call "made_of" (.cons (.var 0) (.cons (.glob "FIGURES") .nil)))))
 .nil))
@[reducible] noncomputable def gO:List Str:=["text"]
noncomputable def gC:cR:=(.cons (.iff (.not (.call "writes_number" (.cons (.var 0) .nil))) (.cons (.rais "NoRow" (.cons (.var 0) .nil))
 .nil) .nil)
 (.cons (.ret (.blt .int (.cons (.var 0) .nil)))
 .nil))
@[reducible] noncomputable def dX:List Str:=["text","least","greatest","number"]
noncomputable def dP:cR:=(.cons (.asg 3 (.call "number_of" (.cons (.var 0) .nil)))
 (.cons (.iff (.not (.cmp2 .LtE .LtE (.var 1) (.var 3) (.var 2))) (.cons (.rais "NoRow" (.cons (.var 0) .nil))
 .nil) .nil)
 (.cons (.ret (.var 3))
 .nil)))
variable {M:Mo}
noncomputable def jA (t s:Str):Bool:=(cps t).all fun c=>decide (c ∈ cps s)
noncomputable def iY (M:Mo):Sp:=fun vs H Q _=>∃t s,vs=[.str t,.str s]/\t.length<=sizeLine/\∀H',Ext M H H'->Q (.bl (jA t s)) H'
theorem fB:∀ (bs:List Bool),allM AI (bs.map V.bl)=some bs
 | []=>rfl
 | b::r=>by
  simp only[List.map_cons,allM,AI,fB r]
theorem qT {Γ:bf} (hc:Γ.cm=true) (hM:Γ.mod=M) (vs:List V) (H:Hp) (Q:VK) (E:XK) (h:iY M vs H Q E):cG Γ jV 2 jO vs H Q E:=by
 subst hM
 obtain⟨t,s,rfl,ht,h⟩:=h
 refine⟨rfl,?_⟩
 unfold jO
 dsimp only[Sw.wSs,Sw.wS,Sw.wE,Sw.wT,Sw.wEs,Sw.wTs,Sw.wI,Sw.wP,Sw.keyOf,Sw.vars,L2.start,Sw.ax,Sw.aw,Sw.ah,Sw.ag,Sw.ao,Sw.ak,Sw.az,Sw.ay,Sw.au,Sw.aq,Sw.aj,Sw.ai,Sw.av,Sw.ab,Nat.reduceAdd,Nat.reduceSub]
 refine⟨hc,hc,ht,fun D hD mD=>?_⟩
 refine uW (fun v=>match v with | .str x=>.bl (!(Builtin.Str.occurrences s x 0 s.length 1).isEmpty) | v=>v) _ [] ?_ (fun _=>trivial) ?_ ?_
 ·intro v hv H1 Q1 q
  obtain⟨c,hc,rfl⟩:=List.mem_map.mp hv
  exact q
 ·simpa[cq]using ht
 ·unfold eQ
  dsimp only
  rw[br (by intro _ _ z;cases z)]
  dsimp only
  have e:List.map (fun v=>match v with | V.str x=>V.bl (!(Builtin.Str.occurrences s x 0 s.length 1).isEmpty) | v=>v) (List.map (fun c=>V.str ⟨#[c]⟩) (cps t))=((cps t).map fun c=>decide (c ∈ cps s)).map V.bl:=by
   rw[List.map_map,List.map_map]
   refine List.map_congr_left fun c _=>?_
   show V.bl (!(Builtin.Str.occurrences s ⟨#[c]⟩ 0 s.length 1).isEmpty)=V.bl (decide (c ∈ cps s))
   rw[PySem.StrLaws.found_one]
  rw[List.nil_append,e,fB]
  have e2:(((cps t).map fun c=>decide (c ∈ cps s)).all id)=jA t s:=by
   unfold jA
   rw[List.all_map]
   rfl
  dsimp only
  rw[e2]
  exact h _ (Ext.upd hD mD)
theorem yg {α:Type} {xs:List α} {i:Int} (h0:0<=i) (h1:i < xs.length):∃x,kK xs i=some x/\xs[i.toNat]?=some x:=by
 have hlt:i.toNat < xs.length:=by omega
 refine⟨xs[i.toNat],?_,List.getElem?_eq_getElem hlt⟩
 unfold kK yr
 rw[if_pos h0,if_pos h1,Option.bind_some,List.getElem?_eq_getElem hlt]
noncomputable def eg (lo hi c:Nat):Bool:=decide (lo<=c) && decide (c<=hi)
theorem lq:(Str.ofString "0").cps.toList=[48]:=by decide +kernel
theorem pX (t:Str):(t.length:Int)=((cps t).length:Int):=by rw[cq]
noncomputable def bY (t:Str):Bool:=(cps t).all (eg 48 57) && ((decide (1<=(cps t).length) && decide ((cps t).length<=12)) && (!decide ((cps t)[0]?=some 48) || decide (cps t=[48])))
theorem nF {x y:Str} (h:cps x=cps y):x=y:=by
 obtain⟨⟨a⟩⟩:=x
 obtain⟨⟨b⟩⟩:=y
 have h:a=b:=h
 rw[h]
noncomputable def kD:Str:= "abcdefghijklmnopqrstuvwxyz"
noncomputable def eM:Str:= "0123456789"
theorem qd:∀c:Nat,decide (c ∈ cps eM)=eg 48 57 c:=by
 intro c
 have e:cps eM=(List.range 10).map (·+ 48):=by decide +kernel
 rw[e,Bool.eq_iff_iff]
 simp only[decide_eq_true_eq,List.mem_map,List.mem_range,eg,Bool.and_eq_true]
 exact⟨fun⟨a,h1,h2⟩=>by omega,fun⟨h1,h2⟩=>⟨c - 48,by omega,by omega⟩⟩
theorem lx (t:Str):jA t eM=(cps t).all (eg 48 57):=by
 unfold jA
 exact congrArg (fun f=>(cps t).all f) (funext qd)
structure Gs (Γ:bf) (M:Mo):Prop where
 cm:Γ.cm=true
 mod:Γ.mod=M
 mo:Γ.has "made_of" =true/\Γ.fn "made_of" =iY M
 fi:Γ.con "FIGURES" =some (.str eM)
 mf:Γ.con "MOST_FIGURES" =some (.int 12)
theorem yF (t:Str):Txt.startswith t (Str.ofString "0")=decide ((cps t)[0]?=some 48):=by
 have e0:(Str.ofString "0")=⟨#[48]⟩:=nF (by rw[show cps (Str.ofString "0")=[48]from lq])
 rw[e0]
 obtain⟨⟨l⟩⟩:=t
 show(decide (0 + 1<=l.length) && ((⟨l⟩:Array Nat).extract 0 (0 + 1) == #[48]))=decide (l[0]?=some 48)
 cases l with
 | nil=>rfl
 | cons c r=>
  rw[Bool.eq_iff_iff]
  simp
noncomputable def iV (M:Mo):Sp:=fun vs H Q _=>∃t,vs=[.str t]/\t.length<=sizeLine/\∀H',Ext M H H'->Q (.bl (bY t)) H'
theorem Eo (t:Str):(decide (V.str t=V.str (Str.ofString "0")))=decide (cps t=[48]):=by
 rw[Bool.eq_iff_iff]
 simp only[decide_eq_true_eq]
 refine⟨fun z=>?_,fun z=>?_⟩
 ·rw[V.str.inj z];exact lq
 ·exact congrArg V.str (nF (by rw[z];exact lq.symm))
theorem uo {Γ:bf} (g:Gs Γ M) (vs:List V) (H:Hp) (Q:VK) (E:XK) (h:iV M vs H Q E):cG Γ dU 1 dN vs H Q E:=by
 obtain⟨t,rfl,ht,h⟩:=h
 refine⟨rfl,?_⟩
 obtain rfl:=g.mod
 unfold dN
 dsimp only[Sw.wSs,Sw.wS,Sw.wE,Sw.wT,Sw.wEs,Sw.wTs,Sw.wI,Sw.wP,Sw.keyOf,Sw.vars,L2.start,Sw.ax,Sw.aw,Sw.ah,Sw.ag,Sw.ao,Sw.ak,Sw.az,Sw.ay,Sw.au,Sw.aq,Sw.aj,Sw.ai,Sw.av,Sw.ab,Nat.reduceAdd,Nat.reduceSub]
 refine⟨rfl,?_⟩
 simp only[Sw.wZ,Sw.ff,yF]
 by_cases q0:(cps t)[0]?=some 48
 ·rw[if_pos (by simpa using q0)]
  show Q (.bl (decide (V.str t=V.str (Str.ofString "0")))) H
  simp only[Eo]
  have e:bY t=decide (cps t=[48]):=by
   unfold bY
   rw[decide_eq_true q0]
   by_cases q1:cps t=[48]
   ·rw[q1];decide
   ·rw[decide_eq_false q1];simp
  rw[<-e]
  exact h H Ext.refl
 ·rw[if_neg (by simpa using q0)]
  have e0:bY t=((cps t).all (eg 48 57) && (decide (1<=(cps t).length) && decide ((cps t).length<=12))):=by
   unfold bY
   rw[decide_eq_false q0]
   simp
  simp only[g.cm,g.mf,g.fi,Sw.lQ,Sw.tP,Sw.ff,true_and,ht]
  refine⟨_,rfl,?_⟩
  by_cases q:1<=(cps t).length
  ·rw[if_pos (by rw[pX,decide_eq_true_eq];omega)]
   by_cases q2:(cps t).length<=12
   ·rw[if_pos (by rw[pX,decide_eq_true_eq];omega),g.mo.2]
    refine⟨g.mo.1,t,eM,rfl,ht,fun H' x=>?_⟩
    have e:bY t=jA t eM:=by
     rw[e0,lx,decide_eq_true q,decide_eq_true q2]
     simp
    rw[<-e]
    exact h H' x
   ·have e:bY t=false:=by
     rw[e0,decide_eq_false q2]
     simp
    rw[e]at h
    rw[if_neg (by rw[pX,decide_eq_true_eq];omega),decide_eq_false (by rw[pX];omega)]
    exact h H Ext.refl
  ·have e:bY t=false:=by
    rw[e0,decide_eq_false q]
    simp
   rw[e]at h
   rw[if_neg (by rw[pX,decide_eq_true_eq];omega)]
   simp only[Bool.false_eq_true,if_false]
   exact h H Ext.refl
noncomputable def iX (M:Mo):Sp:=fun vs H Q E=>∃t n,vs=[.str t]/\t.length<=640/\bY t=true/\PySem.intText? t=some n/\∀H',Ext M H H'->Q (.int n) H'
structure G2 (Γ:bf) (M:Mo):Prop extends Gs Γ M where
 wr:Γ.has "writes_number" =true/\Γ.fn "writes_number" =iV M
theorem tZ {n:Nat} (h:n<=640):n<=sizeLine:=Nat.le_trans h (by decide)
theorem uu {Γ:bf} (g:G2 Γ M) (vs:List V) (H:Hp) (Q:VK) (E:XK) (h:iX M vs H Q E):cG Γ gO 1 gC vs H Q E:=by
 obtain⟨t,n,rfl,ht,q,e,h⟩:=h
 refine⟨rfl,?_⟩
 obtain rfl:=g.mod
 unfold gC
 dsimp only[Sw.wSs,Sw.wS,Sw.wE,Sw.wT,Sw.wEs,Sw.wTs,Sw.wI,Sw.wP,Sw.keyOf,Sw.vars,L2.start,Sw.ax,Sw.aw,Sw.ah,Sw.ag,Sw.ao,Sw.ak,Sw.az,Sw.ay,Sw.au,Sw.aq,Sw.aj,Sw.ai,Sw.av,Sw.ab,Nat.reduceAdd,Nat.reduceSub]
 rw[g.wr.2]
 refine⟨⟨g.cm,g.wr.1⟩,t,rfl,tZ ht,fun H' x=>?_⟩
 simp only[Sw.ff]
 rw[if_neg (by rw[q];decide)]
 simp only[Sw.yd,e]
 exact⟨g.cm,ht,h H' x⟩
theorem len_app (x y:Str):(x++y).length=x.length + y.length:=by
 show(x.cps++y.cps).size=x.cps.size + y.cps.size
 simp
theorem qf:∀ (m:Nat),0 < m->∃c r,Nat.toDigits 10 m=c::r/\49<=c.toNat:=by
 intro m
 induction m using Nat.strongRecOn with
 | _ m ih=>
  intro h
  by_cases q:m < 10
  ·rw[Nat.toDigits_of_lt_base q]
   refine⟨_,[],rfl,?_⟩
   have:∀k,k < 10->0 < k->49<=(Nat.digitChar k).toNat:=by decide
   exact this m q h
  ·obtain⟨c,r,e,hc⟩:=ih (m / 10) (by omega) (by omega)
   rw[Nat.toDigits_of_base_le (by decide) (by omega),e]
   exact⟨c,_,rfl,hc⟩
theorem zE (n:Int) (h0:0<=n):cps (Str.ofString (toString n))=(Nat.toDigits 10 n.toNat).map Char.toNat:=by
 have e:n=((n.toNat:Nat):Int):=by omega
 have:=PySem.W.KIN.signs_num n.toNat
 rw[<-e]at this
 exact this
theorem oy {m:Nat} {c:Nat} (h:c ∈ (Nat.toDigits 10 m).map Char.toNat):eg 48 57 c=true:=by
 obtain⟨d,hd,rfl⟩:=List.mem_map.mp h
 have:=Nat.isDigit_of_mem_toDigits (by decide) (by decide) hd
 unfold Char.isDigit at this
 simp only[Bool.and_eq_true,decide_eq_true_eq]at this
 unfold eg
 simp only[Bool.and_eq_true,decide_eq_true_eq]
 exact⟨this.1,this.2⟩
theorem dH (n:Int) (h0:0<=n) (h1:n < 10 ^ 12):bY (Str.ofString (toString n))=true/\(Str.ofString (toString n)).length<=12:=by
 have e:=zE n h0
 have hl:(cps (Str.ofString (toString n))).length<=12:=by
  rw[e,List.length_map]
  exact(Nat.length_toDigits_le_iff (by decide) (by decide)).mpr (by omega)
 refine⟨?_,by rw[cq];exact hl⟩
 unfold bY
 rw[decide_eq_true hl]
 have h2:1<=(cps (Str.ofString (toString n))).length:=by
  rw[e,List.length_map]
  exact Nat.length_toDigits_pos
 rw[decide_eq_true h2]
 have h3:(cps (Str.ofString (toString n))).all (eg 48 57)=true:=by
  rw[List.all_eq_true]
  intro c hc
  rw[e]at hc
  exact oy hc
 rw[h3]
 by_cases hz:n.toNat=0
 ·have:cps (Str.ofString (toString n))=[48]:=by
   rw[e,hz]
   decide
  rw[this]
  decide
 ·obtain⟨c,r,e2,hc⟩:=qf n.toNat (by omega)
  rw[e,e2]
  have:c.toNat ≠ 48:=by omega
  simp[this]
theorem nB {t:Str} (h:bY t=true):∃n,PySem.intText? t=some n:=by
 unfold bY at h
 simp only[Bool.and_eq_true,decide_eq_true_eq]at h
 obtain⟨h1,⟨h2,h3⟩,_⟩:=h
 refine⟨_,PySem.intText_digits (x:=t) (fun c hc=>?_) (fun z=>?_) ?_⟩
 ·have:=List.all_eq_true.mp h1 c hc
  simpa[eg]using this
 ·have z:cps t=[]:=z
  rw[z]at h2
  simp at h2
 ·rw[cq];omega
end Wd
namespace Wd
open PySem PySem.Spec PyProof.Rows L2 Sw
variable {M:Mo}
theorem _root_.Sw.cz.rd {M:Mo} {H:Hp} {p:Addr} {o:List V} (off:cz M H) (h:M p=some (.tup o)):Sw.rd M H p=some (.tup o):=by
 have e:H p=none:=off p (by rw[h];simp)
 unfold Sw.rd
 rw[e,h]
noncomputable def mS (t:Str) (a b:Int):Option Int:=if bY t=true then(match PySem.intText? t with | some n=>if a<=n/\n<=b then some n else none | none=>none)else none
noncomputable def iW (M:Mo):Sp:=fun vs H Q E=>∃t a b n,vs=[.str t,.int a,.int b]/\t.length<=640/\mS t a b=some n/\∀H',Ext M H H'->Q (.int n) H'
structure G3 (Γ:bf) (M:Mo):Prop extends G2 Γ M where
 nu:Γ.has "number_of" =true/\Γ.fn "number_of" =iX M
theorem uq {Γ:bf} (g:G3 Γ M) (vs:List V) (H:Hp) (Q:VK) (E:XK) (h:iW M vs H Q E):cG Γ dX 3 dP vs H Q E:=by
 obtain⟨t,a,b,n,rfl,ht,e,h⟩:=h
 refine⟨rfl,?_⟩
 obtain rfl:=g.mod
 unfold dP
 dsimp only[Sw.wSs,Sw.wS,Sw.wE,Sw.wT,Sw.wEs,Sw.wTs,Sw.wI,Sw.wP,Sw.keyOf,Sw.vars,L2.start,Sw.ax,Sw.aw,Sw.ah,Sw.ag,Sw.ao,Sw.ak,Sw.az,Sw.ay,Sw.au,Sw.aq,Sw.aj,Sw.ai,Sw.av,Sw.ab,Nat.reduceAdd,Nat.reduceSub]
 rw[g.nu.2]
 have hw:bY t=true:=by
  cases q:bY t with
  | true=>rfl
  | false=>unfold mS at e;rw[q,if_neg (by decide)]at e;cases e
 obtain⟨m,hn⟩:=nB hw
 have e0:mS t a b=if a<=m/\m<=b then some m else none:=by unfold mS;rw[if_pos hw,hn]
 rw[e]at e0
 by_cases q:a<=m/\m<=b
 ·rw[if_pos q]at e0
  cases e0
  refine⟨⟨g.cm,g.nu.1⟩,t,n,rfl,ht,hw,hn,fun H' x=>?_⟩
  simp (config:={maxSteps:=10000000,failIfUnchanged:=false}) only[Sw.v_add,Sw.eh,Sw.v_sub,Sw.v_mul,Sw.v_div,Sw.v_mod,Sw.v_pow,Sw.v_lt,Sw.tP,Sw.vm,Sw.iR,Sw.Am,Sw.jX,Sw.vk,Sw.An,Sw.vn,Sw.ff,Sw.Ar,Sw.As,Sw.lQ,Sw.lR,Sw.yb,Sw.yd,Sw.yf,Sw.p5,Sw.sL,Sw.r_,Sw.pA,Sw.wZ]
  refine⟨_,rfl,?_⟩
  rw[if_pos (decide_eq_true q.1)]
  refine⟨_,rfl,?_⟩
  rw[if_neg (by simpa using q.2)]
  exact h H' x
 ·rw[if_neg q]at e0
  cases e0
noncomputable def groups:List V:=[.str "O",.str "A",.str "B",.str "AB"]
noncomputable def isGroup (t:Str):Bool:=uR (.str t) groups
end Wd
namespace Wd
open PySem PySem.Spec PyProof.Rows L2 Sw
variable {M:Mo}
noncomputable def cU (g:List Nat):List Str->List Nat
 | []=>[]
 | x::r=>cps x++(r.map fun p=>g++cps p).flatten
theorem m4 (g:Array Nat):∀ (ps:List Str) (acc:Array Nat),(ps.foldl (fun acc p=>acc++g++p.cps) acc).toList=acc.toList++(ps.map fun p=>g.toList++cps p).flatten
 | [],acc=>by simp
 | p::r,acc=>by
  rw[List.foldl_cons,m4 g r]
  simp[cps]
theorem dC (sep:Str) (l:List Str):cps (Txt.join sep l)=cU (cps sep) l:=by
 cases l with
 | nil=>rfl
 | cons x r=>
  show((r.foldl (fun acc p=>acc++sep.cps++p.cps) x.cps)).toList=_
  rw[m4]
  rfl
theorem uO:∀l:List Str,cU [] l=(l.map cps).flatten
 | []=>rfl
 | x::r=>by simp[cU]
theorem qb (n B:Nat):∀ (l:List Str) (a:Nat),(∀ x ∈ l,x.length<=B)->l.foldl (fun a (x:Str)=>a + x.length + n) a<=a + l.length * (B + n)
 | [],a,h=>by simp
 | x::r,a,h=>by
  rw[List.foldl_cons]
  refine Nat.le_trans (qb n B r _ fun y hy=>h y (List.mem_cons_of_mem _ hy)) ?_
  have:=h x List.mem_cons_self
  rw[List.length_cons,Nat.succ_mul]
  omega
theorem rj (sep:Str) (l:List Str) (B:Nat) (h:∀x ∈ l,x.length<=B) (hb:l.length * (B + sep.length)<=16777216):JoinOk sep l=true:=by
 unfold JoinOk Builtin.Str.tooLong
 have z:=qb sep.length B l 0 h
 rw[List.foldl_toArray]
 simp only[Bool.not_eq_true',decide_eq_false_iff_not,gt_iff_lt,Nat.not_lt]
 rw[sizeLine_eq]
 omega
noncomputable def single (c:Nat):Str:=⟨#[c]⟩
theorem qc (l:List Nat):(l.map fun c=>cps (single c)).flatten=l:=by
 induction l with
 | nil=>rfl
 | cons x r ih=>rw[List.map_cons,List.flatten_cons,ih];rfl
theorem nz:∀ (l:List Str),allM Ey (l.map V.str)=some l
 | []=>rfl
 | b::r=>by
  simp only[List.map_cons,allM,Ey,nz r]
end Wd
namespace Wd
open PySem PySem.Spec PyProof.Rows L2 Sw
variable {M:Mo}
theorem lF {H:Hp} {p:Addr} {xs:List V} (hp:rd M H p=some (.lst xs)) {k:Int} {v:V} (e:kK xs k=some v) {Q:VK} (q:Q v H):gj M (.ref p) (.int k) H Q:=by
 rw[sL,hp]
 dsimp only
 rw[e]
 exact q
theorem Aw {H:Hp} {p:Addr} {xs ys:List V} {lo hi:Option Int} (hp:rd M H p=some (.lst xs)) (e:jJ xs lo hi=ys) {Q:VK} (q:∀l,H l=none->M l=none->Q (.ref l) (upd H l (.lst ys))):t8 M (.ref p) lo hi H Q:=by
 rw[pA,hp]
 dsimp only
 rw[e]
 exact q
end Wd
namespace Tx
open PySem PySem.StrLaws PySem.Builtin PySem.Builtin.Str
theorem nc {s sub:Str} {hi:Nat} (hw:1<=sub.length):∀ {a:Nat} {cs ds:List Nat} {f g:Nat},ChainG s sub hi a cs f->(∀ k,f<=k->¬At s sub hi k)->ChainG s sub hi a ds g->(∀ k,g<=k->¬At s sub hi k)->cs=ds
 | a,[],[],f,g,_,_,_,_=>rfl
 | a,[],d::ds,f,g,h1,h2,h3,_=>by
  have e:f=a:=h1
  subst e
  exact absurd h3.2.1 (h2 d h3.1)
 | a,c::cs,[],f,g,h1,_,h3,h4=>by
  have e:g=a:=h3
  subst e
  exact absurd h1.2.1 (h4 c h1.1)
 | a,c::cs,d::ds,f,g,h1,h2,h3,h4=>by
  have e:c=d:=by
   rcases Nat.lt_trichotomy c d with q | q | q
   ·exact absurd h1.2.1 (h3.2.2.1 c h1.1 q)
   ·exact q
   ·exact absurd h3.2.1 (h1.2.2.1 d h3.1 q)
  subst e
  rw[nc hw h1.2.2.2 h2 h3.2.2.2 h4]
noncomputable def eC (g:List Nat):List (List Nat)->List Nat
 | []=>[]
 | [p]=>p
 | p::q::r=>p++g++eC g (q::r)
noncomputable def CT (g p:List Nat):Prop:=∀ (r:List Nat) (k:Nat),k < p.length->((p++r).drop k).take g.length ≠ g
noncomputable def tB (w:Nat):Nat->List (List Nat)->List Nat
 | _,[]=>[]
 | _,[_]=>[]
 | a,p::q::r=>(a + p.length)::tB w (a + p.length + w) (q::r)
noncomputable def Cw (w:Nat):Nat->List (List Nat)->Nat
 | a,[]=>a
 | a,[_]=>a
 | a,p::q::r=>Cw w (a + p.length + w) (q::r)
theorem rJ (x y:Str) (k:Nat):At x y x.length k ↔ k + y.length<=x.length/\(x.cps.toList.drop k).take y.length=y.cps.toList:=by
 unfold At
 rw[subAt_eq,beq_iff_eq]
theorem c_ (x:Str):x.length=x.cps.toList.length:=by simp[Str.length]
theorem lN {x y:Str} (hw:1<=y.length):∀ (ps:List (List Nat)) (pre:List Nat),ps ≠ []->(∀ p ∈ ps,CT y.cps.toList p)->x.cps.toList=pre++eC y.cps.toList ps->
  ChainG x y x.length pre.length (tB y.length pre.length ps) (Cw y.length pre.length ps)/\(∀ k,Cw y.length pre.length ps<=k->¬At x y x.length k)/\
   (partsFrom x y.length pre.length (tB y.length pre.length ps)).map (·.cps.toList)=ps
 | [],_,h,_,_=>absurd rfl h
 | [p],pre,_,hf,hx=>by
  refine⟨rfl,fun k hk hA=>?_,?_⟩
  ·rw[rJ,hx]at hA
   have hk:pre.length<=k:=hk
   obtain⟨h1,h2⟩:=hA
   have hl:x.length=pre.length + p.length:=by rw[c_,hx];simp[eC]
   have e:(pre++eC y.cps.toList [p]).drop k=(p++[]).drop (k - pre.length):=by
    rw[List.drop_append,List.drop_of_length_le hk,List.nil_append,List.append_nil];rfl
   rw[e]at h2
   refine hf p (by simp) [] (k - pre.length) (by omega) ?_
   rw[<-c_]
   exact h2
  ·show [(strSub x pre.length x.length).cps.toList]=[p]
   rw[strSub_toList,hx,List.drop_append,List.drop_of_length_le (Nat.le_refl _),List.nil_append,Nat.sub_self,List.drop_zero]
   have hl:x.length=pre.length + p.length:=by rw[c_,hx];simp[eC]
   rw[List.take_of_length_le (by show p.length<=_;omega)]
   rfl
 | p::q::r,pre,_,hf,hx=>by
  have hx':x.cps.toList=(pre++(p++y.cps.toList))++eC y.cps.toList (q::r):=by rw[hx];simp[eC]
  have ih:=lN hw (q::r) (pre++(p++y.cps.toList)) (by simp) (fun z hz=>hf z (List.mem_cons_of_mem _ hz)) hx'
  have el:(pre++(p++y.cps.toList)).length=pre.length + p.length + y.length:=by rw[List.length_append,List.length_append,c_ y];omega
  rw[el]at ih
  have hl:pre.length + p.length + y.length<=x.length:=by rw[c_ x,hx',List.length_append,el];omega
  have dr:∀k,pre.length<=k->x.cps.toList.drop k=(p++(y.cps.toList++eC y.cps.toList (q::r))).drop (k - pre.length):=fun k hk=>by
   rw[hx,List.drop_append,List.drop_of_length_le hk,List.nil_append]
   simp[eC]
  refine⟨⟨Nat.le_add_right _ _,?_,fun k h1 h2 hA=>?_,ih.1⟩,ih.2.1,?_⟩
  ·rw[rJ,dr _ (Nat.le_add_right _ _)]
   refine⟨hl,?_⟩
   rw[Nat.add_sub_cancel_left,List.drop_append,List.drop_of_length_le (Nat.le_refl _),List.nil_append,Nat.sub_self,List.drop_zero,c_ y,List.take_append_of_le_length (Nat.le_refl _),List.take_of_length_le (Nat.le_refl _)]
  ·rw[rJ,dr k h1]at hA
   refine hf p (by simp) (y.cps.toList++eC y.cps.toList (q::r)) (k - pre.length) (by omega) ?_
   rw[<-c_]
   exact hA.2
  ·show(strSub x pre.length (pre.length + p.length)).cps.toList::(partsFrom x y.length (pre.length + p.length + y.length) (tB y.length (pre.length + p.length + y.length) (q::r))).map (·.cps.toList)=p::q::r
   rw[ih.2.2,strSub_toList,dr _ (Nat.le_refl _),Nat.sub_self,List.drop_zero,Nat.add_sub_cancel_left,List.take_append_of_le_length (Nat.le_refl _),List.take_of_length_le (Nat.le_refl _)]
theorem lI {x y:Str} (h:x.cps.toList=y.cps.toList):x=y:=by
 apply Str.ext'
 exact Array.toList_inj.mp h
theorem map_inj:∀ {a b:List Str},a.map (·.cps.toList)=b.map (·.cps.toList)->a=b
 | [],[],_=>rfl
 | [],_::_,h=>by simp at h
 | _::_,[],h=>by simp at h
 | x::a,y::b,h=>by
  simp only[List.map_cons,List.cons.injEq]at h
  rw[lI h.1,map_inj h.2]
theorem kQ {x y:Str} {ps:List Str} (hw:1<=y.length) (hk:strKind x=strKind y) (h0:ps ≠ []) (hf:∀p ∈ ps,CT y.cps.toList p.cps.toList) (hx:x.cps.toList=eC y.cps.toList (ps.map (·.cps.toList))):Txt.split x y=ps:=by
 obtain⟨c1,c2,c3⟩:=lN (x:=x) (y:=y) hw (ps.map (·.cps.toList)) [] (by simpa using h0) (fun p hp=>by
  obtain⟨z,hz,rfl⟩:=List.mem_map.mp hp
  exact hf z hz) (by simpa using hx)
 obtain⟨f,o1,o2⟩:=occ_tight x y hw
 have e:=nc hw o1 o2 c1 c2
 unfold Txt.split
 split
 ·rename_i hs
  have hlt:x.length < y.length:=by
   simp only[Bool.or_eq_true,decide_eq_true_eq]at hs
   rcases hs with q | q
   ·exact q
   ·omega
  -- no separator fits in: one piece
  cases ps with
  | nil=>exact absurd rfl h0
  | cons p r=>
   cases r with
   | nil=>
    have:x.cps.toList=p.cps.toList:=hx
    rw[lI this]
   | cons q r=>
    have:=congrArg List.length hx
    simp only[List.map_cons,eC,List.length_append]at this
    rw[c_,c_ y]at hlt
    omega
 ·split
  ·rename_i hs
   have hnil:occurrences x y 0 x.length (x.length + 1)=[]:=by simpa using hs
   rw[hnil]at e
   rw[<-e]at c3
   have c3:[(strSub x 0 x.length).cps.toList]=ps.map (·.cps.toList):=c3
   rw[sub_whole]at c3
   exact map_inj (by simpa using c3)
  ·rw[partsBetween_eq,e]
   exact map_inj c3
noncomputable def jn (c:Nat):List Nat->Bool
 | []=>true
 | [x]=>x != 32
 | x::y::r=>(x != 32 || y != c) && jn c (y::r)
theorem tH {c:Nat}:∀ {p:List Nat} {k:Nat},jn c p=true->p[k]?=some 32->∃d,p[k + 1]?=some d/\d ≠ c
 | [],k,_,h=>by simp at h
 | [x],0,h,e=>by
  simp at e
  subst e
  simp[jn]at h
 | [x],k + 1,_,e=>by simp at e
 | x::y::r,0,h,e=>by
  simp at e
  subst e
  simp only[jn,Bool.and_eq_true,Bool.or_eq_true,bne_iff_ne,ne_eq,not_true_eq_false,false_or]at h
  exact⟨y,rfl,h.1⟩
 | x::y::r,k + 1,h,e=>by
  simp only[jn,Bool.and_eq_true]at h
  obtain⟨d,h1,h2⟩:=tH (k:=k) h.2 (by simpa using e)
  exact⟨d,by simpa using h1,h2⟩
theorem sU {c:Nat} {g p:List Nat} (h:jn c p=true) (hg:∃r,g=32::c::r):CT g p:=by
 obtain⟨g',rfl⟩:=hg
 intro r k hk e
 have e0:((p++r).drop k)[0]?=some 32:=by
  have:=congrArg (fun l=>l[0]?) e
  simpa[List.getElem?_take]using this
 have e1:((p++r).drop k)[1]?=some c:=by
  have:=congrArg (fun l=>l[1]?) e
  simpa[List.getElem?_take]using this
 rw[List.getElem?_drop]at e0 e1
 rw[List.getElem?_append_left (by omega)]at e0
 obtain⟨d,h1,h2⟩:=tH h (by simpa using e0)
 have hk1:k + 1 < p.length:=(List.getElem?_eq_some_iff.mp h1).1
 rw[List.getElem?_append_left hk1,h1]at e1
 exact h2 (Option.some.inj e1)
theorem tI {c d:Nat}:∀ {p q:List Nat},jn c p=true->jn c q=true->d ≠ c->jn c (p++32::d::q)=jn c (d::q)
 | [],q,_,_,hd=>by simp[jn,hd]
 | [x],q,h,hq,hd=>by
  have hx:(x != 32)=true:=h
  have hd':(d != c)=true:=by simpa using hd
  show((x != 32 || 32 != c) && ((32 != 32 || d != c) && jn c (d::q)))=jn c (d::q)
  rw[hx,hd']
  simp
 | x::y::r,q,h,hq,hd=>by
  simp only[jn,Bool.and_eq_true]at h
  have ih:=tI (d:=d) h.2 hq hd
  show((x != 32 || y != c) && jn c (y::r++32::d::q))=_
  rw[h.1,Bool.true_and]
  exact ih
end Tx
namespace Tx
open PySem PySem.StrLaws PySem.Builtin PySem.Builtin.Str PyProof.Rows
noncomputable def a_ (q:Nat):Str:=if q=0 then Str.ofString "groups" else if q=1 then Str.ofString "marks" else Str.ofString "sizes " ++Str.ofString (toString ((q - 2:Nat):Int))
noncomputable def vf:Nat->List Nat
 | 0=>[]
 | t + 1=>110::111::32::vf t
noncomputable def tx (t q:Nat):Str:=⟨(vf t++(a_ q).cps.toList).toArray⟩
theorem fc (t q:Nat):(tx t q).cps.toList=vf t++(a_ q).cps.toList:=by simp[tx]
theorem rU (q:Nat):tx 0 q=a_ q:=lI (by rw[fc];rfl)
theorem pJ:(Str.ofString "no ").cps.toList=[110,111,32]:=by decide +kernel
theorem qZ {t:Nat} (h:t < 6):(Txt.mul (Str.ofString "no ") t).cps.toList=vf t:=by
 have e:((List.range 6).all fun t=>decide ((Txt.mul (Str.ofString "no ") (t:Int)).cps.toList=vf t))=true:=by decide +kernel
 exact of_decide_eq_true (List.all_eq_true.mp e t (List.mem_range.mpr h))
theorem tJ (x y:Str):(x++y).cps.toList=x.cps.toList++y.cps.toList:=by
 show(x.cps++y.cps).toList=_
 simp
noncomputable def Fj (l:List Nat):Bool:=jn 97 l && jn 111 l && decide (l.head? ≠ some 97) && decide (l.head? ≠ some 111) && decide (l.head? ≠ some 110) && decide (l.length<=20) && decide (1<=l.length) && l.all (·< 256)
theorem zr:((List.range 101).all fun q=>Fj (a_ q).cps.toList)=true:=by decide +kernel
theorem Dr {q:Nat} (h:q < 101):Fj (a_ q).cps.toList=true:=List.all_eq_true.mp zr q (List.mem_range.mpr h)
structure C0 (l:List Nat):Prop where
 a:jn 97 l=true
 o:jn 111 l=true
 ha:l.head? ≠ some 97
 ho:l.head? ≠ some 111
 n:1<=l.length
 s:∀c ∈ l,c < 256
theorem C0.no {l:List Nat} (h:C0 l):C0 (110::111::32::l):=by
 have hn:=h.n
 cases l with
 | nil=>simp at hn
 | cons c r=>
  have ha:(c != 97)=true:=by simpa using h.ha
  have ho:(c != 111)=true:=by simpa using h.ho
  refine⟨?_,?_,by simp,by simp,by simp,fun d hd=>?_⟩
  ·show((110 != 32 || 111 != 97) && ((111 != 32 || 32 != 97) && ((32 != 32 || c != 97) && jn 97 (c::r))))=true
   rw[h.a,ha];rfl
  ·show((110 != 32 || 111 != 111) && ((111 != 32 || 32 != 111) && ((32 != 32 || c != 111) && jn 111 (c::r))))=true
   rw[h.o,ho];rfl
  ·simp only[List.mem_cons]at hd
   rcases hd with rfl | rfl | rfl | hd
   ·decide
   ·decide
   ·decide
   ·exact h.s d (by simpa using hd)
theorem wB {q:Nat} (h:q < 101):C0 (a_ q).cps.toList/\(a_ q).cps.toList.length<=20/\(a_ q).cps.toList.head? ≠ some 110:=by
 have f:=Dr h
 unfold Fj at f
 simp only[Bool.and_eq_true,decide_eq_true_eq]at f
 obtain⟨⟨⟨⟨⟨⟨⟨f1,f2⟩,f3⟩,f4⟩,f5⟩,f6⟩,f7⟩,f8⟩:=f
 exact⟨⟨f1,f2,f3,f4,f7,fun c hc=>by simpa using List.all_eq_true.mp f8 c hc⟩,f6,f5⟩
theorem Aq {q:Nat} (h:q < 101):∀t:Nat,C0 (vf t++(a_ q).cps.toList)
 | 0=>(wB h).1
 | t + 1=>(Aq h t).no
theorem n6:∀t:Nat,(vf t).length=3 * t
 | 0=>rfl
 | t + 1=>by show(vf t).length + 3=_;rw[n6 t];omega
theorem AR {t q:Nat} (h:q < 101):C0 (tx t q).cps.toList:=by rw[fc];exact Aq h t
theorem rV {t q:Nat} (h1:t < 6) (h2:q < 101):(tx t q).length<=40:=by
 rw[c_,fc,List.length_append,n6]
 have:=(wB h2).2.1
 omega
theorem tX (t q:Nat):Txt.startswith (tx (t + 1) q) (Str.ofString "no ")=true:=by
 unfold Txt.startswith
 rw[subAt_eq,c_,c_,pJ,fc]
 simp[vf]
theorem wM {q:Nat} (h:q < 101):Txt.startswith (tx 0 q) (Str.ofString "no ")=false:=by
 unfold Txt.startswith
 rw[subAt_eq,c_ (Str.ofString "no "),pJ,fc]
 have:=(wB h).2.2
 cases e:(a_ q).cps.toList with
 | nil=>simp[vf]
 | cons c r=>
  rw[e]at this
  have hc:c ≠ 110:=by simpa using this
  simp[vf,hc]
theorem kU (x:Str) (k:Nat) (h:k<=x.length):Txt.slice x (some (k:Int)) none=⟨(x.cps.toList.drop k).toArray⟩:=by
 have e:=eq_of_beq (slice_closes_from (x:=x) (i:=(k:Int)) ⟨by omega,by rw[<-c_];omega⟩)
 rw[e]
 apply lI
 show List.take _ _=List.drop k _
 rw[Int.toNat_natCast]
 refine List.take_of_length_le ?_
 rw[List.length_drop]
 omega
theorem vD (t q:Nat):Txt.slice (tx (t + 1) q) (some 3) none=tx t q:=by
 have hl:3<=(tx (t + 1) q).length:=by rw[c_,fc];simp[vf]
 have:=kU (tx (t + 1) q) 3 hl
 rw[show((3:Nat):Int)=3 from rfl]at this
 rw[this,fc]
 rfl
theorem fU:(Str.ofString "sizes ").cps.toList=[115,105,122,101,115,32]:=by decide +kernel
theorem eV (n:Nat):(a_ (n + 2)).cps.toList=[115,105,122,101,115,32]++(Str.ofString (toString (n:Int))).cps.toList:=by
 unfold a_
 rw[if_neg (by omega),if_neg (by omega),tJ,fU]
 rfl
theorem yD (n:Nat):a_ (n + 2) ≠ Str.ofString "groups" :=fun z=>by
 have:=congrArg (fun x:Str=>x.cps.toList.head?) z
 simp only[eV]at this
 revert this
 show some 115=_->False
 decide +kernel
theorem yC (n:Nat):a_ (n + 2) ≠ Str.ofString "marks" :=fun z=>by
 have:=congrArg (fun x:Str=>x.cps.toList.head?) z
 simp only[eV]at this
 revert this
 show some 115=_->False
 decide +kernel
theorem tW (n:Nat):Txt.startswith (a_ (n + 2)) (Str.ofString "sizes ")=true:=by
 unfold Txt.startswith
 rw[subAt_eq,c_,c_,fU,eV]
 simp
theorem vC (n:Nat):Txt.slice (a_ (n + 2)) (some 6) none=Str.ofString (toString (n:Int)):=by
 have hl:6<=(a_ (n + 2)).length:=by rw[c_,eV];simp
 have:=kU (a_ (n + 2)) 6 hl
 rw[show((6:Nat):Int)=6 from rfl]at this
 rw[this,eV]
 apply lI
 simp
theorem B_ {t n:Nat} (h:t < 6):(Txt.mul (Str.ofString "no ") t++Str.ofString "sizes ")++Str.ofString (toString (n:Int))=tx t (n + 2):=by
 apply lI
 rw[tJ,tJ,qZ h,fc,eV,fU,List.append_assoc]
theorem Ca {t q:Nat} (h:t < 6):Txt.mul (Str.ofString "no ") t++a_ q=tx t q:=by
 apply lI
 rw[tJ,qZ h,fc]
end Tx
namespace Rl
open PySem PySem.Spec PyProof.Rows L2 Sw Wd Tx
@[reducible] noncomputable def yn:List Str:=["giver","taker"]
noncomputable def ye:cR:=(.cons (.ret (.blt .abs (.cons (.bin .Sub (.idx (.var 0) (.con (.int 1))) (.idx (.var 1) (.con (.int 1)))) .nil)))
 .nil)
@[reducible] noncomputable def dk:List Str:=["giver","taker"]
noncomputable def dh:cR:=(.cons (.ret (.cmp .In (.idx (.var 1) (.con (.int 0))) (.gidx "TAKERS" (.idx (.var 0) (.con (.int 0))))))
 .nil)
@[reducible] noncomputable def dZ:List Str:=["giver","taker"]
noncomputable def dR:cR:=(.cons (.ret (.not (.blt .any (.cons (.comp "mark" [("taker",1)] (.ex (.idx (.var 0) (.con (.int 2)))) (.cmp .In (.var 0) (.idx (.var 1) (.con (.int 2)))) .nil) .nil))))
 .nil)
@[reducible] noncomputable def dY:List Str:=["giver","taker","bound"]
noncomputable def dQ:cR:=(.cons (.ret (.cmp .LtE (.call "gap" (.cons (.var 0) (.cons (.var 1) .nil))) (.var 2)))
 .nil)
@[reducible] noncomputable def eU:List Str:=["giver","taker","rule"]
noncomputable def eR:cR:=(.cons (.ret (.not (.callv (.var 2) (.cons (.var 0) (.cons (.var 1) .nil)))))
 .nil)
@[reducible] noncomputable def gQ:List Str:=["giver","taker","rules"]
noncomputable def gE:cR:=(.cons (.ret (.blt .all (.cons (.comp "rule" [("giver",0),("taker",1)] (.ex (.var 2)) (.callv (.var 0) (.cons (.var 1) (.cons (.var 2) .nil))) .nil) .nil)))
 .nil)
@[reducible] noncomputable def gP:List Str:=["giver","taker","rules"]
noncomputable def gD:cR:=(.cons (.ret (.blt .any (.cons (.comp "rule" [("giver",0),("taker",1)] (.ex (.var 2)) (.callv (.var 0) (.cons (.var 1) (.cons (.var 2) .nil))) .nil) .nil)))
 .nil)
@[reducible] noncomputable def fE:List Str:=["text"]
noncomputable def fo:cR:=(.cons (.iff (.cmp .Eq (.var 0) (.con (.str "groups"))) (.cons (.ret (.glob "fits_by_groups"))
 .nil) .nil)
 (.cons (.iff (.cmp .Eq (.var 0) (.con (.str "marks"))) (.cons (.ret (.glob "fits_by_marks"))
 .nil) .nil)
 (.cons (.iff (.mth .startswith (.var 0) (.cons (.glob "SIZES") .nil)) (.cons (.ret (.call "sizes_rule" (.cons (.call "number_within" (.cons (.slc (.var 0) (.cons (.blt .len (.cons (.glob "SIZES") .nil)) .nil) .nil) (.cons (.con (.int 0)) (.cons (.glob "MOST_GAP") .nil)))) .nil)))
 .nil) .nil)
 (.cons (.rais "NoRow" (.cons (.var 0) .nil))
 .nil))))
@[reducible] noncomputable def gN:List Str:=["text","noes","rest","plain"]
noncomputable def gB:cR:=(.cons (.asg 1 (.con (.int 0)))
 (.cons (.asg 2 (.var 0))
 (.cons (.whl (.and (.cmp .Lt (.var 1) (.glob "MOST_NOES")) (.mth .startswith (.var 2) (.cons (.glob "NO") .nil))) (.cons (.asg 1 (.bin .Add (.var 1) (.con (.int 1))))
 (.cons (.asg 2 (.slc (.var 2) (.cons (.blt .len (.cons (.glob "NO") .nil)) .nil) .nil))
 .nil)))
 (.cons (.asg 3 (.call "plain_rule" (.cons (.var 2) .nil)))
 (.cons (.ret (.ite (.cmp .Eq (.bin .Mod (.var 1) (.con (.int 2))) (.con (.int 0))) (.var 3) (.call "opposite" (.cons (.var 3) .nil))))
 .nil)))))
@[reducible] noncomputable def cS:List Str:=["text"]
noncomputable def cP:cR:=(.cons (.ret (.call "all_of" (.cons (.comp "term" [] (.ex (.mth .split (.var 0) (.cons (.con (.str " and ")) .nil))) (.call "term_rule" (.cons (.var 0) .nil)) .nil) .nil)))
 .nil)
@[reducible] noncomputable def jU:List Str:=["text","alternatives"]
noncomputable def jN:cR:=(.cons (.asg 1 (.mth .split (.var 0) (.cons (.con (.str " or ")) .nil)))
 (.cons (.tryx (.cons (.ret (.call "any_of" (.cons (.comp "alternative" [] (.ex (.var 1)) (.call "alternative_rule" (.cons (.var 0) .nil)) .nil) .nil)))
 .nil) "NoRow" none (.cons (.raisF "NoRow" (.cons (.var 0) .nil))
 .nil))
 .nil))
variable {M:Mo}
structure Sd where
 g:Str
 n:Int
 m:Str
noncomputable def Sd.vs (s:Sd):List V:=[.str s.g,.int s.n,.str s.m]
structure Sd.Ok (s:Sd):Prop where
 g:isGroup s.g=true
 n:1<=s.n/\s.n<=99
 m:s.m.length<=26
noncomputable def bX (M:Mo) (H:Hp) (a:Addr) (s:Sd):Prop:=rd M H a=some (.tup s.vs)
theorem Ci {H:Hp} {p:Addr} {xs:List V} (hp:rd M H p=some (.tup xs)) {k:Int} {v:V} (e:kK xs k=some v) {Q:VK} (q:Q v H):gj M (.ref p) (.int k) H Q:=by
 rw[sL,hp]
 dsimp only
 rw[e]
 exact q
theorem bX.i0 {H:Hp} {a:Addr} {s:Sd} (h:bX M H a s) {Q:VK} (q:Q (.str s.g) H):gj M (.ref a) (.int 0) H Q:=Ci h rfl q
theorem bX.i1 {H:Hp} {a:Addr} {s:Sd} (h:bX M H a s) {Q:VK} (q:Q (.int s.n) H):gj M (.ref a) (.int 1) H Q:=Ci h rfl q
theorem bX.i2 {H:Hp} {a:Addr} {s:Sd} (h:bX M H a s) {Q:VK} (q:Q (.str s.m) H):gj M (.ref a) (.int 2) H Q:=Ci h rfl q
theorem bX.ext {H H':Hp} {a:Addr} {s:Sd} (h:bX M H a s) (x:Ext M H H'):bX M H' a s:=x.rd h
theorem Bh {H:Hp} {a c:Addr} {v:V} {o:HO} (hc:H c=some (.dw v)) (h:rd M H a=some o) (ho:o ≠ .dw v):rd M (era H c) a=some o:=by
 have ne:a ≠ c:=by
  rintro rfl
  unfold rd at h
  rw[hc]at h
  exact ho (Option.some.inj h).symm
 unfold rd at h ⊢
 rw[aI ne]
 exact h
theorem bX.era {H:Hp} {a c:Addr} {v:V} {s:Sd} (h:bX M H a s) (hc:H c=some (.dw v)):bX M (era H c) a s:=Bh hc h (fun z=>nomatch z)
theorem kF {H H':Hp} {c:Addr} {v:V} (hc:H c=some (.dw v)) (off:M c=none) (x:Ext M (era H c) H'):Ext M H (upd H' c (.dw v)):=by
 refine⟨fun b o e=>?_,fun b mb e=>?_⟩
 ·by_cases hb:b=c
  ·subst hb
   rw[hc]at e
   rw[aA]
   exact e
  ·rw[ae hb]
   exact x.same b o (by rw[aI hb];exact e)
 ·rw[ae (fun z=>mb (by rw[z];exact off))]
  exact x.off b mb (bJ e)
noncomputable def h_ (s t:Sd):Int:=if s.n - t.n < 0 then -(s.n - t.n)else s.n - t.n
noncomputable def oZ (M:Mo):Sp:=fun vs H Q _=>∃a b s t,vs=[.ref a,.ref b]/\bX M H a s/\bX M H b t/\Q (.int (h_ s t)) H
theorem BQ {Γ:bf} (hc:Γ.cm=true) (hM:Γ.mod=M) (vs:List V) (H:Hp) (Q:VK) (E:XK) (h:oZ M vs H Q E):cG Γ yn 2 ye vs H Q E:=by
 subst hM
 obtain⟨a,b,s,t,rfl,ha,hb,h⟩:=h
 refine⟨rfl,?_⟩
 unfold ye
 dsimp only[Sw.wSs,Sw.wS,Sw.wE,Sw.wT,Sw.wEs,Sw.wTs,Sw.wI,Sw.wP,Sw.keyOf,Sw.vars,L2.start,Sw.ax,Sw.aw,Sw.ah,Sw.ag,Sw.ao,Sw.ak,Sw.az,Sw.ay,Sw.au,Sw.aq,Sw.aj,Sw.ai,Sw.av,Sw.ab,Nat.reduceAdd,Nat.reduceSub]
 refine⟨hc,ha.i1 (hb.i1 ?_)⟩
 rw[Sw.v_sub,Sw.yf]
 exact h
noncomputable def vw (g:Str):List V:=if g= "O" then [.str "O",.str "A",.str "B",.str "AB"]else if g= "A" then [.str "A",.str "AB"]else if g= "B" then [.str "B",.str "AB"]else [.str "AB"]
noncomputable def ER (g t:Str):Bool:=uR (.str t) (vw g)
noncomputable def De (M:Mo):Sp:=fun vs H Q _=>∃a b s t,vs=[.ref a,.ref b]/\cz M H/\bX M H a s/\bX M H b t/\s.Ok/\Q (.bl (ER s.g t.g)) H
structure CP (Γ:bf) (M:Mo):Prop where
 at_:∃p1 p2 p3 p4,Γ.gd "TAKERS" =some [(.inr "O",.ref p1),(.inr "A",.ref p2),(.inr "B",.ref p3),(.inr "AB",.ref p4)]/\
  M p1=some (.tup [.str "O",.str "A",.str "B",.str "AB"])/\M p2=some (.tup [.str "A",.str "AB"])/\M p3=some (.tup [.str "B",.str "AB"])/\M p4=some (.tup [.str "AB"])
theorem gk {g:Str} (h:isGroup g=true):g= "O" \/g= "A" \/g= "B" \/g= "AB" :=by
 unfold isGroup uR groups at h
 simp only[List.any_cons,List.any_nil,Bool.or_false,Bool.or_eq_true]at h
 have e:∀x:Str,zU (.str x) (.str g)=true->g=x:=fun x q=>(of_decide_eq_true q).symm
 rcases h with q | q | q | q
 ·exact .inl (e _ q)
 ·exact .inr (.inl (e _ q))
 ·exact .inr (.inr (.inl (e _ q)))
 ·exact .inr (.inr (.inr (e _ q)))
theorem uy {Γ:bf} (hM:Γ.mod=M) (T:CP Γ M) (vs:List V) (H:Hp) (Q:VK) (E:XK) (h:De M vs H Q E):cG Γ dk 2 dh vs H Q E:=by
 subst hM
 obtain⟨a,b,s,t,rfl,off,ha,hb,ok,h⟩:=h
 obtain⟨p1,p2,p3,p4,hg,h1,h2,h3,h4⟩:=T.at_
 refine⟨rfl,?_⟩
 unfold dh
 dsimp only[Sw.wSs,Sw.wS,Sw.wE,Sw.wT,Sw.wEs,Sw.wTs,Sw.wI,Sw.wP,Sw.keyOf,Sw.vars,L2.start,Sw.ax,Sw.aw,Sw.ah,Sw.ag,Sw.ao,Sw.ak,Sw.az,Sw.ay,Sw.au,Sw.aq,Sw.aj,Sw.ai,Sw.av,Sw.ab,Nat.reduceAdd,Nat.reduceSub]
 refine hb.i0 ?_
 rw[hg]
 refine ha.i0 ?_
 have fin:∀ (p:Addr) (xs:List V),Γ.mod p=some (.tup xs)->xs.all cL=true->Q (.bl (uR (.str t.g) xs)) H->eJ Γ.mod .In (.str t.g) (.ref p) H Q:=fun p xs e f q=>by
  show(match rd Γ.mod H p with | some (.lst xs)=>_ | some (.tup xs)=>cL (.str t.g)=true/\xs.all cL=true/\Q (.bl (uR (.str t.g) xs)) H | _=>False)
  rw[off.rd e]
  exact⟨rfl,f,q⟩
 rcases gk ok.g with e | e | e | e
 ·rw[e]at h ⊢
  exact fin p1 _ h1 (by decide +kernel) h
 ·rw[e]at h ⊢
  exact fin p2 _ h2 (by decide +kernel) h
 ·rw[e]at h ⊢
  exact fin p3 _ h3 (by decide +kernel) h
 ·rw[e]at h ⊢
  exact fin p4 _ h4 (by decide +kernel) h
noncomputable def BZ (a b:Str):Bool:=!((cps a).any fun c=>decide (c ∈ cps b))
noncomputable def vB (M:Mo):Sp:=fun vs H Q _=>∃a b s t,vs=[.ref a,.ref b]/\bX M H a s/\bX M H b t/\s.Ok/\∀H',Ext M H H'->Q (.bl (BZ s.m t.m)) H'
theorem kz {n:Nat} (h:n<=26):n<=sizeLine:=Nat.le_trans h (by decide)
theorem yi {H:Hp} {p:Addr} {bs:List Bool} {Q:VK} (hp:rd M H p=some (.lst (bs.map V.bl))) (q:Q (.bl (bs.any id)) H):eQ M .any [.ref p] H Q:=by
 show(match rd M H p with | some (.lst xs)=>(match allM AI xs with | some bs=>Q (.bl (bs.any id)) H | none=>False) | _=>False)
 rw[hp]
 dsimp only
 rw[fB]
 exact q
theorem CM {H:Hp} {p:Addr} {bs:List Bool} {Q:VK} (hp:rd M H p=some (.lst (bs.map V.bl))) (q:Q (.bl (bs.all id)) H):eQ M .all [.ref p] H Q:=by
 show(match rd M H p with | some (.lst xs)=>(match allM AI xs with | some bs=>Q (.bl (bs.all id)) H | none=>False) | _=>False)
 rw[hp]
 dsimp only
 rw[fB]
 exact q
theorem uz {Γ:bf} (hc:Γ.cm=true) (hM:Γ.mod=M) (vs:List V) (H:Hp) (Q:VK) (E:XK) (h:vB M vs H Q E):cG Γ dZ 2 dR vs H Q E:=by
 subst hM
 obtain⟨a,b,s,t,rfl,ha,hb,ok,h⟩:=h
 refine⟨rfl,?_⟩
 unfold dR
 dsimp only[Sw.wSs,Sw.wS,Sw.wE,Sw.wT,Sw.wEs,Sw.wTs,Sw.wI,Sw.wP,Sw.keyOf,Sw.vars,L2.start,Sw.ax,Sw.aw,Sw.ah,Sw.ag,Sw.ao,Sw.ak,Sw.az,Sw.ay,Sw.au,Sw.aq,Sw.aj,Sw.ai,Sw.av,Sw.ab,Nat.reduceAdd,Nat.reduceSub]
 refine⟨hc,hc,ha.i2 ⟨kz ok.m,fun D hD mD=>?_⟩⟩
 have x1:∀l,Ext Γ.mod H (upd H D (.lst l)):=fun l=>Ext.upd hD mD
 refine CB (fun v=>match v with | .str x=>.bl (!(Builtin.Str.occurrences t.m x 0 t.m.length 1).isEmpty) | v=>v) _ [] ?_ (fun _=>trivial) ?_ ?_
 ·intro v hv l Q1 q
  obtain⟨c,hc,rfl⟩:=List.mem_map.mp hv
  exact(hb.ext (x1 l)).i2 q
 ·simpa[cq]using kz ok.m
 ·have e:List.map (fun v=>match v with | V.str x=>V.bl (!(Builtin.Str.occurrences t.m x 0 t.m.length 1).isEmpty) | v=>v) (List.map (fun c=>V.str ⟨#[c]⟩) (cps s.m))=((cps s.m).map fun c=>decide (c ∈ cps t.m)).map V.bl:=by
   rw[List.map_map,List.map_map]
   refine List.map_congr_left fun c _=>?_
   show V.bl (!(Builtin.Str.occurrences t.m ⟨#[c]⟩ 0 t.m.length 1).isEmpty)=V.bl (decide (c ∈ cps t.m))
   rw[PySem.StrLaws.found_one]
  rw[List.nil_append,e]
  refine yi (br (by intro _ _ z;cases z)) ?_
  rw[Sw.ff]
  have e2:(!(((cps s.m).map fun c=>decide (c ∈ cps t.m)).any id))=BZ s.m t.m:=by
   unfold BZ
   rw[List.any_map]
   rfl
  rw[e2]
  exact h _ (x1 _)
end Rl
namespace Rl
open PySem PySem.Spec PyProof.Rows L2 Sw Wd Tx
variable {M:Mo}
noncomputable def Sub (H H':Hp):Prop:=∀b o,H b=some o->(∀ ps,o ≠ .tbl ps)->H' b=some o
theorem Sub.trans {H H1 H2:Hp} (a:Sub H H1) (b:Sub H1 H2):Sub H H2:=fun c o h n=>b c o (a c o h n) n
theorem Sub.of {H H':Hp} (x:bp M H H'):Sub H H':=x.same
theorem Sub.mR {H H':Hp} (x:Ext M H H'):Sub H H':=fun b o h _=>x.same b o h
theorem Sub.era {H H':Hp} (s:Sub H H') (c:Addr):Sub (era H c) (era H' c):=fun b o h n=>by
 obtain⟨ne,h⟩:=dJ h
 rw[aI ne]
 exact s b o h n
theorem Sub.C5 {H H':Hp} (s:Sub H H') {c:Addr} (hc:H c=none):Sub H (Sw.era H' c):=fun b o h n=>by
 rw[aI (aD h hc)]
 exact s b o h n
noncomputable def qy (H H':Hp):Hp:=fun b=>match H b with | some (.lst _)=>none | _=>H' b
theorem lh {H H':Hp} {b:Addr} {o:HO} (h:qy H H' b=some o):(∀ xs,H b ≠ some (.lst xs))/\H' b=some o:=by
 unfold qy at h
 split at h
 ·cases h
 ·rename_i q
  exact⟨q,h⟩
theorem jz {H H':Hp} {b:Addr} {o:HO} (h1:∀xs,H b ≠ some (.lst xs)) (h2:H' b=some o):qy H H' b=some o:=by
 unfold qy
 split
 ·rename_i xs q
  exact absurd q (h1 xs)
 ·exact h2
theorem zF {H H':Hp}:Sub (qy H H') H':=fun b o h _=>(lh h).2
structure Fx where
 gr:Addr
 ma:Addr
 sz:Stmt
 op:Stmt
 al:Stmt
 an:Stmt
inductive Pl where | gr | mk | sz (n:Int)
noncomputable def Pl.bb:Pl->Sd->Sd->Bool
 | .gr,s,t=>ER s.g t.g
 | .mk,s,t=>BZ s.m t.m
 | .sz n,s,t=>decide (h_ s t<=n)
@[reducible] noncomputable def Dd (F:Fx):=fL F.sz "fits" "bound" "sizes_rule.<locals>.fits"
@[reducible] noncomputable def Dy (F:Fx):=fL F.op "fits" "rule" "opposite.<locals>.fits"
@[reducible] noncomputable def EB (F:Fx):=fL F.al "fits" "rules" "all_of.<locals>.fits"
@[reducible] noncomputable def EA (F:Fx):=fL F.an "fits" "rules" "any_of.<locals>.fits"
noncomputable def AL (F:Fx) (H:Hp) (a:Addr):Pl->Prop
 | .gr=>a=F.gr
 | .mk=>a=F.ma
 | .sz n=>∃c,Dd F H a c (.int n)
structure Tm where
 no:Nat
 p:Pl
noncomputable def Tm.bb (t:Tm) (s u:Sd):Bool:=if t.no % 2=0 then t.p.bb s u else !t.p.bb s u
noncomputable def Ah (F:Fx) (H:Hp) (a:Addr) (t:Tm):Prop:=(t.no % 2=0/\AL F H a t.p)\/(t.no % 2 ≠ 0/\∃c b,Dy F H a c (.ref b)/\AL F (era H c) b t.p)
noncomputable def Ak (F:Fx) (H:Hp) (a:Addr) (ts:List Tm):Prop:=∃c l rs,EB F H a c (.ref l)/\era H c l=some (.lst (rs.map V.ref))/\ts.length<=400/\Paired (fun r t=>Ah F (era H c) r t) rs ts
noncomputable def AK (F:Fx) (H:Hp) (a:Addr) (as:List (List Tm)):Prop:=∃c l rs,EA F H a c (.ref l)/\era H c l=some (.lst (rs.map V.ref))/\as.length<=400/\Paired (fun r ts=>Ak F (era H c) r ts) rs as
theorem jh {st:Stmt} {nm x q:Str} {H H':Hp} {f c:Addr} {v:V} (s:Sub H H') (h:fL st nm x q H f c v):fL st nm x q H' f c v:=by
 obtain⟨⟨c',d,p,k,h1,h2⟩,h3⟩:=h
 exact⟨⟨c',d,p,k,s _ _ h1 (fun ps z=>nomatch z),s _ _ h2 (fun ps z=>nomatch z)⟩,s _ _ h3 (fun ps z=>nomatch z)⟩
theorem AL.mono {F:Fx} {H H':Hp} {a:Addr} {p:Pl} (s:Sub H H') (h:AL F H a p):AL F H' a p:=by
 cases p with
 | gr=>exact h
 | mk=>exact h
 | sz n=>obtain⟨c,h⟩:=h;exact⟨c,jh s h⟩
theorem Ah.mono {F:Fx} {H H':Hp} {a:Addr} {t:Tm} (s:Sub H H') (h:Ah F H a t):Ah F H' a t:=by
 rcases h with ⟨e,h⟩ | ⟨e,c,b,h1,h2⟩
 ·exact .inl ⟨e,h.mono s⟩
 ·exact .inr ⟨e,c,b,jh s h1,h2.mono (s.era c)⟩
theorem Ak.mono {F:Fx} {H H':Hp} {a:Addr} {ts:List Tm} (s:Sub H H') (h:Ak F H a ts):Ak F H' a ts:=by
 obtain⟨c,l,rs,h1,h2,hl,h3⟩:=h
 exact⟨c,l,rs,jh s h1,s.era c _ _ h2 (fun ps z=>nomatch z),hl,L2.Paired.fN h3 fun r t z=>z.mono (s.era c)⟩
theorem AK.mono {F:Fx} {H H':Hp} {a:Addr} {as:List (List Tm)} (s:Sub H H') (h:AK F H a as):AK F H' a as:=by
 obtain⟨c,l,rs,h1,h2,hl,h3⟩:=h
 exact⟨c,l,rs,jh s h1,s.era c _ _ h2 (fun ps z=>nomatch z),hl,L2.Paired.fN h3 fun r t z=>z.mono (s.era c)⟩
noncomputable def mL {α:Type} (M:Mo) (R:Hp->Addr->α->Prop) (bb:α->Sd->Sd->Bool):Addr->Sp:=fun f vs H Q _=>∃x a b s t,vs=[.ref a,.ref b]/\R H f x/\cz M H/\bX M H a s/\bX M H b t/\s.Ok/\t.Ok/\∀H',Ext M H H'->Q (.bl (bb x s t)) H'
@[reducible] noncomputable def A0 (M:Mo) (F:Fx):=mL M (AL F) Pl.bb
@[reducible] noncomputable def spT (M:Mo) (F:Fx):=mL M (Ah F) Tm.bb
noncomputable def d_ (ts:List Tm) (s t:Sd):Bool:=ts.all fun x=>x.bb s t
noncomputable def cW (as:List (List Tm)) (s t:Sd):Bool:=as.any fun x=>d_ x s t
@[reducible] noncomputable def EN (M:Mo) (F:Fx):=mL M (Ak F) d_
@[reducible] noncomputable def EM (M:Mo) (F:Fx):=mL M (AK F) cW
theorem n4 {H:Hp} {c:Addr} (off:cz M H):cz M (era H c):=fun a m=>bJ (off a m)
theorem kC {H:Hp} {c:Addr} {o:HO} (off:cz M H) (hc:H c=some o):M c=none:=by
 cases q:M c with
 | none=>rfl
 | some u=>
  have:=off c (by rw[q];exact fun z=>nomatch z)
  rw[hc]at this;cases this
theorem g9 {H H':Hp} (off:cz M H) (x:Ext M H H'):cz M H':=fun a m=>x.off a m (off a m)
theorem pG {Γ:bf} {F:Fx} (hc:Γ.cm=true) (hM:Γ.mod=M) (hg:Γ.has "gap" =true/\Γ.fn "gap" =oZ M) {f:Addr} {n:Int} {vs:List V} {H:Hp} {Q:VK} {E:XK} {a b:Addr} {s t:Sd} {c:Addr} (hf:Dd F H f c (.int n)) (off:cz M H)
  (ev:vs=[.ref a,.ref b]) (ha:bX M H a s) (hb:bX M H b t) (h:∀H',Ext M H H'->Q (.bl ((Pl.sz n).bb s t)) H'):o_ Γ dY ["giver","taker"] F.sz "fits" "bound" "sizes_rule.<locals>.fits" dQ f vs H Q E:=by
 subst hM ev
 refine⟨rfl,c,.int n,hf,?_⟩
 unfold dQ
 dsimp only[Sw.wSs,Sw.wS,Sw.wE,Sw.wT,Sw.wEs,Sw.wTs,Sw.wI,Sw.wP,Sw.keyOf,Sw.vars,L2.start,Sw.ax,Sw.aw,Sw.ah,Sw.ag,Sw.ao,Sw.ak,Sw.az,Sw.ay,Sw.au,Sw.aq,Sw.aj,Sw.ai,Sw.av,Sw.ab,Nat.reduceAdd,Nat.reduceSub]
 rw[hg.2]
 refine⟨⟨hc,hg.1⟩,a,b,s,t,rfl,ha.era hf.dw,hb.era hf.dw,?_⟩
 dsimp only
 rw[Sw.tP]
 exact h _ (kF hf.dw (kC off hf.dw) Ext.refl)
theorem uv {Γ:bf} {F:Fx} (hc:Γ.cm=true) (hM:Γ.mod=M) (hv:Γ.vc=A0 M F) {f:Addr} {vs:List V} {H:Hp} {Q:VK} {E:XK} {a b r:Addr} {s t:Sd} {c:Addr} {p:Pl} (hf:Dy F H f c (.ref r)) (hr:AL F (era H c) r p) (off:cz M H)
  (ev:vs=[.ref a,.ref b]) (ha:bX M H a s) (hb:bX M H b t) (os:s.Ok) (ot:t.Ok) (h:∀H',Ext M H H'->Q (.bl (!p.bb s t)) H'):o_ Γ eU ["giver","taker"] F.op "fits" "rule" "opposite.<locals>.fits" eR f vs H Q E:=by
 subst hM ev
 refine⟨rfl,c,.ref r,hf,?_⟩
 unfold eR
 dsimp only[Sw.wSs,Sw.wS,Sw.wE,Sw.wT,Sw.wEs,Sw.wTs,Sw.wI,Sw.wP,Sw.keyOf,Sw.vars,L2.start,Sw.ax,Sw.aw,Sw.ah,Sw.ag,Sw.ao,Sw.ak,Sw.az,Sw.ay,Sw.au,Sw.aq,Sw.aj,Sw.ai,Sw.av,Sw.ab,Nat.reduceAdd,Nat.reduceSub]
 rw[hv]
 refine⟨hc,p,a,b,s,t,rfl,hr,n4 off,ha.era hf.dw,hb.era hf.dw,os,ot,fun H' x=>?_⟩
 dsimp only
 rw[Sw.ff]
 exact h _ (kF hf.dw (kC off hf.dw) x)
theorem turns {α:Type} {R:Hp->Addr->α->Prop} {bb:α->Sd->Sd->Bool} (mono:∀ {H H':Hp} {a:Addr} {x:α},Sub H H'->R H a x->R H' a x) {Γ:bf} (hc:Γ.cm=true) (hv:Γ.vc=mL Γ.mod R bb) {H0:Hp} {D l a b:Addr} {s t:Sd} {rs:List Addr} {xs:List α} {k:Hp->Prop}
  (off:cz Γ.mod H0) (hD:H0 D=none) (mD:Γ.mod D=none) (hl:rd Γ.mod H0 l=some (.lst (rs.map V.ref))) (hr:Paired (R H0) rs xs) (hn:xs.length<=400) (ha:bX Γ.mod H0 a s) (hb:bX Γ.mod H0 b t) (os:s.Ok) (ot:t.Ok)
  (fin:∀H',Ext Γ.mod H0 H'->H' D=some (.lst ((xs.map fun x=>bb x s t).map V.bl))->k H'):
  cV (wE Γ (.callv (.var 0) (.cons (.var 1) (.cons (.var 2) .nil))) X0) (fun _ H Q=>Q true H) [some (.ref a),some (.ref b)] D (fun H'=>rd Γ.mod H' l=some (.lst (rs.map V.ref))) (rs.map V.ref) [] (upd H0 D (.lst [])) k:=by
 have len:rs.length=xs.length:=Paired.length hr
 refine gw (fun n acc H=>H D=some (.lst acc)/\acc=((xs.take n).map fun x=>bb x s t).map V.bl/\n<=xs.length/\Ext Γ.mod H0 H) (fun n acc H p=>p.2.2.2.rd hl) (fun n acc H p=>⟨p.1,by rw[p.2.1];simp;exact Nat.min_eq_left p.2.2.1⟩) (by rw[List.length_map,len];exact Nat.le_trans hn (by decide)) ?_ ?_ ⟨aA,rfl,Nat.zero_le _,Ext.upd hD mD⟩
 ·intro n v acc H Q hv' p hQ
  obtain⟨p1,p2,p3,p4⟩:=p
  have hlt:n < rs.length:=by
   have:=(List.getElem?_eq_some_iff.mp hv').1
   simpa using this
  obtain⟨r,er⟩:∃r,rs[n]?=some r:=⟨_,List.getElem?_eq_getElem hlt⟩
  have ev:v=.ref r:=by
   rw[List.getElem?_map,er]at hv'
   exact(Option.some.inj hv').symm
  subst ev
  obtain⟨x,ex,hx⟩:=paired_get hr er
  show Γ.cm=true/\_
  refine⟨hc,?_⟩
  show Γ.vc r [.ref a,.ref b] H Q _
  rw[hv]
  refine⟨x,a,b,s,t,rfl,mono (Sub.mR p4) hx,g9 off p4,ha.ext p4,hb.ext p4,os,ot,fun H' x'=>hQ _ H' (x'.same _ _ p1) ⟨aA,?_,?_,?_⟩⟩
  ·rw[p2,List.take_succ,ex]
   simp
  ·have:=(List.getElem?_eq_some_iff.mp ex).1
   omega
  ·refine⟨fun b' o e=>?_,fun b' m e=>?_⟩
   ·rw[ae (aD e hD)]
    exact x'.same _ _ (p4.same _ _ e)
   ·rw[ae (fun z=>m (by rw[z];exact mD))]
    exact x'.off _ m (p4.off _ m e)
 ·intro acc H p
  obtain⟨p1,p2,p3,p4⟩:=p
  rw[List.length_map,len,List.take_of_length_le (Nat.le_refl _)]at p2
  exact fin H p4 (by rw[p1,p2])
where
 paired_get {α β:Type} {G:α->β->Prop}:∀ {l₁:List α} {l₂:List β} {n:Nat} {a:α},Paired G l₁ l₂->l₁[n]?=some a->∃b,l₂[n]?=some b/\G a b
  | _,_,_,_,.nil,e=>by simp at e
  | _,_,0,_,.cons r _,e=>by simp at e;subst e;exact⟨_,rfl,r⟩
  | _,_,n + 1,_,.cons _ t,e=>by
   obtain⟨b,h1,h2⟩:=paired_get (n:=n) t (by simpa using e)
   exact⟨b,by simpa using h1,h2⟩
theorem ux {Γ:bf} {F:Fx} (hc:Γ.cm=true) (hM:Γ.mod=M) (hv:Γ.vc=spT M F) {f:Addr} {vs:List V} {H:Hp} {Q:VK} {E:XK} {a b l:Addr} {rs:List Addr} {ts:List Tm} {s t:Sd} {c:Addr} (hf:EB F H f c (.ref l)) (hl:era H c l=some (.lst (rs.map V.ref)))
  (hn:ts.length<=400) (hr:Paired (fun r t=>Ah F (era H c) r t) rs ts) (off:cz M H) (ev:vs=[.ref a,.ref b]) (ha:bX M H a s) (hb:bX M H b t) (os:s.Ok) (ot:t.Ok) (h:∀H',Ext M H H'->Q (.bl (d_ ts s t)) H'):
  o_ Γ gQ ["giver","taker"] F.al "fits" "rules" "all_of.<locals>.fits" gE f vs H Q E:=by
 subst hM ev
 refine⟨rfl,c,.ref l,hf,?_⟩
 unfold gE
 dsimp only[Sw.wSs,Sw.wS,Sw.wE,Sw.wT,Sw.wEs,Sw.wTs,Sw.wI,Sw.wP,Sw.keyOf,Sw.vars,L2.start,Sw.ax,Sw.aw,Sw.ah,Sw.ag,Sw.ao,Sw.ak,Sw.az,Sw.ay,Sw.au,Sw.aq,Sw.aj,Sw.ai,Sw.av,Sw.ab,Nat.reduceAdd,Nat.reduceSub]
 have hl':rd Γ.mod (era H c) l=some (.lst (rs.map V.ref)):=by unfold rd;rw[hl]
 refine⟨hc,hc,?_⟩
 show bD Γ.mod (.ref l) (era H c) _
 unfold bD
 dsimp only
 rw[hl']
 dsimp only
 intro D hD mD
 refine turns (R:=Ah F) (bb:=Tm.bb) (fun s h=>h.mono s) hc hv (n4 off) hD mD hl' hr hn (ha.era hf.dw) (hb.era hf.dw) os ot fun H' x hD'=>?_
 refine CM (by unfold rd;rw[hD']) ?_
 have e:((ts.map fun x=>x.bb s t).all id)=d_ ts s t:=by
  unfold d_
  rw[List.all_map]
  rfl
 rw[e]
 exact h _ (kF hf.dw (kC off hf.dw) x)
theorem uw {Γ:bf} {F:Fx} (hc:Γ.cm=true) (hM:Γ.mod=M) (hv:Γ.vc=EN M F) {f:Addr} {vs:List V} {H:Hp} {Q:VK} {E:XK} {a b l:Addr} {rs:List Addr} {ts:List (List Tm)} {s t:Sd} {c:Addr} (hf:EA F H f c (.ref l)) (hl:era H c l=some (.lst (rs.map V.ref)))
  (hn:ts.length<=400) (hr:Paired (fun r t=>Ak F (era H c) r t) rs ts) (off:cz M H) (ev:vs=[.ref a,.ref b]) (ha:bX M H a s) (hb:bX M H b t) (os:s.Ok) (ot:t.Ok) (h:∀H',Ext M H H'->Q (.bl (cW ts s t)) H'):
  o_ Γ gP ["giver","taker"] F.an "fits" "rules" "any_of.<locals>.fits" gD f vs H Q E:=by
 subst hM ev
 refine⟨rfl,c,.ref l,hf,?_⟩
 unfold gD
 dsimp only[Sw.wSs,Sw.wS,Sw.wE,Sw.wT,Sw.wEs,Sw.wTs,Sw.wI,Sw.wP,Sw.keyOf,Sw.vars,L2.start,Sw.ax,Sw.aw,Sw.ah,Sw.ag,Sw.ao,Sw.ak,Sw.az,Sw.ay,Sw.au,Sw.aq,Sw.aj,Sw.ai,Sw.av,Sw.ab,Nat.reduceAdd,Nat.reduceSub]
 have hl':rd Γ.mod (era H c) l=some (.lst (rs.map V.ref)):=by unfold rd;rw[hl]
 refine⟨hc,hc,?_⟩
 show bD Γ.mod (.ref l) (era H c) _
 unfold bD
 dsimp only
 rw[hl']
 dsimp only
 intro D hD mD
 refine turns (R:=Ak F) (bb:=d_) (fun s h=>h.mono s) hc hv (n4 off) hD mD hl' hr hn (ha.era hf.dw) (hb.era hf.dw) os ot fun H' x hD'=>?_
 refine yi (by unfold rd;rw[hD']) ?_
 have e:((ts.map fun x=>d_ x s t).any id)=cW ts s t:=by
  unfold cW
  rw[List.any_map]
  rfl
 rw[e]
 exact h _ (kF hf.dw (kC off hf.dw) x)
end Rl
namespace Wd
open PySem PySem.Spec PyProof.Rows L2 Sw
variable {M:Mo}
end Wd
namespace Wd
open PySem PySem.Spec PyProof.Rows L2 Sw
variable {M:Mo}
theorem qW {n a b:Int} (h0:0<=n) (h1:n < 10 ^ 10) (ha:a<=n) (hb:n<=b):mS (Str.ofString (toString n)) a b=some n:=by
 unfold mS
 rw[if_pos (dH n h0 (by omega)).1,PySem.W.KIN.num_reads h0 h1]
 exact if_pos ⟨ha,hb⟩
end Wd
namespace Wd
open PySem PySem.Spec PyProof.Rows L2 Sw
variable {M:Mo}
end Wd
namespace Wd
open PySem PySem.Spec PyProof.Rows L2 Sw
variable {M:Mo}
theorem oo {H:Hp} {p:Addr} {sep:Str} {ts:List Str} {Q:VK} (hp:rd M H p=some (.lst (ts.map V.str))) (ok:JoinOk sep ts=true) (q:Q (.str (Txt.join sep ts)) H):f_ M .join (.str sep) [.ref p] H Q:=by
 rw[B2,hp]
 dsimp only
 rw[nz]
 exact⟨ok,q⟩
end Wd
namespace Rl
open PySem PySem.Spec PyProof.Rows L2 Sw Wd Tx
variable {M:Mo}
@[reducible] noncomputable def TabsOk (Ts:List Tb) (H:Hp):Prop:=∀t ∈ Ts,TabAt H t
theorem _root_.Sw.TabAt.ext {H H':Hp} {t:Tb} (h:TabAt H t) (x:Ext M H H'):TabAt H' t:=by
 rcases h with q | ⟨c,q1,q2⟩
 ·exact .inl (x.same _ _ q)
 ·exact .inr ⟨c,x.same _ _ q1,x.same _ _ q2⟩
theorem _root_.Sw.TabAt.upd {H:Hp} {t:Tb} {D:Addr} {l:List V} {o:HO} (h:TabAt H t) (hD:H D=some (.lst l)):TabAt (L2.upd H D o) t:=by
 have ne:∀b u,H b=some u->(∀ l,u ≠ .lst l)->L2.upd H D o b=some u:=fun b u e n=>by
  rw[ae (fun z=>by rw[z,hD]at e;exact n l (Option.some.inj e).symm)]
  exact e
 rcases h with q | ⟨c,q1,q2⟩
 ·exact .inl (ne _ _ q (fun l z=>nomatch z))
 ·exact .inr ⟨c,ne _ _ q1 (fun l z=>nomatch z),ne _ _ q2 (fun l z=>nomatch z)⟩
noncomputable def Makes {α:Type} (M:Mo) (Ts:List Tb) (R:Hp->Addr->α->Prop) (x:α) (H:Hp) (Q:VK):Prop:=TabsOk Ts H/\∀H' a,bp M H H'->TabsOk Ts H'->R (qy H H') a x->Q (.ref a) H'
theorem oB {st:Stmt} {nm x q:Str} {H H':Hp} {f c:Addr} {v:V} (s:Sub H H') (h:fL st nm x q H' f c v):fL st nm x q (qy H H') f c v:=by
 have k:∀b o,H' b=some o->(∀ l,o ≠ .lst l)->qy H H' b=some o:=fun b o e n=>jz (fun xs z=>n xs (Option.some.inj (e.symm.trans (s b _ z (fun ps y=>nomatch y))))) e
 obtain⟨⟨c',d,p,k',h1,h2⟩,h3⟩:=h
 exact⟨⟨c',d,p,k',k _ _ h1 (fun l z=>nomatch z),k _ _ h2 (fun l z=>nomatch z)⟩,k _ _ h3 (fun l z=>nomatch z)⟩
noncomputable def vY (q:Nat):Pl:=if q=0 then .gr else if q=1 then .mk else .sz ((q - 2:Nat):Int)
noncomputable def yK (M:Mo) (Ts:List Tb) (F:Fx):Sp:=fun vs H Q _=>∃q,q < 101/\vs=[.str (a_ q)]/\Makes M Ts (AL F) (vY q) H Q
structure GQ (Γ:bf) (M:Mo) (Ts:List Tb) (F:Fx):Prop where
 cm:Γ.cm=true
 mod:Γ.mod=M
 cg:Γ.con "fits_by_groups" =some (.ref F.gr)
 ck:Γ.con "fits_by_marks" =some (.ref F.ma)
 cs:Γ.con "SIZES" =some (.str "sizes ")
 mg:Γ.con "MOST_GAP" =some (.int 98)
 nw:Γ.has "number_within" =true/\Γ.fn "number_within" =iW M
 sz:Γ.has "sizes_rule" =true/\Γ.fn "sizes_rule" =nM M Ts F.sz "fits" "bound" "sizes_rule.<locals>.fits"
theorem pF (q:Nat):q=0\/q=1\/∃n,q=n + 2:=by
 rcases q with _ | _ | n
 ·exact .inl rfl
 ·exact .inr (.inl rfl)
 ·exact .inr (.inr ⟨n,rfl⟩)
theorem ur {Γ:bf} {Ts:List Tb} {F:Fx} (g:GQ Γ M Ts F) (vs:List V) (H:Hp) (Q:VK) (E:XK) (h:yK M Ts F vs H Q E):cG Γ fE 1 fo vs H Q E:=by
 obtain⟨q,hq,rfl,hT,h⟩:=h
 refine⟨rfl,?_⟩
 obtain rfl:=g.mod
 unfold fo
 refine seq ?_
 dsimp only[Sw.wS,Sw.wE,Sw.wT,Sw.wEs,Sw.wTs,Sw.wI,Sw.wP,Sw.keyOf,Sw.vars,L2.start,Sw.ax,Sw.aw,Sw.ah,Sw.ag,Sw.ao,Sw.ak,Sw.az,Sw.ay,Sw.au,Sw.aq,Sw.aj,Sw.ai,Sw.av,Sw.ab,Nat.reduceAdd,Nat.reduceSub]
 rw[Sw.jX]
 refine⟨_,rfl,?_⟩
 rcases pF q with rfl | rfl | ⟨n,rfl⟩
 ·rw[if_pos (by decide +kernel)]
  dsimp only[Sw.wSs,Sw.wS,Sw.wE,Sw.wT,Sw.wEs,Sw.wTs,Sw.wI,Sw.wP,Sw.keyOf,Sw.vars,L2.start,Sw.ax,Sw.aw,Sw.ah,Sw.ag,Sw.ao,Sw.ak,Sw.az,Sw.ay,Sw.au,Sw.aq,Sw.aj,Sw.ai,Sw.av,Sw.ab,Nat.reduceAdd,Nat.reduceSub]
  rw[g.cg]
  exact h H F.gr bp.refl hT rfl
 ·rw[if_neg (by decide +kernel)]
  dsimp only[Sw.wSs,Sw.wS,Sw.wE,Sw.wT,Sw.wEs,Sw.wTs,Sw.wI,Sw.wP,Sw.keyOf,Sw.vars,L2.start,Sw.ax,Sw.aw,Sw.ah,Sw.ag,Sw.ao,Sw.ak,Sw.az,Sw.ay,Sw.au,Sw.aq,Sw.aj,Sw.ai,Sw.av,Sw.ab,Nat.reduceAdd,Nat.reduceSub]
  rw[Sw.jX]
  refine⟨_,rfl,?_⟩
  rw[if_pos (by decide +kernel),g.ck]
  exact h H F.ma bp.refl hT rfl
 ·have f1:=yD n
  have f2:=yC n
  have f3:=tW n
  have f4:=vC n
  rw[if_neg (by simpa using f1)]
  dsimp only[Sw.wSs,Sw.wS,Sw.wE,Sw.wT,Sw.wEs,Sw.wTs,Sw.wI,Sw.wP,Sw.keyOf,Sw.vars,L2.start,Sw.ax,Sw.aw,Sw.ah,Sw.ag,Sw.ao,Sw.ak,Sw.az,Sw.ay,Sw.au,Sw.aq,Sw.aj,Sw.ai,Sw.av,Sw.ab,Nat.reduceAdd,Nat.reduceSub]
  rw[Sw.jX]
  refine⟨_,rfl,?_⟩
  rw[if_neg (by simpa using f2),g.cs]
  refine⟨rfl,?_⟩
  dsimp only
  rw[Sw.wZ,Sw.ff,f3,if_pos rfl]
  obtain⟨nh,nf⟩:=g.nw
  refine⟨⟨g.cm,g.sz.1⟩,⟨g.cm,nh⟩,⟨g.cm,?_⟩⟩
  rw[Sw.lQ]
  refine⟨by decide +kernel,?_⟩
  dsimp only
  rw[Sw.r_]
  have hl:(a_ (n + 2)).length<=40:=by
   have:=rV (t:=0) (by omega) hq
   rwa[rU]at this
  refine⟨Nat.le_trans hl (by decide),?_⟩
  rw[show(((Str.ofString "sizes ").length:Nat):Int)=6 from by decide +kernel,f4,g.mg,nf]
  dsimp only
  refine⟨_,_,_,_,rfl,?_,qW (n:=(n:Int)) (a:=0) (b:=98) (by omega) (by omega) (by omega) (by omega),?_⟩
  ·exact Nat.le_trans (dH (n:Int) (by omega) (by omega)).2 (by decide)
  ·intro H1 x1
   rw[g.sz.2]
   refine⟨_,rfl,fun t ht=>(hT t ht).ext x1,fun H2 f c x2 t2 hc mc hf mf clo=>?_⟩
   refine h H2 f ((bp.of x1).trans x2) t2 ⟨c,?_⟩
   have e:((n + 2 - 2:Nat):Int)=(n:Int):=by simp
   rw[e]
   exact oB (Sub.of ((bp.of x1).trans x2)) clo
noncomputable def nE (x:Nat × Nat):Tm:=⟨x.1,vY x.2⟩
noncomputable def CY (x:Nat × Nat):Prop:=x.1 < 6/\x.2 < 101
@[reducible] noncomputable def jq (x:Nat × Nat):Str:=tx x.1 x.2
noncomputable def yI (M:Mo) (Ts:List Tb) (F:Fx):Sp:=fun vs H Q _=>∃x:Nat × Nat,CY x/\vs=[.str (jq x)]/\Makes M Ts (fun H a x=>Ah F H a (nE x)) x H Q
structure GP (Γ:bf) (M:Mo) (Ts:List Tb) (F:Fx):Prop where
 cm:Γ.cm=true
 mod:Γ.mod=M
 no:Γ.con "NO" =some (.str "no ")
 mn:Γ.con "MOST_NOES" =some (.int 5)
 pr:Γ.has "plain_rule" =true/\Γ.fn "plain_rule" =yK M Ts F
 op:Γ.has "opposite" =true/\Γ.fn "opposite" =nM M Ts F.op "fits" "rule" "opposite.<locals>.fits"
theorem zx {Γ:bf} {Ts:List Tb} {F:Fx} (g:GP Γ M Ts F) (vs:List V) (H:Hp) (Q:VK) (E:XK) (h:yI M Ts F vs H Q E):cG Γ gN 1 gB vs H Q E:=by
 obtain⟨⟨t,q⟩,⟨ht,hq⟩,rfl,hT,h⟩:=h
 have ht:t < 6:=ht
 have hq:q < 101:=hq
 refine⟨rfl,?_⟩
 obtain rfl:=g.mod
 unfold gB
 refine seq ?_
 dsimp only[Sw.wS,Sw.wE,Sw.wT,Sw.wEs,Sw.wTs,Sw.wI,Sw.wP,Sw.keyOf,Sw.vars,L2.start,Sw.ax,Sw.aw,Sw.ah,Sw.ag,Sw.ao,Sw.ak,Sw.az,Sw.ay,Sw.au,Sw.aq,Sw.aj,Sw.ai,Sw.av,Sw.ab,Nat.reduceAdd,Nat.reduceSub]
 refine seq ?_
 dsimp only[Sw.wS,Sw.wE,Sw.wT,Sw.wEs,Sw.wTs,Sw.wI,Sw.wP,Sw.keyOf,Sw.vars,L2.start,Sw.ax,Sw.aw,Sw.ah,Sw.ag,Sw.ao,Sw.ak,Sw.az,Sw.ay,Sw.au,Sw.aq,Sw.aj,Sw.ai,Sw.av,Sw.ab,Nat.reduceAdd,Nat.reduceSub]
 refine seq ?_
 show wS (.whl _ _) Γ _ _ _ _
 unfold wS
 refine⟨fun m σ H'=>∃j,j<=t/\m=t - j/\σ=[some (.str (tx t q)),some (.int j),some (.str (tx (t - j) q)),none]/\H'=H,⟨t,0,Nat.zero_le _,rfl,rfl,rfl⟩,?_⟩
 rintro m σ H' ⟨j,hj,rfl,rfl,rfl⟩
 dsimp only[Sw.wS,Sw.wE,Sw.wT,Sw.wEs,Sw.wTs,Sw.wI,Sw.wP,Sw.keyOf,Sw.vars,L2.start,Sw.ax,Sw.aw,Sw.ah,Sw.ag,Sw.ao,Sw.ak,Sw.az,Sw.ay,Sw.au,Sw.aq,Sw.aj,Sw.ai,Sw.av,Sw.ab,Nat.reduceAdd,Nat.reduceSub]
 rw[g.mn]
 dsimp only
 rw[Sw.v_lt]
 refine⟨_,rfl,?_⟩
 have fin:j=t->wSs (.cons (.asg 3 (.call "plain_rule" (.cons (.var 2) .nil))) (.cons (.ret (.ite (.cmp .Eq (.bin .Mod (.var 1) (.con (.int 2))) (.con (.int 0))) (.var 3) (.call "opposite" (.cons (.var 3) .nil)))) .nil)) Γ (fun C d _ H'=>E C d H') {nx:=fun _ H'=>Q .non H',rt:=Q}
   [some (.str (tx t q)),some (.int j),some (.str (tx (t - j) q)),none] H':=by
  rintro rfl
  refine seq ?_
  dsimp only[Sw.wS,Sw.wE,Sw.wT,Sw.wEs,Sw.wTs,Sw.wI,Sw.wP,Sw.keyOf,Sw.vars,L2.start,Sw.ax,Sw.aw,Sw.ah,Sw.ag,Sw.ao,Sw.ak,Sw.az,Sw.ay,Sw.au,Sw.aq,Sw.aj,Sw.ai,Sw.av,Sw.ab,Nat.reduceAdd,Nat.reduceSub]
  rw[Nat.sub_self]
  rw[rU,g.pr.2]
  refine⟨⟨g.cm,g.pr.1⟩,q,hq,rfl,hT,fun H1 a x1 t1 r1=>?_⟩
  dsimp only[Sw.wSs,Sw.wS,Sw.wE,Sw.wT,Sw.wEs,Sw.wTs,Sw.wI,Sw.wP,Sw.keyOf,Sw.vars,L2.start,Sw.ax,Sw.aw,Sw.ah,Sw.ag,Sw.ao,Sw.ak,Sw.az,Sw.ay,Sw.au,Sw.aq,Sw.aj,Sw.ai,Sw.av,Sw.ab,Nat.reduceAdd,Nat.reduceSub]
  rw[Sw.v_mod]
  refine⟨by decide,?_⟩
  rw[Sw.iR]
  refine⟨_,rfl,?_⟩
  by_cases e:(j:Int) % 2=0
  ·rw[if_pos (by simpa using e)]
   exact h H1 a x1 t1 (.inl ⟨by show j % 2=0;omega,r1⟩)
  ·rw[if_neg (by simpa using e),g.op.2]
   refine⟨⟨g.cm,g.op.1⟩,_,rfl,t1,fun H2 f c x2 t2 hc mc hf mf clo=>?_⟩
   refine h H2 f (x1.trans x2) t2 (.inr ⟨by show j % 2 ≠ 0;omega,c,a,oB (Sub.of (x1.trans x2)) clo,?_⟩)
   refine r1.mono fun b o e' n=>?_
   obtain⟨n1,n2⟩:=lh e'
   rw[aI (aD n2 hc)]
   exact jz n1 (x2.same _ _ n2 n)
 by_cases h5:(j:Int) < 5
 ·rw[if_pos (by simpa using h5),g.no]
  refine⟨rfl,?_⟩
  dsimp only
  rw[Sw.wZ,Sw.ff]
  by_cases hjt:j < t
  ·obtain⟨r,hr⟩:∃r,t - j=r + 1:=⟨t - j - 1,by omega⟩
   rw[hr,tX,if_pos rfl]
   refine⟨fun σ' H2=>∃j',j'<=t/\j'=j + 1/\σ'=[some (.str (tx t q)),some (.int j'),some (.str (tx (t - j') q)),none]/\H2=H',fun σ' H2 ⟨j',h1,h2,h3,h4⟩=>⟨t - j',by omega,j',h1,rfl,h3,h4⟩,?_⟩
   refine seq ?_
   dsimp only[Sw.wS,Sw.wE,Sw.wT,Sw.wEs,Sw.wTs,Sw.wI,Sw.wP,Sw.keyOf,Sw.vars,L2.start,Sw.ax,Sw.aw,Sw.ah,Sw.ag,Sw.ao,Sw.ak,Sw.az,Sw.ay,Sw.au,Sw.aq,Sw.aj,Sw.ai,Sw.av,Sw.ab,Nat.reduceAdd,Nat.reduceSub]
   rw[Sw.v_add]
   refine seq ?_
   dsimp only[Sw.wS,Sw.wE,Sw.wT,Sw.wEs,Sw.wTs,Sw.wI,Sw.wP,Sw.keyOf,Sw.vars,L2.start,Sw.ax,Sw.aw,Sw.ah,Sw.ag,Sw.ao,Sw.ak,Sw.az,Sw.ay,Sw.au,Sw.aq,Sw.aj,Sw.ai,Sw.av,Sw.ab,Nat.reduceAdd,Nat.reduceSub]
   rw[g.no]
   refine⟨g.cm,?_⟩
   dsimp only
   rw[Sw.lQ]
   refine⟨by decide +kernel,?_⟩
   dsimp only
   rw[Sw.r_,show(((Str.ofString "no ").length:Nat):Int)=3 from by decide +kernel,vD]
   refine⟨Nat.le_trans (rV (by omega) hq) (by decide),?_⟩
   refine eI ⟨j + 1,by omega,rfl,?_,rfl⟩
   have e:t - (j + 1)=r:=by omega
   rw[e]
   rfl
  ·have e:j=t:=by omega
   have e0:t - j=0:=by omega
   rw[e0,wM hq,if_neg (by decide)]
   have:=fin e
   rw[e0]at this
   exact this
 ·rw[if_neg (by simpa using h5),if_neg (by decide)]
  exact fin (by omega)
end Rl
namespace Rl
open PySem PySem.Spec PyProof.Rows L2 Sw Wd Tx
variable {M:Mo}
theorem jG {H:Hp} {D:Addr} (mD:M D=none):bp M (era H D) H:=
 ⟨fun a o h _=>(dJ h).2,fun a m h=>by rw[aI (fun z=>m (by rw[z];exact mD))]at h;exact h,fun a h z=>h (bJ z)⟩
theorem jx {α β:Type} {G:α->β->Prop}:∀ {l₁:List α} {l₂:List β} {b:β},Paired G l₁ l₂->∀ {a:α},G a b->Paired G (l₁++[a]) (l₂++[b])
 | _,_,_,.nil,_,h=>.cons h .nil
 | _,_,_,.cons r t,_,h=>.cons r (jx t h)
theorem DH {α:Type} {R:Hp->Addr->α->Prop} (mono:∀ {H H':Hp} {a:Addr} {x:α},Sub H H'->R H a x->R H' a x) {Ts:List Tb} {te:TE} {fvs:L2.St} {st:Hp->Prop} {H Hs:Hp} {D:Addr} {xs:List α} {vsx:List V} (hlen:vsx.length=xs.length)
  (hte:∀ (n:Nat) (v:V) (x:α) (Hn:Hp) (Q:VK),vsx[n]?=some v->xs[n]?=some x->bp M Hs Hn->Makes M Ts R x Hn Q->te (some v::fvs) Hn Q) (hst:∀Hn,bp M Hs Hn->st Hn) (xt:bp M H Hs) (tabs:TabsOk Ts Hs) (hD:Hs D=none) (mD:M D=none)
  (hn:xs.length<=400) {k:Hp->Prop} (fin:∀Hf rs,Hf D=some (.lst (rs.map V.ref))->bp M H Hf->TabsOk Ts Hf->Paired (fun r x=>R (era (qy H Hf) D) r x) rs xs->k Hf):
  cV te (fun _ H Q=>Q true H) fvs D st vsx [] (upd Hs D (.lst [])) k:=by
 refine gw (fun n acc Hn=>∃rs:List Addr,acc=rs.map V.ref/\rs.length=n/\n<=xs.length/\Hn D=some (.lst acc)/\bp M Hs (era Hn D)/\TabsOk Ts Hn/\Paired (fun r x=>R (era (qy H Hn) D) r x) rs (xs.take n))
  (fun n acc Hn p=>?_) (fun n acc Hn p=>?_) (by rw[hlen];exact Nat.le_trans hn (by decide)) ?_ ?_ ⟨[],rfl,rfl,Nat.zero_le _,aA,⟨fun a o e _=>?_,fun a m e=>?_,fun a h z=>?_⟩,fun t ht=>?_,?_⟩
 ·obtain⟨rs,_,_,_,_,x,_⟩:=p
  exact hst Hn (x.trans (jG mD))
 ·obtain⟨rs,e,e2,_,d,_⟩:=p
  exact⟨d,by rw[e,List.length_map];exact e2⟩
 ·intro n v acc Hn Q hv p hQ
  obtain⟨rs,e1,e2,e3,e4,e5,e6,e7⟩:=p
  have hlt:n < xs.length:=by
   have:=(List.getElem?_eq_some_iff.mp hv).1
   rwa[hlen]at this
  obtain⟨x,ex⟩:∃x,xs[n]?=some x:=⟨_,List.getElem?_eq_getElem hlt⟩
  refine hte n v x Hn Q hv ex (e5.trans (jG mD)) ⟨e6,fun H' a x' t' r'=>hQ (.ref a) H' (x'.same _ _ e4 (fun ps z=>nomatch z)) ?_⟩
  have hD':H' D=some (.lst acc):=x'.same _ _ e4 (fun ps z=>nomatch z)
  refine⟨rs++[a],by rw[e1,List.map_append];rfl,by rw[List.length_append,e2];rfl,hlt,aA,⟨fun b o e n=>?_,fun b m e=>?_,fun b h z=>?_⟩,fun t ht=>(t' t ht).upd hD',?_⟩
  ·obtain⟨ne,e'⟩:=dJ (e5.same b o e n)
   rw[aI ne,ae ne]
   exact x'.same b o e' n
  ·have ne:b ≠ D:=fun z=>m (by rw[z];exact mD)
   have:=e5.off b m e
   rw[aI ne]at this ⊢
   rw[ae ne]
   exact x'.off b m this
  ·have:=e5.yt b h
   have ne:b ≠ D:=fun z=>this (by rw[z];exact dB)
   rw[aI ne]at this z
   rw[ae ne]at z
   exact x'.yt b this z
  ·have tk:xs.take (n + 1)=xs.take n++[x]:=by rw[List.take_succ,ex];rfl
   rw[tk]
   refine jx (L2.Paired.fN e7 fun r y z=>mono (fun b o e n=>?_) z) (mono (fun b o e n=>?_) r')
   ·obtain⟨ne,e⟩:=dJ e
    obtain⟨q1,q2⟩:=lh e
    rw[aI ne]
    exact jz q1 (by rw[ae ne];exact x'.same b o q2 n)
   ·obtain⟨q1,q2⟩:=lh e
    have ne:b ≠ D:=fun z=>q1 acc (by rw[z];exact e4)
    rw[aI ne]
    refine jz (fun ys z=>?_) (by rw[ae ne];exact q2)
    have:=e5.same b _ (xt.same b _ z (fun ps y=>nomatch y)) (fun ps y=>nomatch y)
    exact q1 ys (dJ this).2
 ·intro acc Hn p
  obtain⟨rs,e1,e2,e3,e4,e5,e6,e7⟩:=p
  rw[hlen,List.take_of_length_le (Nat.le_refl _)]at e7
  exact fin Hn rs (by rw[e4,e1]) (xt.trans (e5.trans (jG mD))) e6 e7
 ·rw[aI (aD e hD),ae (aD e hD)]
  exact e
 ·have ne:a ≠ D:=fun z=>m (by rw[z];exact mD)
  rw[aI ne,ae ne]
  exact e
 ·have ne:a ≠ D:=fun z=>h (by rw[z];exact hD)
  rw[aI ne,ae ne]at z
  exact h z
 ·rcases tabs t ht with q | ⟨c,q1,q2⟩
  ·exact .inl (by rw[ae (aD q hD)];exact q)
  ·exact .inr ⟨c,by rw[ae (aD q1 hD)];exact q1,by rw[ae (aD q2 hD)];exact q2⟩
 ·rw[List.take_zero]
  exact .nil
theorem made {α:Type} {R:Hp->Addr->α->Prop} (mono:∀ {H H':Hp} {a:Addr} {x:α},Sub H H'->R H a x->R H' a x) {Γ:bf} {fnm:Str} {Ts:List Tb} {txt:α->Str} {okx:α->Prop}
  (hf:Γ.fn fnm=fun vs H Q _=>∃x,okx x/\vs=[.str (txt x)]/\Makes Γ.mod Ts R x H Q) {H Hs:Hp} {l D:Addr} {xs:List α} (aW:∀x ∈ xs,okx x) (hl:Hs l=some (.lst ((xs.map txt).map V.str))) (xt:bp Γ.mod H Hs) (tabs:TabsOk Ts Hs) (hD:Hs D=none) (mD:Γ.mod D=none)
  (hn:xs.length<=400) {te:TE} {EE:XK} (hte:∀v Hn Q,Γ.fn fnm [v] Hn Q EE->te [some v] Hn Q) {k:Hp->Prop} (fin:∀Hf rs,Hf D=some (.lst (rs.map V.ref))->bp Γ.mod H Hf->TabsOk Ts Hf->Paired (fun r x=>R (era (qy H Hf) D) r x) rs xs->k Hf):
  cV te (fun _ H Q=>Q true H) [] D (fun H'=>rd Γ.mod H' l=some (.lst ((xs.map txt).map V.str))) ((xs.map txt).map V.str) [] (upd Hs D (.lst [])) k:=by
 refine DH (M:=Γ.mod) (R:=R) (Ts:=Ts) mono (by rw[List.length_map,List.length_map]) (fun n v x Hn Q hv ex xn mk=>?_) (fun Hn xn=>?_) xt tabs hD mD hn fin
 ·have ev:v=.str (txt x):=by
   rw[List.getElem?_map,List.getElem?_map,ex]at hv
   exact(Option.some.inj hv).symm
  subst ev
  refine hte _ _ _ ?_
  rw[hf]
  exact⟨x,aW x (List.mem_of_getElem? ex),rfl,mk⟩
 ·unfold rd
  rw[xn.same _ _ hl (fun ps z=>nomatch z)]
theorem closed {α:Type} {R:Hp->Addr->α->Prop} (mono:∀ {H H':Hp} {a:Addr} {x:α},Sub H H'->R H a x->R H' a x) {st:Stmt} {q:Str} {H Hf H4:Hp} {D f c:Addr} {rs:List Addr} {xs:List α} (hDH:H D=none) (hD:Hf D=some (.lst (rs.map V.ref))) (x1:bp M H Hf) (x2:bp M Hf H4)
  (hp:Paired (fun r x=>R (era (qy H Hf) D) r x) rs xs) (hc:Hf c=none) (clo:fL st "fits" "rules" q H4 f c (.ref D)):
  fL st "fits" "rules" q (qy H H4) f c (.ref D)/\era (qy H H4) c D=some (.lst (rs.map V.ref))/\Paired (fun r x=>R (era (qy H H4) c) r x) rs xs:=by
 refine⟨oB (Sub.of (x1.trans x2)) clo,?_,L2.Paired.fN hp fun r y z=>mono (fun b o e n=>?_) z⟩
 ·rw[aI (aD hD hc)]
  exact jz (fun xs z=>by rw[hDH]at z;cases z) (x2.same _ _ hD (fun ps z=>nomatch z))
 ·obtain⟨_,e⟩:=dJ e
  obtain⟨q1,q2⟩:=lh e
  rw[aI (aD q2 hc)]
  exact jz q1 (x2.same b o q2 n)
theorem none_of {H H':Hp} {D:Addr} (x:bp M H H') (h:H' D=none):H D=none:=by
 cases q:H D with
 | none=>rfl
 | some o=>exact absurd h (x.yt D (by rw[q];exact fun z=>nomatch z))
noncomputable def dE (ts:List (Nat × Nat)):Str:=Txt.join (Str.ofString " and ") (ts.map jq)
noncomputable def fX (as:List (List (Nat × Nat))):Str:=Txt.join (Str.ofString " or ") (as.map dE)
structure CQ (ts:List (Nat × Nat)):Prop where
 ne:ts ≠ []
 len:ts.length<=10
 all:∀x ∈ ts,CY x
structure EX (as:List (List (Nat × Nat))):Prop where
 ne:as ≠ []
 len:as.length<=10
 all:∀x ∈ as,CQ x
theorem oq (g:List Nat):∀ps:List Str,eC g (ps.map fun p=>p.cps.toList)=cU g ps
 | []=>rfl
 | [p]=>by simp[eC,cU,cps]
 | p::q::r=>by
  have ih:=oq g (q::r)
  rw[List.map_cons]at ih
  show cps p++g++eC g (List.map (fun p=>p.cps.toList) (q::r))=_
  rw[List.map_cons,ih]
  simp[cU,cps]
theorem fQ {x:Nat × Nat} (h:CY x):jn 97 (cps (jq x))=true/\jn 111 (cps (jq x))=true/\(cps (jq x)).head? ≠ some 97/\(cps (jq x)).head? ≠ some 111/\(jq x).length<=40/\1<=(jq x).length/\∀c ∈ cps (jq x),c < 256:=by
 have f:=AR (t:=x.1) h.2
 exact⟨f.a,f.o,f.ha,f.ho,rV h.1 h.2,by rw[cq];exact f.n,f.s⟩
theorem AD {x:Str} (h:∀c ∈ cps x,c < 256):Builtin.Str.strKind x=1:=by
 unfold Builtin.Str.strKind
 rw[if_pos]
 rw[Array.all_eq_true']
 intro c hc
 exact decide_eq_true (h c (by simpa using hc))
theorem hV:cps (Str.ofString " and ")=[32,97,110,100,32]:=by decide +kernel
theorem lg:cps (Str.ofString " or ")=[32,111,114,32]:=by decide +kernel
theorem mW {g:List Nat} {c:Nat}:∀ {ps:List Str},c ∈ cU g ps->c ∈ g\/∃p ∈ ps,c ∈ cps p
 | [],h=>by simp[cU]at h
 | p::r,h=>by
  unfold cU at h
  rcases List.mem_append.mp h with h | h
  ·exact .inr ⟨p,by simp,h⟩
  ·obtain⟨l,hl,hc⟩:=List.mem_flatten.mp h
   obtain⟨q,hq,rfl⟩:=List.mem_map.mp hl
   rcases List.mem_append.mp hc with hc | hc
   ·exact .inl hc
   ·exact .inr ⟨q,by simp[hq],hc⟩
theorem mX (g:List Nat) (B:Nat):∀ps:List Str,(∀ p ∈ ps,p.length<=B)->(cU g ps).length<=ps.length * (B + g.length)
 | [],_=>Nat.zero_le _
 | p::r,h=>by
  have h1:∀r:List Str,(∀ p ∈ r,p.length<=B)->((r.map fun p=>g++cps p).flatten).length<=r.length * (B + g.length):=by
   intro r
   induction r with
   | nil=>intro _;simp
   | cons q r ih=>
    intro h
    have:=ih fun p hp=>h p (by simp[hp])
    have h2:=h q (by simp)
    rw[cq]at h2
    simp only[List.map_cons,List.flatten_cons,List.length_append,List.length_cons,Nat.succ_mul]
    omega
  have h2:=h p (by simp)
  rw[cq]at h2
  have h3:=h1 r fun p hp=>h p (by simp[hp])
  unfold cU
  simp only[List.length_append,List.length_cons,Nat.succ_mul]
  omega
theorem ny {ts:List (Nat × Nat)} (h:CQ ts):∀c ∈ cps (dE ts),c < 256:=fun c hc=>by
 unfold dE at hc
 rw[dC,hV]at hc
 rcases mW hc with q | ⟨p,hp,q⟩
 ·simp at q
  omega
 ·obtain⟨x,hx,rfl⟩:=List.mem_map.mp hp
  exact(fQ (h.all x hx)).2.2.2.2.2.2 c q
theorem oK {ts:List (Nat × Nat)} (h:CQ ts):(dE ts).length<=450:=by
 rw[cq]
 unfold dE
 rw[dC,hV]
 refine Nat.le_trans (mX _ 40 _ fun p hp=>?_) ?_
 ·obtain⟨x,hx,rfl⟩:=List.mem_map.mp hp
  exact(fQ (h.all x hx)).2.2.2.2.1
 ·rw[List.length_map]
  have:=h.len
  show ts.length * 45<=450
  omega
theorem tY {ts:List (Nat × Nat)} (h:CQ ts):Txt.split (dE ts) (Str.ofString " and ")=ts.map jq:=by
 refine kQ (by decide +kernel) ?_ (by simpa using h.ne) (fun p hp=>?_) ?_
 ·rw[AD (ny h)]
  decide +kernel
 ·obtain⟨x,hx,rfl⟩:=List.mem_map.mp hp
  exact sU (c:=97) (fQ (h.all x hx)).1 ⟨_,hV⟩
 ·rw[oq]
  exact dC _ _
theorem tK:∀ {ts:List (Nat × Nat)},ts ≠ []->(∀ x ∈ ts,CY x)->jn 111 (cU [32,97,110,100,32] (ts.map jq))=true/\(cU [32,97,110,100,32] (ts.map jq)).head? ≠ some 111/\cU [32,97,110,100,32] (ts.map jq) ≠ []
 | [],h,_=>absurd rfl h
 | [x],_,h=>by
  have f:=fQ (h x (by simp))
  have e:cU [32,97,110,100,32] ([x].map jq)=cps (jq x):=by simp[cU]
  rw[e]
  refine⟨f.2.1,f.2.2.2.1,fun z=>?_⟩
  have:=f.2.2.2.2.2.1
  rw[cq,z]at this
  simp at this
 | x::y::r,_,h=>by
  have f:=fQ (h x (by simp))
  obtain⟨i1,i2,i3⟩:=tK (ts:=y::r) (by simp) fun z hz=>h z (by simp[List.mem_cons.mp hz])
  have e:cU [32,97,110,100,32] ((x::y::r).map jq)=cps (jq x)++32::97::(110::100::32::cU [32,97,110,100,32] ((y::r).map jq)):=by simp[cU]
  rw[e]
  generalize cU [32,97,110,100,32] ((y::r).map jq)=q at i1 i2 i3
  cases q with
  | nil=>exact absurd rfl i3
  | cons c q=>
   have hc:(c != 111)=true:=by simpa using i2
   have b0:jn 111 (110::100::32::c::q)=true:=by
    show((110 != 32 || 100 != 111) && ((100 != 32 || 32 != 111) && ((32 != 32 || c != 111) && jn 111 (c::q))))=true
    rw[i1,hc]
    rfl
   refine⟨?_,?_,by simp⟩
   ·rw[tI f.2.1 b0 (by decide)]
    show((97 != 32 || 110 != 111) && jn 111 (110::100::32::c::q))=true
    rw[b0]
    rfl
   ·have hl:=f.2.2.2.2.2.1
    rw[cq]at hl
    cases hx:cps (jq x)with
    | nil=>rw[hx]at hl;simp at hl
    | cons d l=>
     have:=f.2.2.2.1
     rw[hx]at this
     simpa using this
theorem qH {as:List (List (Nat × Nat))} (h:EX as):Txt.split (fX as) (Str.ofString " or ")=as.map dE:=by
 refine kQ (by decide +kernel) ?_ (by simpa using h.ne) (fun p hp=>?_) ?_
 ·rw[AD fun c hc=>?_]
  ·decide +kernel
  ·unfold fX at hc
   rw[dC,lg]at hc
   rcases mW hc with q | ⟨p,hp,q⟩
   ·simp at q
    omega
   ·obtain⟨x,hx,rfl⟩:=List.mem_map.mp hp
    exact ny (h.all x hx) c q
 ·obtain⟨x,hx,rfl⟩:=List.mem_map.mp hp
  refine sU (c:=111) ?_ ⟨_,lg⟩
  show jn 111 (cps (dE x))=true
  unfold dE
  rw[dC,hV]
  exact(tK (h.all x hx).ne (h.all x hx).all).1
 ·rw[oq]
  exact dC _ _
theorem vI {as:List (List (Nat × Nat))} (h:EX as):(fX as).length<=4540:=by
 rw[cq]
 unfold fX
 rw[dC,lg]
 refine Nat.le_trans (mX _ 450 _ fun p hp=>?_) ?_
 ·obtain⟨x,hx,rfl⟩:=List.mem_map.mp hp
  exact oK (h.all x hx)
 ·rw[List.length_map]
  have:=h.len
  show as.length * 454<=4540
  omega
@[reducible] noncomputable def RT (F:Fx):Hp->Addr->Nat × Nat->Prop:=fun H a x=>Ah F H a (nE x)
@[reducible] noncomputable def RA (F:Fx):Hp->Addr->List (Nat × Nat)->Prop:=fun H a x=>Ak F H a (x.map nE)
@[reducible] noncomputable def RR (F:Fx):Hp->Addr->List (List (Nat × Nat))->Prop:=fun H a x=>AK F H a (x.map fun y=>y.map nE)
noncomputable def yN (M:Mo) (Ts:List Tb) (F:Fx):Sp:=fun vs H Q _=>∃x,CQ x/\vs=[.str (dE x)]/\Makes M Ts (RA F) x H Q
noncomputable def yJ (M:Mo) (Ts:List Tb) (F:Fx):Sp:=fun vs H Q _=>∃x,EX x/\vs=[.str (fX x)]/\Makes M Ts (RR F) x H Q
theorem qP {α β γ:Type} {G:α->γ->Prop} (f:β->γ):∀ {l:List α} {m:List β},Paired (fun a b=>G a (f b)) l m->Paired G l (m.map f)
 | _,_,.nil=>.nil
 | _,_,.cons r t=>.cons r (qP f t)
structure GO (Γ:bf) (M:Mo) (Ts:List Tb) (F:Fx):Prop where
 cm:Γ.cm=true
 mod:Γ.mod=M
 tr:Γ.has "term_rule" =true/\Γ.fn "term_rule" =yI M Ts F
 al:Γ.has "all_of" =true/\Γ.fn "all_of" =nM M Ts F.al "fits" "rules" "all_of.<locals>.fits"
theorem BU {Γ:bf} {Ts:List Tb} {F:Fx} (g:GO Γ M Ts F) (vs:List V) (H:Hp) (Q:VK) (E:XK) (h:yN M Ts F vs H Q E):cG Γ cS 1 cP vs H Q E:=by
 obtain⟨ts,ok,rfl,hT,h⟩:=h
 refine⟨rfl,?_⟩
 obtain rfl:=g.mod
 unfold cP
 dsimp only[Sw.wSs,Sw.wS,Sw.wE,Sw.wT,Sw.wEs,Sw.wTs,Sw.wI,Sw.wP,Sw.keyOf,Sw.vars,L2.start,Sw.ax,Sw.aw,Sw.ah,Sw.ag,Sw.ao,Sw.ak,Sw.az,Sw.ay,Sw.au,Sw.aq,Sw.aj,Sw.ai,Sw.av,Sw.ab,Nat.reduceAdd,Nat.reduceSub]
 refine⟨⟨g.cm,g.al.1⟩,g.cm,rfl,?_⟩
 rw[Sw.m_split]
 refine⟨by decide +kernel,Nat.le_trans (oK ok) (by decide),fun l hl ml=>?_⟩
 rw[tY ok]
 have x0:=Ext.upd (o:=.lst ((ts.map jq).map V.str)) hl ml
 show bD Γ.mod (.ref l) _ _
 unfold bD
 dsimp only
 rw[br (by intro _ _ z;cases z)]
 dsimp only
 intro D hD mD
 refine made (R:=RT F) (txt:=jq) (okx:=CY) (Ts:=Ts) (fun s h=>h.mono s) g.tr.2 (H:=H) ok.all aA (bp.of x0) (fun t ht=>(hT t ht).ext x0) hD mD (Nat.le_trans ok.len (by decide)) (fun v Hn Q q=>⟨⟨g.cm,g.tr.1⟩,q⟩) fun Hf rs hDf xf tf pf=>?_
 rw[g.al.2]
 refine⟨_,rfl,tf,fun H4 f c x4 t4 hc mc hf mf clo=>?_⟩
 have hDH:H D=none:=none_of (bp.of x0) hD
 obtain⟨c1,c2,c3⟩:=closed (R:=RT F) (fun s h=>h.mono s) hDH hDf xf x4 pf hc clo
 exact h H4 f (xf.trans x4) t4 ⟨c,D,rs,c1,c2,by rw[List.length_map];exact Nat.le_trans ok.len (by decide),qP nE c3⟩
structure GN (Γ:bf) (M:Mo) (Ts:List Tb) (F:Fx):Prop where
 cm:Γ.cm=true
 mod:Γ.mod=M
 ar:Γ.has "alternative_rule" =true/\Γ.fn "alternative_rule" =yN M Ts F
 an:Γ.has "any_of" =true/\Γ.fn "any_of" =nM M Ts F.an "fits" "rules" "any_of.<locals>.fits"
theorem zz {Γ:bf} {Ts:List Tb} {F:Fx} (g:GN Γ M Ts F) (vs:List V) (H:Hp) (Q:VK) (E:XK) (h:yJ M Ts F vs H Q E):cG Γ jU 1 jN vs H Q E:=by
 obtain⟨as,ok,rfl,hT,h⟩:=h
 refine⟨rfl,?_⟩
 obtain rfl:=g.mod
 unfold jN
 refine seq ?_
 dsimp only[Sw.wS,Sw.wE,Sw.wT,Sw.wEs,Sw.wTs,Sw.wI,Sw.wP,Sw.keyOf,Sw.vars,L2.start,Sw.ax,Sw.aw,Sw.ah,Sw.ag,Sw.ao,Sw.ak,Sw.az,Sw.ay,Sw.au,Sw.aq,Sw.aj,Sw.ai,Sw.av,Sw.ab,Nat.reduceAdd,Nat.reduceSub]
 refine⟨rfl,?_⟩
 rw[Sw.m_split]
 refine⟨by decide +kernel,Nat.le_trans (vI ok) (by decide),fun l hl ml=>?_⟩
 rw[qH ok]
 have x0:=Ext.upd (o:=.lst ((as.map dE).map V.str)) hl ml
 refine seq ?_
 dsimp only[Sw.wSs,Sw.wS,Sw.wE,Sw.wT,Sw.wEs,Sw.wTs,Sw.wI,Sw.wP,Sw.keyOf,Sw.vars,L2.start,Sw.ax,Sw.aw,Sw.ah,Sw.ag,Sw.ao,Sw.ak,Sw.az,Sw.ay,Sw.au,Sw.aq,Sw.aj,Sw.ai,Sw.av,Sw.ab,Nat.reduceAdd,Nat.reduceSub]
 refine⟨⟨g.cm,g.an.1⟩,g.cm,?_⟩
 show bD Γ.mod (.ref l) _ _
 unfold bD
 dsimp only
 rw[br (by intro _ _ z;cases z)]
 dsimp only
 intro D hD mD
 refine made (R:=RA F) (txt:=dE) (okx:=CQ) (Ts:=Ts) (fun s h=>h.mono s) g.ar.2 (H:=H) ok.all aA (bp.of x0) (fun t ht=>(hT t ht).ext x0) hD mD (Nat.le_trans ok.len (by decide)) (fun v Hn Q q=>⟨⟨g.cm,g.ar.1⟩,q⟩) fun Hf rs hDf xf tf pf=>?_
 rw[g.an.2]
 refine⟨_,rfl,tf,fun H4 f c x4 t4 hc mc hf mf clo=>?_⟩
 have hDH:H D=none:=none_of (bp.of x0) hD
 obtain⟨c1,c2,c3⟩:=closed (R:=RA F) (fun s h=>h.mono s) hDH hDf xf x4 pf hc clo
 exact h H4 f (xf.trans x4) t4 ⟨c,D,rs,c1,c2,by rw[List.length_map];exact Nat.le_trans ok.len (by decide),qP (G:=fun r ts=>Ak F (era (qy H H4) c) r ts) (fun y:List (Nat × Nat)=>y.map nE) c3⟩
end Rl
namespace Sw
open PySem PySem.Spec PyProof.Rows L2
theorem uX {te:TE} {tt:TT} {fvs:L2.St} {D:Addr} {aC:Hp->Prop} {H0:Hp} {k:Hp->Prop} (f:V->V) (p:V->Bool):∀ (xs acc:List V),(∀ v ∈ xs,∀H Q,Q (p v) H->tt (some v::fvs) H Q)->(∀ v ∈ xs,∀H Q,Q (f v) H->te (some v::fvs) H Q)->
  (∀ l,aC (upd H0 D (.lst l)))->acc.length + xs.length<=sizeLine->k (upd H0 D (.lst (acc++(xs.filter p).map f)))->cV te tt fvs D aC xs acc (upd H0 D (.lst acc)) k:=by
 intro xs
 induction xs with
 | nil=>
  intro acc h0 h1 h2 h3 h4
  exact⟨h2 _,aA,by simpa using h4⟩
 | cons v r ih=>
  intro acc h0 h1 h2 h3 h4
  refine⟨h2 _,h0 v List.mem_cons_self _ _ ?_⟩
  cases q:p v with
  | true=>
   rw[if_pos rfl]
   refine h1 v List.mem_cons_self _ _ ⟨aA,by rw[List.length_cons]at h3;omega,?_⟩
   rw[eK]
   refine ih (acc++[f v]) (fun v hv=>h0 v (List.mem_cons_of_mem _ hv)) (fun v hv=>h1 v (List.mem_cons_of_mem _ hv)) h2 (by rw[List.length_append];simp at h3 ⊢;omega) ?_
   rw[List.filter_cons_of_pos q]at h4
   simpa using h4
  | false=>
   rw[if_neg (by decide)]
   refine ih acc (fun v hv=>h0 v (List.mem_cons_of_mem _ hv)) (fun v hv=>h1 v (List.mem_cons_of_mem _ hv)) h2 (by simp at h3 ⊢;omega) ?_
   rw[List.filter_cons_of_neg (by rw[q];decide)]at h4
   exact h4
end Sw
namespace Lw
open PySem PySem.Spec PyProof.Rows L2 Sw Wd Tx Rl
@[reducible] noncomputable def gU:List Str:=["_law_script","_law_k"]
noncomputable def gI:cR:=(.cons (.iff (.cmp .Lt (.var 1) (.blt .len (.cons (.var 0) .nil))) (.cons (.ret (.idx (.var 0) (.var 1)))
 .nil) .nil)
 (.cons (.ret (.con (.int 0)))
 .nil))
@[reducible] noncomputable def iK:List Str:=["_law_cell_here","_law_k","_law_number"]
noncomputable def iG:cR:=(.cons (.asg 2 (.bin .Mod (.bin .Add (.bin .Add (.bin .Mod (.var 0) (.con (.int 2147483629))) (.bin .Mult (.con (.int 7919)) (.var 1))) (.con (.int 12345))) (.con (.int 2147483629))))
 (.cons (.asg 2 (.bin .Mod (.bin .Add (.bin .Mult (.var 2) (.var 2)) (.bin .Mult (.con (.int 104729)) (.var 1))) (.con (.int 2147483629))))
 (.cons (.ret (.bin .Mod (.bin .Mult (.bin .Add (.var 2) (.var 1)) (.bin .Add (.var 2) (.var 1))) (.con (.int 2147483587))))
 .nil)))
@[reducible] noncomputable def fG:List Str:=["_law_found"]
noncomputable def ft:cR:=(.cons (.ret (.and (.isin (.var 0) .int) (.not (.isin (.var 0) .bool))))
 .nil)
@[reducible] noncomputable def fJ:List Str:=["_law_number","_law_letters","_law_way"]
noncomputable def fA:cR:=(.cons (.asg 1 (.con (.str "abcdefghijklmnopqrstuvwxyz")))
 (.cons (.asg 2 (.bin .Mod (.var 0) (.con (.int 3))))
 (.cons (.iff (.cmp .Eq (.var 2) (.con (.int 0))) (.cons (.ret (.con (.str "")))
 .nil) .nil)
 (.cons (.iff (.cmp .Eq (.var 2) (.con (.int 1))) (.cons (.ret (.idx (.var 1) (.bin .Mod (.bin .FloorDiv (.var 0) (.con (.int 3))) (.con (.int 26)))))
 .nil) .nil)
 (.cons (.ret (.mth .join (.con (.str "")) (.cons (.comp "_law_k" [("_law_letters",1),("_law_number",0)] (.rng1 (.con (.int 26))) (.idx (.var 1) (.var 0)) (.cons (.cmp .Eq (.bin .Mod (.bin .FloorDiv (.bin .FloorDiv (.var 2) (.con (.int 3))) (.bin .Add (.var 0) (.con (.int 1)))) (.con (.int 3))) (.con (.int 0))) .nil)) .nil)))
 .nil)))))
@[reducible] noncomputable def gS:List Str:=["_law_cell_here","_law_k","_law_number"]
noncomputable def gG:cR:=(.cons (.asg 2 (.call "_law_mix" (.cons (.var 0) (.cons (.var 1) .nil))))
 (.cons (.ret (.tup (.cons (.idx (.lst (.cons (.con (.str "O")) (.cons (.con (.str "A")) (.cons (.con (.str "B")) (.cons (.con (.str "AB")) .nil))))) (.bin .Mod (.var 2) (.con (.int 4)))) (.cons (.bin .Add (.con (.int 1)) (.bin .Mod (.bin .FloorDiv (.var 2) (.con (.int 4))) (.con (.int 99)))) (.cons (.call "_law_marks" (.cons (.bin .FloorDiv (.var 2) (.con (.int 400))) .nil)) .nil)))))
 .nil))
@[reducible] noncomputable def gR:List Str:=["_law_number","_law_kind","_law_bound"]
noncomputable def gF:cR:=(.cons (.asg 1 (.idx (.lst (.cons (.con (.str "groups")) (.cons (.con (.str "marks")) (.cons (.con (.str "sizes")) .nil)))) (.bin .Mod (.bin .FloorDiv (.var 0) (.con (.int 6))) (.con (.int 3)))))
 (.cons (.asg 2 (.idx (.lst (.cons (.bin .Mod (.bin .FloorDiv (.var 0) (.con (.int 18))) (.con (.int 99))) (.cons (.bin .Mod (.bin .FloorDiv (.var 0) (.con (.int 18))) (.con (.int 30))) .nil))) (.bin .Mod (.bin .FloorDiv (.var 0) (.con (.int 1782))) (.con (.int 2)))))
 (.cons (.ret (.tup (.cons (.bin .Mod (.var 0) (.con (.int 6))) (.cons (.var 1) (.cons (.var 2) .nil)))))
 .nil)))
@[reducible] noncomputable def cK:List Str:=["_law_cell_here","_law_found","_law_count","_law_k","_law_many"]
noncomputable def cJ:cR:=(.cons (.asg 1 (.lst .nil))
 (.cons (.asg 2 (.bin .Add (.con (.int 1)) (.bin .Mod (.call "_law_mix" (.cons (.var 0) (.cons (.con (.int 60)) .nil))) (.con (.int 3)))))
 (.cons (.fr 3 (.rng1 (.var 2)) (.cons (.asg 4 (.bin .Add (.con (.int 1)) (.bin .Mod (.call "_law_mix" (.cons (.var 0) (.cons (.bin .Add (.con (.int 61)) (.var 3)) .nil))) (.idx (.lst (.cons (.con (.int 3)) (.cons (.con (.int 3)) (.cons (.con (.int 2)) .nil)))) (.bin .Sub (.var 2) (.con (.int 1)))))))
 (.cons (.exp (.mth .append (.var 1) (.cons (.comp "_law_j" [("_law_cell_here",0),("_law_k",3)] (.rng1 (.var 4)) (.call "_law_term" (.cons (.call "_law_mix" (.cons (.var 1) (.cons (.bin .Add (.bin .Add (.con (.int 70)) (.bin .Mult (.con (.int 3)) (.var 2))) (.var 0)) .nil))) .nil)) .nil) .nil)))
 .nil)))
 (.cons (.ret (.var 1))
 .nil))))
@[reducible] noncomputable def dm:List Str:=["_law_term_here","_law_times","_law_kind","_law_bound"]
noncomputable def di:cR:=(.cons (.asgT [1,2,3] (.var 0))
 (.cons (.iff (.cmp .Eq (.var 2) (.con (.str "sizes"))) (.cons (.ret (.bin .Add (.bin .Add (.bin .Mult (.con (.str "no ")) (.var 1)) (.con (.str "sizes "))) (.blt .str (.cons (.var 3) .nil))))
 .nil) .nil)
 (.cons (.ret (.bin .Add (.bin .Mult (.con (.str "no ")) (.var 1)) (.var 2)))
 .nil)))
@[reducible] noncomputable def dq:List Str:=["_law_alternatives_here"]
noncomputable def dj:cR:=(.cons (.ret (.mth .join (.con (.str " or ")) (.cons (.comp "_law_terms" [] (.ex (.var 0)) (.mth .join (.con (.str " and ")) (.cons (.comp "_law_term_here" [] (.ex (.var 0)) (.call "_law_term_text" (.cons (.var 0) .nil)) .nil) .nil)) .nil) .nil)))
 .nil)
@[reducible] noncomputable def fH:List Str:=["_law_kind","_law_bound","_law_giver","_law_taker","_law_pairs"]
noncomputable def fw:cR:=(.cons (.iff (.cmp .Eq (.var 0) (.con (.str "groups"))) (.cons (.asg 4 (.lst (.cons (.con (.str "O O")) (.cons (.con (.str "O A")) (.cons (.con (.str "O B")) (.cons (.con (.str "O AB")) (.cons (.con (.str "A A")) (.cons (.con (.str "A AB")) (.cons (.con (.str "B B")) (.cons (.con (.str "B AB")) (.cons (.con (.str "AB AB")) .nil)))))))))))
 (.cons (.ret (.cmp .In (.bin .Add (.bin .Add (.idx (.var 2) (.con (.int 0))) (.con (.str " "))) (.idx (.var 3) (.con (.int 0)))) (.var 4)))
 .nil)) .nil)
 (.cons (.iff (.cmp .Eq (.var 0) (.con (.str "marks"))) (.cons (.ret (.cmp .Eq (.comp "_law_mark" [("_law_taker",3)] (.ex (.idx (.var 2) (.con (.int 2)))) (.var 0) (.cons (.cmp .In (.var 0) (.idx (.var 1) (.con (.int 2)))) .nil)) (.lst .nil)))
 .nil) .nil)
 (.cons (.ret (.and (.cmp .LtE (.bin .Sub (.idx (.var 2) (.con (.int 1))) (.idx (.var 3) (.con (.int 1)))) (.var 1)) (.cmp .LtE (.bin .Sub (.idx (.var 3) (.con (.int 1))) (.idx (.var 2) (.con (.int 1)))) (.var 1))))
 .nil)))
@[reducible] noncomputable def gT:List Str:=["_law_alternatives_here","_law_giver","_law_taker","_law_terms","_law_good","_law_times","_law_kind","_law_bound"]
noncomputable def gH:cR:=(.cons (.fr 3 (.ex (.var 0)) (.cons (.asg 4 (.con (.bl true)))
 (.cons (.frT [5,6,7] (.ex (.var 3)) (.cons (.iff (.cmp .Eq (.call "_law_plain" (.cons (.var 6) (.cons (.var 7) (.cons (.var 1) (.cons (.var 2) .nil))))) (.cmp .Eq (.bin .Mod (.var 5) (.con (.int 2))) (.con (.int 1)))) (.cons (.asg 4 (.con (.bl false)))
  .nil) .nil)
  .nil))
 (.cons (.iff (.var 4) (.cons (.ret (.con (.bl true)))
  .nil) .nil)
 .nil))))
 (.cons (.ret (.con (.bl false)))
 .nil))
variable {M:Mo}
noncomputable def kT (M:Mo):Sp:=fun vs H Q _=>∃a i,∃ns:List Int,vs=[.ref a,.int i]/\0<=i/\rd M H a=some (.lst (ns.map V.int))/\∀c,Q (.int c) H
theorem zB {Γ:bf} (hc:Γ.cm=true) (hM:Γ.mod=M) (vs:List V) (H:Hp) (Q:VK) (E:XK) (h:kT M vs H Q E):cG Γ gU 2 gI vs H Q E:=by
 subst hM
 obtain⟨a,i,ns,rfl,h0,ha,h⟩:=h
 refine⟨rfl,?_⟩
 unfold gI
 dsimp only[Sw.wSs,Sw.wS,Sw.wE,Sw.wT,Sw.wEs,Sw.wTs,Sw.wI,Sw.wP,Sw.keyOf,Sw.vars,L2.start,Sw.ax,Sw.aw,Sw.ah,Sw.ag,Sw.ao,Sw.ak,Sw.az,Sw.ay,Sw.au,Sw.aq,Sw.aj,Sw.ai,Sw.av,Sw.ab,Nat.reduceAdd,Nat.reduceSub]
 refine⟨hc,?_⟩
 rw[Sw.lR,ha]
 dsimp only
 rw[Sw.v_lt]
 refine⟨_,rfl,?_⟩
 by_cases q:i < (ns.map V.int).length
 ·rw[if_pos (by simpa using q)]
  obtain⟨x,e1,e2⟩:=yg h0 q
  rw[List.getElem?_map]at e2
  obtain⟨n,_,rfl⟩:=Option.map_eq_some_iff.mp e2
  exact lF ha e1 (h n)
 ·rw[if_neg (by simpa using q)]
  exact h 0
noncomputable def dA (c k:Int):Int:=
 let n:=(c % 2147483629 + 7919 * k + 12345) % 2147483629
 let n:=(n * n + 104729 * k) % 2147483629
 (n + k) * (n + k) % 2147483587
theorem mV (c k:Int):0<=dA c k/\dA c k < 2147483587:=⟨Int.emod_nonneg _ (by decide),Int.emod_lt_of_pos _ (by decide)⟩
theorem lO {i:Int} (h0: -4294967296<=i) (h1:i<=4294967296):qj i=true:=by
 unfold qj
 simp only[Bool.and_eq_true,decide_eq_true_eq]
 omega
noncomputable def mK:Sp:=fun vs H Q _=>∃c k,vs=[.int c,.int k]/\0<=k/\k<=100/\Q (.int (dA c k)) H
theorem BN {Γ:bf} (vs:List V) (H:Hp) (Q:VK) (E:XK) (h:mK vs H Q E):cG Γ iK 2 iG vs H Q E:=by
 obtain⟨c,k,rfl,h0,h1,h⟩:=h
 refine⟨rfl,?_⟩
 unfold iG
 dsimp only[Sw.wSs,Sw.wS,Sw.wE,Sw.wT,Sw.wEs,Sw.wTs,Sw.wI,Sw.wP,Sw.keyOf,Sw.vars,L2.start,Sw.ax,Sw.aw,Sw.ah,Sw.ag,Sw.ao,Sw.ak,Sw.az,Sw.ay,Sw.au,Sw.aq,Sw.aj,Sw.ai,Sw.av,Sw.ab,Nat.reduceAdd,Nat.reduceSub]
 simp (config:={maxSteps:=10000000,failIfUnchanged:=false}) only[Sw.v_add,Sw.eh,Sw.v_sub,Sw.v_mul,Sw.v_div,Sw.v_mod,Sw.v_pow,Sw.v_lt,Sw.tP,Sw.vm,Sw.iR,Sw.Am,Sw.jX,Sw.vk,Sw.An,Sw.vn,Sw.ff,Sw.Ar,Sw.As,Sw.lQ,Sw.lR,Sw.yb,Sw.yd,Sw.yf,Sw.p5,Sw.sL,Sw.r_,Sw.pA,Sw.wZ]
 have r1:∀x:Int,0<=x % 2147483629/\x % 2147483629 < 2147483629:=fun x=>⟨Int.emod_nonneg _ (by decide),Int.emod_lt_of_pos _ (by decide)⟩
 have b1:∀x:Int,qj (x % 2147483629)=true:=fun x=>lO (by have:=r1 x;omega) (by have:=r1 x;omega)
 have b2:∀x:Int,qj (x % 2147483629 + k)=true:=fun x=>lO (by have:=r1 x;omega) (by have:=r1 x;omega)
 have bk:qj k=true:=lO (by omega) (by omega)
 refine⟨by decide,by rw[bk];simp,by decide,by rw[b1];simp,by rw[bk];simp,by decide,by rw[b2];simp,by decide,?_⟩
 unfold dA at h
 dsimp only at h
 exact h
noncomputable def kx (M:Mo):Sp:=fun vs H Q _=>∃n,vs=[.int n]/\0<=n/\∀m H',Ext M H H'->m.length<=26->Q (.str m) H'
theorem iy {i:Int} (h0:0<=i) (h1:i < 26):kK (cps kD) i=some (97 + i.toNat):=by
 have e:cps kD=(List.range 26).map (97 + ·):=by decide +kernel
 unfold kK yr
 rw[e,if_pos h0,List.length_map,List.length_range,if_pos (by omega),Option.bind_some,List.getElem?_map,List.getElem?_range (by omega)]
 rfl
theorem wH {Γ:bf} (hc:Γ.cm=true) (hM:Γ.mod=M) (vs:List V) (H:Hp) (Q:VK) (E:XK) (h:kx M vs H Q E):cG Γ fJ 1 fA vs H Q E:=by
 obtain⟨n,rfl,h0,h⟩:=h
 refine⟨rfl,?_⟩
 subst hM
 unfold fA
 refine seq ?_
 dsimp only[Sw.wS,Sw.wE,Sw.wT,Sw.wEs,Sw.wTs,Sw.wI,Sw.wP,Sw.keyOf,Sw.vars,L2.start,Sw.ax,Sw.aw,Sw.ah,Sw.ag,Sw.ao,Sw.ak,Sw.az,Sw.ay,Sw.au,Sw.aq,Sw.aj,Sw.ai,Sw.av,Sw.ab,Nat.reduceAdd,Nat.reduceSub]
 refine seq ?_
 dsimp only[Sw.wS,Sw.wE,Sw.wT,Sw.wEs,Sw.wTs,Sw.wI,Sw.wP,Sw.keyOf,Sw.vars,L2.start,Sw.ax,Sw.aw,Sw.ah,Sw.ag,Sw.ao,Sw.ak,Sw.az,Sw.ay,Sw.au,Sw.aq,Sw.aj,Sw.ai,Sw.av,Sw.ab,Nat.reduceAdd,Nat.reduceSub]
 rw[Sw.v_mod]
 refine⟨by decide,?_⟩
 refine seq ?_
 dsimp only[Sw.wS,Sw.wE,Sw.wT,Sw.wEs,Sw.wTs,Sw.wI,Sw.wP,Sw.keyOf,Sw.vars,L2.start,Sw.ax,Sw.aw,Sw.ah,Sw.ag,Sw.ao,Sw.ak,Sw.az,Sw.ay,Sw.au,Sw.aq,Sw.aj,Sw.ai,Sw.av,Sw.ab,Nat.reduceAdd,Nat.reduceSub]
 rw[Sw.iR]
 refine⟨_,rfl,?_⟩
 by_cases q0:n % 3=0
 ·rw[if_pos (decide_eq_true q0)]
  dsimp only[Sw.wSs,Sw.wS,Sw.wE,Sw.wT,Sw.wEs,Sw.wTs,Sw.wI,Sw.wP,Sw.keyOf,Sw.vars,L2.start,Sw.ax,Sw.aw,Sw.ah,Sw.ag,Sw.ao,Sw.ak,Sw.az,Sw.ay,Sw.au,Sw.aq,Sw.aj,Sw.ai,Sw.av,Sw.ab,Nat.reduceAdd,Nat.reduceSub]
  exact h _ H Ext.refl (by decide +kernel)
 rw[if_neg (by simpa using q0)]
 dsimp only[Sw.wSs,Sw.wS,Sw.wE,Sw.wT,Sw.wEs,Sw.wTs,Sw.wI,Sw.wP,Sw.keyOf,Sw.vars,L2.start,Sw.ax,Sw.aw,Sw.ah,Sw.ag,Sw.ao,Sw.ak,Sw.az,Sw.ay,Sw.au,Sw.aq,Sw.aj,Sw.ai,Sw.av,Sw.ab,Nat.reduceAdd,Nat.reduceSub]
 rw[Sw.iR]
 refine⟨_,rfl,?_⟩
 have el:(Str.ofString "abcdefghijklmnopqrstuvwxyz").cps.toList=cps kD:=rfl
 by_cases q1:n % 3=1
 ·rw[if_pos (decide_eq_true q1),Sw.v_div]
  refine⟨by decide,by decide,?_⟩
  rw[Sw.v_mod]
  refine⟨by decide,?_⟩
  rw[p5]
  have r0:0<=n / 3 % 26:=Int.emod_nonneg _ (by decide)
  have r1:n / 3 % 26 < 26:=Int.emod_lt_of_pos _ (by decide)
  refine⟨by decide +kernel,?_⟩
  rw[el,iy r0 r1]
  exact h _ H Ext.refl (show(1:Nat)<=26 from by decide)
 rw[if_neg (by simpa using q1)]
 refine⟨rfl,hc,by decide,by decide,fun D hD mD=>?_⟩
 refine uX (fun v=>match v with | .int i=>.str ⟨#[97 + i.toNat]⟩ | v=>v) (fun v=>match v with | .int i=>decide (n / 3 / (i + 1) % 3=0) | _=>false) _ [] ?_ ?_ (fun _=>trivial) (by rw[sizeLine_eq];simp) ?_
 ·intro v hv H1 Q1 q
  obtain⟨i,hi,rfl⟩:=List.mem_map.mp hv
  have hi:i < 26:=by simpa using hi
  show iE Γ.mod Operator.FloorDiv (V.int n) (V.int 3) H1 _
  rw[Sw.v_div]
  refine⟨by decide,by decide,?_⟩
  show iE Γ.mod Operator.Add (V.int i) (V.int 1) H1 _
  rw[Sw.v_add,Sw.v_div]
  refine⟨by omega,by omega,?_⟩
  rw[Sw.v_mod]
  refine⟨by decide,?_⟩
  rw[Sw.iR]
  exact⟨_,rfl,q⟩
 ·intro v hv H1 Q1 q
  obtain⟨i,hi,rfl⟩:=List.mem_map.mp hv
  have hi:i < 26:=by simpa using hi
  show gj Γ.mod (V.str (Str.ofString "abcdefghijklmnopqrstuvwxyz")) (V.int i) H1 Q1
  rw[p5]
  refine⟨by decide +kernel,?_⟩
  rw[el,iy (by omega) (by omega)]
  exact q
 ·generalize hl:(List.filter (fun v=>match v with | V.int i=>decide (n / 3 / (i + 1) % 3=0) | _=>false) (List.map (fun i:Nat=>V.int (i:Int)) (List.range (Int.toNat 26))))=fl
  have e:∃ks:List Nat,fl=ks.map (fun i:Nat=>V.int (i:Int))/\ks.Pairwise (·< ·)/\∀k ∈ ks,k < 26:=by
   rw[List.filter_map]at hl
   refine⟨_,hl.symm,?_,?_⟩
   ·exact List.Pairwise.filter _ List.pairwise_lt_range
   ·intro k hk
    have:=(List.mem_filter.mp hk).1
    simpa using this
  obtain⟨ks,rfl,pw,lt⟩:=e
  have e2:List.map (fun v=>match v with | V.int i=>V.str ⟨#[97 + i.toNat]⟩ | v=>v) (List.map (fun i:Nat=>V.int (i:Int)) ks)=((ks.map (97 + ·)).map Wd.single).map V.str:=by
   rw[List.map_map,List.map_map,List.map_map]
   exact List.map_congr_left fun k _=>rfl
  rw[List.nil_append,e2]
  have kl:ks.length<=26:=by
   have nd:ks.Nodup:=pw.imp fun h=>Nat.ne_of_lt h
   have:=List.Nodup.length_le_of_subset nd (l₂:=List.range 26) fun k hk=>List.mem_range.mpr (lt k hk)
   simpa using this
  refine oo (br (by intro _ _ z;cases z)) (rj _ _ 1 (fun x hx=>?_) ?_) (h _ _ (Ext.upd hD mD) ?_)
  ·obtain⟨c,_,rfl⟩:=List.mem_map.mp hx
   exact Nat.le_refl _
  ·rw[show(Str.ofString "").length=0 from rfl,List.length_map,List.length_map]
   omega
  ·rw[cq,dC,show cps (Str.ofString "")=[]from rfl,uO,List.map_map]
   rw[show((ks.map (97 + ·)).map (cps ∘ Wd.single)).flatten=ks.map (97 + ·)from qc _,List.length_map]
   exact kl
noncomputable def nK (M:Mo):Sp:=fun vs H Q _=>∃c k,vs=[.int c,.int k]/\0<=k/\k<=100/\∀ (s:Sd) H' q,s.Ok->Ext M H H'->bX M H' q s->Q (.ref q) H'
structure L1 (Γ:bf) (M:Mo):Prop where
 cm:Γ.cm=true
 mod:Γ.mod=M
 mx:Γ.has "_law_mix" =true/\Γ.fn "_law_mix" =mK
 ma:Γ.has "_law_marks" =true/\Γ.fn "_law_marks" =kx M
theorem zy {Γ:bf} (g:L1 Γ M) (vs:List V) (H:Hp) (Q:VK) (E:XK) (h:nK M vs H Q E):cG Γ gS 2 gG vs H Q E:=by
 obtain⟨c,k,rfl,h0,h1,h⟩:=h
 refine⟨rfl,?_⟩
 obtain rfl:=g.mod
 unfold gG
 refine seq ?_
 dsimp only[Sw.wS,Sw.wE,Sw.wT,Sw.wEs,Sw.wTs,Sw.wI,Sw.wP,Sw.keyOf,Sw.vars,L2.start,Sw.ax,Sw.aw,Sw.ah,Sw.ag,Sw.ao,Sw.ak,Sw.az,Sw.ay,Sw.au,Sw.aq,Sw.aj,Sw.ai,Sw.av,Sw.ab,Nat.reduceAdd,Nat.reduceSub]
 rw[g.mx.2]
 refine⟨⟨g.cm,g.mx.1⟩,c,k,rfl,h0,h1,?_⟩
 obtain⟨n0,n1⟩:=mV c k
 generalize dA c k=n at n0 n1 ⊢
 dsimp only[Sw.wSs,Sw.wS,Sw.wE,Sw.wT,Sw.wEs,Sw.wTs,Sw.wI,Sw.wP,Sw.keyOf,Sw.vars,L2.start,Sw.ax,Sw.aw,Sw.ah,Sw.ag,Sw.ao,Sw.ak,Sw.az,Sw.ay,Sw.au,Sw.aq,Sw.aj,Sw.ai,Sw.av,Sw.ab,Nat.reduceAdd,Nat.reduceSub]
 refine⟨by decide,fun p hp mp=>?_⟩
 rw[Sw.v_mod]
 refine⟨by decide,?_⟩
 have x1:=Ext.upd (o:=.lst [V.str (Str.ofString "O"),V.str (Str.ofString "A"),V.str (Str.ofString "B"),V.str (Str.ofString "AB")]) hp mp
 have r0:0<=n % 4:=Int.emod_nonneg _ (by decide)
 have r1:n % 4 < 4:=Int.emod_lt_of_pos _ (by decide)
 have gr:∃t,kK [V.str (Str.ofString "O"),V.str (Str.ofString "A"),V.str (Str.ofString "B"),V.str (Str.ofString "AB")] (n % 4)=some (.str t)/\isGroup t=true:=by
  generalize n % 4=r at r0 r1
  have:r=0\/r=1\/r=2\/r=3:=by omega
  rcases this with rfl | rfl | rfl | rfl
  ·exact⟨Str.ofString "O",rfl,by decide +kernel⟩
  ·exact⟨Str.ofString "A",rfl,by decide +kernel⟩
  ·exact⟨Str.ofString "B",rfl,by decide +kernel⟩
  ·exact⟨Str.ofString "AB",rfl,by decide +kernel⟩
 obtain⟨t,et,gt⟩:=gr
 refine lF (br (by intro _ _ z;cases z)) et ?_
 rw[Sw.v_div]
 refine⟨by decide,by decide,?_⟩
 rw[Sw.v_mod]
 refine⟨by decide,?_⟩
 rw[Sw.v_add]
 refine⟨⟨g.cm,g.ma.1⟩,?_⟩
 rw[Sw.v_div]
 refine⟨by decide,by decide,?_⟩
 rw[g.ma.2]
 refine⟨_,rfl,Int.ediv_nonneg n0 (by decide),fun m H2 x2 hm=>⟨by decide,fun q hq mq=>?_⟩⟩
 have s0:0<=n / 4 % 99:=Int.emod_nonneg _ (by decide)
 have s1:n / 4 % 99 < 99:=Int.emod_lt_of_pos _ (by decide)
 exact h ⟨t,1 + n / 4 % 99,m⟩ _ q ⟨gt,⟨by show 1<=1 + n / 4 % 99;omega,by show 1 + n / 4 % 99<=99;omega⟩,hm⟩ ((x1.trans x2).trans (Ext.upd hq mq)) (br (by intro _ _ z;cases z))
noncomputable def kq (M:Mo):Sp:=fun vs H Q _=>∃i,vs=[.int i]/\Q (.bl true) H
theorem wD {Γ:bf} (hM:Γ.mod=M) (vs:List V) (H:Hp) (Q:VK) (E:XK) (h:kq M vs H Q E):cG Γ fG 1 ft vs H Q E:=by
 subst hM
 obtain⟨i,rfl,h⟩:=h
 refine⟨rfl,?_⟩
 unfold ft
 dsimp only[Sw.wSs,Sw.wS,Sw.wE,Sw.wT,Sw.wEs,Sw.wTs,Sw.wI,Sw.wP,Sw.keyOf,Sw.vars,L2.start,Sw.ax,Sw.aw,Sw.ah,Sw.ag,Sw.ao,Sw.ak,Sw.az,Sw.ay,Sw.au,Sw.aq,Sw.aj,Sw.ai,Sw.av,Sw.ab,Nat.reduceAdd,Nat.reduceSub]
 refine⟨rfl,?_⟩
 exact⟨rfl,h⟩
structure Lt where
 t:Nat
 k:Nat
 b:Nat
noncomputable def eB (k:Nat):Str:=if k=0 then "groups" else if k=1 then "marks" else "sizes"
noncomputable def Lt.vs (x:Lt):List V:=[.int x.t,.str (eB x.k),.int x.b]
structure Lt.Ok (x:Lt):Prop where
 t:x.t < 6
 k:x.k < 3
 b:x.b < 99
noncomputable def Lt.code (x:Lt):Nat × Nat:=(x.t,if x.k=0 then 0 else if x.k=1 then 1 else x.b + 2)
theorem Lt.Ok.code {x:Lt} (h:x.Ok):CY x.code:=by
 refine⟨h.t,?_⟩
 show(if x.k=0 then 0 else if x.k=1 then 1 else x.b + 2) < 101
 have:=h.b
 split
 ·omega
 ·split<;>omega
noncomputable def nJ (M:Mo):Sp:=fun vs H Q _=>∃n,vs=[.int n]/\0<=n/\∀ (x:Lt) H' a,x.Ok->Ext M H H'->M a=none->H' a=some (.tup x.vs)->H a=none->Q (.ref a) H'
theorem BO {Γ:bf} (hM:Γ.mod=M) (vs:List V) (H:Hp) (Q:VK) (E:XK) (h:nJ M vs H Q E):cG Γ gR 1 gF vs H Q E:=by
 subst hM
 obtain⟨n,rfl,h0,h⟩:=h
 refine⟨rfl,?_⟩
 unfold gF
 refine seq ?_
 dsimp only[Sw.wS,Sw.wE,Sw.wT,Sw.wEs,Sw.wTs,Sw.wI,Sw.wP,Sw.keyOf,Sw.vars,L2.start,Sw.ax,Sw.aw,Sw.ah,Sw.ag,Sw.ao,Sw.ak,Sw.az,Sw.ay,Sw.au,Sw.aq,Sw.aj,Sw.ai,Sw.av,Sw.ab,Nat.reduceAdd,Nat.reduceSub]
 refine⟨by decide,fun p hp mp=>?_⟩
 have x1:=Ext.upd (o:=.lst [V.str (Str.ofString "groups"),V.str (Str.ofString "marks"),V.str (Str.ofString "sizes")]) hp mp
 rw[Sw.v_div]
 refine⟨by decide,by decide,?_⟩
 rw[Sw.v_mod]
 refine⟨by decide,?_⟩
 have r0:0<=n / 6 % 3:=Int.emod_nonneg _ (by decide)
 have r1:n / 6 % 3 < 3:=Int.emod_lt_of_pos _ (by decide)
 have gr:∃k:Nat,k < 3/\kK [V.str (Str.ofString "groups"),V.str (Str.ofString "marks"),V.str (Str.ofString "sizes")] (n / 6 % 3)=some (.str (eB k)):=by
  generalize n / 6 % 3=r at r0 r1
  have:r=0\/r=1\/r=2:=by omega
  rcases this with rfl | rfl | rfl
  ·exact⟨0,by decide,rfl⟩
  ·exact⟨1,by decide,rfl⟩
  ·exact⟨2,by decide,rfl⟩
 obtain⟨k,hk,ek⟩:=gr
 refine lF (br (by intro _ _ z;cases z)) ek ?_
 refine seq ?_
 dsimp only[Sw.wS,Sw.wE,Sw.wT,Sw.wEs,Sw.wTs,Sw.wI,Sw.wP,Sw.keyOf,Sw.vars,L2.start,Sw.ax,Sw.aw,Sw.ah,Sw.ag,Sw.ao,Sw.ak,Sw.az,Sw.ay,Sw.au,Sw.aq,Sw.aj,Sw.ai,Sw.av,Sw.ab,Nat.reduceAdd,Nat.reduceSub]
 rw[Sw.v_div]
 refine⟨by decide,by decide,?_⟩
 rw[Sw.v_mod]
 refine⟨by decide,?_⟩
 rw[Sw.v_div]
 refine⟨by decide,by decide,?_⟩
 rw[Sw.v_mod]
 refine⟨by decide,by decide,fun p2 hp2 mp2=>?_⟩
 rw[Sw.v_div]
 refine⟨by decide,by decide,?_⟩
 rw[Sw.v_mod]
 refine⟨by decide,?_⟩
 have b0:0<=n / 1782 % 2:=Int.emod_nonneg _ (by decide)
 have b1:n / 1782 % 2 < 2:=Int.emod_lt_of_pos _ (by decide)
 have c0:0<=n / 18 % 99:=Int.emod_nonneg _ (by decide)
 have c1:n / 18 % 99 < 99:=Int.emod_lt_of_pos _ (by decide)
 have d0:0<=n / 18 % 30:=Int.emod_nonneg _ (by decide)
 have d1:n / 18 % 30 < 30:=Int.emod_lt_of_pos _ (by decide)
 have gb:∃b:Nat,b < 99/\kK [V.int (n / 18 % 99),V.int (n / 18 % 30)] (n / 1782 % 2)=some (.int b):=by
  generalize n / 1782 % 2=r at b0 b1
  have:r=0\/r=1:=by omega
  rcases this with rfl | rfl
  ·exact⟨(n / 18 % 99).toNat,by omega,by rw[Int.toNat_of_nonneg c0];rfl⟩
  ·exact⟨(n / 18 % 30).toNat,by omega,by rw[Int.toNat_of_nonneg d0];rfl⟩
 obtain⟨b,hb,eb⟩:=gb
 refine lF (br (by intro _ _ z;cases z)) eb ?_
 dsimp only[Sw.wSs,Sw.wS,Sw.wE,Sw.wT,Sw.wEs,Sw.wTs,Sw.wI,Sw.wP,Sw.keyOf,Sw.vars,L2.start,Sw.ax,Sw.aw,Sw.ah,Sw.ag,Sw.ao,Sw.ak,Sw.az,Sw.ay,Sw.au,Sw.aq,Sw.aj,Sw.ai,Sw.av,Sw.ab,Nat.reduceAdd,Nat.reduceSub]
 rw[Sw.v_mod]
 refine⟨by decide,by decide,fun q hq mq=>?_⟩
 have x2:=Ext.upd (o:=.lst [V.int (n / 18 % 99),V.int (n / 18 % 30)]) hp2 mp2
 have t0:0<=n % 6:=Int.emod_nonneg _ (by decide)
 have t1:n % 6 < 6:=Int.emod_lt_of_pos _ (by decide)
 have xx:=(x1.trans x2).trans (Ext.upd (o:=.tup [V.int (n % 6),V.str (eB k),V.int b]) hq mq)
 have hH:H q=none:=by
  cases z:H q with
  | none=>rfl
  | some o=>
   have:=(x1.trans x2).same _ _ z
   rw[hq]at this;cases this
 refine h ⟨(n % 6).toNat,k,b⟩ _ q ⟨by show(n % 6).toNat < 6;omega,hk,hb⟩ xx mq ?_ hH
 rw[aA]
 unfold Lt.vs
 rw[Int.toNat_of_nonneg t0]
end Lw
namespace Lw
open PySem PySem.Spec PyProof.Rows L2 Sw Wd Tx Rl
variable {M:Mo}
theorem Dh {H:Hp} {a:Addr} {o:HO} (h:H a=some o) (n:∀ob u,o ≠ .frz ob u):rd M H a=some o:=by
 unfold rd
 rw[h]
 cases o<;>first | rfl | exact absurd rfl (n _ _)
theorem ip {H:Hp} {a:Addr} {xs:List V} (h:H a=some (.lst xs)):rd M H a=some (.lst xs):=Dh h (fun _ _ z=>nomatch z)
theorem Dg {H:Hp} {a:Addr} {xs:List V} (h:H a=some (.tup xs)):rd M H a=some (.tup xs):=Dh h (fun _ _ z=>nomatch z)
noncomputable def yw (H:Hp) (a:Addr) (x:Lt):Prop:=H a=some (.tup x.vs)
noncomputable def mE (H:Hp) (a:Addr) (ts:List Lt):Prop:=∃qs:List Addr,H a=some (.lst (qs.map V.ref))/\Paired (yw H) qs ts
noncomputable def ie (H:Hp) (a:Addr) (as:List (List Lt)):Prop:=∃rs:List Addr,H a=some (.lst (rs.map V.ref))/\Paired (mE H) rs as
theorem mE.mono {H H':Hp} {a:Addr} {ts:List Lt} (s:Sub H H') (h:mE H a ts):mE H' a ts:=by
 obtain⟨qs,h1,h2⟩:=h
 exact⟨qs,s _ _ h1 (fun ps z=>nomatch z),L2.Paired.fN h2 fun r x z=>s _ _ z (fun ps y=>nomatch y)⟩
theorem ie.mono {H H':Hp} {a:Addr} {as:List (List Lt)} (s:Sub H H') (h:ie H a as):ie H' a as:=by
 obtain⟨rs,h1,h2⟩:=h
 exact⟨rs,s _ _ h1 (fun ps z=>nomatch z),L2.Paired.fN h2 fun r x z=>z.mono s⟩
theorem yw.upd {H:Hp} {a p:Addr} {x:Lt} {l:List V} {o:HO} (h:yw H a x) (hp:H p=some (.lst l)):yw (upd H p o) a x:=by
 unfold yw at h ⊢
 rw[ae (fun z=>by rw[z,hp]at h;cases h)]
 exact h
theorem mE.upd {H:Hp} {a p:Addr} {ts:List Lt} {l:List V} {o:HO} (h:mE H a ts) (hp:H p=some (.lst l)) (ne:a ≠ p):mE (upd H p o) a ts:=by
 obtain⟨qs,h1,h2⟩:=h
 exact⟨qs,by rw[ae ne];exact h1,L2.Paired.fN h2 fun r x z=>z.upd hp⟩
structure vd (ts:List Lt):Prop where
 ne:ts ≠ []
 len:ts.length<=3
 all:∀x ∈ ts,x.Ok
structure rO (as:List (List Lt)):Prop where
 ne:as ≠ []
 len:as.length<=3
 all:∀x ∈ as,vd x
theorem xJ {Hb Hm H':Hp} {D:Addr} {y:HO} (e:Ext M Hb (era Hm D)) (x:Ext M Hm H') (mD:M D=none):Ext M Hb (era (upd H' D y) D):=by
 refine⟨fun b o h=>?_,fun b m h=>?_⟩
 ·obtain⟨ne,h⟩:=dJ (e.same b o h)
  rw[aI ne,ae ne]
  exact x.same b o h
 ·have ne:b ≠ D:=fun z=>m (by rw[z];exact mD)
  have:=e.off b m h
  rw[aI ne]at this ⊢
  rw[ae ne]
  exact x.off b m this
theorem rq {Hb:Hp} {D:Addr} {y:HO} (hD:Hb D=none) (mD:M D=none):Ext M Hb (era (upd Hb D y) D):=by
 refine⟨fun b o h=>?_,fun b m h=>?_⟩
 ·have ne:=aD h hD
  rw[aI ne,ae ne]
  exact h
 ·have ne:b ≠ D:=fun z=>m (by rw[z];exact mD)
  rw[aI ne,ae ne]
  exact h
theorem iC {Hb Hm:Hp} {D:Addr} (e:Ext M Hb (era Hm D)) (mD:M D=none):Ext M Hb Hm:=
 ⟨fun b o h=>(dJ (e.same b o h)).2,fun b m h=>by
  have:=e.off b m h
  rwa[aI (fun z=>m (by rw[z];exact mD))]at this⟩
theorem DF {Hb Hm:Hp} {D b:Addr} {o:HO} (e:Ext M Hb (era Hm D)) (h:Hb b=some o):b ≠ D:=(dJ (e.same b o h)).1
theorem vW {α β:Type} {F G:α->β->Prop}:∀ {l₁:List α} {l₂:List β},Paired F l₁ l₂->(∀ a ∈ l₁,∀b,F a b->G a b)->Paired G l₁ l₂
 | _,_,.nil,_=>.nil
 | _,_,.cons r t,f=>.cons (f _ List.mem_cons_self _ r) (vW t fun a ha=>f a (List.mem_cons_of_mem _ ha))
structure Gp (Γ:bf) (M:Mo):Prop where
 cm:Γ.cm=true
 mod:Γ.mod=M
 mx:Γ.has "_law_mix" =true/\Γ.fn "_law_mix" =mK
 tm:Γ.has "_law_term" =true/\Γ.fn "_law_term" =nJ M
noncomputable def nN (M:Mo):Sp:=fun vs H Q _=>∃c,vs=[.int c]/\∀as H' a,rO as->Ext M H H'->ie H' a as->Q (.ref a) H'
theorem C8 {Ξ:XS} {Γ:bf} (g:Gp Γ M) {Hb:Hp} {D:Addr} {c k m:Int} (hk:0<=k/\k<=2) (hm:1<=m/\m<=3) (hD:Hb D=none) (mD:M D=none) {K:Hp->Prop}
  (fin:∀Hf ts,vd ts->Ext M Hb (era Hf D)->mE Hf D ts->K Hf):
  cV (wE Γ (.call "_law_term" (.cons (.call "_law_mix" (.cons (.var 1) (.cons (.bin .Add (.bin .Add (.con (.int 70)) (.bin .Mult (.con (.int 3)) (.var 2))) (.var 0)) .nil))) .nil)) Ξ) (fun _ H Q=>Q true H) [some (.int c),some (.int k)] D (fun _=>True)
   ((List.range m.toNat).map fun i:Nat=>V.int i) [] (upd Hb D (.lst [])) K:=by
 obtain rfl:=g.mod
 refine gw (fun n acc Hm=>∃ (qs:List Addr) (xs:List Lt),acc=qs.map V.ref/\qs.length=n/\Hm D=some (.lst acc)/\Paired (yw Hm) qs xs/\(∀ x ∈ xs,x.Ok)/\Ext Γ.mod Hb (era Hm D)) (fun _ _ _ _=>trivial) (fun n acc Hm p=>?_) (by rw[List.length_map,List.length_range];exact Nat.le_trans (show m.toNat<=3 by omega) (by decide)) ?_ ?_ ⟨[],[],rfl,rfl,aA,.nil,(fun x hx=>nomatch hx),rq hD mD⟩
 ·obtain⟨qs,xs,e1,e2,e3,_⟩:=p
  exact⟨e3,by rw[e1,List.length_map];exact e2⟩
 ·intro n v acc Hm Q hv p hQ
  obtain⟨qs,xs,e1,e2,e3,e4,e5,e6⟩:=p
  have hlt:n < m.toNat:=by
   have:=(List.getElem?_eq_some_iff.mp hv).1
   simpa using this
  have ev:v=.int (n:Int):=by
   rw[List.getElem?_map,List.getElem?_range hlt]at hv
   exact(Option.some.inj hv).symm
  subst ev
  dsimp only[Sw.wS,Sw.wE,Sw.wT,Sw.wEs,Sw.wTs,Sw.wI,Sw.wP,Sw.keyOf,Sw.vars,L2.start,Sw.ax,Sw.aw,Sw.ah,Sw.ag,Sw.ao,Sw.ak,Sw.az,Sw.ay,Sw.au,Sw.aq,Sw.aj,Sw.ai,Sw.av,Sw.ab,Nat.reduceAdd,Nat.reduceSub]
  refine⟨⟨g.cm,g.tm.1⟩,⟨g.cm,g.mx.1⟩,?_⟩
  rw[Sw.v_mul]
  refine⟨by rw[show qj 3=true from by decide];rfl,?_⟩
  rw[Sw.v_add,Sw.v_add,g.mx.2]
  refine⟨_,_,rfl,by omega,by omega,?_⟩
  dsimp only
  rw[g.tm.2]
  refine⟨_,rfl,(mV _ _).1,fun x H' a ok x' ma ha hn=>?_⟩
  have hD':H' D=some (.lst acc):=x'.same _ _ e3
  refine hQ (.ref a) H' hD' ⟨qs++[a],xs++[x],by rw[e1,List.map_append];rfl,by rw[List.length_append,e2];rfl,aA,jx (L2.Paired.fN e4 fun r y z=>yw.upd (x'.same _ _ z) hD') (yw.upd ha hD'),fun y hy=>?_,xJ e6 x' mD⟩
  rcases List.mem_append.mp hy with hy | hy
  ·exact e5 y hy
  ·rw[List.mem_singleton.mp hy]
   exact ok
 ·intro acc Hm p
  obtain⟨qs,xs,e1,e2,e3,e4,e5,e6⟩:=p
  have el:xs.length=m.toNat:=by
   rw[<-Paired.length e4,e2]
   simp
  refine fin Hm xs ⟨fun z=>?_,by omega,e5⟩ e6 ⟨qs,by rw[e3,e1],e4⟩
  rw[z]at el
  simp at el
  omega
theorem vv {r:Int} (h0:0<=r) (h1:r<=2):∃j:Int,1<=j/\j<=3/\kK [V.int 3,V.int 3,V.int 2] r=some (.int j):=by
 have:r=0\/r=1\/r=2:=by omega
 rcases this with rfl | rfl | rfl
 ·exact⟨3,by decide,by decide,rfl⟩
 ·exact⟨3,by decide,by decide,rfl⟩
 ·exact⟨2,by decide,by decide,rfl⟩
theorem zC {Γ:bf} (g:Gp Γ M) (vs:List V) (H:Hp) (Q:VK) (E:XK) (h:nN M vs H Q E):cG Γ cK 1 cJ vs H Q E:=by
 obtain⟨c,rfl,h⟩:=h
 refine⟨rfl,?_⟩
 obtain rfl:=g.mod
 unfold cJ
 refine seq ?_
 dsimp only[Sw.wS,Sw.wE,Sw.wT,Sw.wEs,Sw.wTs,Sw.wI,Sw.wP,Sw.keyOf,Sw.vars,L2.start,Sw.ax,Sw.aw,Sw.ah,Sw.ag,Sw.ao,Sw.ak,Sw.az,Sw.ay,Sw.au,Sw.aq,Sw.aj,Sw.ai,Sw.av,Sw.ab,Nat.reduceAdd,Nat.reduceSub]
 refine⟨by decide,fun p hp mp=>?_⟩
 refine seq ?_
 dsimp only[Sw.wS,Sw.wE,Sw.wT,Sw.wEs,Sw.wTs,Sw.wI,Sw.wP,Sw.keyOf,Sw.vars,L2.start,Sw.ax,Sw.aw,Sw.ah,Sw.ag,Sw.ao,Sw.ak,Sw.az,Sw.ay,Sw.au,Sw.aq,Sw.aj,Sw.ai,Sw.av,Sw.ab,Nat.reduceAdd,Nat.reduceSub]
 refine⟨⟨g.cm,g.mx.1⟩,?_⟩
 rw[g.mx.2]
 refine⟨_,_,rfl,by decide,by decide,?_⟩
 dsimp only
 rw[Sw.v_mod]
 refine⟨by decide,?_⟩
 rw[Sw.v_add]
 have c0:0<=dA c 60 % 3:=Int.emod_nonneg _ (by decide)
 have c1:dA c 60 % 3 < 3:=Int.emod_lt_of_pos _ (by decide)
 generalize hcount:1 + dA c 60 % 3=count
 have k0:1<=count:=by omega
 have k1:count<=3:=by omega
 refine seq ?_
 show wS (.fr _ _ _) Γ _ _ _ _
 unfold wS
 refine⟨g.cm,?_⟩
 dsimp only[Sw.wS,Sw.wE,Sw.wT,Sw.wEs,Sw.wTs,Sw.wI,Sw.wP,Sw.keyOf,Sw.vars,L2.start,Sw.ax,Sw.aw,Sw.ah,Sw.ag,Sw.ao,Sw.ak,Sw.az,Sw.ay,Sw.au,Sw.aq,Sw.aj,Sw.ai,Sw.av,Sw.ab,Nat.reduceAdd,Nat.reduceSub]
 refine⟨by omega,by omega,?_⟩
 refine dv (fun n σ Hn=>∃ (rs:List Addr) (as:List (List Lt)) (o3 o4:Option V),σ=[some (.int c),some (.ref p),some (.int count),o3,o4]/\Hn p=some (.lst (rs.map V.ref))/\rs.length=n/\(∀ r ∈ rs,r ≠ p)/\Paired (mE Hn) rs as/\(∀ x ∈ as,vd x)/\Ext Γ.mod H (era Hn p)) (fun _ _ _ _=>trivial) ?_ ?_
  ⟨[],[],none,none,rfl,aA,rfl,(fun r hr=>nomatch hr),.nil,(fun x hx=>nomatch hx),rq hp mp⟩
 ·intro n v σ Hn D' hv pv nx ct _ _
  obtain⟨rs,as,o3,o4,rfl,e1,e2,e3,e4,e5,e6⟩:=pv
  have hlt:n < count.toNat:=by
   have:=(List.getElem?_eq_some_iff.mp hv).1
   simpa using this
  have ev:v=.int (n:Int):=by
   rw[List.getElem?_map,List.getElem?_range hlt]at hv
   exact(Option.some.inj hv).symm
  subst ev
  refine seq ?_
  dsimp only[Sw.wS,Sw.wE,Sw.wT,Sw.wEs,Sw.wTs,Sw.wI,Sw.wP,Sw.keyOf,Sw.vars,L2.start,Sw.ax,Sw.aw,Sw.ah,Sw.ag,Sw.ao,Sw.ak,Sw.az,Sw.ay,Sw.au,Sw.aq,Sw.aj,Sw.ai,Sw.av,Sw.ab,Nat.reduceAdd,Nat.reduceSub]
  refine⟨⟨g.cm,g.mx.1⟩,?_⟩
  rw[Sw.v_add,g.mx.2]
  refine⟨_,_,rfl,by omega,by omega,by decide,fun p2 hp2 mp2=>?_⟩
  rw[Sw.v_sub]
  obtain⟨j,j0,j1,ej⟩:=vv (r:=count - 1) (by omega) (by omega)
  refine lF (br (by intro _ _ z;cases z)) ej ?_
  rw[Sw.v_mod]
  refine⟨by omega,?_⟩
  rw[Sw.v_add]
  have m0:0<=dA c (61 + n) % j:=Int.emod_nonneg _ (by omega)
  have m1:dA c (61 + n) % j < j:=Int.emod_lt_of_pos _ (by omega)
  generalize hmany:1 + dA c (61 + n) % j=many
  have x2:=Ext.upd (M:=Γ.mod) (o:=.lst [V.int 3,V.int 3,V.int 2]) hp2 mp2
  have hb1:=x2.same _ _ e1
  refine seq ?_
  dsimp only[Sw.wS,Sw.wE,Sw.wT,Sw.wEs,Sw.wTs,Sw.wI,Sw.wP,Sw.keyOf,Sw.vars,L2.start,Sw.ax,Sw.aw,Sw.ah,Sw.ag,Sw.ao,Sw.ak,Sw.az,Sw.ay,Sw.au,Sw.aq,Sw.aj,Sw.ai,Sw.av,Sw.ab,Nat.reduceAdd,Nat.reduceSub]
  have mt:AA Γ.mod .append (.ref p) (upd Hn p2 (.lst [V.int 3,V.int 3,V.int 2]))=true:=by
   show(match rd Γ.mod _ p with | some (.lst _)=>true | _=>false)=true
   rw[ip hb1]
  refine⟨mt,g.cm,by omega,by omega,fun D hD mD=>?_⟩
  refine C8 g ⟨by omega,by omega⟩ ⟨by omega,by omega⟩ hD mD fun Hf ts okt xf alt=>?_
  rw[Sw.lz]
  have hpf:Hf p=some (.lst (rs.map V.ref)):=(iC xf mD).same _ _ hb1
  rw[hpf]
  dsimp only
  refine⟨by rw[List.length_map,e2];exact Nat.lt_of_lt_of_le (Nat.lt_of_lt_of_le hlt (by omega:count.toNat<=3)) (by decide),?_⟩
  refine eI (nx _ _ ⟨rs++[D],as++[ts],some (.int n),some (.int many),rfl,?_,by rw[List.length_append,e2];rfl,?_,jx (vW e4 fun r hr y z=>(z.mono (Sub.mR (x2.trans (iC xf mD)))).upd hpf (e3 r hr)) (alt.upd hpf (DF xf hb1).symm),?_,?_⟩)
  ·rw[aA,List.map_append]
   rfl
  ·intro r hr
   rcases List.mem_append.mp hr with hr | hr
   ·exact e3 r hr
   ·rw[List.mem_singleton.mp hr]
    exact(DF xf hb1).symm
  ·intro y hy
   rcases List.mem_append.mp hy with hy | hy
   ·exact e5 y hy
   ·rw[List.mem_singleton.mp hy]
    exact okt
  ·exact xJ e6 (x2.trans (iC xf mD)) mp
 ·intro σ Hn pv
  obtain⟨rs,as,o3,o4,rfl,e1,e2,e3,e4,e5,e6⟩:=pv
  have el:as.length=count.toNat:=by
   rw[<-Paired.length e4,e2]
   simp
  dsimp only[Sw.wSs,Sw.wS,Sw.wE,Sw.wT,Sw.wEs,Sw.wTs,Sw.wI,Sw.wP,Sw.keyOf,Sw.vars,L2.start,Sw.ax,Sw.aw,Sw.ah,Sw.ag,Sw.ao,Sw.ak,Sw.az,Sw.ay,Sw.au,Sw.aq,Sw.aj,Sw.ai,Sw.av,Sw.ab,Nat.reduceAdd,Nat.reduceSub]
  refine h as Hn p ⟨fun z=>?_,by omega,e5⟩ (iC e6 mp) ⟨rs,e1,e4⟩
  rw[z]at el
  simp at el
  omega
end Lw
namespace Lw
open PySem PySem.Spec PyProof.Rows L2 Sw Wd Tx Rl
variable {M:Mo}
noncomputable def yH (M:Mo):Sp:=fun vs H Q _=>∃a x,vs=[.ref a]/\yw H a x/\x.Ok/\Q (.str (jq x.code)) H
theorem xh {k:Nat} (h:k < 3):decide (eB k=Str.ofString "sizes")=decide (k=2):=by
 have:k=0\/k=1\/k=2:=by omega
 rcases this with rfl | rfl | rfl<;>decide +kernel
theorem zG {t:Nat} (h:t < 6):(Txt.mul (Str.ofString "no ") t).length<=15:=by
 rw[cq]
 show(Txt.mul (Str.ofString "no ") t).cps.toList.length<=15
 rw[qZ h,n6]
 omega
theorem DA {Γ:bf} (hc:Γ.cm=true) (hM:Γ.mod=M) (vs:List V) (H:Hp) (Q:VK) (E:XK) (h:yH M vs H Q E):cG Γ dm 1 di vs H Q E:=by
 subst hM
 obtain⟨a,x,rfl,ha,ok,h⟩:=h
 refine⟨rfl,?_⟩
 unfold di
 refine seq ?_
 show wS (.asgT _ _) Γ _ _ _ _
 unfold wS
 refine⟨hc,?_⟩
 dsimp only[Sw.wS,Sw.wE,Sw.wT,Sw.wEs,Sw.wTs,Sw.wI,Sw.wP,Sw.keyOf,Sw.vars,L2.start,Sw.ax,Sw.aw,Sw.ah,Sw.ag,Sw.ao,Sw.ak,Sw.az,Sw.ay,Sw.au,Sw.aq,Sw.aj,Sw.ai,Sw.av,Sw.ab,Nat.reduceAdd,Nat.reduceSub]
 rw[Dg ha]
 dsimp only
 refine⟨rfl,?_⟩
 have hml:=zG ok.t
 have no3:(Str.ofString "no ").length=3:=by decide +kernel
 have mulOk: -(2 ^ 63)<=(x.t:Int)/\(x.t:Int) < 2 ^ 63/\(Str.ofString "no ").length * ((x.t:Int)).toNat<=16777216:=by
  have:=ok.t
  rw[no3]
  refine⟨by omega,by omega,by omega⟩
 refine seq ?_
 show wS (.iff _ _ _) Γ _ _ [some (.ref a),some (.int x.t),some (.str (eB x.k)),some (.int x.b)] H
 dsimp only[Sw.wS,Sw.wE,Sw.wT,Sw.wEs,Sw.wTs,Sw.wI,Sw.wP,Sw.keyOf,Sw.vars,L2.start,Sw.ax,Sw.aw,Sw.ah,Sw.ag,Sw.ao,Sw.ak,Sw.az,Sw.ay,Sw.au,Sw.aq,Sw.aj,Sw.ai,Sw.av,Sw.ab,Nat.reduceAdd,Nat.reduceSub]
 rw[Sw.jX,xh ok.k]
 refine⟨_,rfl,?_⟩
 by_cases e:x.k=2
 ·rw[if_pos (decide_eq_true e)]
  dsimp only[Sw.wSs,Sw.wS,Sw.wE,Sw.wT,Sw.wEs,Sw.wTs,Sw.wI,Sw.wP,Sw.keyOf,Sw.vars,L2.start,Sw.ax,Sw.aw,Sw.ah,Sw.ag,Sw.ao,Sw.ak,Sw.az,Sw.ay,Sw.au,Sw.aq,Sw.aj,Sw.ai,Sw.av,Sw.ab,Nat.reduceAdd,Nat.reduceSub]
  rw[Sw.jo]
  refine⟨mulOk,?_⟩
  rw[Sw.eh]
  have s6:(Str.ofString "sizes ").length=6:=by decide +kernel
  refine⟨by rw[s6];exact Nat.le_trans (Nat.add_le_add_right hml 6) (by decide),hc,?_⟩
  rw[Sw.yb]
  have hb:=ok.b
  refine⟨?_,?_⟩
  ·have:((x.b:Int)).natAbs.log2<=98:=Nat.le_trans (Nat.log2_le_self _) (by omega)
   omega
  ·rw[Sw.eh]
   have hw:=(dH (x.b:Int) (by omega) (by omega)).2
   refine⟨?_,?_⟩
   ·rw[len_app,s6]
    exact Nat.le_trans (Nat.add_le_add (Nat.add_le_add_right hml 6) hw) (by decide)
   ·rw[B_ ok.t]
    have ec:x.code=(x.t,x.b + 2):=by
     unfold Lt.code
     rw[if_neg (by omega),if_neg (by omega)]
    rw[ec]at h
    exact h
 ·rw[if_neg (by simpa using e)]
  dsimp only[Sw.wSs,Sw.wS,Sw.wE,Sw.wT,Sw.wEs,Sw.wTs,Sw.wI,Sw.wP,Sw.keyOf,Sw.vars,L2.start,Sw.ax,Sw.aw,Sw.ah,Sw.ag,Sw.ao,Sw.ak,Sw.az,Sw.ay,Sw.au,Sw.aq,Sw.aj,Sw.ai,Sw.av,Sw.ab,Nat.reduceAdd,Nat.reduceSub]
  rw[Sw.jo]
  refine⟨mulOk,?_⟩
  rw[Sw.eh]
  have hk:x.k=0\/x.k=1:=by
   have:=ok.k
   omega
  have kk:eB x.k=a_ (x.code).2/\(eB x.k).length<=6:=by
   unfold Lt.code
   rcases hk with q | q
   ·rw[q];exact⟨(show eB 0=a_ 0 from by decide +kernel),by decide +kernel⟩
   ·rw[q];exact⟨(show eB 1=a_ 1 from by decide +kernel),by decide +kernel⟩
  refine⟨Nat.le_trans (Nat.add_le_add hml kk.2) (by decide),?_⟩
  rw[kk.1,Ca ok.t]
  exact h
structure Gn (Γ:bf) (M:Mo):Prop where
 cm:Γ.cm=true
 mod:Γ.mod=M
 tt:Γ.has "_law_term_text" =true/\Γ.fn "_law_term_text" =yH M
@[reducible] noncomputable def codes (as:List (List Lt)):List (List (Nat × Nat)):=as.map fun ts=>ts.map Lt.code
theorem vd.codes {ts:List Lt} (h:vd ts):CQ (ts.map Lt.code):=⟨by simpa using h.ne,by rw[List.length_map];exact Nat.le_trans h.len (by decide),fun x hx=>by
 obtain⟨y,hy,rfl⟩:=List.mem_map.mp hx
 exact(h.all y hy).code⟩
theorem rO.codes {as:List (List Lt)} (h:rO as):EX (codes as):=⟨by simpa using h.ne,by rw[List.length_map];exact Nat.le_trans h.len (by decide),fun x hx=>by
 obtain⟨y,hy,rfl⟩:=List.mem_map.mp hx
 exact(h.all y hy).codes⟩
noncomputable def nI (M:Mo):Sp:=fun vs H Q _=>∃a as,vs=[.ref a]/\rO as/\ie H a as/\∀H',Ext M H H'->Q (.str (fX (codes as))) H'
theorem mP {α β:Type} {G:α->β->Prop}:∀ {l₁:List α} {l₂:List β} {n:Nat} {a:α},Paired G l₁ l₂->l₁[n]?=some a->∃b,l₂[n]?=some b/\G a b
 | _,_,_,_,.nil,e=>by simp at e
 | _,_,0,_,.cons r _,e=>by simp at e;subst e;exact⟨_,rfl,r⟩
 | _,_,n + 1,_,.cons _ t,e=>by
  obtain⟨b,h1,h2⟩:=mP (n:=n) t (by simpa using e)
  exact⟨b,by simpa using h1,h2⟩
theorem pC:∀ {a b:List Addr},a.map V.ref=b.map V.ref->a=b
 | [],[],_=>rfl
 | [],_::_,h=>by simp at h
 | _::_,[],h=>by simp at h
 | x::a,y::b,h=>by
  simp only[List.map_cons,List.cons.injEq,V.ref.injEq]at h
  rw[h.1,pC h.2]
theorem qF {Ξ:XS} {Γ:bf} (g:Gn Γ M) {Hb:Hp} {r D:Addr} {ts:List Lt} (ok:vd ts) (alt:mE Hb r ts) (hD:Hb D=none) {qs:List Addr} (hq:Hb r=some (.lst (qs.map V.ref))) {K:Hp->Prop} {st:Hp->Prop} (hst:∀l,st (upd Hb D (.lst l)))
  (fin:K (upd Hb D (.lst ((ts.map fun x=>jq x.code).map V.str)))):
  cV (wE Γ (.call "_law_term_text" (.cons (.var 0) .nil)) Ξ) (fun _ H Q=>Q true H) [] D st (qs.map V.ref) [] (upd Hb D (.lst [])) K:=by
 obtain rfl:=g.mod
 obtain⟨qs',h1,h2⟩:=alt
 rw[hq]at h1
 have eq':qs'=qs:=by
  have:=HO.lst.inj (Option.some.inj h1)
  exact(pC this).symm
 subst eq'
 have len:=Paired.length h2
 refine gw (fun n acc Hm=>Hm=upd Hb D (.lst acc)/\acc=((ts.take n).map fun x=>jq x.code).map V.str/\n<=ts.length) (fun n acc Hm p=>by rw[p.1];exact hst _) (fun n acc Hm p=>⟨by rw[p.1];exact aA,by rw[p.2.1];simp;exact Nat.min_eq_left p.2.2⟩) (by rw[List.length_map,len];exact Nat.le_trans ok.len (by decide)) ?_ ?_ ⟨rfl,rfl,Nat.zero_le _⟩
 ·intro n v acc Hm Q hv p hQ
  obtain⟨rfl,e2,e3⟩:=p
  obtain⟨q,eq1,rfl⟩:∃q,qs'[n]?=some q/\V.ref q=v:=by
   rw[List.getElem?_map]at hv
   exact Option.map_eq_some_iff.mp hv
  obtain⟨x,ex,hx⟩:=mP h2 eq1
  show(Γ.cm=true/\Γ.has "_law_term_text" =true)/\Γ.fn "_law_term_text" [.ref q] _ Q _
  rw[g.tt.2]
  refine⟨⟨g.cm,g.tt.1⟩,q,x,rfl,?_,ok.all x (List.mem_of_getElem? ex),hQ _ _ aA ⟨by rw[eK],?_,?_⟩⟩
  ·unfold yw at hx ⊢
   rw[ae (aD hx hD)]
   exact hx
  ·rw[e2,List.take_succ,ex]
   simp
  ·have:=(List.getElem?_eq_some_iff.mp ex).1
   omega
 ·intro acc Hm p
  obtain⟨rfl,e2,e3⟩:=p
  rw[List.length_map,len,List.take_of_length_le (Nat.le_refl _)]at e2
  rw[e2]
  exact fin
theorem zw {Γ:bf} (g:Gn Γ M) (vs:List V) (H:Hp) (Q:VK) (E:XK) (h:nI M vs H Q E):cG Γ dq 1 dj vs H Q E:=by
 obtain⟨a,as,rfl,ok,⟨rs,h1,h2⟩,h⟩:=h
 refine⟨rfl,?_⟩
 have gm:=g.mod
 obtain rfl:=gm
 unfold dj
 dsimp only[Sw.wSs,Sw.wS,Sw.wE,Sw.wT,Sw.wEs,Sw.wTs,Sw.wI,Sw.wP,Sw.keyOf,Sw.vars,L2.start,Sw.ax,Sw.aw,Sw.ah,Sw.ag,Sw.ao,Sw.ak,Sw.az,Sw.ay,Sw.au,Sw.aq,Sw.aj,Sw.ai,Sw.av,Sw.ab,Nat.reduceAdd,Nat.reduceSub]
 refine⟨rfl,g.cm,?_⟩
 show bD Γ.mod (.ref a) _ _
 unfold bD
 dsimp only
 rw[ip h1]
 dsimp only
 intro D hD mD
 have len:=Paired.length h2
 refine gw (fun n acc Hm=>Hm D=some (.lst acc)/\acc=((as.take n).map fun ts=>dE (ts.map Lt.code)).map V.str/\n<=as.length/\Ext Γ.mod H (era Hm D)) (fun n acc Hm p=>?_) (fun n acc Hm p=>⟨p.1,by rw[p.2.1];simp;exact Nat.min_eq_left p.2.2.1⟩) (by rw[List.length_map,len];exact Nat.le_trans ok.len (by decide)) ?_ ?_ ⟨aA,rfl,Nat.zero_le _,rq hD mD⟩
 ·exact ip ((iC p.2.2.2 mD).same _ _ h1)
 ·intro n v acc Hm Q1 hv p hQ
  obtain⟨e1,e2,e3,e4⟩:=p
  obtain⟨r,er,rfl⟩:∃r,rs[n]?=some r/\V.ref r=v:=by
   rw[List.getElem?_map]at hv
   exact Option.map_eq_some_iff.mp hv
  obtain⟨ts,ets,alt⟩:=mP h2 er
  have alt':=alt.mono (Sub.mR (iC e4 mD))
  have okt:=ok.all ts (List.mem_of_getElem? ets)
  obtain⟨qs,hq,_⟩:=id alt'
  dsimp only[Sw.wSs,Sw.wS,Sw.wE,Sw.wT,Sw.wEs,Sw.wTs,Sw.wI,Sw.wP,Sw.keyOf,Sw.vars,L2.start,Sw.ax,Sw.aw,Sw.ah,Sw.ag,Sw.ao,Sw.ak,Sw.az,Sw.ay,Sw.au,Sw.aq,Sw.aj,Sw.ai,Sw.av,Sw.ab,Nat.reduceAdd,Nat.reduceSub]
  refine⟨rfl,g.cm,?_⟩
  rw[ip hq]
  dsimp only
  intro D2 hD2 mD2
  have x2:∀l,Ext Γ.mod Hm (upd Hm D2 (.lst l)):=fun l=>Ext.upd hD2 mD2
  refine qF g okt alt' hD2 hq (fun l=>ip ((x2 l).same _ _ hq)) ?_
  refine oo (ts:=ts.map fun x=>jq x.code) (br (by intro _ _ z;cases z)) (rj _ _ 40 (fun x hx=>?_) ?_) ?_
  ·obtain⟨y,hy,rfl⟩:=List.mem_map.mp hx
   have:=(okt.all y hy).code
   exact rV this.1 this.2
  ·rw[List.length_map,show(Str.ofString " and ").length=5 from by decide +kernel]
   have:=okt.len
   omega
  ·refine hQ _ _ ((x2 _).same _ _ e1) ⟨aA,?_,?_,xJ e4 (x2 _) mD⟩
   ·rw[e2,List.take_succ,ets]
    have et:Txt.join (Str.ofString " and ") (ts.map fun x=>jq x.code)=dE (ts.map Lt.code):=by
     unfold dE
     rw[List.map_map]
     rfl
    rw[et]
    simp
   ·have:=(List.getElem?_eq_some_iff.mp ets).1
    omega
 ·intro acc Hm p
  obtain⟨e1,e2,e3,e4⟩:=p
  rw[List.length_map,len,List.take_of_length_le (Nat.le_refl _)]at e2
  rw[e2]at e1
  refine oo (ts:=as.map fun ts=>dE (ts.map Lt.code)) (ip e1) (rj _ _ 450 (fun x hx=>?_) ?_) ?_
  ·obtain⟨y,hy,rfl⟩:=List.mem_map.mp hx
   exact oK (ok.all y hy).codes
  ·rw[List.length_map,show(Str.ofString " or ").length=4 from by decide +kernel]
   have:=ok.len
   omega
  ·have et:Txt.join (Str.ofString " or ") (as.map fun ts=>dE (ts.map Lt.code))=fX (codes as):=by
    unfold fX
    rw[List.map_map]
    rfl
   rw[et]
   exact h Hm (iC e4 mD)
end Lw
namespace Sw
open PySem PySem.Spec PyProof.Rows L2
theorem rC {te:TE} {tt:TT} {fvs:L2.St} {D:Addr} {aC:Hp->Prop} {H0:Hp} {k:Hp->Prop} (f:V->V) (p:V->Bool):∀ (xs acc:List V),(∀ v ∈ xs,∀l Q,Q (p v) (upd H0 D (.lst l))->tt (some v::fvs) (upd H0 D (.lst l)) Q)->(∀ v ∈ xs,∀l Q,Q (f v) (upd H0 D (.lst l))->te (some v::fvs) (upd H0 D (.lst l)) Q)->
  (∀ l,aC (upd H0 D (.lst l)))->acc.length + xs.length<=sizeLine->k (upd H0 D (.lst (acc++(xs.filter p).map f)))->cV te tt fvs D aC xs acc (upd H0 D (.lst acc)) k:=by
 intro xs
 induction xs with
 | nil=>
  intro acc h0 h1 h2 h3 h4
  exact⟨h2 _,aA,by simpa using h4⟩
 | cons v r ih=>
  intro acc h0 h1 h2 h3 h4
  refine⟨h2 _,h0 v List.mem_cons_self _ _ ?_⟩
  cases q:p v with
  | true=>
   rw[if_pos rfl]
   refine h1 v List.mem_cons_self _ _ ⟨aA,by rw[List.length_cons]at h3;omega,?_⟩
   rw[eK]
   refine ih (acc++[f v]) (fun v hv=>h0 v (List.mem_cons_of_mem _ hv)) (fun v hv=>h1 v (List.mem_cons_of_mem _ hv)) h2 (by rw[List.length_append];simp at h3 ⊢;omega) ?_
   rw[List.filter_cons_of_pos q]at h4
   simpa using h4
  | false=>
   rw[if_neg (by decide)]
   refine ih acc (fun v hv=>h0 v (List.mem_cons_of_mem _ hv)) (fun v hv=>h1 v (List.mem_cons_of_mem _ hv)) h2 (by simp at h3 ⊢;omega) ?_
   rw[List.filter_cons_of_neg (by rw[q];decide)]at h4
   exact h4
end Sw
namespace Lw
open PySem PySem.Spec PyProof.Rows L2 Sw Wd Tx Rl
variable {M:Mo}
noncomputable def pl (x:Lt):Pl:=vY x.code.2
noncomputable def tm (x:Lt):Rl.Tm:=nE x.code
noncomputable def kr (M:Mo):Sp:=fun vs H Q _=>∃x a b s t,vs=[.str (eB (Lt.k x)),.int (Lt.b x),.ref a,.ref b]/\Lt.Ok x/\bX M H a s/\bX M H b t/\s.Ok/\t.Ok/\∀H',Ext M H H'->Q (.bl ((pl x).bb s t)) H'
noncomputable def qR:List V:=[.str "O O",.str "O A",.str "O B",.str "O AB",.str "A A",.str "A AB",.str "B B",.str "B AB",.str "AB AB"]
theorem p6 {g t:Str} (hg:isGroup g=true) (ht:isGroup t=true):uR (.str (g++Str.ofString " " ++t)) qR=ER g t/\(g++Str.ofString " ").length<=3/\t.length<=2/\g.length<=2:=by
 rcases gk hg with rfl | rfl | rfl | rfl<;>rcases gk ht with rfl | rfl | rfl | rfl<;>decide +kernel
theorem xV {H:Hp} {p:Addr} {ws:List Str} (n:Nat) (h:rd M H p=some (.lst (ws.map V.str))):data M H (n + 1) (.ref p)=some (.list (ws.map PyData.str)):=by
 unfold data
 rw[h]
 dsimp only
 have e:allM (data M H n) (ws.map V.str)=some (ws.map PyData.str):=by
  clear h
  induction ws with
  | nil=>rfl
  | cons w r ih=>
   simp only[List.map_cons,allM]
   rw[ih]
   cases n<;>rfl
 rw[e]
 rfl
theorem eq_nil (ws:List PyData):PyData.eqv (.list ws) (.list [])=ws.isEmpty:=by
 cases ws with
 | nil=>simp[PyData.eqv,PyData.eqvAll]
 | cons a r=>simp[PyData.eqv,PyData.eqvAll]
theorem zT {H:Hp} {Q:VK} {a b:Addr}:eJ M .Eq (.ref a) (.ref b) H Q=(match data M H 16 (.ref a),data M H 16 (.ref b)with | some d,some e=>Q (.bl (PyData.eqv d e)) H | _,_=>False):=rfl
theorem q9 (a b:Str):(((cps a).filter fun c=>decide (c ∈ cps b)).map fun c=>(⟨#[c]⟩:Str)).isEmpty=BZ a b:=by
 unfold BZ
 induction cps a with
 | nil=>rfl
 | cons c r ih=>
  by_cases h:c ∈ cps b
  ·rw[List.filter_cons_of_pos (by simpa using h),List.any_cons,decide_eq_true h]
   rfl
  ·rw[List.filter_cons_of_neg (by simpa using h),List.any_cons,decide_eq_false h,Bool.false_or]
   exact ih
theorem qI (s t:Sd) (n:Int):(decide (s.n - t.n<=n) && decide (t.n - s.n<=n))=decide (h_ s t<=n):=by
 unfold h_
 rw[Bool.eq_iff_iff]
 simp only[Bool.and_eq_true,decide_eq_true_eq]
 split<;>omega
theorem Fs {k:Nat} (h:k < 3):decide (eB k=Str.ofString "groups")=decide (k=0):=by
 have:k=0\/k=1\/k=2:=by omega
 rcases this with rfl | rfl | rfl<;>decide +kernel
theorem Fq {k:Nat} (h:k < 3):decide (eB k=Str.ofString "marks")=decide (k=1):=by
 have:k=0\/k=1\/k=2:=by omega
 rcases this with rfl | rfl | rfl<;>decide +kernel
theorem wF {Γ:bf} (hc:Γ.cm=true) (hM:Γ.mod=M) (vs:List V) (H:Hp) (Q:VK) (E:XK) (h:kr M vs H Q E):cG Γ fH 4 fw vs H Q E:=by
 subst hM
 obtain⟨x,a,b,s,t,rfl,ok,ha,hb,os,ot,h⟩:=h
 refine⟨rfl,?_⟩
 unfold fw
 refine seq ?_
 dsimp only[Sw.wS,Sw.wE,Sw.wT,Sw.wEs,Sw.wTs,Sw.wI,Sw.wP,Sw.keyOf,Sw.vars,L2.start,Sw.ax,Sw.aw,Sw.ah,Sw.ag,Sw.ao,Sw.ak,Sw.az,Sw.ay,Sw.au,Sw.aq,Sw.aj,Sw.ai,Sw.av,Sw.ab,Nat.reduceAdd,Nat.reduceSub]
 rw[Sw.jX,Fs ok.k]
 refine⟨_,rfl,?_⟩
 by_cases e0:x.k=0
 ·rw[if_pos (decide_eq_true e0)]
  have ep:pl x=.gr:=by unfold pl Lt.code;rw[if_pos e0];rfl
  rw[ep]at h
  refine seq ?_
  dsimp only[Sw.wS,Sw.wE,Sw.wT,Sw.wEs,Sw.wTs,Sw.wI,Sw.wP,Sw.keyOf,Sw.vars,L2.start,Sw.ax,Sw.aw,Sw.ah,Sw.ag,Sw.ao,Sw.ak,Sw.az,Sw.ay,Sw.au,Sw.aq,Sw.aj,Sw.ai,Sw.av,Sw.ab,Nat.reduceAdd,Nat.reduceSub]
  refine⟨by decide,fun p hp mp=>?_⟩
  have x1:=Ext.upd (M:=Γ.mod) (o:=.lst qR) hp mp
  obtain⟨f1,f2,f3,f4⟩:=p6 os.g ot.g
  dsimp only[Sw.wSs,Sw.wS,Sw.wE,Sw.wT,Sw.wEs,Sw.wTs,Sw.wI,Sw.wP,Sw.keyOf,Sw.vars,L2.start,Sw.ax,Sw.aw,Sw.ah,Sw.ag,Sw.ao,Sw.ak,Sw.az,Sw.ay,Sw.au,Sw.aq,Sw.aj,Sw.ai,Sw.av,Sw.ab,Nat.reduceAdd,Nat.reduceSub]
  refine(ha.ext x1).i0 ?_
  rw[Sw.eh]
  refine⟨Nat.le_trans (Nat.add_le_add f4 (show(Str.ofString " ").length<=1 from by decide +kernel)) (by decide),(hb.ext x1).i0 ?_⟩
  rw[Sw.eh]
  refine⟨Nat.le_trans (Nat.add_le_add f2 f3) (by decide),?_⟩
  show(match rd Γ.mod (upd H p (.lst qR)) p with | some (.lst xs)=>cL _=true/\xs.all cL=true/\Q (.bl (uR _ xs)) _ | some (.tup xs)=>_ | _=>False)
  rw[br (by intro _ _ z;cases z)]
  refine⟨rfl,by decide +kernel,?_⟩
  rw[f1]
  exact h _ x1
 rw[if_neg (by simpa using e0)]
 refine seq ?_
 dsimp only[Sw.wS,Sw.wE,Sw.wT,Sw.wEs,Sw.wTs,Sw.wI,Sw.wP,Sw.keyOf,Sw.vars,L2.start,Sw.ax,Sw.aw,Sw.ah,Sw.ag,Sw.ao,Sw.ak,Sw.az,Sw.ay,Sw.au,Sw.aq,Sw.aj,Sw.ai,Sw.av,Sw.ab,Nat.reduceAdd,Nat.reduceSub]
 rw[Sw.jX,Fq ok.k]
 refine⟨_,rfl,?_⟩
 by_cases e1:x.k=1
 ·rw[if_pos (decide_eq_true e1)]
  have ep:pl x=.mk:=by unfold pl Lt.code;rw[if_neg e0,if_pos e1];rfl
  rw[ep]at h
  dsimp only[Sw.wSs,Sw.wS,Sw.wE,Sw.wT,Sw.wEs,Sw.wTs,Sw.wI,Sw.wP,Sw.keyOf,Sw.vars,L2.start,Sw.ax,Sw.aw,Sw.ah,Sw.ag,Sw.ao,Sw.ak,Sw.az,Sw.ay,Sw.au,Sw.aq,Sw.aj,Sw.ai,Sw.av,Sw.ab,Nat.reduceAdd,Nat.reduceSub]
  refine⟨hc,ha.i2 ⟨kz os.m,fun D hD mD=>?_⟩⟩
  have x1:∀l,Ext Γ.mod H (upd H D (.lst l)):=fun l=>Ext.upd hD mD
  refine rC (fun v=>v) (fun v=>match v with | .str y=>!(Builtin.Str.occurrences t.m y 0 t.m.length 1).isEmpty | _=>false) _ [] ?_ ?_ (fun _=>trivial) (by simpa[cq]using kz os.m) ?_
  ·intro v hv l Q1 q
   obtain⟨c,hc',rfl⟩:=List.mem_map.mp hv
   refine(hb.ext (x1 l)).i2 ?_
   rw[Sw.vm]
   exact⟨_,rfl,q⟩
  ·intro v hv l Q1 q
   exact q
  ·have e:List.map (fun v=>v) (List.filter (fun v=>match v with | V.str y=>!(Builtin.Str.occurrences t.m y 0 t.m.length 1).isEmpty | _=>false) (List.map (fun c=>V.str ⟨#[c]⟩) (cps s.m)))=(((cps s.m).filter fun c=>decide (c ∈ cps t.m)).map fun c=>(⟨#[c]⟩:Str)).map V.str:=by
    rw[List.map_id',List.filter_map,List.map_map]
    refine congrArg _ (List.filter_congr fun c _=>?_)
    show(!(Builtin.Str.occurrences t.m ⟨#[c]⟩ 0 t.m.length 1).isEmpty)=_
    rw[PySem.StrLaws.found_one]
   rw[List.nil_append,e]
   refine⟨by decide,fun p hp mp=>?_⟩
   have x2:=(x1 ((((cps s.m).filter fun c=>decide (c ∈ cps t.m)).map fun c=>(⟨#[c]⟩:Str)).map V.str)).trans (Ext.upd (M:=Γ.mod) (o:=.lst []) hp mp)
   rw[zT]
   have d1:=xV (M:=Γ.mod) (ws:=((cps s.m).filter fun c=>decide (c ∈ cps t.m)).map fun c=>(⟨#[c]⟩:Str)) 15 (H:=upd (upd H D (.lst ((((cps s.m).filter fun c=>decide (c ∈ cps t.m)).map fun c=>(⟨#[c]⟩:Str)).map V.str))) p (.lst [])) (p:=D) (ip (by rw[ae (aD aA hp)];exact aA))
   have d2:=xV (M:=Γ.mod) (ws:=[]) 15 (H:=upd (upd H D (.lst ((((cps s.m).filter fun c=>decide (c ∈ cps t.m)).map fun c=>(⟨#[c]⟩:Str)).map V.str))) p (.lst [])) (p:=p) (ip aA)
   rw[d1,d2]
   show Q (.bl (PyData.eqv (.list _) (.list []))) _
   rw[eq_nil]
   have e3:(List.map PyData.str (((cps s.m).filter fun c=>decide (c ∈ cps t.m)).map fun c=>(⟨#[c]⟩:Str))).isEmpty=BZ s.m t.m:=by
    rw[<-q9 s.m t.m]
    cases ((cps s.m).filter fun c=>decide (c ∈ cps t.m))<;>rfl
   rw[e3]
   exact h _ x2
 ·rw[if_neg (by simpa using e1)]
  have ep:pl x=.sz x.b:=by
   unfold pl Lt.code
   rw[if_neg e0,if_neg e1]
   show vY (x.b + 2)=_
   unfold vY
   rw[if_neg (by omega),if_neg (by omega)]
   rfl
  rw[ep]at h
  dsimp only[Sw.wSs,Sw.wS,Sw.wE,Sw.wT,Sw.wEs,Sw.wTs,Sw.wI,Sw.wP,Sw.keyOf,Sw.vars,L2.start,Sw.ax,Sw.aw,Sw.ah,Sw.ag,Sw.ao,Sw.ak,Sw.az,Sw.ay,Sw.au,Sw.aq,Sw.aj,Sw.ai,Sw.av,Sw.ab,Nat.reduceAdd,Nat.reduceSub]
  refine ha.i1 (hb.i1 ?_)
  rw[Sw.v_sub,Sw.tP,Sw.ff]
  have hs:=qI s t x.b
  have fin:Q (.bl (decide (h_ s t<=(x.b:Int)))) H:=h H Ext.refl
  by_cases q:s.n - t.n<=(x.b:Int)
  ·rw[if_pos (decide_eq_true q)]
   refine hb.i1 (ha.i1 ?_)
   rw[Sw.v_sub,Sw.tP]
   rw[<-hs,decide_eq_true q,Bool.true_and]at fin
   exact fin
  ·rw[if_neg (by simpa using q)]
   rw[<-hs]at fin
   rw[decide_eq_false q]at fin ⊢
   exact fin
structure GU (Γ:bf) (M:Mo):Prop where
 cm:Γ.cm=true
 mod:Γ.mod=M
 pl:Γ.has "_law_plain" =true/\Γ.fn "_law_plain" =kr M
noncomputable def nD (as:List (List Lt)):List (List Rl.Tm):=as.map fun ts=>ts.map tm
noncomputable def tO (as:List (List Lt)):Prop:=∀ts ∈ as,∀x ∈ ts,x.Ok
theorem rO.AG {as:List (List Lt)} (h:rO as):tO as:=fun ts ht x hx=>(h.all ts ht).all x hx
noncomputable def kR (M:Mo):Sp:=fun vs H Q _=>∃a as g b s t,vs=[.ref a,.ref g,.ref b]/\tO as/\ie H a as/\bX M H g s/\bX M H b t/\s.Ok/\t.Ok/\∀H',Ext M H H'->Q (.bl (cW (nD as) s t)) H'
theorem fails (x:Lt) (s t:Sd):decide (((pl x).bb s t)=decide ((x.t:Int) % 2=1))=!((tm x).bb s t):=by
 have e:(tm x).bb s t=if x.t % 2=0 then(pl x).bb s t else !(pl x).bb s t:=rfl
 rw[e]
 by_cases q:x.t % 2=0
 ·rw[if_pos q,decide_eq_false (by omega:¬ (x.t:Int) % 2=1)]
  cases (pl x).bb s t<;>rfl
 ·rw[if_neg q,decide_eq_true (by omega:(x.t:Int) % 2=1)]
  cases (pl x).bb s t<;>rfl
end Lw
namespace Sw
open PySem PySem.Spec PyProof.Rows L2
theorem xF {M:Mo} {is:List Nat} {tb:TS} {aC:Hp->Prop} {D:Ends} {xs:List V} (Pv:Nat->L2.St->Hp->Prop) (st:∀n σ H,Pv n σ H->aC H)
  (step:∀n v σ H (D':Ends),xs[n]?=some v->Pv n σ H->(∀ σ' H',Pv (n + 1) σ' H'->D'.nx σ' H')->(∀ σ' H',Pv (n + 1) σ' H'->D'.ct σ' H')->D'.rt=D.rt->∃p ys,v=.ref p/\rd M H p=some (.tup ys)/\ys.length=is.length/\tb D' (il σ is ys) H)
  (fin:∀σ H,Pv xs.length σ H->D.nx σ H) {σ:L2.St} {H:Hp} (h0:Pv 0 σ H):ic M is tb aC xs D σ H:=by
 have go:∀ (r:List V) (n:Nat),xs.drop n=r->n<=xs.length->∀σ H,Pv n σ H->ic M is tb aC r D σ H:=by
  intro r
  induction r with
  | nil=>
   intro n e hn σ H p
   have:xs.length<=n:=by simpa using e
   have hn':n=xs.length:=by omega
   subst hn'
   exact⟨st _ σ H p,fin σ H p⟩
  | cons v r ih=>
   intro n e hn σ H p
   have hlt:n < xs.length:=by
    have:=congrArg List.length e
    simp at this
    omega
   have hv:xs[n]?=some v:=by
    have:=congrArg (fun l=>l[0]?) e
    simpa using this
   have hr:xs.drop (n + 1)=r:=by
    have:=congrArg List.tail e
    simpa[List.tail_drop]using this
   obtain⟨q,ys,rfl,h1,h2,h3⟩:=step n v σ H {D with nx:=ic M is tb aC r D,ct:=ic M is tb aC r D,bk:=D.nx} hv p (fun σ' H' q=>ih (n + 1) hr hlt σ' H' q) (fun σ' H' q=>ih (n + 1) hr hlt σ' H' q) rfl
   refine⟨st _ σ H p,?_⟩
   show(match rd M H q with | some (.tup xs)=>xs.length=is.length/\tb _ (il σ is xs) H | _=>False)
   rw[h1]
   exact⟨h2,h3⟩
 exact go xs 0 (by simp) (Nat.zero_le _) σ H h0
end Sw
namespace Lw
open PySem PySem.Spec PyProof.Rows L2 Sw Wd Tx Rl
variable {M:Mo}
theorem tF (i j:Int) {H:Hp} {Q:VK}:eQ M .max [.int i,.int j] H Q=Q (.int (if j > i then j else i)) H:=rfl
theorem C6 {α:Type} {l:List α} {n:Nat} {x:α} (h:l[n]?=some x):l.take (n + 1)=l.take n++[x]:=by rw[List.take_succ,h];rfl
theorem zA {Γ:bf} (g:GU Γ M) (vs:List V) (H:Hp) (Q:VK) (E:XK) (h:kR M vs H Q E):cG Γ gT 3 gH vs H Q E:=by
 obtain⟨a,as,gv,b,s,t,rfl,ok,⟨rs,h1,h2⟩,ha,hb,os,ot,h⟩:=h
 refine⟨rfl,?_⟩
 have gm:=g.mod
 obtain rfl:=gm
 unfold gH
 have len:=Paired.length h2
 refine seq ?_
 show wS (.fr _ _ _) Γ _ _ _ _
 unfold wS
 refine⟨g.cm,?_⟩
 dsimp only[Sw.wS,Sw.wE,Sw.wT,Sw.wEs,Sw.wTs,Sw.wI,Sw.wP,Sw.keyOf,Sw.vars,L2.start,Sw.ax,Sw.aw,Sw.ah,Sw.ag,Sw.ao,Sw.ak,Sw.az,Sw.ay,Sw.au,Sw.aq,Sw.aj,Sw.ai,Sw.av,Sw.ab,Nat.reduceAdd,Nat.reduceSub]
 show bD Γ.mod (.ref a) _ _
 unfold bD
 dsimp only
 rw[ip h1]
 dsimp only
 refine dv (fun n σ Hn=>∃o3 o4 o5 o6 o7,σ=[some (.ref a),some (.ref gv),some (.ref b),o3,o4,o5,o6,o7]/\Ext Γ.mod H Hn/\∀ts ∈ as.take n,d_ (ts.map tm) s t=false) (fun n σ Hn p=>?_) ?_ ?_ ⟨none,none,none,none,none,rfl,Ext.refl,fun x hx=>nomatch hx⟩
 ·obtain⟨_,_,_,_,_,_,x,_⟩:=p
  exact ip (x.same _ _ h1)
 ·intro n v σ Hn D' hv pv nx ct rt bk
  obtain⟨o3,o4,o5,o6,o7,rfl,x1,no⟩:=pv
  obtain⟨r,er,rfl⟩:∃r,rs[n]?=some r/\V.ref r=v:=by
   rw[List.getElem?_map]at hv
   exact Option.map_eq_some_iff.mp hv
  obtain⟨ts,ets,alt⟩:=mP h2 er
  obtain⟨qs,hq,hts⟩:=alt.mono (Sub.mR x1)
  have okt:=ok ts (List.mem_of_getElem? ets)
  have lt:=Paired.length hts
  refine seq ?_
  dsimp only[Sw.wS,Sw.wE,Sw.wT,Sw.wEs,Sw.wTs,Sw.wI,Sw.wP,Sw.keyOf,Sw.vars,L2.start,Sw.ax,Sw.aw,Sw.ah,Sw.ag,Sw.ao,Sw.ak,Sw.az,Sw.ay,Sw.au,Sw.aq,Sw.aj,Sw.ai,Sw.av,Sw.ab,Nat.reduceAdd,Nat.reduceSub]
  refine seq ?_
  show wS (.frT _ _ _) Γ _ _ _ _
  unfold wS
  refine⟨g.cm,?_⟩
  dsimp only[Sw.wS,Sw.wE,Sw.wT,Sw.wEs,Sw.wTs,Sw.wI,Sw.wP,Sw.keyOf,Sw.vars,L2.start,Sw.ax,Sw.aw,Sw.ah,Sw.ag,Sw.ao,Sw.ak,Sw.az,Sw.ay,Sw.au,Sw.aq,Sw.aj,Sw.ai,Sw.av,Sw.ab,Nat.reduceAdd,Nat.reduceSub]
  show bD Γ.mod (.ref r) _ _
  unfold bD
  dsimp only
  rw[ip hq]
  dsimp only
  refine xF (fun m σ Hm=>∃o5 o6 o7,σ=[some (.ref a),some (.ref gv),some (.ref b),some (.ref r),some (.bl (d_ ((ts.take m).map tm) s t)),o5,o6,o7]/\Ext Γ.mod Hn Hm) (fun m σ Hm p=>?_) ?_ ?_ ⟨o5,o6,o7,rfl,Ext.refl⟩
  ·obtain⟨_,_,_,_,x⟩:=p
   exact ip (x.same _ _ hq)
  ·intro m v σ Hm D2 hv2 pv2 nx2 ct2 rt2
   obtain⟨o5,o6,o7,rfl,x2⟩:=pv2
   obtain⟨q,eq1,rfl⟩:∃q,qs[m]?=some q/\V.ref q=v:=by
    rw[List.getElem?_map]at hv2
    exact Option.map_eq_some_iff.mp hv2
   obtain⟨x,ex,hx⟩:=mP hts eq1
   refine⟨q,x.vs,rfl,Dg (x2.same _ _ hx),rfl,?_⟩
   show wSs _ Γ X0 D2 [some (.ref a),some (.ref gv),some (.ref b),some (.ref r),some (.bl (d_ ((ts.take m).map tm) s t)),some (.int x.t),some (.str (eB x.k)),some (.int x.b)] Hm
   have xx:=x1.trans x2
   have e3:d_ ((ts.take (m + 1)).map tm) s t=(d_ ((ts.take m).map tm) s t && (tm x).bb s t):=by
    rw[C6 ex]
    unfold d_
    simp
   refine seq ?_
   dsimp only[Sw.wS,Sw.wE,Sw.wT,Sw.wEs,Sw.wTs,Sw.wI,Sw.wP,Sw.keyOf,Sw.vars,L2.start,Sw.ax,Sw.aw,Sw.ah,Sw.ag,Sw.ao,Sw.ak,Sw.az,Sw.ay,Sw.au,Sw.aq,Sw.aj,Sw.ai,Sw.av,Sw.ab,Nat.reduceAdd,Nat.reduceSub]
   refine⟨⟨g.cm,g.pl.1⟩,?_⟩
   try dsimp only
   rw[g.pl.2]
   refine⟨x,gv,b,s,t,rfl,okt x (List.mem_of_getElem? ex),ha.ext xx,hb.ext xx,os,ot,fun H3 x3=>?_⟩
   try dsimp only
   rw[Sw.v_mod]
   refine⟨by decide,?_⟩
   try dsimp only
   rw[Sw.iR,Sw.vn,fails]
   refine⟨_,rfl,?_⟩
   cases q1:(tm x).bb s t with
   | true=>
    rw[if_neg (by decide)]
    refine eI ?_
    refine eI (Γ:=Γ) (Ξ:=X0) (D:=D2) ?_
    refine nx2 _ _ ⟨some (.int x.t),some (.str (eB x.k)),some (.int x.b),?_,x2.trans x3⟩
    rw[e3,q1,Bool.and_true]
   | false=>
    rw[if_pos (by decide)]
    refine seq ?_
    dsimp only[Sw.wS,Sw.wE,Sw.wT,Sw.wEs,Sw.wTs,Sw.wI,Sw.wP,Sw.keyOf,Sw.vars,L2.start,Sw.ax,Sw.aw,Sw.ah,Sw.ag,Sw.ao,Sw.ak,Sw.az,Sw.ay,Sw.au,Sw.aq,Sw.aj,Sw.ai,Sw.av,Sw.ab,Nat.reduceAdd,Nat.reduceSub]
    refine eI ?_
    refine eI (Γ:=Γ) (Ξ:=X0) (D:=D2) ?_
    refine nx2 _ _ ⟨some (.int x.t),some (.str (eB x.k)),some (.int x.b),?_,x2.trans x3⟩
    rw[e3,q1,Bool.and_false]
  ·intro σ Hm pv2
   obtain⟨o5,o6,o7,rfl,x2⟩:=pv2
   rw[List.length_map,lt,List.take_of_length_le (Nat.le_refl _)]
   refine seq ?_
   dsimp only[Sw.wS,Sw.wE,Sw.wT,Sw.wEs,Sw.wTs,Sw.wI,Sw.wP,Sw.keyOf,Sw.vars,L2.start,Sw.ax,Sw.aw,Sw.ah,Sw.ag,Sw.ao,Sw.ak,Sw.az,Sw.ay,Sw.au,Sw.aq,Sw.aj,Sw.ai,Sw.av,Sw.ab,Nat.reduceAdd,Nat.reduceSub]
   try dsimp only
   rw[Sw.ff]
   have xx:=x1.trans x2
   cases q1:d_ (ts.map tm) s t with
   | true=>
    rw[if_pos rfl]
    dsimp only[Sw.wSs,Sw.wS,Sw.wE,Sw.wT,Sw.wEs,Sw.wTs,Sw.wI,Sw.wP,Sw.keyOf,Sw.vars,L2.start,Sw.ax,Sw.aw,Sw.ah,Sw.ag,Sw.ao,Sw.ak,Sw.az,Sw.ay,Sw.au,Sw.aq,Sw.aj,Sw.ai,Sw.av,Sw.ab,Nat.reduceAdd,Nat.reduceSub]
    rw[rt]
    have e4:cW (nD as) s t=true:=by
     unfold cW nD
     rw[List.any_map]
     exact List.any_eq_true.mpr ⟨ts,List.mem_of_getElem? ets,q1⟩
    have:=h Hm xx
    rw[e4]at this
    exact this
   | false=>
    rw[if_neg (by decide)]
    refine eI ?_
    refine eI (Γ:=Γ) (Ξ:=X0) (D:=D') ?_
    refine nx _ _ ⟨_,_,_,_,_,rfl,xx,fun y hy=>?_⟩
    rw[C6 ets]at hy
    rcases List.mem_append.mp hy with hy | hy
    ·exact no y hy
    ·rw[List.mem_singleton.mp hy]
     exact q1
 ·intro σ Hn pv
  obtain⟨o3,o4,o5,o6,o7,rfl,x1,no⟩:=pv
  rw[List.length_map,len,List.take_of_length_le (Nat.le_refl _)]at no
  dsimp only[Sw.wSs,Sw.wS,Sw.wE,Sw.wT,Sw.wEs,Sw.wTs,Sw.wI,Sw.wP,Sw.keyOf,Sw.vars,L2.start,Sw.ax,Sw.aw,Sw.ah,Sw.ag,Sw.ao,Sw.ak,Sw.az,Sw.ay,Sw.au,Sw.aq,Sw.aj,Sw.ai,Sw.av,Sw.ab,Nat.reduceAdd,Nat.reduceSub]
  have e4:cW (nD as) s t=false:=by
   unfold cW nD
   rw[List.any_map]
   cases q:as.any ((fun x=>d_ x s t) ∘ fun ts=>ts.map tm)with
   | false=>rfl
   | true=>
    obtain⟨y,hy,e⟩:=List.any_eq_true.mp q
    have:=no y hy
    have e:d_ (y.map tm) s t=true:=e
    rw[this]at e
    cases e
  have:=h Hn x1
  rw[e4]at this
  exact this
theorem qX {H H':Hp} {p:Addr} (x:Ext M H H') (h:H' p=none):H p=none:=none_of (bp.of x) h
end Lw
namespace Sw
open PySem PySem.Spec PyProof.Rows L2
open PySem.W (Frag keepIn ktsIn mroIn kitOne fnX fnOf fnMade tabObj CodeHd codeHdIn codeHd_of_K FnAt kla_fn kla_callFunE kla_codeExpr)
section
variable {P:Program} {w:World} {H H':Hp} {h h':Heap} {c:Addr} {v:V} {oc:Obj}
theorem xw (ok:fK P w H h) (hc:H c=some (.frz oc (.dw v))):fK P w (era H c) h:=fun b o e=>by
 obtain⟨ne,e⟩:=dJ e
 exact(ok b o e).aC (fun _ _ _ q=>q) (fun d q=>by rw[aI (fun z=>by rw[z,hc]at q;cases q)];exact q) fun d xs q=>by rw[aI (fun z=>by rw[z,hc]at q;cases q)];exact q
theorem yA {fs:List Addr} (u:Un fs [] (era H c) H' h h') (hc:H c=some (.frz oc (.dw v))):Un fs [] H (upd H' c (.frz oc (.dw v))) h h' where
 keep:=fun b o q n=>u.keep b o q (bJ n)
 slot:=fun b o q n=>u.slot b o q (bJ n)
 free:=fun b o q n hx=>by rw[ae (Ne.symm (aD hc n))];exact u.free b o q (bJ n) hx
 there:=u.there
 fR:=fun b xs q=>by
  have ne:b ≠ c:=fun z=>by rw[z,hc]at q;cases q
  rw[ae ne];exact u.fR b xs (by rw[aI ne];exact q)
 eW:=fun b o x q=>by
  by_cases z:b=c
  ·rw[z,hc]at q
   rw[z,aA]
   exact q
  ·rw[ae z];exact u.eW b o x (by rw[aI z];exact q)
 fM:=fun b ps q=>by
  have ne:b ≠ c:=fun z=>by rw[z,hc]at q;cases q
  rw[ae ne];exact u.fM b ps (by rw[aI ne];exact q)
theorem uU {K:Frag} {mg:Str->Option Value} {base:Heap} {A:Around} {outer:List Env} {s:Shared} (e0:lV P w K mg base A outer s H) (hc:H c=some (.frz oc (.dw v))):lV P w K mg base A outer s (era H c):=
 ⟨e0.frames,e0.mod,fun b o e=>⟨(e0.bs b o e).1,bJ (e0.bs b o e).2⟩,e0.tE,e0.iB,fun b hb=>bJ (e0.xA b hb),xw e0.aW hc,e0.bare⟩
end
noncomputable def Av (Γ:bf) (D:dG) (N ps:List Str) (e:Ex):Addr->Sp:=fun f vs H Q _=>vs.length=ps.length/\∃c v oc,qw D H f c v/\H c=some (.frz oc (.dw v))/\
 wE Γ e X0 (ab N vs v) (era H c) fun r H'=>Q r (upd H' c (.frz oc (.dw v)))
section
variable {P:Program} {w:World} {K:Frag} {mg:Str->Option Value} {base:Heap} {Γ:bf} {k:Nat}
theorem AO {D:dG} {N ps:List Str} {e:Ex} (S:cZ N ps D.x D.scope) (g:aP P w K mg base Γ k) (hm:bE N e D.body=D.body/\oE D.scope N e D.body=true)
  (hb:∀ (c:Addr) (pm ctv cd:Value) (us:List Value),us.length=ps.length->bindArgs (kla_fn "<lambda>" D.iq D.args D.body D.scope [(D.x,c)] pm cd ctv) ⟨us,[]⟩=pure (ps.zip us)):
  cQ P w K mg base (k + 2) (Av Γ D N ps e):=by
 refine⟨fun A outer s H f us vs Q E hr e0 r hsp=>?_,fun s H f vs Q E _ aW hsp=>?_⟩
 ·obtain⟨hl,c,v,oc,⟨⟨c',pm,ctv,hf,hcd⟩,_⟩,hc,hw⟩:=hsp
  have hfo:s.heap.get? f=some {cls:=.type "function",data:=.func (kla_fn "<lambda>" D.iq D.args D.body D.scope [(D.x,c)] pm (.ref c') ctv)}:=e0.aW f _ hf
  have hco:s.heap.CodeRec (.ref c') D.iq:=e0.aW c' _ hcd
  obtain⟨hoc,u,rv,hcell⟩:s.heap.get? c=some oc/\∃u,RelV v u/\s.heap.IsCell c (some u):=e0.aW c _ hc
  have e1:=uU e0 hc
  have lim:s.heap.NoLimit:=e0.mod.nolimit.keeps fun b o e=>(e0.bs b o e).1
  have hkind:∀y ∈ ps.zip us,D.scope.names.lookup y.1=some .local\/(D.scope.names.lookup y.1=some .cell/\((cellsFrom (s.heap.objs.size + 1) D.scope.names []).lookup y.1).isSome=true):=fun⟨n,v⟩ hy=>by
   rcases S.par n (List.of_mem_zip hy).1 with q | q
   ·exact .inl q
   ·exact .inr ⟨q,PySem.W.cellsFrom_some _ _ _ (.inl q)⟩
  refine kla_callFunE hr.depth hfo rfl S.co S.gen rfl hco ((BindsTo.of_eq (hb c pm ctv (.ref c') us (by rw[<-r.length];exact hl))) _ _ _ _ ?_)
  refine lp S.kind hkind fun s1 xc=>?_
  refine⟨lim.keeps xc.toInCall.keep,kla_codeExpr ?_⟩
  have I:=lH (CX:=fP P w) (E:=fun _ _ _=>False) (qual:=D.iq) (f:=f) (cd:=.ref c') S hr.hd e1 hl r hcell rv dB xc
  have hr':eS (k + 1) (A.deeper (rA D.iq D.scope s.heap.objs.size f (.ref c') [(D.x,c)])):=hr.deeper _
  have C:Ctx (Ep (fP P w) P w K mg base N D.iq D.scope f (.ref c') [(D.x,c)] A outer s (era H c) (fun _ _ _=>False)) Γ D.scope k:=by
   refine⟨g,fun _=>hr',fun _=>rfl,hr'.units,fun x h=>?_,fun x h=>?_,fun y h=>h,⟨_,_,_,rfl,rfl,rfl⟩⟩
   ·unfold j2 at h
    unfold Ag
    split at h<;>first | (rename_i e;first | exact .inl e | exact .inr (.inl e) | exact .inr (.inr e)) | cases h
   ·unfold ef at h
    split at h<;>first | (rename_i e;exact e) | cases h
  refine wpAny_mono ((hm.1 ▸ sE Γ k e C eE.no hm.2) [] s1 _ _ _ I hw) (fun u' s' hs=>?_) (fun e s' hs=>?_)
  ·obtain⟨r',H',J,rr,q⟩:=hs
   have hn:H' c=none:=J.base.free c oc hoc dB (by exact List.not_mem_nil)
   have hk:s'.heap.get? c=some oc:=J.base.keep c oc hoc dB (fun z=>by
    have:=e0.xA c z
    rw[hc]at this;cases this) (by exact List.not_mem_nil)
   have hce:∃o,s'.heap.get? c=some o/\o.data=.cell (some u):=by
    obtain⟨o,e1,e2⟩:=hcell
    rw[hoc]at e1
    cases e1
    exact⟨oc,hk,e2⟩
   exact⟨r',upd H' c (.frz oc (.dw v)),J.os,J.bare,yA J.base hc,ja J.aW hn ⟨hk,u,rv,hce⟩,rr,q⟩
  ·exact wpAny_mono hs (fun _ s'' z=>False.elim z) (fun e' s'' z=>False.elim z)
 ·obtain⟨_,c,v,oc,⟨⟨c',pm,ctv,hf,_⟩,_⟩,_⟩:=hsp
  exact⟨_,_,_,_,aW f _ hf⟩
theorem xH {x qual:Str} {st:Stmt} {f:Addr} {fd:FuncData} {N ps:List Str} {body:cR} {D:dG} {Ts:List Tb} (F:qx K x qual st f fd) (S:aF N ps (aa st)) (g:aP P w K mg base Γ k) (hm:eZ (aa st) N body (af st)) (hlm:Γ.lm=some (D,Ts))
  (hL:∀ (A:Around) (outer:List Env) (s:Shared) (H:Hp) (E:XK),ve (gu (fP P w) P w K mg base N qual (aa st) f fd.code A outer s H E) D Ts):
  cO P w K mg base (fP P w) (k + 2) f fd ps (cG Γ N ps.length body):=by
 obtain⟨oc,od,kV,doc,pm,an,cdv,ct,osl,rfl,lk,hcd⟩:=F.ex
 refine AF lk hcd S (fun vs H Q E h=>h.1) fun A outer s H vs Q E hr hsp=>?_
 have C:jR (gu (fP P w) P w K mg base N qual (aa st) f cdv A outer s H E) Γ (aa st) k:=by
  refine⟨⟨g,fun _=>hr,fun _=>rfl,hr.units,fun x h=>?_,fun x h=>?_,fun y h=>h,⟨_,_,_,rfl,rfl,rfl⟩⟩,S.nd,fun x h=>⟨?_,.inl rfl⟩,fun x h=>h,⟨rfl,rfl⟩,fun D' Ts' e=>by rw[hlm]at e;cases e;exact hL A outer s H E⟩
  ·unfold j2 at h
   unfold Ag
   split at h<;>first | (rename_i e;first | exact .inl e | exact .inr (.inl e) | exact .inr (.inr e)) | cases h
  ·unfold ef at h
   split at h<;>first | (rename_i e;exact e) | cases h
  ·unfold eL at h
   unfold L2.Loc
   split at h<;>first | (rename_i e;first | exact .inl e | exact .inr e) | cases h
 exact⟨_,sB C rS hm,hsp.2⟩
end
end Sw
namespace Sw
open PySem PySem.Spec PyProof.Rows L2
theorem mM {Γ Γ':bf} {Ξ Ξ':XS} {D:Ends} {σ:L2.St} {H:Hp} (h:D.nx σ H):wSs .nil Γ Ξ {D with nx:=wSs .nil Γ' Ξ' D} σ H:=eI (eI (Γ:=Γ') (Ξ:=Ξ') h)
section
variable {M:Mo} {H H':Hp} {p l:Addr}
theorem ib {o:HO} (h:H p=some o) (nf:∀b u,o ≠ .frz b u):rd M H p=some o:=by
 unfold rd
 rw[h]
 cases o<;>first | rfl | exact absurd rfl (nf _ _)
theorem gX {a:Addr} (h:H' a=H a):rd M H' a=rd M H a:=by
 unfold rd
 rw[h]
theorem xE {i:Nat} {tb:TS} {o:Obj} {kvs:List (Key × V)} {D:Ends} (Pv:Nat->L2.St->Hp->Prop) (st:∀n σ H,Pv n σ H->H p=some (.frz o (.dK kvs)))
  (step:∀n y σ H (D':Ends),kvs[n]?=some y->Pv n σ H->(∀ σ' H',Pv (n + 1) σ' H'->D'.nx σ' H')->(∀ σ' H',Pv (n + 1) σ' H'->D'.ct σ' H')->tb D' (σ.set i (some (kV y.1))) H)
  (fin:∀σ H,Pv kvs.length σ H->D.nx σ (upd H p (.dK kvs))) {σ:L2.St} {H:Hp} (h0:Pv 0 σ H):jd i tb (fun H'=>H' p=some (.frz o (.dK kvs))) (kvs.map fun y=>kV y.1) (iU p o kvs D) σ H:=by
 refine dv Pv st (fun n v σ H D' hv pv nx ct _ _=>?_) (fun σ H pv=>?_) h0
 ·rw[List.getElem?_map]at hv
  cases q:kvs[n]? with
  | none=>rw[q]at hv;cases hv
  | some y=>
   rw[q]at hv
   cases (Option.some.inj hv)
   exact step n y σ H D' q pv nx ct
 ·rw[List.length_map]at pv
  exact⟨st _ _ _ pv,fin σ H pv⟩
theorem kE {kvs:List (Key × V)} {x:Str} {v:V} {Q:VK} (h:rd M H p=some (.dK kvs)) (hv:dz kvs (.inr x)=some v) (q:Q v H):p0 M (.ref p) (.str x) H Q:=by
 show(match rd M H p with | some (.dK kvs)=>(match keyOf (V.str x)with | some k=>(match dz kvs k with | some v=>Q v H | none=>False) | none=>False) | _=>False)
 rw[h]
 show(match dz kvs (.inr x)with | some v=>Q v H | none=>False)
 rw[hv]
 exact q
theorem kP {kvs:List (Key × V)} {x:Str} {v:V} {Q:Hp->Prop} (h:H p=some (.dK kvs)) (hl:kvs.length < sizeLine) (q:Q (upd H p (.dK (putK kvs (.inr x) v)))):vz (.ref p) (.str x) v H Q:=by
 show(match H p with
  | some (.lst xs)=>(match V.str x with | .int j=>(match yr xs.length j with | some n=>Q (upd H p (.lst (xs.set n v))) | none=>False) | _=>False)
  | some (.dK kvs)=>(match keyOf (V.str x)with | some kk=>kvs.length < sizeLine/\Q (upd H p (.dK (putK kvs kk v))) | none=>False)
  | _=>False)
 rw[h]
 exact⟨hl,q⟩
end
theorem g_ {kvs:List (Key × V)}:∀b u,HO.dK kvs ≠ .frz b u:=fun _ _ z=>nomatch z
theorem xW (xs:List V) (n:Nat):jJ xs none (some (n:Int))=xs.take n:=by
 unfold jJ
 rw[HT.pB,HT.kA,List.drop_zero,Nat.sub_zero]
 by_cases h:n<=xs.length
 ·rw[Nat.min_eq_left h]
 ·rw[Nat.min_eq_right (by omega),List.take_of_length_le (Nat.le_refl _),List.take_of_length_le (by omega)]
theorem xY (xs:List V) (n:Nat):jJ xs (some (n:Int)) none=xs.drop n:=by
 unfold jJ
 rw[HT.pB,HT.kA]
 by_cases h:n<=xs.length
 ·rw[Nat.min_eq_left h]
  exact List.take_of_length_le (by rw[List.length_drop];omega)
 ·rw[Nat.min_eq_right (by omega),Nat.sub_self,List.take_zero,List.drop_eq_nil_of_le (by omega)]
end Sw
namespace Ow
open PySem PySem.Spec PyProof.Rows L2 Sw
@[reducible] noncomputable def Row:=List (Str × Int)
@[reducible] noncomputable def Ent:=Str × Addr × Row
noncomputable def eN (r:Row):List (Key × V):=r.map fun y=>(Sum.inr y.1,V.int y.2)
noncomputable def eG (E:List Ent):List (Key × V):=E.map fun e=>(Sum.inr e.1,V.ref e.2.1)
theorem fY (r:Row):(eN r).length=r.length:=List.length_map _
theorem iT (E:List Ent):(eG E).length=E.length:=List.length_map _
theorem iP {β:Type} (f:β->V):∀ (l:List (Str × β)) (x:Str),dz (l.map fun y=>((Sum.inr y.1:Key),f y.2)) (.inr x)=(l.lookup x).map f
 | [],x=>rfl
 | y::r,x=>by
  obtain⟨n,b⟩:=y
  rw[List.map_cons,List.lookup_cons]
  by_cases e:n=x
  ·subst e
   rw[iQ rfl]
   simp
  ·have e2:(x == n)=false:=by simp;exact fun z=>e z.symm
   rw[e2]
   have h:=iP f r x
   show dz (((Sum.inr n:Key),f b)::_) (.inr x)=_
   unfold dz at h ⊢
   rw[List.find?_cons]
   have e3:decide ((Sum.inr n:Key)=Sum.inr x)=false:=decide_eq_false fun z=>e (Sum.inr.inj z)
   rw[e3]
   exact h
theorem lookup_mem {β:Type}:∀ {l:List (Str × β)} {x:Str} {b:β},(l.map (·.1)).Nodup->(x,b) ∈ l->l.lookup x=some b
 | y::r,x,b,nd,h=>by
  obtain⟨n,c⟩:=y
  rw[List.lookup_cons]
  rw[List.map_cons,List.nodup_cons]at nd
  rcases List.mem_cons.mp h with e | h'
  ·cases e;simp
  ·have e:(x == n)=false:=by
    simp
    intro z
    subst z
    exact nd.1 (List.mem_map.mpr ⟨_,h',rfl⟩)
   rw[e]
   exact lookup_mem nd.2 h'
theorem lookup_some {β:Type}:∀ {l:List (Str × β)} {x:Str} {b:β},l.lookup x=some b->(x,b) ∈ l
 | y::r,x,b,h=>by
  obtain⟨n,c⟩:=y
  rw[List.lookup_cons]at h
  cases e:(x == n)with
  | true=>rw[e]at h;cases h;rw[eq_of_beq e];exact List.mem_cons_self
  | false=>rw[e]at h;exact List.mem_cons_of_mem _ (lookup_some h)
theorem kB {β:Type} (f:β->V) (l:List (Str × β)) (x:Str) (b:β) (h:x ∉ l.map (·.1)):putK (l.map fun y=>((Sum.inr y.1:Key),f y.2)) (.inr x) (f b)=(l++[(x,b)]).map fun y=>((Sum.inr y.1:Key),f y.2):=by
 unfold putK
 rw[if_neg]
 ·rw[List.map_append];rfl
 ·intro z
  rw[List.any_eq_true]at z
  obtain⟨y,hy,e⟩:=z
  obtain⟨c,hc,rfl⟩:=List.mem_map.mp hy
  have e:=of_decide_eq_true e
  have e':c.1=x:=Sum.inr.inj e
  exact h (List.mem_map.mpr ⟨c,hc,e'⟩)
structure dF (H:Hp) (w:Addr) (E:List Ent):Prop where
 top:H w=some (.dK (eG E))
 row:∀e ∈ E,H e.2.1=some (.dK (eN e.2.2))
 nd:(w::E.map (·.2.1)).Nodup
 keys:(E.map (·.1)).Nodup
 rk:∀e ∈ E,(e.2.2.map (·.1)).Nodup
 iM:E.length<=20
 Be:∀e ∈ E,e.2.2.length<=20
theorem i_ {α β:Type} {f:α->β}:∀ {l:List α},(l.map f).Nodup->∀ {a b:α},a ∈ l->b ∈ l->f a=f b->a=b
 | x::r,nd,a,b,ha,hb,e=>by
  rw[List.map_cons,List.nodup_cons]at nd
  rcases List.mem_cons.mp ha with h1 | h1
  ·rcases List.mem_cons.mp hb with h2 | h2
   ·rw[h1,h2]
   ·exact(nd.1 (List.mem_map.mpr ⟨b,h2,by rw[<-e,h1]⟩)).elim
  ·rcases List.mem_cons.mp hb with h2 | h2
   ·exact(nd.1 (List.mem_map.mpr ⟨a,h1,by rw[e,h2]⟩)).elim
   ·exact i_ nd.2 h1 h2 e
theorem AN {H:Hp} {w:Addr} {E:List Ent} (W:dF H w E) {c:Str} {p:Addr} {row:Row} (hm:(c,p,row) ∈ E):p ≠ w:=by
 intro z
 have:=W.nd
 rw[List.nodup_cons]at this
 exact this.1 (List.mem_map.mpr ⟨_,hm,z⟩)
noncomputable def b9 (x:Str) (row':Row) (E:List Ent):List Ent:=E.map fun e=>if e.1=x then(e.1,e.2.1,row')else e
theorem ph (x:Str) (row':Row) (E:List Ent):(b9 x row' E).map (·.1)=E.map (·.1):=by
 unfold b9
 rw[List.map_map]
 refine List.map_congr_left fun e _=>?_
 show(if e.1=x then(e.1,e.2.1,row')else e).1=e.1
 split<;>rfl
theorem fV (x:Str) (row':Row) (E:List Ent):(b9 x row' E).map (·.2.1)=E.map (·.2.1):=by
 unfold b9
 rw[List.map_map]
 refine List.map_congr_left fun e _=>?_
 show(if e.1=x then(e.1,e.2.1,row')else e).2.1=e.2.1
 split<;>rfl
theorem qJ (x:Str) (row':Row) (E:List Ent):eG (b9 x row' E)=eG E:=by
 unfold eG b9
 rw[List.map_map]
 refine List.map_congr_left fun e _=>?_
 show((Sum.inr (if e.1=x then(e.1,e.2.1,row')else e).1:Key),V.ref (if e.1=x then(e.1,e.2.1,row')else e).2.1)=_
 split<;>rfl
theorem ik {x:Str} {row':Row} {E:List Ent} {e:Ent} (h:e ∈ b9 x row' E):(e ∈ E/\e.1 ≠ x)\/(e.1=x/\e.2.2=row'/\∃r,(x,e.2.1,r) ∈ E):=by
 obtain⟨f,hf,q⟩:=List.mem_map.mp h
 by_cases z:f.1=x
 ·rw[if_pos z]at q
  subst q
  exact .inr ⟨z,rfl,f.2.2,by rw[<-z];exact hf⟩
 ·rw[if_neg z]at q
  subst q
  exact .inl ⟨hf,z⟩
theorem dF.set {H:Hp} {w p:Addr} {E:List Ent} {x:Str} {row row':Row} (W:dF H w E) (h:(x,p,row) ∈ E) (rk:(row'.map (·.1)).Nodup) (iM:row'.length<=20):dF (upd H p (.dK (eN row'))) w (b9 x row' E):=by
 have pw:=AN W h
 have one:∀e ∈ E,e.2.1=p->e.1=x:=fun e he z=>by
  have nd:=(List.nodup_cons.mp W.nd).2
  exact congrArg Prod.fst (i_ nd he h z)
 refine⟨by rw[ae pw.symm,qJ];exact W.top,fun e he=>?_,by rw[fV];exact W.nd,by rw[ph];exact W.keys,fun e he=>?_,by unfold b9;rw[List.length_map];exact W.iM,fun e he=>?_⟩
 ·rcases ik he with ⟨h1,h2⟩ | ⟨h1,h2,r,h3⟩
  ·rw[ae (fun z=>h2 (one e h1 z))]
   exact W.row e h1
  ·have e1:=lookup_mem W.keys h
   have e2:=lookup_mem W.keys h3
   rw[e1]at e2
   have:p=e.2.1:=congrArg Prod.fst (Option.some.inj e2)
   rw[<-this,aA,h2]
 ·rcases ik he with ⟨h1,h2⟩ | ⟨h1,h2,r,h3⟩
  ·exact W.rk e h1
  ·rw[h2];exact rk
 ·rcases ik he with ⟨h1,h2⟩ | ⟨h1,h2,r,h3⟩
  ·exact W.Be e h1
  ·rw[h2];exact iM
theorem sJ {M:Mo} {H:Hp} {w p:Addr} {E:List Ent} {x:Str} {row:Row} {Q:VK} (W:dF H w E) (h:(x,p,row) ∈ E) (q:Q (.ref p) H):p0 M (.ref w) (.str x) H Q:=by
 refine kE (x:=x) (v:=.ref p) (kvs:=eG E) (ib W.top g_) ?_ q
 have z:=iP (fun y:Addr × Row=>V.ref y.1) E x
 rw[lookup_mem W.keys h]at z
 exact z
theorem ne_data {M:Mo} {H:Hp} {p q:Addr} {d:PyData} {Q:VK} (h1:data M H 16 (.ref p)=some d) (h2:data M H 16 (.ref q)=some d) (h:Q (.bl false) H):eJ M .NotEq (.ref p) (.ref q) H Q:=by
 show if jr (.ref p) (.ref q)=true then Q (.bl (!decide (V.ref p=V.ref q))) H else(match data M H 16 (.ref p),data M H 16 (.ref q)with | some d,some e=>Q (.bl (!PyData.eqv d e)) H | _,_=>False)
 rw[Df,if_neg (by decide),h1,h2]
 dsimp only
 rw[jI _ _ _ h1]
 exact h
theorem eq_data {M:Mo} {H:Hp} {p q:Addr} {d:PyData} {Q:VK} (h1:data M H 16 (.ref p)=some d) (h2:data M H 16 (.ref q)=some d) (h:Q (.bl true) H):eJ M .Eq (.ref p) (.ref q) H Q:=by
 show if jr (.ref p) (.ref q)=true then Q (.bl (decide (V.ref p=V.ref q))) H else(match data M H 16 (.ref p),data M H 16 (.ref q)with | some d,some e=>Q (.bl (PyData.eqv d e)) H | _,_=>False)
 rw[Df,if_neg (by decide),h1,h2]
 dsimp only
 rw[jI _ _ _ h1]
 exact h
theorem rB {M:Mo} {H:Hp} {p:Addr} {kvs:List (Key × V)} (h:H p=some (.dK kvs)):qg M H (.ref p)=some kvs:=by
 show(match rd M H p with | some (.dK kvs)=>some kvs | _=>none)=some kvs
 rw[ib h g_]
theorem jH {M:Mo} {H:Hp} {n:Nat} {p q:Addr} {a b:List (Key × V)} (hp:H p=some (.dK a)) (hq:H q=some (.dK b)) (ne:p ≠ q) (l:a.length=b.length) (h:∀e ∈ a,∃u,dz b e.1=some u/\fO M H n e.2 u=true):fO M H (n + 1) (.ref p) (.ref q)=true:=by
 show(match qg M H (.ref p),qg M H (.ref q)with
  | some a,some b=>decide (V.ref p ≠ V.ref q) && (decide (a.length=b.length) && a.all fun e=>match dz b e.1 with | some u=>fO M H n e.2 u | none=>false)
  | none,none=>(match data M H 0 (.ref p),data M H 0 (.ref q)with | some d,some e=>PyData.eqv d e | _,_=>false)
  | _,_=>false)=true
 rw[rB hp,rB hq]
 dsimp only
 have e1:decide (V.ref p ≠ V.ref q)=true:=decide_eq_true fun z=>ne (V.ref.inj z)
 rw[e1,decide_eq_true l,Bool.true_and,Bool.true_and,List.all_eq_true]
 intro e he
 obtain⟨u,h1,h2⟩:=h e he
 rw[h1]
 exact h2
theorem zZ {M:Mo} {H:Hp} {n:Nat} (i:Int):fO M H (n + 1) (.int i) (.int i)=true:=by
 show PyData.eqv (.int i) (.int i)=true
 unfold PyData.eqv
 exact beq_self_eq_true i
theorem jg {M:Mo} {H:Hp} {p:Addr} {kvs:List (Key × V)} (h:H p=some (.dK kvs)):(qg M H (.ref p)).isSome=true:=by rw[rB h];rfl
theorem sD {M:Mo} {H:Hp} {p:Addr} {xs:List (Key × V)} (h:H p=some (.dK xs)):known M H (.ref p)=true:=by
 show(match H p with | some (.lst _)=>true | some (.tup _)=>true | some (.dK _)=>true | some (.frz _ (.lst _))=>true | _=>false)=true
 rw[h]
theorem xl {H:Hp} {p:Addr} {xs:List (Key × V)} (h:H p=some (.dK xs)):my .dict H (.ref p)=true:=by
 show(match H p with | some (.dK _)=>decide (Ty.dict=.dict) | _=>false)=true
 rw[h]
 rfl
end Ow
namespace Ow
open PySem PySem.Spec PyProof.Rows L2 Sw Wd Tx Rl Lw
variable {M:Mo}
@[reducible] noncomputable def iJ:List Str:=["one","other","rule"]
noncomputable def iF:cR:=(.cons (.ret (.and (.callv (.var 2) (.cons (.idx (.var 0) (.con (.int 3))) (.cons (.idx (.var 1) (.con (.int 4))) .nil))) (.callv (.var 2) (.cons (.idx (.var 1) (.con (.int 3))) (.cons (.idx (.var 0) (.con (.int 4))) .nil)))))
 .nil)
@[reducible] noncomputable def dW:List Str:=["one","other","gaps"]
noncomputable def dO:cR:=(.cons (.asg 2 (.bin .Add (.call "gap" (.cons (.idx (.var 0) (.con (.int 3))) (.cons (.idx (.var 1) (.con (.int 4))) .nil))) (.call "gap" (.cons (.idx (.var 1) (.con (.int 3))) (.cons (.idx (.var 0) (.con (.int 4))) .nil)))))
 (.cons (.ret (.blt .max (.cons (.bin .Sub (.bin .Add (.idx (.var 0) (.con (.int 1))) (.idx (.var 1) (.con (.int 1)))) (.var 2)) (.cons (.glob "LEAST_WORTH") .nil))))
 .nil))
@[reducible] noncomputable def fF:List Str:=["_law_one","_law_other","_law_gaps","_law_worth_here","_law_distance"]
noncomputable def fq:cR:=(.cons (.asg 2 (.lst (.cons (.bin .Sub (.idx (.idx (.var 0) (.con (.int 3))) (.con (.int 1))) (.idx (.idx (.var 1) (.con (.int 4))) (.con (.int 1)))) (.cons (.bin .Sub (.idx (.idx (.var 1) (.con (.int 3))) (.con (.int 1))) (.idx (.idx (.var 0) (.con (.int 4))) (.con (.int 1)))) .nil))))
 (.cons (.asg 3 (.bin .Add (.idx (.var 0) (.con (.int 1))) (.idx (.var 1) (.con (.int 1)))))
 (.cons (.fr 4 (.ex (.var 2)) (.cons (.asg 3 (.bin .Sub (.var 3) (.blt .max (.cons (.var 4) (.cons (.bin .Sub (.con (.int 0)) (.var 4)) .nil)))))
 .nil))
 (.cons (.ret (.blt .max (.cons (.var 3) (.cons (.con (.int 1)) .nil))))
 .nil))))
structure Cp where
 n:Str
 need:Int
 rank:Int
 g:Sd
 t:Sd
structure Cp.Ok (c:Cp):Prop where
 g:c.g.Ok
 t:c.t.Ok
noncomputable def cA (M:Mo) (H:Hp) (a:Addr) (c:Cp):Prop:=∃p q,rd M H a=some (.tup [.str c.n,.int c.need,.int c.rank,.ref p,.ref q])/\bX M H p c.g/\bX M H q c.t
theorem cA.ext {H H':Hp} {a:Addr} {c:Cp} (h:cA M H a c) (x:Ext M H H'):cA M H' a c:=by
 obtain⟨p,q,h1,h2,h3⟩:=h
 exact⟨p,q,x.rd h1,h2.ext x,h3.ext x⟩
theorem cA.i0 {H:Hp} {a:Addr} {c:Cp} (h:cA M H a c) {Q:VK} (q:Q (.str c.n) H):gj M (.ref a) (.int 0) H Q:=by
 obtain⟨_,_,h1,_⟩:=h
 exact Ci h1 rfl q
theorem cA.i1 {H:Hp} {a:Addr} {c:Cp} (h:cA M H a c) {Q:VK} (q:Q (.int c.need) H):gj M (.ref a) (.int 1) H Q:=by
 obtain⟨_,_,h1,_⟩:=h
 exact Ci h1 rfl q
theorem cA.i3 {H:Hp} {a:Addr} {c:Cp} (h:cA M H a c) {Q:VK} (q:∀p,bX M H p c.g->Q (.ref p) H):gj M (.ref a) (.int 3) H Q:=by
 obtain⟨p,_,h1,h2,_⟩:=h
 exact Ci h1 rfl (q p h2)
theorem cA.i4 {H:Hp} {a:Addr} {c:Cp} (h:cA M H a c) {Q:VK} (q:∀p,bX M H p c.t->Q (.ref p) H):gj M (.ref a) (.int 4) H Q:=by
 obtain⟨_,p,h1,_,h2⟩:=h
 exact Ci h1 rfl (q p h2)
noncomputable def CU (M:Mo) (H:Hp) (l:Addr) (cs:List Cp):Prop:=∃rs:List Addr,rd M H l=some (.lst (rs.map V.ref))/\Paired (cA M H) rs cs
noncomputable def both (bb:Sd->Sd->Bool) (c d:Cp):Bool:=bb c.g d.t && bb d.g c.t
theorem ng (bb:Sd->Sd->Bool) (c d:Cp):both bb c d=both bb d c:=by unfold both;rw[Bool.and_comm]
noncomputable def aQ (c d:Cp):Int:=if 1 > c.need + d.need - (h_ c.g d.t + h_ d.g c.t)then 1 else c.need + d.need - (h_ c.g d.t + h_ d.g c.t)
theorem qz (c d:Cp):aQ c d=aQ d c:=by
 unfold aQ
 rw[Int.add_comm c.need,Int.add_comm (h_ c.g d.t)]
noncomputable def rR (F:Fx) (D:dG) (H:Hp) (f:Addr) (bb:Sd->Sd->Bool):Prop:=(∃ as,AK F H f as/\bb=cW as)\/(∃ c oc sa as,qw D H f c (.ref sa)/\H c=some (.frz oc (.dw (.ref sa)))/\tO as/\ie (era H c) sa as/\bb=cW (nD as))
theorem rR.mono {F:Fx} {D:dG} {H H':Hp} {f:Addr} {bb:Sd->Sd->Bool} (s:Sub H H') (h:rR F D H f bb):rR F D H' f bb:=by
 rcases h with ⟨as,h1,h2⟩ | ⟨c,oc,sa,as,⟨⟨c',pm,ctv,h1,h2⟩,_⟩,h4,h5,h6,h7⟩
 ·exact .inl ⟨as,h1.mono s,h2⟩
 ·have hc:=s _ _ h4 (fun ps z=>nomatch z)
  exact .inr ⟨c,oc,sa,as,⟨⟨c',pm,ctv,s _ _ h1 (fun ps z=>nomatch z),s _ _ h2 (fun ps z=>nomatch z)⟩,oc,hc⟩,hc,h5,h6.mono (s.era c),h7⟩
@[reducible] noncomputable def mJ (M:Mo) (F:Fx) (D:dG):=mL M (rR F D) (fun bb=>bb)
noncomputable def r9 (M:Mo) (F:Fx) (D:dG):Sp:=fun vs H Q _=>∃a b f c d bb,vs=[.ref a,.ref b,.ref f]/\cz M H/\cA M H a c/\cA M H b d/\c.Ok/\d.Ok/\rR F D H f bb/\∀H',Ext M H H'->Q (.bl (both bb c d)) H'
structure A1 (Γ:bf) (M:Mo) (F:Fx) (D:dG):Prop where
 cm:Γ.cm=true
 mod:Γ.mod=M
 vc:Γ.vc=mJ M F D
theorem BS {Γ:bf} {F:Fx} {D:dG} (g:A1 Γ M F D) (vs:List V) (H:Hp) (Q:VK) (E:XK) (h:r9 M F D vs H Q E):cG Γ iJ 3 iF vs H Q E:=by
 obtain⟨a,b,f,c,d,bb,rfl,off,ha,hb,oc,od,hf,h⟩:=h
 refine⟨rfl,?_⟩
 have gm:=g.mod
 obtain rfl:=gm
 unfold iF
 dsimp only[Sw.wSs,Sw.wS,Sw.wE,Sw.wT,Sw.wEs,Sw.wTs,Sw.wI,Sw.wP,Sw.keyOf,Sw.vars,L2.start,Sw.ax,Sw.aw,Sw.ah,Sw.ag,Sw.ao,Sw.ak,Sw.az,Sw.ay,Sw.au,Sw.aq,Sw.aj,Sw.ai,Sw.av,Sw.ab,Nat.reduceAdd,Nat.reduceSub]
 refine⟨g.cm,ha.i3 fun p hp=>hb.i4 fun q hq=>?_⟩
 try dsimp only
 rw[g.vc]
 refine⟨bb,p,q,_,_,rfl,hf,off,hp,hq,oc.g,od.t,fun H1 x1=>?_⟩
 try dsimp only
 rw[Sw.ff]
 cases e:bb c.g d.t with
 | false=>
  rw[if_neg (by decide)]
  have:=h H1 x1
  unfold both at this
  rw[e,Bool.false_and]at this
  exact this
 | true=>
  rw[if_pos rfl]
  refine⟨g.cm,(hb.ext x1).i3 fun p2 hp2=>(ha.ext x1).i4 fun q2 hq2=>?_⟩
  refine⟨bb,p2,q2,_,_,rfl,hf.mono (Sub.mR x1),g9 off x1,hp2,hq2,od.g,oc.t,fun H2 x2=>?_⟩
  have:=h H2 (x1.trans x2)
  unfold both at this
  rw[e,Bool.true_and]at this
  exact this
noncomputable def yG (M:Mo):Sp:=fun vs H Q _=>∃a b c d,vs=[.ref a,.ref b]/\cA M H a c/\cA M H b d/\Q (.int (aQ c d)) H
structure A2 (Γ:bf) (M:Mo):Prop where
 cm:Γ.cm=true
 mod:Γ.mod=M
 gp:Γ.has "gap" =true/\Γ.fn "gap" =oZ M
 lw:Γ.con "LEAST_WORTH" =some (.int 1)
theorem Dz {Γ:bf} (g:A2 Γ M) (vs:List V) (H:Hp) (Q:VK) (E:XK) (h:yG M vs H Q E):cG Γ dW 2 dO vs H Q E:=by
 obtain⟨a,b,c,d,rfl,ha,hb,h⟩:=h
 refine⟨rfl,?_⟩
 have gm:=g.mod
 obtain rfl:=gm
 unfold dO
 refine seq ?_
 dsimp only[Sw.wS,Sw.wE,Sw.wT,Sw.wEs,Sw.wTs,Sw.wI,Sw.wP,Sw.keyOf,Sw.vars,L2.start,Sw.ax,Sw.aw,Sw.ah,Sw.ag,Sw.ao,Sw.ak,Sw.az,Sw.ay,Sw.au,Sw.aq,Sw.aj,Sw.ai,Sw.av,Sw.ab,Nat.reduceAdd,Nat.reduceSub]
 refine⟨⟨g.cm,g.gp.1⟩,ha.i3 fun p hp=>hb.i4 fun q hq=>?_⟩
 try dsimp only
 rw[g.gp.2]
 refine⟨p,q,_,_,rfl,hp,hq,⟨g.cm,g.gp.1⟩,hb.i3 fun p2 hp2=>ha.i4 fun q2 hq2=>?_⟩
 refine⟨p2,q2,_,_,rfl,hp2,hq2,?_⟩
 try dsimp only
 rw[Sw.v_add]
 dsimp only[Sw.wSs,Sw.wS,Sw.wE,Sw.wT,Sw.wEs,Sw.wTs,Sw.wI,Sw.wP,Sw.keyOf,Sw.vars,L2.start,Sw.ax,Sw.aw,Sw.ah,Sw.ag,Sw.ao,Sw.ak,Sw.az,Sw.ay,Sw.au,Sw.aq,Sw.aj,Sw.ai,Sw.av,Sw.ab,Nat.reduceAdd,Nat.reduceSub]
 refine⟨g.cm,ha.i1 (hb.i1 ?_)⟩
 try dsimp only
 rw[Sw.v_add,Sw.v_sub,g.lw]
 dsimp only
 try dsimp only
 rw[tF]
 exact h
noncomputable def yL (M:Mo):Sp:=fun vs H Q _=>∃a b c d,vs=[.ref a,.ref b]/\cA M H a c/\cA M H b d/\∀H',Ext M H H'->Q (.int (aQ c d)) H'
theorem sQ (s t:Sd):(if 0 - (s.n - t.n) > s.n - t.n then 0 - (s.n - t.n)else s.n - t.n)=h_ s t:=by
 unfold h_
 split<;>split<;>omega
theorem DB {Γ:bf} (gc:Γ.cm=true) (gm:Γ.mod=M) (vs:List V) (H:Hp) (Q:VK) (E:XK) (h:yL M vs H Q E):cG Γ fF 2 fq vs H Q E:=by
 obtain⟨a,b,c,d,rfl,ha,hb,h⟩:=h
 refine⟨rfl,?_⟩
 obtain rfl:=gm
 unfold fq
 refine seq ?_
 dsimp only[Sw.wS,Sw.wE,Sw.wT,Sw.wEs,Sw.wTs,Sw.wI,Sw.wP,Sw.keyOf,Sw.vars,L2.start,Sw.ax,Sw.aw,Sw.ah,Sw.ag,Sw.ao,Sw.ak,Sw.az,Sw.ay,Sw.au,Sw.aq,Sw.aj,Sw.ai,Sw.av,Sw.ab,Nat.reduceAdd,Nat.reduceSub]
 refine ha.i3 fun p hp=>hp.i1 (hb.i4 fun q hq=>hq.i1 ?_)
 try dsimp only
 rw[Sw.v_sub]
 refine hb.i3 fun p2 hp2=>hp2.i1 (ha.i4 fun q2 hq2=>hq2.i1 ?_)
 try dsimp only
 rw[Sw.v_sub]
 refine⟨by decide,fun l hl ml=>?_⟩
 have x1:=Ext.upd (M:=Γ.mod) (o:=.lst [V.int (c.g.n - d.t.n),V.int (d.g.n - c.t.n)]) hl ml
 have hL:rd Γ.mod (upd H l (.lst [V.int (c.g.n - d.t.n),V.int (d.g.n - c.t.n)])) l=some (.lst [V.int (c.g.n - d.t.n),V.int (d.g.n - c.t.n)]):=br (by intro _ _ z;cases z)
 have ha1:=ha.ext x1
 have hb1:=hb.ext x1
 have h1:=h _ x1
 generalize upd H l (.lst [V.int (c.g.n - d.t.n),V.int (d.g.n - c.t.n)])=H1 at x1 hL ha1 hb1 h1 ⊢
 refine seq ?_
 dsimp only[Sw.wS,Sw.wE,Sw.wT,Sw.wEs,Sw.wTs,Sw.wI,Sw.wP,Sw.keyOf,Sw.vars,L2.start,Sw.ax,Sw.aw,Sw.ah,Sw.ag,Sw.ao,Sw.ak,Sw.az,Sw.ay,Sw.au,Sw.aq,Sw.aj,Sw.ai,Sw.av,Sw.ab,Nat.reduceAdd,Nat.reduceSub]
 refine ha1.i1 (hb1.i1 ?_)
 try dsimp only
 rw[Sw.v_add]
 refine seq ?_
 dsimp only[Sw.wS,Sw.wE,Sw.wT,Sw.wEs,Sw.wTs,Sw.wI,Sw.wP,Sw.keyOf,Sw.vars,L2.start,Sw.ax,Sw.aw,Sw.ah,Sw.ag,Sw.ao,Sw.ak,Sw.az,Sw.ay,Sw.au,Sw.aq,Sw.aj,Sw.ai,Sw.av,Sw.ab,Nat.reduceAdd,Nat.reduceSub]
 refine⟨gc,?_⟩
 show bD Γ.mod (.ref l) _ _
 unfold bD
 dsimp only
 rw[hL]
 refine⟨hL,?_⟩
 refine seq ?_
 dsimp only[Sw.wS,Sw.wE,Sw.wT,Sw.wEs,Sw.wTs,Sw.wI,Sw.wP,Sw.keyOf,Sw.vars,L2.start,Sw.ax,Sw.aw,Sw.ah,Sw.ag,Sw.ao,Sw.ak,Sw.az,Sw.ay,Sw.au,Sw.aq,Sw.aj,Sw.ai,Sw.av,Sw.ab,Nat.reduceAdd,Nat.reduceSub]
 refine⟨gc,?_⟩
 try dsimp only
 rw[Sw.v_sub,tF,Sw.v_sub,sQ]
 refine eI ⟨hL,?_⟩
 refine seq ?_
 dsimp only[Sw.wS,Sw.wE,Sw.wT,Sw.wEs,Sw.wTs,Sw.wI,Sw.wP,Sw.keyOf,Sw.vars,L2.start,Sw.ax,Sw.aw,Sw.ah,Sw.ag,Sw.ao,Sw.ak,Sw.az,Sw.ay,Sw.au,Sw.aq,Sw.aj,Sw.ai,Sw.av,Sw.ab,Nat.reduceAdd,Nat.reduceSub]
 refine⟨gc,?_⟩
 try dsimp only
 rw[Sw.v_sub,tF,Sw.v_sub,sQ]
 refine eI ⟨hL,?_⟩
 dsimp only[Sw.wSs,Sw.wS,Sw.wE,Sw.wT,Sw.wEs,Sw.wTs,Sw.wI,Sw.wP,Sw.keyOf,Sw.vars,L2.start,Sw.ax,Sw.aw,Sw.ah,Sw.ag,Sw.ao,Sw.ak,Sw.az,Sw.ay,Sw.au,Sw.aq,Sw.aj,Sw.ai,Sw.av,Sw.ab,Nat.reduceAdd,Nat.reduceSub]
 refine⟨gc,?_⟩
 try dsimp only
 rw[tF]
 have e:(if 1 > c.need + d.need - h_ c.g d.t - h_ d.g c.t then 1 else c.need + d.need - h_ c.g d.t - h_ d.g c.t)=aQ c d:=by
  unfold aQ
  rw[Int.sub_sub]
 rw[e]
 exact h1
end Ow
namespace Sw
open PySem PySem.Spec PyProof.Rows L2
theorem qa {M:Mo} {i j:Nat} {tb:TS} {aC:Hp->Prop} {D:Ends} {ps:List (Nat × V)} (Pv:Nat->L2.St->Hp->Prop) (st:∀n σ H,Pv n σ H->aC H)
  (step:∀n y σ H t (D':Ends),ps[n]?=some y->Pv n σ H->H t=none->M t=none->(∀ σ' H',Pv (n + 1) σ' H'->D'.nx σ' H')->(∀ σ' H',Pv (n + 1) σ' H'->D'.ct σ' H')->D'.rt=D.rt->tb D' ((σ.set i (some (.int (y.1:Nat)))).set j (some y.2)) (upd H t (.tup [.int (y.1:Nat),y.2])))
  (fin:∀σ H,Pv ps.length σ H->D.nx σ H) {σ:L2.St} {H:Hp} (h0:Pv 0 σ H):jc M i j tb aC ps D σ H:=by
 have go:∀ (r:List (Nat × V)) (n:Nat),ps.drop n=r->n<=ps.length->∀σ H,Pv n σ H->jc M i j tb aC r D σ H:=by
  intro r
  induction r with
  | nil=>
   intro n e hn σ H p
   have:ps.length<=n:=by simpa using e
   have hn':n=ps.length:=by omega
   subst hn'
   exact⟨st _ σ H p,fin σ H p⟩
  | cons v r ih=>
   intro n e hn σ H p
   have hlt:n < ps.length:=by
    have:=congrArg List.length e
    simp at this
    omega
   have hv:ps[n]?=some v:=by
    have:=congrArg (fun l=>l[0]?) e
    simpa using this
   have hr:ps.drop (n + 1)=r:=by
    have:=congrArg List.tail e
    simpa[List.tail_drop]using this
   exact⟨st _ σ H p,fun t ht mt=>step n v σ H t _ hv p ht mt (fun σ' H' q=>ih (n + 1) hr hlt σ' H' q) (fun σ' H' q=>ih (n + 1) hr hlt σ' H' q) rfl⟩
 exact go ps 0 (by simp) (Nat.zero_le _) σ H h0
theorem m6 {xs:List V} {n:Nat} {y:Nat × V} (h:((List.range xs.length).zip xs)[n]?=some y):y.1=n/\xs[n]?=some y.2:=by
 obtain⟨h1,h2⟩:=List.getElem?_zip_eq_some.mp h
 obtain⟨h3,h4⟩:=List.getElem?_eq_some_iff.mp h1
 rw[List.getElem_range]at h4
 exact⟨h4.symm,h2⟩
theorem hJ {M:Mo} {H H':Hp} {a:Addr} {o:HO} (x:Ext M H H') (h:H a=none) (m:M a=none):Ext M H (upd H' a o):=
 ⟨fun b u e=>by rw[ae (aD e h)];exact x.same b u e,fun b mb e=>by rw[ae (fun z=>mb (by rw[z];exact m))];exact x.off b mb e⟩
theorem qV {M:Mo} {H:Hp} (o:cz M H) {a:Addr} {u:HO} (h:H a=some u):M a=none:=by
 cases e:M a with
 | none=>rfl
 | some x=>rw[o a (by rw[e];exact Option.some_ne_none x)]at h;cases h
end Sw
namespace Ow
open PySem PySem.Spec PyProof.Rows L2 Sw Wd Tx Rl Lw
variable {M:Mo}
@[reducible] noncomputable def lU:List Str:=["couples","rule","web","couple","place","one","other","worth"]
noncomputable def lP:cR:=(.cons (.asg 2 .dnew)
 (.cons (.fr 3 (.ex (.var 0)) (.cons (.sto (.var 2) (.idx (.var 3) (.con (.int 0))) .dnew)
 .nil))
 (.cons (.frE 4 5 (.var 0) (.cons (.fr 6 (.ex (.slc (.var 0) .nil (.cons (.var 4) .nil))) (.cons (.iff (.call "are_swap" (.cons (.var 5) (.cons (.var 6) (.cons (.var 1) .nil)))) (.cons (.asg 7 (.call "worth_between" (.cons (.var 5) (.cons (.var 6) .nil))))
  (.cons (.sto (.idxD (.var 2) (.idx (.var 5) (.con (.int 0)))) (.idx (.var 6) (.con (.int 0))) (.var 7))
  (.cons (.sto (.idxD (.var 2) (.idx (.var 6) (.con (.int 0)))) (.idx (.var 5) (.con (.int 0))) (.var 7))
  .nil))) .nil)
  .nil))
 .nil))
 (.cons (.ret (.var 2))
 .nil))))
@[reducible] noncomputable def Un (cs:List Cp):Prop:=(cs.map (·.n)).Nodup
theorem Un.ix {cs:List Cp} (un:Un cs) {a b:Nat} {c d:Cp} (ha:cs[a]?=some c) (hb:cs[b]?=some d) (e:c.n=d.n):a=b:=by
 have h1:(cs.map (·.n))[a]?=some c.n:=by rw[List.getElem?_map,ha];rfl
 have h2:(cs.map (·.n))[b]?=some d.n:=by rw[List.getElem?_map,hb];rfl
 exact(List.getElem?_inj (List.getElem?_eq_some_iff.mp h1).1 un).mp (by rw[h1,h2,e])
structure b_ (cs:List Cp) (c:Cp) (P:Nat->Cp->Bool) (row:Row):Prop where
 nd:(row.map (·.1)).Nodup
 ks:∀y ∈ row,∃d ∈ cs,d.n=y.1
 vs:∀ (b:Nat) (d:Cp),cs[b]?=some d->row.lookup d.n=if P b d=true then some (aQ c d)else none
theorem b_.nil {cs:List Cp} {c:Cp} {P:Nat->Cp->Bool} (h:∀ (b:Nat) (d:Cp),cs[b]?=some d->P b d=false):b_ cs c P []:=
 ⟨by simp,(fun y hy=>by cases hy),fun b d hb=>by rw[h b d hb,if_neg (by decide)];rfl⟩
theorem b_.congr {cs:List Cp} {c:Cp} {P P':Nat->Cp->Bool} {row:Row} (R:b_ cs c P row) (h:∀ (b:Nat) (d:Cp),cs[b]?=some d->P b d=P' b d):b_ cs c P' row:=
 ⟨R.nd,R.ks,fun b d hb=>by rw[<-h b d hb];exact R.vs b d hb⟩
theorem b_.iM {cs:List Cp} {c:Cp} {P:Nat->Cp->Bool} {row:Row} (R:b_ cs c P row):row.length<=cs.length:=by
 have:=List.Nodup.length_le_of_subset R.nd (l₂:=cs.map (·.n)) fun x hx=>by
  obtain⟨y,hy,e⟩:=List.mem_map.mp hx
  obtain⟨d,hd,e2⟩:=R.ks y hy
  exact List.mem_map.mpr ⟨d,hd,by rw[e2];exact e⟩
 rw[List.length_map,List.length_map]at this
 exact this
theorem b_.new {cs:List Cp} {c:Cp} {P:Nat->Cp->Bool} {row:Row} (R:b_ cs c P row) {j:Nat} {d:Cp} (hd:cs[j]?=some d) (hn:P j d=false):d.n ∉ row.map (·.1):=fun h=>by
 obtain⟨y,hy,e⟩:=List.mem_map.mp h
 have e1:=lookup_mem (x:=y.1) (b:=y.2) R.nd hy
 have e2:=R.vs j d hd
 rw[hn,if_neg (by decide),<-e,e1]at e2
 cases e2
theorem w5 {x y:Str} {v:Int}:List.lookup x [(y,v)]=if x=y then some v else none:=by
 rw[List.lookup_cons]
 by_cases e:x=y
 ·subst e;simp
 ·have e':(x == y)=false:=by simpa using e
  rw[e',if_neg e]
  rfl
theorem pW:∀ (l m:Row) (x:Str),(l++m).lookup x=(l.lookup x).or (m.lookup x)
 | [],m,x=>by simp
 | (n,v)::l,m,x=>by
  rw[List.cons_append,List.lookup_cons,List.lookup_cons]
  cases x == n with
  | true=>rfl
  | false=>exact pW l m x
theorem b_.put {cs:List Cp} {c:Cp} {P:Nat->Cp->Bool} {row:Row} (R:b_ cs c P row) (un:Un cs) {j:Nat} {d:Cp} (hd:cs[j]?=some d) (hn:P j d=false):b_ cs c (fun b e=>P b e || decide (b=j)) (row++[(d.n,aQ c d)]):=by
 have nw:=R.new hd hn
 refine⟨?_,fun y hy=>?_,fun b e hb=>?_⟩
 ·rw[List.map_append,List.nodup_append]
  exact⟨R.nd,by simp,fun x hx y hy z=>nw (by rw[<-(show y=d.n by simpa using hy),<-z];exact hx)⟩
 ·rcases List.mem_append.mp hy with hy | hy
  ·exact R.ks y hy
  ·rw[List.mem_singleton.mp hy]
   exact⟨d,List.mem_of_getElem? hd,rfl⟩
 ·rw[pW,w5,R.vs b e hb]
  by_cases q:b=j
  ·subst q
   rw[hb]at hd
   cases hd
   rw[hn,if_neg (by decide),if_pos rfl,decide_eq_true rfl,Bool.or_true,if_pos rfl]
   rfl
  ·have ne:e.n ≠ d.n:=fun z=>q (un.ix hb hd z)
   rw[if_neg ne,decide_eq_false q,Bool.or_false,Option.or_none]
structure aU (H:Hp) (w:Addr) (E:List Ent) (cs:List Cp) (n:Nat) (P:Nat->Cp->Nat->Cp->Bool):Prop where
 eY:dF H w E
 len:E.length=n
 le:n<=cs.length
 row:∀ (a:Nat) (c:Cp),a < n->cs[a]?=some c->∃p r,E[a]?=some (c.n,p,r)/\b_ cs c (P a c) r
theorem aU.congr {H:Hp} {w:Addr} {E:List Ent} {cs:List Cp} {n:Nat} {P P':Nat->Cp->Nat->Cp->Bool} (W:aU H w E cs n P) (h:∀ (a:Nat) (c:Cp) (b:Nat) (d:Cp),a < n->cs[a]?=some c->cs[b]?=some d->P a c b d=P' a c b d):aU H w E cs n P':=
 ⟨W.eY,W.len,W.le,fun a c ha hc=>let ⟨p,r,h1,h2⟩:=W.row a c ha hc;⟨p,r,h1,h2.congr fun b d hb=>h a c b d ha hc hb⟩⟩
theorem dF.same {H H':Hp} {w:Addr} {E:List Ent} (W:dF H w E) (h:∀a ∈ w::E.map (·.2.1),H' a=H a):dF H' w E:=
 ⟨by rw[h w List.mem_cons_self];exact W.top,fun e he=>by rw[h _ (List.mem_cons_of_mem _ (List.mem_map.mpr ⟨e,he,rfl⟩))];exact W.row e he,W.nd,W.keys,W.rk,W.iM,W.Be⟩
theorem dF.at {H:Hp} {w:Addr} {E:List Ent} (W:dF H w E):∀a ∈ w::E.map (·.2.1),∃kvs,H a=some (.dK kvs):=fun a ha=>by
 rcases List.mem_cons.mp ha with rfl | ha
 ·exact⟨_,W.top⟩
 ·obtain⟨e,he,rfl⟩:=List.mem_map.mp ha
  exact⟨_,W.row e he⟩
theorem aU.same {H H':Hp} {w:Addr} {E:List Ent} {cs:List Cp} {n:Nat} {P:Nat->Cp->Nat->Cp->Bool} (W:aU H w E cs n P) (h:∀a ∈ w::E.map (·.2.1),H' a=H a):aU H' w E cs n P:=⟨W.eY.same h,W.len,W.le,W.row⟩
theorem aU.sub {H H':Hp} {w:Addr} {E:List Ent} {cs:List Cp} {n:Nat} {P:Nat->Cp->Nat->Cp->Bool} (W:aU H w E cs n P) (s:Sub H H'):aU H' w E cs n P:=W.same fun a ha=>by
 obtain⟨kvs,e⟩:=W.eY.at a ha
 rw[e]
 exact s _ _ e (fun ps z=>nomatch z)
theorem aU.keys {H:Hp} {w:Addr} {E:List Ent} {cs:List Cp} {n:Nat} {P:Nat->Cp->Nat->Cp->Bool} (W:aU H w E cs n P) {e:Ent} (he:e ∈ E):∃ (a:Nat) (c:Cp),a < n/\E[a]?=some e/\cs[a]?=some c/\c.n=e.1/\b_ cs c (P a c) e.2.2:=by
 obtain⟨a,ha⟩:=List.getElem?_of_mem he
 have hlt:a < n:=by rw[<-W.len];exact(List.getElem?_eq_some_iff.mp ha).1
 have hc:=List.getElem?_eq_getElem (l:=cs) (i:=a) (Nat.lt_of_lt_of_le hlt W.le)
 obtain⟨p,r,h1,h2⟩:=W.row a _ hlt hc
 rw[ha]at h1
 cases h1
 exact⟨a,_,hlt,ha,hc,rfl,h2⟩
theorem aU.put {H:Hp} {w l:Addr} {E:List Ent} {cs:List Cp} {n:Nat} {P:Nat->Cp->Nat->Cp->Bool} {c:Cp} {r:Row} (W:aU H w E cs n P) (un:Un cs) (iM:cs.length<=14) (hc:cs[n]?=some c) (hl:H l=some (.dK (eN r))) (nl:l ∉ w::E.map (·.2.1)) (R:b_ cs c (P n c) r):
  putK (eG E) (.inr c.n) (.ref l)=eG (E++[(c.n,l,r)])/\aU (upd H w (.dK (eG (E++[(c.n,l,r)])))) w (E++[(c.n,l,r)]) cs (n + 1) P:=by
 have hn:n < cs.length:=(List.getElem?_eq_some_iff.mp hc).1
 have wl:l ≠ w:=fun z=>nl (by rw[z];exact List.mem_cons_self)
 have nk:c.n ∉ E.map (·.1):=fun z=>by
  obtain⟨e,he,q⟩:=List.mem_map.mp z
  obtain⟨a,d,h1,_,h2,h3,_⟩:=W.keys he
  have:=un.ix h2 hc (h3.trans q)
  omega
 have nw:=(List.nodup_cons.mp W.eY.nd).1
 refine⟨kB (fun y:Addr × Row=>V.ref y.1) E c.n (l,r) nk,⟨aA,fun e he=>?_,?_,?_,fun e he=>?_,?_,fun e he=>?_⟩,?_,hn,fun a d ha hd=>?_⟩
 ·rcases List.mem_append.mp he with h1 | h1
  ·rw[ae (fun z=>nw (List.mem_map.mpr ⟨e,h1,z⟩))]
   exact W.eY.row e h1
  ·rw[List.mem_singleton.mp h1]
   show upd _ w _ l=_
   rw[ae wl]
   exact hl
 ·rw[List.map_append,<-List.cons_append,List.nodup_append]
  refine⟨W.eY.nd,by simp,fun a ha b hb z=>nl ?_⟩
  rw[<-(show b=l by simpa using hb),<-z]
  exact ha
 ·rw[List.map_append,List.nodup_append]
  exact⟨W.eY.keys,by simp,fun a ha b hb z=>nk (by rw[<-(show b=c.n by simpa using hb),<-z];exact ha)⟩
 ·rcases List.mem_append.mp he with h1 | h1
  ·exact W.eY.rk e h1
  ·rw[List.mem_singleton.mp h1];exact R.nd
 ·rw[List.length_append,W.len]
  simp only[List.length_cons,List.length_nil]
  omega
 ·rcases List.mem_append.mp he with h1 | h1
  ·exact W.eY.Be e h1
  ·rw[List.mem_singleton.mp h1]
   have:=R.iM
   show r.length<=20
   omega
 ·rw[List.length_append,W.len];rfl
 ·by_cases q:a=n
  ·subst q
   rw[hd]at hc
   cases hc
   refine⟨l,r,?_,R⟩
   rw[List.getElem?_append_right (by rw[W.len];exact Nat.le_refl _),W.len,Nat.sub_self]
   rfl
  ·have ha':a < n:=by omega
   obtain⟨p,r',h1,h2⟩:=W.row a d ha' hd
   exact⟨p,r',by rw[List.getElem?_append_left (by rw[W.len];exact ha')];exact h1,h2⟩
theorem aU.setAt {H:Hp} {w p:Addr} {E:List Ent} {cs:List Cp} {n:Nat} {P P':Nat->Cp->Nat->Cp->Bool} {a:Nat} {c:Cp} {r r':Row} (W:aU H w E cs n P) (un:Un cs) (iM:cs.length<=14) (hc:cs[a]?=some c) (hE:E[a]?=some (c.n,p,r)) (R:b_ cs c (P' a c) r') (h:∀ (b:Nat) (d:Cp),b ≠ a->b < n->cs[b]?=some d->P' b d=P b d):
  aU (upd H p (.dK (eN r'))) w (b9 c.n r' E) cs n P':=by
 have hf:=R.iM
 refine⟨W.eY.set (List.mem_of_getElem? hE) R.nd (by omega),by unfold b9;rw[List.length_map];exact W.len,W.le,fun b d hb hd=>?_⟩
 obtain⟨q,s,h1,h2⟩:=W.row b d hb hd
 have e1:(b9 c.n r' E)[b]?=some (if d.n=c.n then(d.n,q,r')else(d.n,q,s)):=by
  unfold b9
  rw[List.getElem?_map,h1]
  rfl
 by_cases z:b=a
 ·subst z
  rw[hd]at hc
  cases hc
  exact⟨q,r',by rw[e1,if_pos rfl],R⟩
 ·exact⟨q,s,by rw[e1,if_neg (fun u=>z (un.ix hd hc u))],by rw[h b d z hb hd];exact h2⟩
noncomputable def dn (i j a b:Nat):Bool:=decide (b < a/\(a < i\/(a=i/\b < j))) || decide (a < b/\(b < i\/(b=i/\a < j)))
noncomputable def PW (bb:Sd->Sd->Bool) (i j:Nat):Nat->Cp->Nat->Cp->Bool:=fun a c b d=>dn i j a b && both bb c d
noncomputable def PF (bb:Sd->Sd->Bool):Nat->Cp->Nat->Cp->Bool:=fun _ c _ d=>decide (c.n ≠ d.n) && both bb c d
theorem tw (i a b:Nat):decide (b < a/\(a < i\/(a=i/\b < i)))=decide (b < a/\(a < i + 1\/(a=i + 1/\b < 0))):=decide_eq_decide.mpr (by omega)
theorem tu {i j a b:Nat} (h:j < i) (h1:¬ (a=i/\b=j)):decide (b < a/\(a < i\/(a=i/\b < j + 1)))=decide (b < a/\(a < i\/(a=i/\b < j))):=decide_eq_decide.mpr (by omega)
theorem zX (i a b:Nat):dn i i a b=dn (i + 1) 0 a b:=by
 unfold dn
 rw[tw i a b,tw i b a]
theorem kG {i j a b:Nat} (h:j < i) (h1:¬ (a=i/\b=j)) (h2:¬ (a=j/\b=i)):dn i (j + 1) a b=dn i j a b:=by
 unfold dn
 rw[tu h h1,tu (a:=b) (b:=a) h fun z=>h2 ⟨z.2,z.1⟩]
theorem AH {i j:Nat} (h:j < i):dn i j i j=false/\dn i j j i=false:=by
 unfold dn
 constructor<;>rw[decide_eq_false (by omega),decide_eq_false (by omega)]<;>rfl
theorem xQ {i j:Nat} (h:j < i):dn i (j + 1) i j=true/\dn i (j + 1) j i=true:=by
 unfold dn
 constructor
 ·rw[decide_eq_true (by omega)];rfl
 ·rw[decide_eq_true (p:=j < i/\_) (by omega),Bool.or_true]
theorem Cz {n a b:Nat} (ha:a < n) (hb:b < n):dn n 0 a b=decide (a ≠ b):=by
 unfold dn
 by_cases h:a=b
 ·subst h
  simp
 ·rw[decide_eq_true h]
  by_cases q:b < a
  ·rw[decide_eq_true (by omega)];rfl
  ·rw[decide_eq_true (p:=a < b/\_) (by omega),Bool.or_true]
theorem zW (a b:Nat):dn 0 0 a b=false:=by
 unfold dn
 rw[decide_eq_false (by omega),decide_eq_false (by omega)];rfl
end Ow
namespace Ow
open PySem PySem.Spec PyProof.Rows L2 Sw Wd Tx Rl Lw
variable {M:Mo}
structure A3 (Γ:bf) (M:Mo) (F:Fx) (D:dG):Prop where
 cm:Γ.cm=true
 mod:Γ.mod=M
 ar:Γ.has "are_swap" =true/\Γ.fn "are_swap" =r9 M F D
 wb:Γ.has "worth_between" =true/\Γ.fn "worth_between" =yG M
noncomputable def rP (H H':Hp) (M:Mo) (w:Addr) (E:List Ent) (cs:List Cp) (bb:Sd->Sd->Bool):Prop:=Ext M H H'/\H w=none/\(∀ a ∈ E.map (·.2.1),H a=none)/\aU H' w E cs cs.length (PF bb)
noncomputable def rY (M:Mo) (F:Fx) (D:dG):Sp:=fun vs H Q _=>∃l f cs bb,vs=[.ref l,.ref f]/\cz M H/\CU M H l cs/\Un cs/\cs.length<=14/\(∀ c ∈ cs,c.Ok)/\rR F D H f bb/\∀H' w E,rP H H' M w E cs bb->Q (.ref w) H'
noncomputable def vt:cR:=(.cons (.frE 4 5 (.var 0) (.cons (.fr 6 (.ex (.slc (.var 0) .nil (.cons (.var 4) .nil))) (.cons (.iff (.call "are_swap" (.cons (.var 5) (.cons (.var 6) (.cons (.var 1) .nil)))) (.cons (.asg 7 (.call "worth_between" (.cons (.var 5) (.cons (.var 6) .nil))))
  (.cons (.sto (.idxD (.var 2) (.idx (.var 5) (.con (.int 0)))) (.idx (.var 6) (.con (.int 0))) (.var 7))
  (.cons (.sto (.idxD (.var 2) (.idx (.var 6) (.con (.int 0)))) (.idx (.var 5) (.con (.int 0))) (.var 7))
  .nil))) .nil)
  .nil))
 .nil))
 (.cons (.ret (.var 2))
 .nil))
theorem aU.swap {H:Hp} {w:Addr} {E:List Ent} {cs:List Cp} {bb:Sd->Sd->Bool} {i j:Nat} {c d:Cp} (W:aU H w E cs cs.length (PW bb i j)) (un:Un cs) (iM:cs.length<=14) (hj:j < i) (hc:cs[i]?=some c) (hd:cs[j]?=some d) (hb:both bb c d=true):
  ∃pc rc pd rd,(c.n,pc,rc) ∈ E/\(d.n,pd,rd) ∈ E/\d.n ∉ rc.map (·.1)/\c.n ∉ rd.map (·.1)/\rc.length<=14/\rd.length<=14/\
   dF (upd H pc (.dK (eN (rc++[(d.n,aQ c d)])))) w (b9 c.n (rc++[(d.n,aQ c d)]) E)/\(d.n,pd,rd) ∈ b9 c.n (rc++[(d.n,aQ c d)]) E/\
   aU (upd (upd H pc (.dK (eN (rc++[(d.n,aQ c d)])))) pd (.dK (eN (rd++[(c.n,aQ c d)])))) w (b9 d.n (rd++[(c.n,aQ c d)]) (b9 c.n (rc++[(d.n,aQ c d)]) E)) cs cs.length (PW bb i (j + 1)):=by
 have li:i < cs.length:=(List.getElem?_eq_some_iff.mp hc).1
 have lj:j < cs.length:=(List.getElem?_eq_some_iff.mp hd).1
 obtain⟨pc,rc,e1,R1⟩:=W.row i c li hc
 obtain⟨pd,rd,e2,R2⟩:=W.row j d lj hd
 have n1:PW bb i j i c j d=false:=by unfold PW;rw[(AH hj).1];rfl
 have n2:PW bb i j j d i c=false:=by unfold PW;rw[(AH hj).2];rfl
 have ne:d.n ≠ c.n:=fun z=>by
  have:=un.ix hd hc z
  omega
 have sw:aQ d c=aQ c d:=qz d c
 -- the row of the one
 have R1':b_ cs c (fun b e=>PW bb i (j + 1) i c b e) (rc++[(d.n,aQ c d)]):=(R1.put un hd n1).congr fun b e hb'=>by
  show(PW bb i j i c b e || decide (b=j))=PW bb i (j + 1) i c b e
  unfold PW
  by_cases q:b=j
  ·subst q
   rw[hb']at hd
   cases hd
   rw[decide_eq_true rfl,Bool.or_true,(xQ hj).1,hb]
   rfl
  ·rw[decide_eq_false q,Bool.or_false,kG hj (fun z=>q z.2) (fun z=>by omega)]
 have W1:aU (upd H pc (.dK (eN (rc++[(d.n,aQ c d)])))) w (b9 c.n (rc++[(d.n,aQ c d)]) E) cs cs.length (fun a c'=>if a=i then PW bb i (j + 1) a c' else PW bb i j a c'):=
  W.setAt un iM hc e1 (by rw[if_pos rfl];exact R1') fun b e hb' _ _=>by rw[if_neg hb']
 have e2':(b9 c.n (rc++[(d.n,aQ c d)]) E)[j]?=some (d.n,pd,rd):=by
  unfold b9
  rw[List.getElem?_map,e2]
  show some (if d.n=c.n then _ else _)=_
  rw[if_neg ne]
 have R2':b_ cs d (fun b e=>PW bb i (j + 1) j d b e) (rd++[(c.n,aQ c d)]):=by
  have:=(R2.put un hc n2).congr (P':=fun b e=>PW bb i (j + 1) j d b e) fun b e hb'=>by
   show(PW bb i j j d b e || decide (b=i))=PW bb i (j + 1) j d b e
   unfold PW
   by_cases q:b=i
   ·subst q
    rw[hb']at hc
    cases hc
    rw[decide_eq_true rfl,Bool.or_true,(xQ hj).2,ng,hb]
    rfl
   ·rw[decide_eq_false q,Bool.or_false,kG hj (fun z=>by omega) (fun z=>q z.2)]
  rw[sw]at this
  exact this
 have W2:=W1.setAt (P':=PW bb i (j + 1)) un iM hd e2' R2' fun b e hb' _ _=>by
  by_cases q:b=i
  ·rw[if_pos q]
  ·rw[if_neg q]
   funext a f
   unfold PW
   rw[kG hj (fun z=>q z.1) (fun z=>hb' z.1)]
 have f1:=R1.iM
 have f2:=R2.iM
 exact⟨pc,rc,pd,rd,List.mem_of_getElem? e1,List.mem_of_getElem? e2,R1.new hd n1,R2.new hc n2,by omega,by omega,W1.eY,List.mem_of_getElem? e2',W2⟩
theorem qi {H:Hp} {rs:List Addr} {cs:List Cp} {n:Nat} {v:V} (p:Paired (cA M H) rs cs) (h:(rs.map V.ref)[n]?=some v):∃r c,v=.ref r/\cs[n]?=some c/\cA M H r c:=by
 rw[List.getElem?_map]at h
 obtain⟨r,er,rfl⟩:=Option.map_eq_some_iff.mp h
 obtain⟨c,ec,hc⟩:=mP p er
 exact⟨r,c,rfl,ec,hc⟩
theorem zu {Γ:bf} {F:Fx} {D:dG} (g:A3 Γ M F D) {H Hb:Hp} {l f w:Addr} {rs:List Addr} {cs:List Cp} {bb:Sd->Sd->Bool} {E0:List Ent} {Q:VK} {Ξ:XS} {o3:Option V} (off:cz M H) (hl:rd M H l=some (.lst (rs.map V.ref))) (hp:Paired (cA M H) rs cs) (un:Un cs) (iM:cs.length<=14) (ok:∀c ∈ cs,c.Ok) (hf:rR F D H f bb)
  (x0:Ext M H Hb) (hw:H w=none) (fr:∀a ∈ E0.map (·.2.1),H a=none) (W0:aU Hb w E0 cs cs.length (PW bb 0 0)) (h:∀H' E,rP H H' M w E cs bb->Q (.ref w) H'):
  wSs vt Γ Ξ {nx:=fun _ H'=>Q .non H',rt:=Q} [some (.ref l),some (.ref f),some (.ref w),o3,none,none,none,none] Hb:=by
 have gm:=g.mod
 obtain rfl:=gm
 have len:=Paired.length hp
 unfold vt
 refine seq ?_
 dsimp only[Sw.wS,Sw.wE,Sw.wT,Sw.wEs,Sw.wTs,Sw.wI,Sw.wP,Sw.keyOf,Sw.vars,L2.start,Sw.ax,Sw.aw,Sw.ah,Sw.ag,Sw.ao,Sw.ak,Sw.az,Sw.ay,Sw.au,Sw.aq,Sw.aj,Sw.ai,Sw.av,Sw.ab,Nat.reduceAdd,Nat.reduceSub]
 refine⟨g.cm,?_⟩
 show lK Γ.mod (.ref l) _ _
 unfold lK
 dsimp only
 rw[x0.rd hl]
 dsimp only
 refine qa (fun i σ Hn=>∃o4 o5 o6 o7 E,σ=[some (.ref l),some (.ref f),some (.ref w),o3,o4,o5,o6,o7]/\Ext Γ.mod H Hn/\(∀ a ∈ E.map (·.2.1),H a=none)/\aU Hn w E cs cs.length (PW bb i 0)) (fun n σ Hn p=>?_) ?_ ?_ ⟨none,none,none,none,E0,rfl,x0,fr,W0⟩
 ·obtain⟨_,_,_,_,_,_,x,_⟩:=p
  exact x.rd hl
 ·intro i y σ Hn t D' hy pv ht mt nx ct rt
  obtain⟨o4,o5,o6,o7,E,rfl,x1,fr1,W1⟩:=pv
  obtain⟨ei,ey⟩:=m6 hy
  obtain⟨y1,y2⟩:=y
  dsimp only at ei ey
  subst ei
  obtain⟨r,c,rfl,ec,hcp⟩:=qi hp ey
  have xt:=x1.trans (Ext.upd (M:=Γ.mod) (o:=.tup [V.int (y1:Nat),V.ref r]) ht mt)
  have W1t:=W1.sub (Sub.mR (Ext.upd (M:=Γ.mod) (o:=.tup [V.int (y1:Nat),V.ref r]) ht mt))
  generalize upd Hn t (.tup [V.int (y1:Nat),V.ref r])=Ht at xt W1t ⊢
  have li:y1 < cs.length:=(List.getElem?_eq_some_iff.mp ec).1
  refine seq ?_
  show wS (.fr _ _ _) Γ _ _ [some (.ref l),some (.ref f),some (.ref w),o3,some (.int (y1:Nat)),some (.ref r),o6,o7] Ht
  dsimp only[Sw.wS,Sw.wE,Sw.wT,Sw.wEs,Sw.wTs,Sw.wI,Sw.wP,Sw.keyOf,Sw.vars,L2.start,Sw.ax,Sw.aw,Sw.ah,Sw.ag,Sw.ao,Sw.ak,Sw.az,Sw.ay,Sw.au,Sw.aq,Sw.aj,Sw.ai,Sw.av,Sw.ab,Nat.reduceAdd,Nat.reduceSub]
  refine⟨g.cm,?_⟩
  rw[Sw.pA,xt.rd hl]
  dsimp only
  intro q hq mq
  rw[xW]
  have xq:=Ext.upd (M:=Γ.mod) (H:=Ht) (o:=.lst ((rs.map V.ref).take y1)) hq mq
  have hqq:rd Γ.mod (upd Ht q (.lst ((rs.map V.ref).take y1))) q=some (.lst ((rs.map V.ref).take y1)):=br (by intro _ _ z;cases z)
  have W1q:=W1t.sub (Sub.mR xq)
  have xHq:=xt.trans xq
  have hqn:H q=none:=qX xt hq
  generalize upd Ht q (.lst ((rs.map V.ref).take y1))=Hq at xq hqq W1q xHq ⊢
  show bD Γ.mod (.ref q) _ _
  unfold bD
  dsimp only
  rw[hqq]
  dsimp only
  have ltk:((rs.map V.ref).take y1).length=y1:=by
   rw[List.length_take,List.length_map,len]
   omega
  refine dv (fun j σ Hm=>∃o6 o7 E,σ=[some (.ref l),some (.ref f),some (.ref w),o3,some (.int (y1:Nat)),some (.ref r),o6,o7]/\Ext Γ.mod H Hm/\rd Γ.mod Hm q=some (.lst ((rs.map V.ref).take y1))/\(∀ a ∈ E.map (·.2.1),H a=none)/\aU Hm w E cs cs.length (PW bb y1 j)) (fun n σ Hn p=>?_) ?_ ?_ ⟨o6,o7,E,rfl,xHq,hqq,fr1,W1q⟩
  ·obtain⟨_,_,_,_,_,z,_⟩:=p
   exact z
  ·intro j v σ Hm D2 hv pv nx2 ct2 rt2 bk2
   obtain⟨o6,o7,E,rfl,x2,hq2,fr2,W2⟩:=pv
   have lj:j < y1:=by
    have:=(List.getElem?_eq_some_iff.mp hv).1
    omega
   rw[List.getElem?_take_of_lt lj]at hv
   obtain⟨r2,d,rfl,ed,hdp⟩:=qi hp hv
   have okc:=ok c (List.mem_of_getElem? ec)
   have okd:=ok d (List.mem_of_getElem? ed)
   refine seq ?_
   show wS (.iff _ _ _) Γ _ _ [some (.ref l),some (.ref f),some (.ref w),o3,some (.int (y1:Nat)),some (.ref r),some (.ref r2),o7] Hm
   dsimp only[Sw.wS,Sw.wE,Sw.wT,Sw.wEs,Sw.wTs,Sw.wI,Sw.wP,Sw.keyOf,Sw.vars,L2.start,Sw.ax,Sw.aw,Sw.ah,Sw.ag,Sw.ao,Sw.ak,Sw.az,Sw.ay,Sw.au,Sw.aq,Sw.aj,Sw.ai,Sw.av,Sw.ab,Nat.reduceAdd,Nat.reduceSub]
   refine⟨⟨g.cm,g.ar.1⟩,?_⟩
   rw[g.ar.2]
   refine⟨r,r2,f,c,d,bb,rfl,g9 off x2,hcp.ext x2,hdp.ext x2,okc,okd,hf.mono (Sub.mR x2),fun H3 x3=>?_⟩
   try dsimp only
   rw[Sw.ff]
   have x23:=x2.trans x3
   have W3:=W2.sub (Sub.mR x3)
   have hq3:=x3.rd hq2
   cases hb:both bb c d with
   | false=>
    rw[if_neg (by decide)]
    refine mM (nx2 _ _ ⟨_,_,E,rfl,x23,hq3,fr2,W3.congr fun a c' b d' ha hc' hd'=>?_⟩)
    unfold PW
    by_cases z1:a=y1/\b=j
    ·obtain⟨rfl,rfl⟩:=z1
     rw[ec]at hc'
     rw[ed]at hd'
     cases hc'
     cases hd'
     rw[hb,Bool.and_false,Bool.and_false]
    ·by_cases z2:a=j/\b=y1
     ·obtain⟨rfl,rfl⟩:=z2
      rw[ed]at hc'
      rw[ec]at hd'
      cases hc'
      cases hd'
      rw[ng,hb,Bool.and_false,Bool.and_false]
     ·rw[kG lj z1 z2]
   | true=>
    rw[if_pos rfl]
    obtain⟨pc,rc,pd,rd',m1,m2,n1,n2,l1,l2,Wm,m2',Wn⟩:=W3.swap un iM lj ec ed hb
    have hc3:=hcp.ext x23
    have hd3:=hdp.ext x23
    refine seq ?_
    dsimp only[Sw.wS,Sw.wE,Sw.wT,Sw.wEs,Sw.wTs,Sw.wI,Sw.wP,Sw.keyOf,Sw.vars,L2.start,Sw.ax,Sw.aw,Sw.ah,Sw.ag,Sw.ao,Sw.ak,Sw.az,Sw.ay,Sw.au,Sw.aq,Sw.aj,Sw.ai,Sw.av,Sw.ab,Nat.reduceAdd,Nat.reduceSub]
    refine⟨⟨g.cm,g.wb.1⟩,?_⟩
    rw[g.wb.2]
    refine⟨r,r2,c,d,rfl,hc3,hd3,?_⟩
    refine seq ?_
    dsimp only[Sw.wS,Sw.wE,Sw.wT,Sw.wEs,Sw.wTs,Sw.wI,Sw.wP,Sw.keyOf,Sw.vars,L2.start,Sw.ax,Sw.aw,Sw.ah,Sw.ag,Sw.ao,Sw.ak,Sw.az,Sw.ay,Sw.au,Sw.aq,Sw.aj,Sw.ai,Sw.av,Sw.ab,Nat.reduceAdd,Nat.reduceSub]
    refine hc3.i0 (sJ W3.eY m1 (hd3.i0 (kP (x:=d.n) (W3.eY.row _ m1) (by rw[fY,sizeLine_eq];dsimp only;omega) ?_)))
    have p1:putK (eN rc) (Sum.inr d.n) (V.int (aQ c d))=eN (rc++[(d.n,aQ c d)]):=kB (fun i=>V.int i) rc d.n (aQ c d) n1
    dsimp only
    rw[p1]
    have fpc:H pc=none:=fr2 pc (List.mem_map.mpr ⟨_,m1,rfl⟩)
    have fpd:H pd=none:=fr2 pd (List.mem_map.mpr ⟨_,m2,rfl⟩)
    have mpc:Γ.mod pc=none:=qV (g9 off x23) (W3.eY.row _ m1)
    have mpd:Γ.mod pd=none:=qV (g9 off x23) (W3.eY.row _ m2)
    have x4:=hJ (o:=.dK (eN (rc++[(d.n,aQ c d)]))) x23 fpc mpc
    have hc4:=hcp.ext x4
    have hd4:=hdp.ext x4
    have qpc:q ≠ pc:=fun z=>by
     have e:=ib (M:=Γ.mod) (W3.eY.row _ m1) g_
     dsimp only at e
     rw[<-z,hq3]at e
     cases e
    have qpd:q ≠ pd:=fun z=>by
     have e:=ib (M:=Γ.mod) (W3.eY.row _ m2) g_
     dsimp only at e
     rw[<-z,hq3]at e
     cases e
    refine seq ?_
    dsimp only[Sw.wS,Sw.wE,Sw.wT,Sw.wEs,Sw.wTs,Sw.wI,Sw.wP,Sw.keyOf,Sw.vars,L2.start,Sw.ax,Sw.aw,Sw.ah,Sw.ag,Sw.ao,Sw.ak,Sw.az,Sw.ay,Sw.au,Sw.aq,Sw.aj,Sw.ai,Sw.av,Sw.ab,Nat.reduceAdd,Nat.reduceSub]
    refine hd4.i0 (sJ Wm m2' (hc4.i0 (kP (x:=c.n) (Wm.row _ m2') (by rw[fY,sizeLine_eq];dsimp only;omega) ?_)))
    have p2:putK (eN rd') (Sum.inr c.n) (V.int (aQ c d))=eN (rd'++[(c.n,aQ c d)]):=kB (fun i=>V.int i) rd' c.n (aQ c d) n2
    dsimp only
    rw[p2]
    refine mM (nx2 _ _ ⟨_,_,_,rfl,hJ x4 fpd mpd,?_,?_,Wn⟩)
    ·rw[gX (ae qpd),gX (ae qpc)]
     exact hq3
    ·rw[fV,fV]
     exact fr2
  ·intro σ Hm pv
   obtain⟨o6,o7,E,rfl,x2,hq2,fr2,W2⟩:=pv
   rw[ltk]at W2
   refine eI (Γ:=Γ) (Ξ:=X0) (nx _ _ ⟨_,_,_,_,E,rfl,x2,fr2,W2.congr fun a c' b d' _ _ _=>?_⟩)
   unfold PW
   rw[zX]
 ·intro σ Hn pv
  obtain⟨o4,o5,o6,o7,E,rfl,x1,fr1,W1⟩:=pv
  rw[jf,List.length_map,len]at W1
  dsimp only[Sw.wSs,Sw.wS,Sw.wE,Sw.wT,Sw.wEs,Sw.wTs,Sw.wI,Sw.wP,Sw.keyOf,Sw.vars,L2.start,Sw.ax,Sw.aw,Sw.ah,Sw.ag,Sw.ao,Sw.ak,Sw.az,Sw.ay,Sw.au,Sw.aq,Sw.aj,Sw.ai,Sw.av,Sw.ab,Nat.reduceAdd,Nat.reduceSub]
  refine h Hn E ⟨x1,hw,fr1,W1.congr fun a c' b d' ha hc' hd'=>?_⟩
  unfold PW PF
  rw[Cz ha (List.getElem?_eq_some_iff.mp hd').1]
  congr 1
  apply decide_eq_decide.mpr
  constructor
  ·intro z e
   exact z (un.ix hc' hd' e)
  ·intro z e
   subst e
   rw[hc']at hd'
   cases hd'
   exact z rfl
end Ow
namespace Ow
open PySem PySem.Spec PyProof.Rows L2 Sw Wd Tx Rl Lw
variable {M:Mo}
theorem aU.nil {H:Hp} {w:Addr} {cs:List Cp} {P:Nat->Cp->Nat->Cp->Bool} (h:H w=some (.dK [])):aU H w [] cs 0 P:=
 ⟨⟨h,fun e he=>by (cases he),by simp,by simp,fun e he=>by (cases he),by simp,fun e he=>by (cases he)⟩,rfl,Nat.zero_le _,fun a c ha=>by omega⟩
theorem dF.new {H:Hp} {w l:Addr} {E:List Ent} (W:dF H w E) (hl:H l=none):l ∉ w::E.map (·.2.1):=fun z=>by
 obtain⟨kvs,e⟩:=W.at l z
 rw[hl]at e
 cases e
theorem BM {Γ:bf} {F:Fx} {D:dG} (g:A3 Γ M F D) (vs:List V) (H:Hp) (Q:VK) (X:XK) (h:rY M F D vs H Q X):cG Γ lU 2 lP vs H Q X:=by
 obtain⟨l,f,cs,bb,rfl,off,⟨rs,hl,hp⟩,un,iM,ok,hf,h⟩:=h
 refine⟨rfl,?_⟩
 have gm:=g.mod
 obtain rfl:=gm
 have len:=Paired.length hp
 unfold lP
 refine seq ?_
 dsimp only[Sw.wS,Sw.wE,Sw.wT,Sw.wEs,Sw.wTs,Sw.wI,Sw.wP,Sw.keyOf,Sw.vars,L2.start,Sw.ax,Sw.aw,Sw.ah,Sw.ag,Sw.ao,Sw.ak,Sw.az,Sw.ay,Sw.au,Sw.aq,Sw.aj,Sw.ai,Sw.av,Sw.ab,Nat.reduceAdd,Nat.reduceSub]
 intro w hw mw
 have x0:=Ext.upd (M:=Γ.mod) (H:=H) (o:=.dK []) hw mw
 have W0:aU (upd H w (.dK [])) w [] cs 0 (PW bb 0 0):=aU.nil aA
 generalize upd H w (.dK [])=H0 at x0 W0 ⊢
 refine seq ?_
 show wS (.fr _ _ _) Γ _ _ [some (.ref l),some (.ref f),some (.ref w),none,none,none,none,none] H0
 dsimp only[Sw.wS,Sw.wE,Sw.wT,Sw.wEs,Sw.wTs,Sw.wI,Sw.wP,Sw.keyOf,Sw.vars,L2.start,Sw.ax,Sw.aw,Sw.ah,Sw.ag,Sw.ao,Sw.ak,Sw.az,Sw.ay,Sw.au,Sw.aq,Sw.aj,Sw.ai,Sw.av,Sw.ab,Nat.reduceAdd,Nat.reduceSub]
 refine⟨g.cm,?_⟩
 show bD Γ.mod (.ref l) _ _
 unfold bD
 dsimp only
 rw[x0.rd hl]
 dsimp only
 refine dv (fun n σ Hn=>∃o3 E,σ=[some (.ref l),some (.ref f),some (.ref w),o3,none,none,none,none]/\Ext Γ.mod H Hn/\(∀ a ∈ E.map (·.2.1),H a=none)/\aU Hn w E cs n (PW bb 0 0)) (fun n σ Hn p=>?_) ?_ ?_ ⟨none,[],rfl,x0,(fun a ha=>by cases ha),W0⟩
 ·obtain⟨_,_,_,x,_⟩:=p
  exact x.rd hl
 ·intro n v σ Hn D' hv pv nx ct rt bk
  obtain⟨o3,E,rfl,x1,fr1,W1⟩:=pv
  obtain⟨r,c,rfl,ec,hcp⟩:=qi hp hv
  refine seq ?_
  show wS (.sto _ _ _) Γ _ _ [some (.ref l),some (.ref f),some (.ref w),some (.ref r),none,none,none,none] Hn
  dsimp only[Sw.wS,Sw.wE,Sw.wT,Sw.wEs,Sw.wTs,Sw.wI,Sw.wP,Sw.keyOf,Sw.vars,L2.start,Sw.ax,Sw.aw,Sw.ah,Sw.ag,Sw.ao,Sw.ak,Sw.az,Sw.ay,Sw.au,Sw.aq,Sw.aj,Sw.ai,Sw.av,Sw.ab,Nat.reduceAdd,Nat.reduceSub]
  intro q hq mq
  have nq:=W1.eY.new hq
  have hqn:H q=none:=qX x1 hq
  have xq:=Ext.upd (M:=Γ.mod) (H:=Hn) (o:=.dK []) hq mq
  have W2:=W1.sub (Sub.mR xq)
  have hqq:upd Hn q (.dK []) q=some (.dK (eN [])):=aA
  have x2:=x1.trans xq
  generalize upd Hn q (.dK [])=Hq at xq W2 hqq x2 ⊢
  refine(hcp.ext x2).i0 (kP (x:=c.n) W2.eY.top (by rw[iT,W2.len,sizeLine_eq];have:=W2.le;omega) ?_)
  obtain⟨e,W3⟩:=W2.put un iM ec hqq nq (b_.nil fun b d _=>by unfold PW;rw[zW];rfl)
  rw[e]
  refine eI (Γ:=Γ) (Ξ:=X0) (nx _ _ ⟨_,_,rfl,hJ x2 hw mw,fun a ha=>?_,W3⟩)
  rw[List.map_append]at ha
  rcases List.mem_append.mp ha with ha | ha
  ·exact fr1 a ha
  ·rw[show a=q by simpa using ha]
   exact hqn
 ·intro σ Hn pv
  obtain⟨o3,E,rfl,x1,fr1,W1⟩:=pv
  rw[List.length_map,len]at W1
  exact zu g off hl hp un iM ok hf x1 hw fr1 W1 fun H' E' n=>h H' w E' n
end Ow
namespace Ow
open PySem PySem.Spec PyProof.Rows L2 Sw Wd Tx Rl Lw
variable {M:Mo}
@[reducible] noncomputable def fI:List Str:=["_law_cell_here","_law_many","_law_letters","_law_way","_law_size","_law_at","_law_names_here","_law_k","_law_sign"]
noncomputable def fz:cR:=(.cons (.asg 2 (.con (.str "abcdefghijklmnopqrstuvwxyz")))
 (.cons (.asg 3 (.bin .Mod (.var 0) (.con (.int 3))))
 (.cons (.asg 4 (.bin .Add (.con (.int 1)) (.bin .Mod (.bin .FloorDiv (.var 0) (.con (.int 3))) (.con (.int 8)))))
 (.cons (.asg 5 (.bin .Mod (.bin .FloorDiv (.var 0) (.con (.int 24))) (.var 4)))
 (.cons (.asg 6 (.lst .nil))
 (.cons (.fr 7 (.rng1 (.var 1)) (.cons (.asg 8 (.idx (.var 2) (.bin .Mod (.bin .Add (.bin .FloorDiv (.var 0) (.con (.int 192))) (.bin .Mult (.con (.int 11)) (.var 7))) (.con (.int 26)))))
 (.cons (.iff (.cmp .Eq (.var 3) (.con (.int 0))) (.cons (.exp (.mth .append (.var 6) (.cons (.bin .Add (.bin .Add (.bin .Mult (.con (.str "m")) (.var 5)) (.var 8)) (.bin .Mult (.con (.str "m")) (.bin .Sub (.bin .Sub (.var 4) (.var 5)) (.con (.int 1))))) .nil)))
  .nil) (.cons (.iff (.cmp .Eq (.var 3) (.con (.int 1))) (.cons (.exp (.mth .append (.var 6) (.cons (.bin .Add (.var 8) (.bin .Mult (.con (.str "m")) (.bin .Mod (.bin .Add (.bin .Mult (.var 7) (.var 7)) (.bin .FloorDiv (.var 0) (.con (.int 192)))) (.con (.int 8))))) .nil)))
  .nil) (.cons (.exp (.mth .append (.var 6) (.cons (.bin .Add (.idx (.var 2) (.bin .Mod (.bin .Add (.bin .FloorDiv (.var 0) (.con (.int 192))) (.bin .FloorDiv (.var 7) (.con (.int 4)))) (.con (.int 26)))) (.bin .Mult (.con (.str "b")) (.bin .Sub (.con (.int 3)) (.bin .Mod (.var 7) (.con (.int 4)))))) .nil)))
  .nil))
  .nil))
 .nil)))
 (.cons (.ret (.var 6))
 .nil)))))))
@[reducible] noncomputable def eF:List Str:=["_law_script","_law_cells","_law_names_here","_law_couples_here","_law_k","_law_cell_here","_law_need"]
noncomputable def eD:cR:=(.cons (.asg 1 (.slc (.bin .Add (.var 0) (.lst (.cons (.con (.int 0)) (.cons (.con (.int 1)) (.cons (.con (.int 2)) .nil))))) (.cons (.con (.int 2)) .nil) (.cons (.con (.int 16)) .nil)))
 (.cons (.asg 2 (.call "_law_names" (.cons (.call "_law_cell" (.cons (.var 0) (.cons (.con (.int 1)) .nil))) (.cons (.blt .len (.cons (.var 1) .nil)) .nil))))
 (.cons (.asg 3 (.lst .nil))
 (.cons (.frE 4 5 (.var 1) (.cons (.asg 6 (.bin .Add (.con (.int 1)) (.idx (.lst (.cons (.bin .Mod (.call "_law_mix" (.cons (.var 5) (.cons (.con (.int 1)) .nil))) (.con (.int 200))) (.cons (.bin .Mod (.call "_law_mix" (.cons (.var 5) (.cons (.con (.int 1)) .nil))) (.bin .Pow (.con (.int 10)) (.con (.int 6)))) .nil))) (.bin .Mod (.call "_law_mix" (.cons (.var 5) (.cons (.con (.int 2)) .nil))) (.con (.int 2))))))
 (.cons (.exp (.mth .append (.var 3) (.cons (.tup (.cons (.idx (.var 2) (.var 4)) (.cons (.var 6) (.cons (.bin .Mod (.call "_law_mix" (.cons (.var 5) (.cons (.con (.int 3)) .nil))) (.bin .Add (.bin .Pow (.con (.int 10)) (.con (.int 6))) (.con (.int 1)))) (.cons (.call "_law_side" (.cons (.var 5) (.cons (.con (.int 5)) .nil))) (.cons (.call "_law_side" (.cons (.var 5) (.cons (.con (.int 6)) .nil))) .nil)))))) .nil)))
 .nil)))
 (.cons (.ret (.var 3))
 .nil)))))
theorem Et {i j:Int} (h0: -4294967296<=j) (h1:j<=4294967296):(qj i || qj j)=true:=by rw[lO h0 h1,Bool.or_true]
theorem Eu {i j:Int} (h0: -4294967296<=i) (h1:i<=4294967296):(qj i || qj j)=true:=by rw[lO h0 h1,Bool.true_or]
theorem CL {M:Mo} {H:Hp} {p:Addr} {ws:List Str} {x:Str} {Q:VK} (h:H p=some (.lst (ws.map V.str))) (hl:ws.length < sizeLine) (q:Q .non (upd H p (.lst ((ws++[x]).map V.str)))):f_ M .append (.ref p) [.str x] H Q:=by
 rw[Sw.lz,h]
 dsimp only
 refine⟨by rw[List.length_map];exact hl,?_⟩
 rw[List.map_append]at q
 exact q
theorem sC {M:Mo} {H:Hp} {p:Addr} {xs:List V} (h:H p=some (.lst xs)):(match V.ref p with | .ref p=>(match rd M H p with | some (.lst _)=>true | _=>false) | _=>false)=true:=by
 dsimp only
 rw[ib h (by intro _ _ z;cases z)]
theorem wU {k:Int} (h0:0<=k) (h1:k<=8):(Txt.mul (Str.ofString "m") k).length<=8:=by
 have e:((List.range 9).all fun t=>decide ((Txt.mul (Str.ofString "m") (t:Int)).length<=8))=true:=by decide +kernel
 have:=List.all_eq_true.mp e k.toNat (List.mem_range.mpr (by omega))
 rw[Int.toNat_of_nonneg h0]at this
 exact of_decide_eq_true this
theorem DG {k:Int} (h0:0<=k) (h1:k<=8):(Txt.mul (Str.ofString "b") k).length<=8:=by
 have e:((List.range 9).all fun t=>decide ((Txt.mul (Str.ofString "b") (t:Int)).length<=8))=true:=by decide +kernel
 have:=List.all_eq_true.mp e k.toNat (List.mem_range.mpr (by omega))
 rw[Int.toNat_of_nonneg h0]at this
 exact of_decide_eq_true this
theorem w9:(Str.ofString "m").length=1:=by decide +kernel
theorem DM:(Str.ofString "b").length=1:=by decide +kernel
theorem len_cat (x y:Str):(x++y).length=x.length + y.length:=by
 show(x.cps++y.cps).size=x.cps.size + y.cps.size
 rw[Array.size_append]
noncomputable def jE (i:Int):Str:=⟨#[97 + (i % 26).toNat]⟩
theorem qm {i:Int} {M:Mo} {H:Hp} {Q:VK} (q:Q (.str (jE i)) H):gj M (.str (Str.ofString "abcdefghijklmnopqrstuvwxyz")) (.int (i % 26)) H Q:=by
 rw[p5]
 have el:(Str.ofString "abcdefghijklmnopqrstuvwxyz").cps.toList=cps kD:=rfl
 refine⟨by rw[sizeLine_eq];decide +kernel,?_⟩
 rw[el,iy (Int.emod_nonneg _ (by decide)) (Int.emod_lt_of_pos _ (by decide))]
 exact q
theorem lD {i j:Int} (h:jE i=jE j):i % 26=j % 26:=by
 have h1:(97 + (i % 26).toNat)=97 + (j % 26).toNat:=by
  have:=congrArg (fun s:Str=>s.cps.toList) h
  simpa[jE]using this
 have a:=Int.emod_nonneg i (show(26:Int) ≠ 0 by decide)
 have b:=Int.emod_nonneg j (show(26:Int) ≠ 0 by decide)
 rw[<-Int.toNat_of_nonneg a,<-Int.toNat_of_nonneg b,Nat.add_left_cancel h1]
noncomputable def wO (wy sz at_ q:Int) (k:Nat):Str:=
 if wy=0 then Txt.mul (Str.ofString "m") at_++jE (q + 11 * k)++Txt.mul (Str.ofString "m") (1 + sz - at_ - 1)
 else if wy=1 then jE (q + 11 * k)++Txt.mul (Str.ofString "m") (((k:Int) * k + q) % 8)
 else jE (q + (k:Int) / 4)++Txt.mul (Str.ofString "b") (3 - (k:Int) % 4)
theorem hU (x y:Str):cps (x++y)=cps x++cps y:=by
 show(x.cps++y.cps).toList=_
 rw[Array.toList_append]
theorem sO {i j:Int} {x y:Str} (h:jE i++x=jE j++y):jE i=jE j/\cps x=cps y:=by
 have e:=congrArg cps h
 rw[hU,hU]at e
 have e':(97 + (i % 26).toNat)::cps x=(97 + (j % 26).toNat)::cps y:=e
 injection e' with e1 e2
 exact⟨by unfold jE;rw[e1],e2⟩
theorem mT {t:Int} (h0:0<=t) (h1:t<=3):((cps (Txt.mul (Str.ofString "b") t)).length:Int)=t:=by
 have e:((List.range 4).all fun t=>decide ((cps (Txt.mul (Str.ofString "b") (t:Int))).length=t))=true:=by decide +kernel
 have:=of_decide_eq_true (List.all_eq_true.mp e t.toNat (List.mem_range.mpr (by omega)))
 rw[Int.toNat_of_nonneg h0]at this
 omega
theorem BX {wy sz at_ q:Int} {j k:Nat} (hj:j < 26) (hk:k < 26) (h:wO wy sz at_ q j=wO wy sz at_ q k):j=k:=by
 unfold wO at h
 by_cases q0:wy=0
 ·rw[if_pos q0,if_pos q0]at h
  have e:=congrArg cps h
  rw[hU,hU,hU,hU]at e
  have e1:=List.append_cancel_left (List.append_cancel_right e)
  have e2:=lD (nF e1)
  omega
 ·rw[if_neg q0,if_neg q0]at h
  by_cases q1:wy=1
  ·rw[if_pos q1,if_pos q1]at h
   have e2:=lD (sO h).1
   omega
  ·rw[if_neg q1,if_neg q1]at h
   obtain⟨e1,e2⟩:=sO h
   have e3:=lD e1
   have e4:=congrArg List.length e2
   have m1:=mT (t:=3 - (j:Int) % 4) (by omega) (by omega)
   have m2:=mT (t:=3 - (k:Int) % 4) (by omega) (by omega)
   omega
theorem wN {wy sz at_ q:Int} {n:Nat} (h:n<=26):((List.range n).map (wO wy sz at_ q)).Nodup:=by
 refine List.Pairwise.map _ (R:=fun a b=>a ≠ b/\a < n/\b < n) (fun a b hab e=>hab.1 (BX (by omega) (by omega) e)) ?_
 refine List.Pairwise.imp_of_mem (fun{a b} ha hb hab=>⟨hab,List.mem_range.mp ha,List.mem_range.mp hb⟩) List.nodup_range
noncomputable def ku (M:Mo):Sp:=fun vs H Q _=>∃c n,vs=[.int c,.int n]/\0<=n/\n<=20/\
 ∀ (l:Addr) (ns:List Str),H l=none->M l=none->(ns.length:Int)=n->ns.Nodup->Q (.ref l) (upd H l (.lst (ns.map V.str)))
theorem wG {M:Mo} {Γ:bf} (gm:Γ.mod=M) (gc:Γ.cm=true) (vs:List V) (H:Hp) (Q:VK) (E:XK) (h:ku M vs H Q E):cG Γ fI 2 fz vs H Q E:=by
 obtain⟨c,n,rfl,n0,n1,h⟩:=h
 refine⟨rfl,?_⟩
 obtain rfl:=gm
 unfold fz
 refine seq ?_
 dsimp only[Sw.wS,Sw.wE,Sw.wT,Sw.wEs,Sw.wTs,Sw.wI,Sw.wP,Sw.keyOf,Sw.vars,L2.start,Sw.ax,Sw.aw,Sw.ah,Sw.ag,Sw.ao,Sw.ak,Sw.az,Sw.ay,Sw.au,Sw.aq,Sw.aj,Sw.ai,Sw.av,Sw.ab,Nat.reduceAdd,Nat.reduceSub]
 refine seq ?_
 dsimp only[Sw.wS,Sw.wE,Sw.wT,Sw.wEs,Sw.wTs,Sw.wI,Sw.wP,Sw.keyOf,Sw.vars,L2.start,Sw.ax,Sw.aw,Sw.ah,Sw.ag,Sw.ao,Sw.ak,Sw.az,Sw.ay,Sw.au,Sw.aq,Sw.aj,Sw.ai,Sw.av,Sw.ab,Nat.reduceAdd,Nat.reduceSub]
 rw[Sw.v_mod]
 refine⟨by decide,?_⟩
 refine seq ?_
 dsimp only[Sw.wS,Sw.wE,Sw.wT,Sw.wEs,Sw.wTs,Sw.wI,Sw.wP,Sw.keyOf,Sw.vars,L2.start,Sw.ax,Sw.aw,Sw.ah,Sw.ag,Sw.ao,Sw.ak,Sw.az,Sw.ay,Sw.au,Sw.aq,Sw.aj,Sw.ai,Sw.av,Sw.ab,Nat.reduceAdd,Nat.reduceSub]
 rw[Sw.v_div]
 refine⟨by decide,by decide,?_⟩
 rw[Sw.v_mod]
 refine⟨by decide,?_⟩
 rw[Sw.v_add]
 have s0:=Int.emod_nonneg (c / 3) (show(8:Int) ≠ 0 by decide)
 have s1:=Int.emod_lt_of_pos (c / 3) (show(0:Int) < 8 by decide)
 generalize c / 3 % 8=sz at s0 s1
 refine seq ?_
 dsimp only[Sw.wS,Sw.wE,Sw.wT,Sw.wEs,Sw.wTs,Sw.wI,Sw.wP,Sw.keyOf,Sw.vars,L2.start,Sw.ax,Sw.aw,Sw.ah,Sw.ag,Sw.ao,Sw.ak,Sw.az,Sw.ay,Sw.au,Sw.aq,Sw.aj,Sw.ai,Sw.av,Sw.ab,Nat.reduceAdd,Nat.reduceSub]
 rw[Sw.v_div]
 refine⟨by decide,by decide,?_⟩
 rw[Sw.v_mod]
 refine⟨by omega,?_⟩
 have a0:=Int.emod_nonneg (c / 24) (show 1 + sz ≠ 0 by omega)
 have a1:=Int.emod_lt_of_pos (c / 24) (show 0 < 1 + sz by omega)
 generalize c / 24 % (1 + sz)=at_ at a0 a1
 generalize c % 3=wy
 refine seq ?_
 dsimp only[Sw.wS,Sw.wE,Sw.wT,Sw.wEs,Sw.wTs,Sw.wI,Sw.wP,Sw.keyOf,Sw.vars,L2.start,Sw.ax,Sw.aw,Sw.ah,Sw.ag,Sw.ao,Sw.ak,Sw.az,Sw.ay,Sw.au,Sw.aq,Sw.aj,Sw.ai,Sw.av,Sw.ab,Nat.reduceAdd,Nat.reduceSub]
 refine⟨by rw[sizeLine_eq];simp,fun l hl ml=>?_⟩
 refine seq ?_
 dsimp only[Sw.wS,Sw.wE,Sw.wT,Sw.wEs,Sw.wTs,Sw.wI,Sw.wP,Sw.keyOf,Sw.vars,L2.start,Sw.ax,Sw.aw,Sw.ah,Sw.ag,Sw.ao,Sw.ak,Sw.az,Sw.ay,Sw.au,Sw.aq,Sw.aj,Sw.ai,Sw.av,Sw.ab,Nat.reduceAdd,Nat.reduceSub]
 refine⟨gc,by omega,by omega,?_⟩
 refine dv (fun k σ H'=>∃ (v7 v8:Option V),σ=[some (.int c),some (.int n),some (.str (Str.ofString "abcdefghijklmnopqrstuvwxyz")),some (.int wy),some (.int (1 + sz)),some (.int at_),some (.ref l),v7,v8]/\H'=upd H l (.lst (((List.range k).map (wO wy sz at_ (c / 192))).map V.str))/\k<=20) (fun n σ H' z=>trivial) ?_ ?_
  ⟨none,none,rfl,rfl,by decide⟩
 ·intro k v σ Hn D' hv pv nx ct _ _
  obtain⟨v7,v8,rfl,rfl,e3⟩:=pv
  rw[List.getElem?_map]at hv
  obtain⟨k',hk,rfl⟩:=Option.map_eq_some_iff.mp hv
  obtain⟨hk1,hk2⟩:=List.getElem?_eq_some_iff.mp hk
  rw[List.getElem_range]at hk2
  subst hk2
  rw[List.length_range]at hk1
  have app:∀ (x:Str) (v8:Option V),x=wO wy sz at_ (c / 192) k->f_ Γ.mod .append (.ref l) [.str x] (upd H l (.lst (((List.range k).map (wO wy sz at_ (c / 192))).map V.str))) fun _ H1=>D'.nx [some (.int c),some (.int n),some (.str (Str.ofString "abcdefghijklmnopqrstuvwxyz")),some (.int wy),some (.int (1 + sz)),some (.int at_),some (.ref l),some (.int k),v8] H1:=fun x v8 ex=>by
   refine CL (x:=x) (ws:=(List.range k).map (wO wy sz at_ (c / 192))) aA (by rw[List.length_map,List.length_range,sizeLine_eq];omega) ?_
   rw[eK]
   refine nx _ _ ⟨_,_,rfl,?_,by omega⟩
   rw[List.range_succ,List.map_append (l₁:=List.range k),ex]
   rfl
  refine seq ?_
  dsimp only[Sw.wS,Sw.wE,Sw.wT,Sw.wEs,Sw.wTs,Sw.wI,Sw.wP,Sw.keyOf,Sw.vars,L2.start,Sw.ax,Sw.aw,Sw.ah,Sw.ag,Sw.ao,Sw.ak,Sw.az,Sw.ay,Sw.au,Sw.aq,Sw.aj,Sw.ai,Sw.av,Sw.ab,Nat.reduceAdd,Nat.reduceSub]
  rw[Sw.v_div]
  refine⟨by decide,by decide,?_⟩
  rw[Sw.v_mul]
  refine⟨Eu (by decide) (by decide),?_⟩
  rw[Sw.v_add,Sw.v_mod]
  refine⟨by decide,qm ?_⟩
  have lch:∀i,(jE i).length=1:=fun _=>rfl
  refine seq ?_
  dsimp only[Sw.wS,Sw.wE,Sw.wT,Sw.wEs,Sw.wTs,Sw.wI,Sw.wP,Sw.keyOf,Sw.vars,L2.start,Sw.ax,Sw.aw,Sw.ah,Sw.ag,Sw.ao,Sw.ak,Sw.az,Sw.ay,Sw.au,Sw.aq,Sw.aj,Sw.ai,Sw.av,Sw.ab,Nat.reduceAdd,Nat.reduceSub]
  rw[Sw.iR]
  refine⟨_,rfl,?_⟩
  by_cases q0:wy=0
  ·rw[if_pos (by simp[q0])]
   refine seq ?_
   dsimp only[Sw.wS,Sw.wE,Sw.wT,Sw.wEs,Sw.wTs,Sw.wI,Sw.wP,Sw.keyOf,Sw.vars,L2.start,Sw.ax,Sw.aw,Sw.ah,Sw.ag,Sw.ao,Sw.ak,Sw.az,Sw.ay,Sw.au,Sw.aq,Sw.aj,Sw.ai,Sw.av,Sw.ab,Nat.reduceAdd,Nat.reduceSub]
   have l1:=wU a0 (show at_<=8 by omega)
   have l2:=wU (k:=1 + sz - at_ - 1) (by omega) (by omega)
   refine⟨sC aA,?_⟩
   rw[Sw.jo,w9]
   refine⟨by omega,?_⟩
   rw[Sw.eh,lch,sizeLine_eq]
   refine⟨Nat.le_trans (Nat.add_le_add_right l1 1) (by decide),?_⟩
   rw[Sw.v_sub,Sw.v_sub,Sw.jo,w9]
   refine⟨by omega,?_⟩
   rw[Sw.eh,len_cat,lch,sizeLine_eq]
   exact⟨Nat.le_trans (Nat.add_le_add (Nat.add_le_add_right l1 1) l2) (by decide),app _ _ (by unfold wO;rw[if_pos q0])⟩
  rw[if_neg (by simp[q0])]
  refine seq ?_
  dsimp only[Sw.wS,Sw.wE,Sw.wT,Sw.wEs,Sw.wTs,Sw.wI,Sw.wP,Sw.keyOf,Sw.vars,L2.start,Sw.ax,Sw.aw,Sw.ah,Sw.ag,Sw.ao,Sw.ak,Sw.az,Sw.ay,Sw.au,Sw.aq,Sw.aj,Sw.ai,Sw.av,Sw.ab,Nat.reduceAdd,Nat.reduceSub]
  rw[Sw.iR]
  refine⟨_,rfl,?_⟩
  by_cases q1:wy=1
  ·rw[if_pos (by simp[q1])]
   refine seq ?_
   dsimp only[Sw.wS,Sw.wE,Sw.wT,Sw.wEs,Sw.wTs,Sw.wI,Sw.wP,Sw.keyOf,Sw.vars,L2.start,Sw.ax,Sw.aw,Sw.ah,Sw.ag,Sw.ao,Sw.ak,Sw.az,Sw.ay,Sw.au,Sw.aq,Sw.aj,Sw.ai,Sw.av,Sw.ab,Nat.reduceAdd,Nat.reduceSub]
   refine⟨sC aA,?_⟩
   rw[Sw.v_mul]
   refine⟨Et (by omega) (by omega),?_⟩
   rw[Sw.v_div]
   refine⟨by decide,by decide,?_⟩
   rw[Sw.v_add,Sw.v_mod]
   refine⟨by decide,?_⟩
   have m0:=Int.emod_nonneg ((k:Int) * (k:Int) + c / 192) (show(8:Int) ≠ 0 by decide)
   have m1:=Int.emod_lt_of_pos ((k:Int) * (k:Int) + c / 192) (show(0:Int) < 8 by decide)
   generalize em:((k:Int) * (k:Int) + c / 192) % 8=mm at m0 m1
   have l1:=wU m0 (by omega)
   rw[Sw.jo,w9]
   refine⟨by omega,?_⟩
   rw[Sw.eh,lch,sizeLine_eq]
   exact⟨Nat.le_trans (Nat.add_le_add_left l1 1) (by decide),app _ _ (by unfold wO;rw[if_neg q0,if_pos q1,em])⟩
  rw[if_neg (by simp[q1])]
  refine seq ?_
  dsimp only[Sw.wS,Sw.wE,Sw.wT,Sw.wEs,Sw.wTs,Sw.wI,Sw.wP,Sw.keyOf,Sw.vars,L2.start,Sw.ax,Sw.aw,Sw.ah,Sw.ag,Sw.ao,Sw.ak,Sw.az,Sw.ay,Sw.au,Sw.aq,Sw.aj,Sw.ai,Sw.av,Sw.ab,Nat.reduceAdd,Nat.reduceSub]
  refine⟨sC aA,?_⟩
  rw[Sw.v_div]
  refine⟨by decide,by decide,?_⟩
  rw[Sw.v_div]
  refine⟨by decide,by decide,?_⟩
  rw[Sw.v_add,Sw.v_mod]
  refine⟨by decide,qm ?_⟩
  rw[Sw.v_mod]
  refine⟨by decide,?_⟩
  have m0:=Int.emod_nonneg (k:Int) (show(4:Int) ≠ 0 by decide)
  have m1:=Int.emod_lt_of_pos (k:Int) (show(0:Int) < 4 by decide)
  generalize em:(k:Int) % 4=mm at m0 m1
  have l1:=DG (k:=3 - mm) (by omega) (by omega)
  rw[Sw.v_sub,Sw.jo,DM]
  refine⟨by omega,?_⟩
  rw[Sw.eh,lch,sizeLine_eq]
  exact⟨Nat.le_trans (Nat.add_le_add_left l1 1) (by decide),app _ _ (by unfold wO;rw[if_neg q0,if_neg q1,em])⟩
 ·intro σ Hn pv
  obtain⟨v7,v8,rfl,rfl,e3⟩:=pv
  dsimp only[Sw.wSs,Sw.wS,Sw.wE,Sw.wT,Sw.wEs,Sw.wTs,Sw.wI,Sw.wP,Sw.keyOf,Sw.vars,L2.start,Sw.ax,Sw.aw,Sw.ah,Sw.ag,Sw.ao,Sw.ak,Sw.az,Sw.ay,Sw.au,Sw.aq,Sw.aj,Sw.ai,Sw.av,Sw.ab,Nat.reduceAdd,Nat.reduceSub]
  rw[List.length_map,List.length_range]
  exact h l _ hl ml (by rw[List.length_map,List.length_range];omega) (wN (by omega))
end Ow
namespace Ow
open PySem PySem.Spec PyProof.Rows L2 Sw Wd Tx Rl Lw
variable {M:Mo}
theorem qY {H:Hp} {a l:Addr} {xs ys:List V} (h:rd M H a=some (.tup ys)) (hl:H l=some (.lst xs)):a ≠ l:=by
 rintro rfl
 unfold rd at h
 rw[hl]at h
 cases h
theorem cA.C3 {H:Hp} {a l:Addr} {c:Cp} {xs:List V} {o:HO} (h:cA M H a c) (hl:H l=some (.lst xs)):cA M (upd H l o) a c:=by
 obtain⟨p,q,h1,h2,h3⟩:=h
 exact⟨p,q,by rw[gX (ae (qY h1 hl))];exact h1,(gX (ae (qY h2 hl))).trans h2,(gX (ae (qY h3 hl))).trans h3⟩
structure A6 (Γ:bf) (M:Mo):Prop where
 cm:Γ.cm=true
 mod:Γ.mod=M
 ce:Γ.has "_law_cell" =true/\Γ.fn "_law_cell" =kT M
 nm:Γ.has "_law_names" =true/\Γ.fn "_law_names" =ku M
 mx:Γ.has "_law_mix" =true/\Γ.fn "_law_mix" =mK
 sd:Γ.has "_law_side" =true/\Γ.fn "_law_side" =nK M
noncomputable def gW (M:Mo):Sp:=fun vs H Q _=>∃a,∃ns:List Int,vs=[.ref a]/\ns.length<=63/\rd M H a=some (.lst (ns.map V.int))/\
 ∀H' l cs,Ext M H H'->CU M H' l cs->Un cs->1<=cs.length->cs.length<=14->(∀ c ∈ cs,c.Ok)->Q (.ref l) H'
theorem xX (xs:List Int) (lo hi:Option Int):jJ (xs.map V.int) lo hi=((xs.drop (HT.kY xs.length 0 lo)).take (HT.kY xs.length xs.length hi - HT.kY xs.length 0 lo)).map V.int:=by
 unfold jJ
 rw[List.length_map,<-List.map_drop,<-List.map_take]
theorem AS (a b:Int) {r:Int} (h0:0<=r) (h1:r < 2):∃j,kK [V.int a,V.int b] r=some (.int j):=by
 have:r=0\/r=1:=by omega
 rcases this with rfl | rfl
 ·exact⟨a,rfl⟩
 ·exact⟨b,rfl⟩
theorem qU {Γ:bf} (g:A6 Γ M) (vs:List V) (H:Hp) (Q:VK) (E:XK) (h:gW M vs H Q E):cG Γ eF 1 eD vs H Q E:=by
 obtain⟨a,ns,rfl,hlen,ha,h⟩:=h
 refine⟨rfl,?_⟩
 have gm:=g.mod
 obtain rfl:=gm
 unfold eD
 refine seq ?_
 dsimp only[Sw.wS,Sw.wE,Sw.wT,Sw.wEs,Sw.wTs,Sw.wI,Sw.wP,Sw.keyOf,Sw.vars,L2.start,Sw.ax,Sw.aw,Sw.ah,Sw.ag,Sw.ao,Sw.ak,Sw.az,Sw.ay,Sw.au,Sw.aq,Sw.aj,Sw.ai,Sw.av,Sw.ab,Nat.reduceAdd,Nat.reduceSub]
 refine⟨by decide,fun p hp mp=>?_⟩
 have x1:=Ext.upd (M:=Γ.mod) (H:=H) (o:=.lst [V.int 0,V.int 1,V.int 2]) hp mp
 have hp1:rd Γ.mod (upd H p (.lst [V.int 0,V.int 1,V.int 2])) p=some (.lst [V.int 0,V.int 1,V.int 2]):=br (by intro _ _ z;cases z)
 generalize upd H p (.lst [V.int 0,V.int 1,V.int 2])=H1 at x1 hp1 ⊢
 rw[Sw.Ao,x1.rd ha,hp1]
 dsimp only
 refine⟨by rw[List.length_map];simp only[List.length_cons,List.length_nil];rw[sizeLine_eq];omega,fun p2 hp2 mp2=>?_⟩
 have ec:ns.map V.int++[V.int 0,V.int 1,V.int 2]=(ns++[0,1,2]).map V.int:=by rw[List.map_append];rfl
 rw[ec]
 have x2:=Ext.upd (M:=Γ.mod) (H:=H1) (o:=.lst ((ns++[0,1,2]).map V.int)) hp2 mp2
 have hp3:rd Γ.mod (upd H1 p2 (.lst ((ns++[0,1,2]).map V.int))) p2=some (.lst ((ns++[0,1,2]).map V.int)):=br (by intro _ _ z;cases z)
 generalize upd H1 p2 (.lst ((ns++[0,1,2]).map V.int))=H2 at x2 hp3 ⊢
 rw[Sw.pA,hp3]
 dsimp only
 intro q hq mq
 rw[xX]
 generalize ey:((ns++[0,1,2]).drop (HT.kY (ns++[0,1,2]).length 0 (some 2))).take (HT.kY (ns++[0,1,2]).length (ns++[0,1,2]).length (some 16) - HT.kY (ns++[0,1,2]).length 0 (some 2))=ys
 have ly:1<=ys.length/\ys.length<=14:=by
  rw[<-ey,List.length_take,List.length_drop,show(some (2:Int))=some ((2:Nat):Int)from rfl,show(some (16:Int))=some ((16:Nat):Int)from rfl,HT.kA,HT.kA,List.length_append]
  simp only[List.length_cons,List.length_nil]
  rw[Nat.min_eq_left (show 2<=ns.length + (0 + 1 + 1 + 1)from Nat.le_add_left_of_le (by decide))]
  exact⟨Nat.le_min.mpr ⟨Nat.le_sub_of_add_le (Nat.le_min.mpr ⟨by decide,Nat.le_add_left_of_le (by decide)⟩),Nat.le_sub_of_add_le (Nat.le_add_left_of_le (by decide))⟩,Nat.le_trans (Nat.min_le_left _ _) (Nat.sub_le_sub_right (Nat.min_le_left _ _) 2)⟩
 clear ey
 have x3:=Ext.upd (M:=Γ.mod) (H:=H2) (o:=.lst (ys.map V.int)) hq mq
 have hqy:rd Γ.mod (upd H2 q (.lst (ys.map V.int))) q=some (.lst (ys.map V.int)):=br (by intro _ _ z;cases z)
 have x03:=(x1.trans x2).trans x3
 generalize upd H2 q (.lst (ys.map V.int))=H3 at x3 hqy x03 ⊢
 clear x1 x2 x3 hp1 hp3
 refine seq ?_
 dsimp only[Sw.wS,Sw.wE,Sw.wT,Sw.wEs,Sw.wTs,Sw.wI,Sw.wP,Sw.keyOf,Sw.vars,L2.start,Sw.ax,Sw.aw,Sw.ah,Sw.ag,Sw.ao,Sw.ak,Sw.az,Sw.ay,Sw.au,Sw.aq,Sw.aj,Sw.ai,Sw.av,Sw.ab,Nat.reduceAdd,Nat.reduceSub]
 refine⟨⟨g.cm,g.nm.1⟩,⟨g.cm,g.ce.1⟩,?_⟩
 rw[g.ce.2]
 refine⟨a,_,ns,rfl,by decide,x03.rd ha,fun c1=>⟨g.cm,?_⟩⟩
 rw[Sw.lR,hqy]
 dsimp only
 rw[g.nm.2]
 refine⟨c1,_,rfl,by omega,by rw[List.length_map];omega,fun nl nms hnl mnl enl und=>?_⟩
 rw[List.length_map]at enl
 have lnm:nms.length=ys.length:=by omega
 have x4:=Ext.upd (M:=Γ.mod) (H:=H3) (o:=.lst (nms.map V.str)) hnl mnl
 have hnm:rd Γ.mod (upd H3 nl (.lst (nms.map V.str))) nl=some (.lst (nms.map V.str)):=br (by intro _ _ z;cases z)
 have hqy4:=x4.rd hqy
 have x04:=x03.trans x4
 generalize upd H3 nl (.lst (nms.map V.str))=H4 at x4 hnm hqy4 x04 ⊢
 refine seq ?_
 dsimp only[Sw.wS,Sw.wE,Sw.wT,Sw.wEs,Sw.wTs,Sw.wI,Sw.wP,Sw.keyOf,Sw.vars,L2.start,Sw.ax,Sw.aw,Sw.ah,Sw.ag,Sw.ao,Sw.ak,Sw.az,Sw.ay,Sw.au,Sw.aq,Sw.aj,Sw.ai,Sw.av,Sw.ab,Nat.reduceAdd,Nat.reduceSub]
 refine⟨by decide,fun l hl ml=>?_⟩
 have x5:=Ext.upd (M:=Γ.mod) (H:=H4) (o:=.lst []) hl ml
 have hl5:upd H4 l (.lst []) l=some (.lst ([].map V.ref)):=aA
 generalize upd H4 l (.lst [])=H5 at x5 hl5 ⊢
 refine seq ?_
 dsimp only[Sw.wS,Sw.wE,Sw.wT,Sw.wEs,Sw.wTs,Sw.wI,Sw.wP,Sw.keyOf,Sw.vars,L2.start,Sw.ax,Sw.aw,Sw.ah,Sw.ag,Sw.ao,Sw.ak,Sw.az,Sw.ay,Sw.au,Sw.aq,Sw.aj,Sw.ai,Sw.av,Sw.ab,Nat.reduceAdd,Nat.reduceSub]
 refine⟨g.cm,?_⟩
 show lK Γ.mod (.ref q) _ _
 unfold lK
 dsimp only
 rw[x5.rd hqy4]
 dsimp only
 refine qa (fun n σ Hn=>∃o4 o5 o6 rs cs,σ=[some (.ref a),some (.ref q),some (.ref nl),some (.ref l),o4,o5,o6]/\Ext Γ.mod H4 Hn/\Hn l=some (.lst (rs.map V.ref))/\Paired (cA Γ.mod Hn) rs cs/\cs.map (·.n)=nms.take n/\(∀ c ∈ cs,c.Ok)/\n<=ys.length) (fun n σ Hn pv=>?_) ?_ ?_ ⟨none,none,none,[],[],rfl,x5,hl5,.nil,rfl,(fun c hc=>by cases hc),Nat.zero_le _⟩
 ·obtain⟨_,_,_,_,_,_,x,_⟩:=pv
  exact x.rd hqy4
 ·intro n y σ Hn t D' hy pv ht mt nx ct rt
  obtain⟨o4,o5,o6,rs,cs,rfl,x6,hln,hcs,enm,okc,hn⟩:=pv
  obtain⟨ei,e2⟩:=m6 hy
  obtain⟨y1,y2⟩:=y
  dsimp only at ei e2
  subst ei
  rw[List.getElem?_map]at e2
  obtain⟨z,hz,rfl⟩:=Option.map_eq_some_iff.mp e2
  have hlt:y1 < ys.length:=(List.getElem?_eq_some_iff.mp hz).1
  have xt:=Ext.upd (M:=Γ.mod) (H:=Hn) (o:=.tup [V.int (y1:Nat),V.int z]) ht mt
  have x7:=x6.trans xt
  have hl7:=xt.same _ _ hln
  have hcs7:Paired (cA Γ.mod (upd Hn t (.tup [V.int (y1:Nat),V.int z]))) rs cs:=L2.Paired.fN hcs fun r c h=>h.ext xt
  generalize upd Hn t (.tup [V.int (y1:Nat),V.int z])=H7 at xt x7 hl7 hcs7 ⊢
  refine seq ?_
  show wS (.asg _ _) Γ _ _ [some (.ref a),some (.ref q),some (.ref nl),some (.ref l),some (.int (y1:Nat)),some (.int z),o6] H7
  dsimp only[Sw.wS,Sw.wE,Sw.wT,Sw.wEs,Sw.wTs,Sw.wI,Sw.wP,Sw.keyOf,Sw.vars,L2.start,Sw.ax,Sw.aw,Sw.ah,Sw.ag,Sw.ao,Sw.ak,Sw.az,Sw.ay,Sw.au,Sw.aq,Sw.aj,Sw.ai,Sw.av,Sw.ab,Nat.reduceAdd,Nat.reduceSub]
  refine⟨⟨g.cm,g.mx.1⟩,?_⟩
  rw[g.mx.2]
  refine⟨_,_,rfl,by decide,by decide,?_⟩
  try dsimp only
  rw[Sw.v_mod]
  refine⟨by decide,⟨g.cm,g.mx.1⟩,_,_,rfl,by decide,by decide,?_⟩
  try dsimp only
  rw[Sw.v_pow]
  refine⟨by unfold yq;decide,?_⟩
  try dsimp only
  rw[Sw.v_mod]
  refine⟨by decide,by decide,fun p8 hp8 mp8=>⟨⟨g.cm,g.mx.1⟩,_,_,rfl,by decide,by decide,?_⟩⟩
  try dsimp only
  rw[Sw.v_mod]
  refine⟨by decide,?_⟩
  obtain⟨jj,ej⟩:=AS (dA z 1 % 200) (dA z 1 % 10 ^ Int.toNat 6) (r:=dA z 2 % 2) (Int.emod_nonneg _ (by decide)) (Int.emod_lt_of_pos _ (by decide))
  refine lF (br (by intro _ _ z;cases z)) ej ?_
  try dsimp only
  rw[Sw.v_add]
  have x8:=Ext.upd (M:=Γ.mod) (H:=H7) (o:=.lst [V.int (dA z 1 % 200),V.int (dA z 1 % 10 ^ Int.toNat 6)]) hp8 mp8
  have x48:=x7.trans x8
  have hl8:=x8.same _ _ hl7
  have hcs8:Paired (cA Γ.mod (upd H7 p8 (.lst [V.int (dA z 1 % 200),V.int (dA z 1 % 10 ^ Int.toNat 6)]))) rs cs:=L2.Paired.fN hcs7 fun r c h=>h.ext x8
  generalize upd H7 p8 (.lst [V.int (dA z 1 % 200),V.int (dA z 1 % 10 ^ Int.toNat 6)])=H8 at x8 x48 hl8 hcs8 ⊢
  refine seq ?_
  dsimp only[Sw.wS,Sw.wE,Sw.wT,Sw.wEs,Sw.wTs,Sw.wI,Sw.wP,Sw.keyOf,Sw.vars,L2.start,Sw.ax,Sw.aw,Sw.ah,Sw.ag,Sw.ao,Sw.ak,Sw.az,Sw.ay,Sw.au,Sw.aq,Sw.aj,Sw.ai,Sw.av,Sw.ab,Nat.reduceAdd,Nat.reduceSub]
  refine⟨sC hl8,?_⟩
  obtain⟨nv,env⟩:∃x,nms[y1]?=some x:=⟨_,List.getElem?_eq_getElem (by omega)⟩
  have ea:kK (nms.map V.str) (y1:Nat)=some (.str nv):=by
   unfold kK yr
   rw[if_pos (by omega),List.length_map,if_pos (by omega),Option.bind_some,List.getElem?_map,Int.toNat_natCast,env]
   rfl
  refine lF (x48.rd hnm) ea ⟨⟨g.cm,g.mx.1⟩,?_⟩
  rw[g.mx.2]
  refine⟨_,_,rfl,by decide,by decide,?_⟩
  try dsimp only
  rw[Sw.v_pow]
  refine⟨by unfold yq;decide,?_⟩
  try dsimp only
  rw[Sw.v_add,Sw.v_mod]
  refine⟨by decide,⟨g.cm,g.sd.1⟩,?_⟩
  rw[g.sd.2]
  refine⟨_,_,rfl,by decide,by decide,fun s1 H9 q1 os1 x9 hs1=>⟨⟨g.cm,g.sd.1⟩,_,_,rfl,by decide,by decide,fun s2 H10 q2 os2 x10 hs2=>⟨by decide,fun tp htp mtp=>?_⟩⟩⟩
  have x810:=x9.trans x10
  have xt2:=Ext.upd (M:=Γ.mod) (H:=H10) (o:=.tup [V.str nv,V.int (1 + jj),V.int (dA z 3 % (10 ^ Int.toNat 6 + 1)),V.ref q1,V.ref q2]) htp mtp
  have x811:=x810.trans xt2
  have hl11:=x811.same _ _ hl8
  have hnew:cA Γ.mod (upd H10 tp (.tup [V.str nv,V.int (1 + jj),V.int (dA z 3 % (10 ^ Int.toNat 6 + 1)),V.ref q1,V.ref q2])) tp ⟨nv,1 + jj,dA z 3 % (10 ^ Int.toNat 6 + 1),s1,s2⟩:=⟨q1,q2,br (by intro _ _ z;cases z),(hs1.ext x10).ext xt2,hs2.ext xt2⟩
  have hcs11:Paired (cA Γ.mod (upd H10 tp (.tup [V.str nv,V.int (1 + jj),V.int (dA z 3 % (10 ^ Int.toNat 6 + 1)),V.ref q1,V.ref q2]))) rs cs:=L2.Paired.fN hcs8 fun r c h=>h.ext x811
  have x411:=x48.trans x811
  generalize upd H10 tp (.tup [V.str nv,V.int (1 + jj),V.int (dA z 3 % (10 ^ Int.toNat 6 + 1)),V.ref q1,V.ref q2])=H11 at xt2 x811 hl11 hnew hcs11 x411 ⊢
  have lrs:rs.length=y1:=by
   have l1:=Paired.length hcs
   have l2:=congrArg List.length enm
   rw[List.length_map,List.length_take]at l2
   omega
  rw[Sw.lz,hl11]
  dsimp only
  refine⟨by rw[List.length_map,lrs,sizeLine_eq];omega,?_⟩
  refine eI (Γ:=Γ) (Ξ:=X0) (nx _ _ ⟨_,_,_,rs++[tp],cs++[⟨nv,1 + jj,dA z 3 % (10 ^ Int.toNat 6 + 1),s1,s2⟩],rfl,hJ x411 hl ml,?_,jx (L2.Paired.fN hcs11 fun r c h=>h.C3 hl11) (hnew.C3 hl11),?_,fun c hc=>?_,hlt⟩)
  ·rw[aA,List.map_append]
   rfl
  ·rw[List.map_append,enm,List.take_succ,env]
   rfl
  ·rcases List.mem_append.mp hc with hc | hc
   ·exact okc c hc
   ·rw[List.mem_singleton.mp hc]
    exact⟨os1,os2⟩
 ·intro σ Hn pv
  obtain⟨o4,o5,o6,rs,cs,rfl,x6,hln,hcs,enm,okc,hn⟩:=pv
  rw[jf,List.length_map,List.take_of_length_le (by omega)]at enm
  have l2:=congrArg List.length enm
  rw[List.length_map]at l2
  dsimp only[Sw.wSs,Sw.wS,Sw.wE,Sw.wT,Sw.wEs,Sw.wTs,Sw.wI,Sw.wP,Sw.keyOf,Sw.vars,L2.start,Sw.ax,Sw.aw,Sw.ah,Sw.ag,Sw.ao,Sw.ak,Sw.az,Sw.ay,Sw.au,Sw.aq,Sw.aj,Sw.ai,Sw.av,Sw.ab,Nat.reduceAdd,Nat.reduceSub]
  exact h Hn l cs (x04.trans x6) ⟨rs,ip hln,hcs⟩ (by unfold Un;rw[enm];exact und) (by omega) (by omega) okc
end Ow
namespace Ow
open PySem PySem.Spec PyProof.Rows L2 Sw Wd Tx Rl Lw
variable {M:Mo}
@[reducible] noncomputable def iL:List Str:=["_law_couples_here","_law_alternatives_here","_law_due_here","_law_one","_law_row","_law_other","_law_both"]
noncomputable def iH:cR:=(.cons (.asg 2 .dnew)
 (.cons (.fr 3 (.ex (.var 0)) (.cons (.asg 4 .dnew)
 (.cons (.fr 5 (.ex (.var 0)) (.cons (.asg 6 (.and (.call "_law_lets" (.cons (.var 1) (.cons (.idx (.var 3) (.con (.int 3))) (.cons (.idx (.var 5) (.con (.int 4))) .nil)))) (.call "_law_lets" (.cons (.var 1) (.cons (.idx (.var 5) (.con (.int 3))) (.cons (.idx (.var 3) (.con (.int 4))) .nil))))))
  (.cons (.iff (.and (.cmp .NotEq (.idx (.var 3) (.con (.int 0))) (.idx (.var 5) (.con (.int 0)))) (.var 6)) (.cons (.sto (.var 4) (.idx (.var 5) (.con (.int 0))) (.call "_law_worth" (.cons (.var 3) (.cons (.var 5) .nil))))
  .nil) .nil)
  .nil)))
 (.cons (.sto (.var 2) (.idx (.var 3) (.con (.int 0))) (.var 4))
 .nil))))
 (.cons (.ret (.var 2))
 .nil)))
structure A7 (Γ:bf) (M:Mo):Prop where
 cm:Γ.cm=true
 mod:Γ.mod=M
 le:Γ.has "_law_lets" =true/\Γ.fn "_law_lets" =kR M
 lw:Γ.has "_law_worth" =true/\Γ.fn "_law_worth" =yL M
noncomputable def r6 (M:Mo):Sp:=fun vs H Q _=>∃l sa cs as,vs=[.ref l,.ref sa]/\CU M H l cs/\Un cs/\cs.length<=14/\(∀ c ∈ cs,c.Ok)/\tO as/\ie H sa as/\∀H' u E,rP H H' M u E cs (cW (nD as))->Q (.ref u) H'
noncomputable def PR (bb:Sd->Sd->Bool) (c:Cp) (j:Nat):Nat->Cp->Bool:=fun b d=>decide (b < j) && PF bb 0 c b d
theorem y7 {cs:List Cp} {bb:Sd->Sd->Bool} {c d:Cp} {j:Nat} (hd:cs[j]?=some d) (hn:PF bb 0 c j d=false) (b:Nat) (e:Cp) (he:cs[b]?=some e):PR bb c j b e=PR bb c (j + 1) b e:=by
 unfold PR
 by_cases q:b=j
 ·subst q
  rw[he]at hd
  cases hd
  rw[hn,Bool.and_false,Bool.and_false]
 ·congr 1
  apply decide_eq_decide.mpr
  omega
theorem Br {cs:List Cp} {bb:Sd->Sd->Bool} {c d:Cp} {j:Nat} (hd:cs[j]?=some d) (hn:PF bb 0 c j d=true) (b:Nat) (e:Cp) (he:cs[b]?=some e):(PR bb c j b e || decide (b=j))=PR bb c (j + 1) b e:=by
 unfold PR
 by_cases q:b=j
 ·subst q
  rw[he]at hd
  cases hd
  rw[hn,decide_eq_true rfl,Bool.or_true,decide_eq_true (Nat.lt_succ_self _)]
  rfl
 ·rw[decide_eq_false q,Bool.or_false]
  congr 1
  apply decide_eq_decide.mpr
  omega
theorem BR {Γ:bf} (g:A7 Γ M) (vs:List V) (H:Hp) (Q:VK) (X:XK) (h:r6 M vs H Q X):cG Γ iL 2 iH vs H Q X:=by
 obtain⟨l,sa,cs,as,rfl,⟨rs,hl,hp⟩,un,iM,ok,oka,hsa,h⟩:=h
 refine⟨rfl,?_⟩
 have gm:=g.mod
 obtain rfl:=gm
 have len:=Paired.length hp
 generalize ephi:cW (nD as)=bb at h
 unfold iH
 refine seq ?_
 dsimp only[Sw.wS,Sw.wE,Sw.wT,Sw.wEs,Sw.wTs,Sw.wI,Sw.wP,Sw.keyOf,Sw.vars,L2.start,Sw.ax,Sw.aw,Sw.ah,Sw.ag,Sw.ao,Sw.ak,Sw.az,Sw.ay,Sw.au,Sw.aq,Sw.aj,Sw.ai,Sw.av,Sw.ab,Nat.reduceAdd,Nat.reduceSub]
 intro u hu mu
 have x0:=Ext.upd (M:=Γ.mod) (H:=H) (o:=.dK []) hu mu
 have W0:aU (upd H u (.dK [])) u [] cs 0 (PF bb):=aU.nil aA
 generalize upd H u (.dK [])=H0 at x0 W0 ⊢
 refine seq ?_
 show wS (.fr _ _ _) Γ _ _ [some (.ref l),some (.ref sa),some (.ref u),none,none,none,none] H0
 dsimp only[Sw.wS,Sw.wE,Sw.wT,Sw.wEs,Sw.wTs,Sw.wI,Sw.wP,Sw.keyOf,Sw.vars,L2.start,Sw.ax,Sw.aw,Sw.ah,Sw.ag,Sw.ao,Sw.ak,Sw.az,Sw.ay,Sw.au,Sw.aq,Sw.aj,Sw.ai,Sw.av,Sw.ab,Nat.reduceAdd,Nat.reduceSub]
 refine⟨g.cm,?_⟩
 show bD Γ.mod (.ref l) _ _
 unfold bD
 dsimp only
 rw[x0.rd hl]
 dsimp only
 refine dv (fun i σ Hn=>∃o3 o4 o5 o6 E,σ=[some (.ref l),some (.ref sa),some (.ref u),o3,o4,o5,o6]/\Ext Γ.mod H Hn/\(∀ a ∈ E.map (·.2.1),H a=none)/\aU Hn u E cs i (PF bb)) (fun n σ Hn p=>?_) ?_ ?_ ⟨none,none,none,none,[],rfl,x0,(fun a ha=>by cases ha),W0⟩
 ·obtain⟨_,_,_,_,_,_,x,_⟩:=p
  exact x.rd hl
 ·intro i v σ Hn D' hv pv nx ct rt bk
  obtain⟨o3,o4,o5,o6,E,rfl,x1,fr1,W1⟩:=pv
  obtain⟨r,c,rfl,ec,hcp⟩:=qi hp hv
  have okc:=ok c (List.mem_of_getElem? ec)
  refine seq ?_
  show wS (.asg _ _) Γ _ _ [some (.ref l),some (.ref sa),some (.ref u),some (.ref r),o4,o5,o6] Hn
  dsimp only[Sw.wS,Sw.wE,Sw.wT,Sw.wEs,Sw.wTs,Sw.wI,Sw.wP,Sw.keyOf,Sw.vars,L2.start,Sw.ax,Sw.aw,Sw.ah,Sw.ag,Sw.ao,Sw.ak,Sw.az,Sw.ay,Sw.au,Sw.aq,Sw.aj,Sw.ai,Sw.av,Sw.ab,Nat.reduceAdd,Nat.reduceSub]
  intro q hq mq
  have nq:=W1.eY.new hq
  have hqn:H q=none:=qX x1 hq
  have xq:=Ext.upd (M:=Γ.mod) (H:=Hn) (o:=.dK []) hq mq
  have W2:=W1.sub (Sub.mR xq)
  have hqq:upd Hn q (.dK []) q=some (.dK (eN [])):=aA
  have x2:=x1.trans xq
  generalize upd Hn q (.dK [])=Hq at xq W2 hqq x2 ⊢
  refine seq ?_
  show wS (.fr _ _ _) Γ _ _ [some (.ref l),some (.ref sa),some (.ref u),some (.ref r),some (.ref q),o5,o6] Hq
  dsimp only[Sw.wS,Sw.wE,Sw.wT,Sw.wEs,Sw.wTs,Sw.wI,Sw.wP,Sw.keyOf,Sw.vars,L2.start,Sw.ax,Sw.aw,Sw.ah,Sw.ag,Sw.ao,Sw.ak,Sw.az,Sw.ay,Sw.au,Sw.aq,Sw.aj,Sw.ai,Sw.av,Sw.ab,Nat.reduceAdd,Nat.reduceSub]
  refine⟨g.cm,?_⟩
  show bD Γ.mod (.ref l) _ _
  unfold bD
  dsimp only
  rw[x2.rd hl]
  dsimp only
  refine dv (fun j σ Hm=>∃o5 o6 row,σ=[some (.ref l),some (.ref sa),some (.ref u),some (.ref r),some (.ref q),o5,o6]/\Ext Γ.mod H Hm/\Hm q=some (.dK (eN row))/\b_ cs c (PR bb c j) row/\aU Hm u E cs i (PF bb)) (fun n σ Hn p=>?_) ?_ ?_ ⟨o5,o6,[],rfl,x2,hqq,b_.nil (fun b d _=>by unfold PR;rw[decide_eq_false (by omega)];rfl),W2⟩
  ·obtain⟨_,_,_,_,x,_⟩:=p
   exact x.rd hl
  ·intro j v σ Hm D2 hv2 pv nx2 ct2 rt2 bk2
   obtain⟨o5,o6,row,rfl,x3,hq3,R3,W3⟩:=pv
   obtain⟨r2,d,rfl,ed,hdp⟩:=qi hp hv2
   have okd:=ok d (List.mem_of_getElem? ed)
   -- the two rules
   have key:∀ (kk:Bool) (H4:Hp),Ext Γ.mod Hm H4->kk=both bb c d->wSs (.cons (.iff (.and (.cmp .NotEq (.idx (.var 3) (.con (.int 0))) (.idx (.var 5) (.con (.int 0)))) (.var 6)) (.cons (.sto (.var 4) (.idx (.var 5) (.con (.int 0))) (.call "_law_worth" (.cons (.var 3) (.cons (.var 5) .nil)))) .nil) .nil) .nil) Γ X0 D2 [some (.ref l),some (.ref sa),some (.ref u),some (.ref r),some (.ref q),some (.ref r2),some (.bl kk)] H4:=by
    intro kk H4 x4 ek
    have x34:=x3.trans x4
    refine seq ?_
    dsimp only[Sw.wS,Sw.wE,Sw.wT,Sw.wEs,Sw.wTs,Sw.wI,Sw.wP,Sw.keyOf,Sw.vars,L2.start,Sw.ax,Sw.aw,Sw.ah,Sw.ag,Sw.ao,Sw.ak,Sw.az,Sw.ay,Sw.au,Sw.aq,Sw.aj,Sw.ai,Sw.av,Sw.ab,Nat.reduceAdd,Nat.reduceSub]
    refine(hcp.ext x34).i0 ((hdp.ext x34).i0 ?_)
    rw[Sw.vk]
    refine⟨_,rfl,?_⟩
    have epf:(!decide (c.n=d.n) && kk)=PF bb 0 c j d:=by
     unfold PF
     rw[ek]
     congr 1
     by_cases z:c.n=d.n
     ·simp[z]
     ·simp[z]
    have skip:PF bb 0 c j d=false->D2.nx [some (.ref l),some (.ref sa),some (.ref u),some (.ref r),some (.ref q),some (.ref r2),some (.bl kk)] H4:=fun e=>
     nx2 _ _ ⟨_,_,row,rfl,x34,x4.same _ _ hq3,R3.congr fun b e' he=>y7 ed e b e' he,W3.sub (Sub.mR x4)⟩
    cases z1:(!decide (c.n=d.n))with
    | false=>
     rw[if_neg (by decide),if_neg (by decide)]
     exact mM (skip (by rw[<-epf,z1];rfl))
    | true=>
     rw[if_pos rfl,Sw.ff]
     rw[z1,Bool.true_and]at epf
     cases z2:kk with
     | false=>
      rw[if_neg (by decide)]
      rw[z2]at epf skip
      exact mM (skip epf.symm)
     | true=>
      rw[if_pos rfl]
      rw[z2]at epf
      refine seq ?_
      dsimp only[Sw.wS,Sw.wE,Sw.wT,Sw.wEs,Sw.wTs,Sw.wI,Sw.wP,Sw.keyOf,Sw.vars,L2.start,Sw.ax,Sw.aw,Sw.ah,Sw.ag,Sw.ao,Sw.ak,Sw.az,Sw.ay,Sw.au,Sw.aq,Sw.aj,Sw.ai,Sw.av,Sw.ab,Nat.reduceAdd,Nat.reduceSub]
      refine⟨⟨g.cm,g.lw.1⟩,?_⟩
      rw[g.lw.2]
      refine⟨r,r2,c,d,rfl,hcp.ext x34,hdp.ext x34,fun H5 x5=>?_⟩
      have x35:=x34.trans x5
      have hq5:=x5.same _ _ (x4.same _ _ hq3)
      have hnew:PR bb c j j d=false:=by unfold PR;rw[decide_eq_false (by omega)];rfl
      refine(hdp.ext x35).i0 (kP (x:=d.n) hq5 (by rw[fY,sizeLine_eq];have:=R3.iM;omega) ?_)
      have p1:putK (eN row) (Sum.inr d.n) (V.int (aQ c d))=eN (row++[(d.n,aQ c d)]):=kB (fun i=>V.int i) row d.n (aQ c d) (R3.new ed hnew)
      rw[p1]
      refine mM (nx2 _ _ ⟨_,_,_,rfl,hJ x35 hqn mq,aA,(R3.put un ed hnew).congr fun b e' he=>Br ed epf.symm b e' he,?_⟩)
      have W5:=W3.sub (Sub.mR (x4.trans x5))
      exact W5.same fun a ha=>ae (fun z=>nq (by rw[<-z];exact ha))
   refine seq ?_
   show wS (.asg _ _) Γ _ _ [some (.ref l),some (.ref sa),some (.ref u),some (.ref r),some (.ref q),some (.ref r2),o6] Hm
   dsimp only[Sw.wS,Sw.wE,Sw.wT,Sw.wEs,Sw.wTs,Sw.wI,Sw.wP,Sw.keyOf,Sw.vars,L2.start,Sw.ax,Sw.aw,Sw.ah,Sw.ag,Sw.ao,Sw.ak,Sw.az,Sw.ay,Sw.au,Sw.aq,Sw.aj,Sw.ai,Sw.av,Sw.ab,Nat.reduceAdd,Nat.reduceSub]
   refine⟨⟨g.cm,g.le.1⟩,(hcp.ext x3).i3 fun p1 hp1=>(hdp.ext x3).i4 fun p2 hp2=>?_⟩
   rw[g.le.2]
   refine⟨sa,as,p1,p2,_,_,rfl,oka,hsa.mono (Sub.mR x3),hp1,hp2,okc.g,okd.t,fun H4 x4=>?_⟩
   try dsimp only
   rw[Sw.ff,ephi]
   have x34:=x3.trans x4
   cases e1:bb c.g d.t with
   | false=>
    rw[if_neg (by decide)]
    exact key false H4 x4 (by unfold both;rw[e1];rfl)
   | true=>
    rw[if_pos rfl]
    refine⟨⟨g.cm,g.le.1⟩,(hdp.ext x34).i3 fun p3 hp3=>(hcp.ext x34).i4 fun p4 hp4=>?_⟩
    refine⟨sa,as,p3,p4,_,_,rfl,oka,hsa.mono (Sub.mR x34),hp3,hp4,okd.g,okc.t,fun H5 x5=>?_⟩
    rw[ephi]
    exact key _ H5 (x4.trans x5) (by unfold both;rw[e1];rfl)
  ·intro σ Hm pv
   obtain⟨o5,o6,row,rfl,x3,hq3,R3,W3⟩:=pv
   rw[List.length_map,len]at R3
   refine seq ?_
   dsimp only[Sw.wS,Sw.wE,Sw.wT,Sw.wEs,Sw.wTs,Sw.wI,Sw.wP,Sw.keyOf,Sw.vars,L2.start,Sw.ax,Sw.aw,Sw.ah,Sw.ag,Sw.ao,Sw.ak,Sw.az,Sw.ay,Sw.au,Sw.aq,Sw.aj,Sw.ai,Sw.av,Sw.ab,Nat.reduceAdd,Nat.reduceSub]
   have R4:b_ cs c (PF bb i c) row:=R3.congr fun b d hb=>by
    unfold PR
    rw[decide_eq_true (List.getElem?_eq_some_iff.mp hb).1,Bool.true_and]
    rfl
   refine(hcp.ext x3).i0 (kP (x:=c.n) W3.eY.top (by rw[iT,W3.len,sizeLine_eq];have:=W3.le;omega) ?_)
   obtain⟨e,W4⟩:=W3.put un iM ec hq3 nq R4
   rw[e]
   refine eI (Γ:=Γ) (Ξ:=X0) (nx _ _ ⟨_,_,_,_,_,rfl,hJ x3 hu mu,fun a ha=>?_,W4⟩)
   rw[List.map_append]at ha
   rcases List.mem_append.mp ha with ha | ha
   ·exact fr1 a ha
   ·rw[show a=q by simpa using ha]
    exact hqn
 ·intro σ Hn pv
  obtain⟨o3,o4,o5,o6,E,rfl,x1,fr1,W1⟩:=pv
  rw[List.length_map,len]at W1
  dsimp only[Sw.wSs,Sw.wS,Sw.wE,Sw.wT,Sw.wEs,Sw.wTs,Sw.wI,Sw.wP,Sw.keyOf,Sw.vars,L2.start,Sw.ax,Sw.aw,Sw.ah,Sw.ag,Sw.ao,Sw.ak,Sw.az,Sw.ay,Sw.au,Sw.aq,Sw.aj,Sw.ai,Sw.av,Sw.ab,Nat.reduceAdd,Nat.reduceSub]
  exact h Hn u E ⟨x1,hu,fr1,W1⟩
end Ow
namespace Sw
open PySem PySem.Spec PyProof.Rows L2
theorem vo {H:Hp} {p:Addr} {o:HO} (h:H p=some o):upd H p o=H:=by
 funext a
 by_cases e:a=p
 ·rw[e,aA,h]
 ·rw[ae e]
theorem xB {i:Nat} {tb:TS} {p:Addr} {o:Obj} {kvs:List (Key × V)} {D:Ends} (Pv:Nat->L2.St->Hp->Prop) (st:∀n σ H,Pv n σ H->H p=some (.frz o (.dK kvs)))
  (step:∀n y σ H (D':Ends),kvs[n]?=some y->Pv n σ H->(∀ σ' H',Pv (n + 1) σ' H'->D'.nx σ' H')->tb D' (σ.set i (some y.2)) H)
  (fin:∀σ H,Pv kvs.length σ H->D.nx σ (upd H p (.dK kvs))) {σ:L2.St} {H:Hp} (h0:Pv 0 σ H):jd i tb (fun H'=>H' p=some (.frz o (.dK kvs))) (kvs.map fun y=>y.2) (iU p o kvs D) σ H:=by
 refine dv Pv st (fun n v σ H D' hv pv nx _ _ _=>?_) (fun σ H pv=>?_) h0
 ·rw[List.getElem?_map]at hv
  cases q:kvs[n]? with
  | none=>rw[q]at hv;cases hv
  | some y=>
   rw[q]at hv
   cases (Option.some.inj hv)
   exact step n y σ H D' q pv nx
 ·rw[List.length_map]at pv
  exact⟨st _ _ _ pv,fin σ H pv⟩
end Sw
namespace Ow
open PySem PySem.Spec PyProof.Rows L2 Sw Wd Tx Rl Lw
variable {M:Mo}
@[reducible] noncomputable def jW:List Str:=["_law_found","_law_due_here","_law_couple","_law_worth_here"]
noncomputable def jP:cR:=(.cons (.iff (.or (.not (.isin (.var 0) .dict)) (.cmpD .NotEq (.var 0) (.var 1))) (.cons (.ret (.con (.bl false)))
 .nil) .nil)
 (.cons (.frD 2 (.var 1) (.cons (.iff (.not (.isin (.idxD (.var 0) (.var 2)) .dict)) (.cons (.ret (.con (.bl false)))
  .nil) .nil)
 (.cons (.frV 3 (.idxD (.var 0) (.var 2)) (.cons (.iff (.not (.call "_law_whole" (.cons (.var 3) .nil))) (.cons (.ret (.con (.bl false)))
  .nil) .nil)
  .nil))
 .nil)))
 (.cons (.ret (.con (.bl true)))
 .nil)))
theorem sg {cs cs':List Cp} {c:Cp} {P P':Nat->Cp->Bool} {row row':Row} (R:b_ cs c P row) (R':b_ cs' c P' row') (h:∀ (b:Nat) (d:Cp),cs[b]?=some d->∃b':Nat,cs'[b']?=some d/\P b d=P' b' d):∀y ∈ row,row'.lookup y.1=some y.2:=fun y hy=>by
 obtain⟨d,hd,e⟩:=R.ks y hy
 obtain⟨b,hb⟩:=List.getElem?_of_mem hd
 obtain⟨b',hb',ep⟩:=h b d hb
 have e1:=R.vs b d hb
 have e2:=lookup_mem (x:=y.1) (b:=y.2) R.nd hy
 have e3:=R'.vs b' d hb'
 rw[e]at e1 e3
 rw[e3,<-ep,<-e1,e2]
theorem vK {cs cs':List Cp} {c:Cp} {P P':Nat->Cp->Bool} {row row':Row} (R:b_ cs c P row) (R':b_ cs' c P' row') (h:∀ (b:Nat) (d:Cp),cs[b]?=some d->∃b':Nat,cs'[b']?=some d/\P b d=P' b' d):row.length<=row'.length:=by
 have:=List.Nodup.length_le_of_subset R.nd (l₂:=row'.map (·.1)) fun x hx=>by
  obtain⟨y,hy,e⟩:=List.mem_map.mp hx
  have:=lookup_some (sg R R' h y hy)
  exact List.mem_map.mpr ⟨_,this,e⟩
 rw[List.length_map,List.length_map]at this
 exact this
theorem nZ {cs cs':List Cp} {bb:Sd->Sd->Bool} {a a':Nat} {c:Cp} (pm:cs.Perm cs') (b:Nat) (d:Cp) (hb:cs[b]?=some d):∃b':Nat,cs'[b']?=some d/\PF bb a c b d=PF bb a' c b' d:=by
 obtain⟨b',hb'⟩:=List.getElem?_of_mem (pm.mem_iff.mp (List.mem_of_getElem? hb))
 exact⟨b',hb',rfl⟩
theorem aU.find {H:Hp} {w:Addr} {E:List Ent} {cs:List Cp} {P:Nat->Cp->Nat->Cp->Bool} (W:aU H w E cs cs.length P) {c:Cp} (hc:c ∈ cs):∃a p r,(c.n,p,r) ∈ E/\b_ cs c (P a c) r/\dz (eG E) (.inr c.n)=some (.ref p):=by
 obtain⟨a,ha⟩:=List.getElem?_of_mem hc
 obtain⟨p,r,h1,h2⟩:=W.row a c (List.getElem?_eq_some_iff.mp ha).1 ha
 have m:=List.mem_of_getElem? h1
 refine⟨a,p,r,m,h2,?_⟩
 have z:=iP (fun y:Addr × Row=>V.ref y.1) E c.n
 rw[lookup_mem W.eY.keys m]at z
 exact z
theorem CA {H:Hp} {w u:Addr} {E F:List Ent} {cs cs':List Cp} {bb:Sd->Sd->Bool} (W:aU H w E cs cs.length (PF bb)) (U:aU H u F cs' cs'.length (PF bb)) (pm:cs.Perm cs') (dis:∀a ∈ w::E.map (·.2.1),a ∉ u::F.map (·.2.1)):fO M H 4 (.ref w) (.ref u)=true:=by
 refine jH (n:=3) W.eY.top U.eY.top (fun z=>dis w List.mem_cons_self (by rw[z];exact List.mem_cons_self)) (by rw[iT,iT,W.len,U.len,pm.length_eq]) fun y hy=>?_
 obtain⟨e,he,rfl⟩:=List.mem_map.mp hy
 obtain⟨a,c,_,_,hc,en,R⟩:=W.keys he
 obtain⟨a',p,r,m,R',v⟩:=U.find (pm.mem_iff.mp (List.mem_of_getElem? hc))
 refine⟨.ref p,by rw[<-en];exact v,?_⟩
 refine jH (n:=2) (W.eY.row e he) (U.eY.row _ m) (fun z=>dis e.2.1 (List.mem_cons_of_mem _ (List.mem_map.mpr ⟨e,he,rfl⟩)) (List.mem_cons_of_mem _ (List.mem_map.mpr ⟨_,m,z.symm⟩))) ?_ fun y hy=>?_
 ·rw[fY,fY]
  exact Nat.le_antisymm (vK R R' (nZ pm)) (vK R' R (nZ pm.symm))
 ·obtain⟨q,hq,rfl⟩:=List.mem_map.mp hy
  refine⟨.int q.2,?_,zZ q.2⟩
  have z:=iP (fun i=>V.int i) r q.1
  rw[sg R R' (nZ pm) q hq]at z
  exact z
noncomputable def yM (M:Mo):Sp:=fun vs H Q _=>∃w u E F cs cs' bb,vs=[.ref w,.ref u]/\aU H w E cs cs.length (PF bb)/\aU H u F cs' cs'.length (PF bb)/\cs.Perm cs'/\(∀ a ∈ w::E.map (·.2.1),a ∉ u::F.map (·.2.1))/\Q (.bl true) H
structure A8 (Γ:bf) (M:Mo):Prop where
 cm:Γ.cm=true
 mod:Γ.mod=M
 wh:Γ.has "_law_whole" =true/\Γ.fn "_law_whole" =kq M
theorem DC {Γ:bf} (g:A8 Γ M) (vs:List V) (H:Hp) (Q:VK) (X:XK) (h:yM M vs H Q X):cG Γ jW 2 jP vs H Q X:=by
 obtain⟨w,u,E,F,cs,cs',bb,rfl,W,U,pm,dis,h⟩:=h
 refine⟨rfl,?_⟩
 have gm:=g.mod
 obtain rfl:=gm
 have wu:w ≠ u:=fun z=>dis w List.mem_cons_self (by rw[z];exact List.mem_cons_self)
 unfold jP
 refine seq ?_
 dsimp only[Sw.wS,Sw.wE,Sw.wT,Sw.wEs,Sw.wTs,Sw.wI,Sw.wP,Sw.keyOf,Sw.vars,L2.start,Sw.ax,Sw.aw,Sw.ah,Sw.ag,Sw.ao,Sw.ak,Sw.az,Sw.ay,Sw.au,Sw.aq,Sw.aj,Sw.ai,Sw.av,Sw.ab,Nat.reduceAdd,Nat.reduceSub]
 refine⟨sD W.eY.top,?_⟩
 rw[xl W.eY.top,if_neg (by decide)]
 refine⟨jg W.eY.top,jg U.eY.top,CA W U pm dis,_,rfl,?_⟩
 rw[if_neg (by decide)]
 refine eI (seq ?_)
 dsimp only[Sw.wS,Sw.wE,Sw.wT,Sw.wEs,Sw.wTs,Sw.wI,Sw.wP,Sw.keyOf,Sw.vars,L2.start,Sw.ax,Sw.aw,Sw.ah,Sw.ag,Sw.ao,Sw.ak,Sw.az,Sw.ay,Sw.au,Sw.aq,Sw.aj,Sw.ai,Sw.av,Sw.ab,Nat.reduceAdd,Nat.reduceSub]
 refine⟨g.cm,?_⟩
 rw[U.eY.top]
 dsimp only
 intro o
 refine xE (fun n σ Hn=>∃o2 o3,σ=[some (.ref w),some (.ref u),o2,o3]/\Hn=upd H u (.frz o (.dK (eG F)))) (fun n σ Hn p=>?_) ?_ ?_ ⟨none,none,rfl,rfl⟩
 ·obtain⟨_,_,_,rfl⟩:=p
  exact aA
 ·intro n y σ Hn D' hy pv nx ct
  obtain⟨o2,o3,rfl,rfl⟩:=pv
  obtain⟨f,hf,rfl⟩:=List.mem_map.mp (List.mem_of_getElem? hy)
  obtain⟨a,c,_,_,hc,en,_⟩:=U.keys hf
  obtain⟨a',p,r,m,R',v⟩:=W.find (pm.mem_iff.mpr (List.mem_of_getElem? hc))
  rw[en]at v m
  have pu:p ≠ u:=fun z=>dis p (List.mem_cons_of_mem _ (List.mem_map.mpr ⟨_,m,rfl⟩)) (by rw[z];exact List.mem_cons_self)
  have hw:rd Γ.mod (upd H u (.frz o (.dK (eG F)))) w=some (.dK (eG E)):=by
   rw[gX (ae wu)]
   exact ib W.eY.top g_
  have hpp:upd H u (.frz o (.dK (eG F))) p=some (.dK (eN r)):=by
   rw[ae pu]
   exact W.eY.row _ m
  generalize upd H u (.frz o (.dK (eG F)))=Hu at hw hpp nx ct ⊢
  refine seq ?_
  show wS (.iff _ _ _) Γ _ _ [some (.ref w),some (.ref u),some (.str f.1),o3] Hu
  dsimp only[Sw.wS,Sw.wE,Sw.wT,Sw.wEs,Sw.wTs,Sw.wI,Sw.wP,Sw.keyOf,Sw.vars,L2.start,Sw.ax,Sw.aw,Sw.ah,Sw.ag,Sw.ao,Sw.ak,Sw.az,Sw.ay,Sw.au,Sw.aq,Sw.aj,Sw.ai,Sw.av,Sw.ab,Nat.reduceAdd,Nat.reduceSub]
  refine kE (x:=f.1) hw v ⟨sD hpp,?_⟩
  rw[xl hpp,if_neg (by decide)]
  refine eI (seq ?_)
  dsimp only[Sw.wS,Sw.wE,Sw.wT,Sw.wEs,Sw.wTs,Sw.wI,Sw.wP,Sw.keyOf,Sw.vars,L2.start,Sw.ax,Sw.aw,Sw.ah,Sw.ag,Sw.ao,Sw.ak,Sw.az,Sw.ay,Sw.au,Sw.aq,Sw.aj,Sw.ai,Sw.av,Sw.ab,Nat.reduceAdd,Nat.reduceSub]
  refine⟨g.cm,kE (x:=f.1) hw v ?_⟩
  dsimp only
  rw[hpp]
  dsimp only
  intro o'
  refine xB (fun n σ Hn=>∃o3,σ=[some (.ref w),some (.ref u),some (.str f.1),o3]/\Hn=upd Hu p (.frz o' (.dK (eN r)))) (fun n σ Hn p=>?_) ?_ ?_ ⟨_,rfl,rfl⟩
  ·obtain⟨_,_,rfl⟩:=p
   exact aA
  ·intro n y σ Hn D2 hy2 pv nx2
   obtain⟨o3,rfl,rfl⟩:=pv
   obtain⟨z,hz,rfl⟩:=List.mem_map.mp (List.mem_of_getElem? hy2)
   refine seq ?_
   show wS (.iff _ _ _) Γ _ _ [some (.ref w),some (.ref u),some (.str f.1),some (.int z.2)] _
   dsimp only[Sw.wS,Sw.wE,Sw.wT,Sw.wEs,Sw.wTs,Sw.wI,Sw.wP,Sw.keyOf,Sw.vars,L2.start,Sw.ax,Sw.aw,Sw.ah,Sw.ag,Sw.ao,Sw.ak,Sw.az,Sw.ay,Sw.au,Sw.aq,Sw.aj,Sw.ai,Sw.av,Sw.ab,Nat.reduceAdd,Nat.reduceSub]
   refine⟨⟨g.cm,g.wh.1⟩,?_⟩
   rw[g.wh.2]
   refine⟨_,rfl,?_⟩
   try dsimp only
   rw[Sw.ff,if_neg (by decide)]
   exact mM (nx2 _ _ ⟨_,rfl,rfl⟩)
  ·intro σ Hn pv
   obtain⟨o3,rfl,rfl⟩:=pv
   rw[eK,vo hpp]
   exact eI (Γ:=Γ) (Ξ:=X0) (nx _ _ ⟨_,_,rfl,rfl⟩)
 ·intro σ Hn pv
  obtain⟨o2,o3,rfl,rfl⟩:=pv
  rw[eK,vo U.eY.top]
  dsimp only[Sw.wSs,Sw.wS,Sw.wE,Sw.wT,Sw.wEs,Sw.wTs,Sw.wI,Sw.wP,Sw.keyOf,Sw.vars,L2.start,Sw.ax,Sw.aw,Sw.ah,Sw.ag,Sw.ao,Sw.ak,Sw.az,Sw.ay,Sw.au,Sw.aq,Sw.aj,Sw.ai,Sw.av,Sw.ab,Nat.reduceAdd,Nat.reduceSub]
  exact h
end Ow
namespace Ow
open PySem PySem.Spec PyProof.Rows L2 Sw Wd Tx Rl Lw
variable {M:Mo}
@[reducible] noncomputable def tM:List Str:=["_law_script","_law_couples_here","_law_alternatives_here","_law_rule","_law_due_here","_law_handed","_law_web","_law_at","_law_own","_law_couple"]
noncomputable def AW:cR:=(.cons (.fr 9 (.ex (.blt .dlist (.cons (.var 6) .nil))) (.cons (.exp (.mth .dclear (.idxD (.var 6) (.var 9)) .nil))
 .nil))
 (.cons (.exp (.mth .dclear (.var 6) .nil))
 (.cons (.ret (.and (.call "_law_is" (.cons (.call "web_of" (.cons (.lrev (.var 1)) (.cons (.var 3) .nil))) (.cons (.var 4) .nil))) (.cmp .Eq (.var 5) (.var 1))))
 .nil)))
noncomputable def AX (le:Expr):cR:=(.cons (.asgL 8 "web_of" (.bin .Add (.slc (.var 1) (.cons (.var 7) .nil) .nil) (.slc (.var 1) .nil (.cons (.var 7) .nil))) le)
 (.cons (.iff (.or (.not (.call "_law_is" (.cons (.var 8) (.cons (.var 4) .nil)))) (.cmpD .NotEq (.call "web_of" (.cons (.lst .nil) (.cons (.var 3) .nil))) .dnew)) (.cons (.ret (.con (.bl false)))
 .nil) .nil)
 AW))
noncomputable def yc (le:Expr):cR:=(.cons (.asg 1 (.call "_law_couples" (.cons (.var 0) .nil)))
 (.cons (.asg 2 (.call "_law_alternatives" (.cons (.call "_law_cell" (.cons (.var 0) (.cons (.con (.int 0)) .nil))) .nil)))
 (.cons (.asg 3 (.call "rule_of" (.cons (.call "_law_rule_text" (.cons (.var 2) .nil)) .nil)))
 (.cons (.asg 4 (.call "_law_due" (.cons (.var 1) (.cons (.var 2) .nil))))
 (.cons (.asg 5 (.blt .list (.cons (.var 1) .nil)))
 (.cons (.asg 6 (.call "web_of" (.cons (.var 5) (.cons (.var 3) .nil))))
 (.cons (.iff (.or (.not (.call "_law_is" (.cons (.var 6) (.cons (.var 4) .nil)))) (.cmp .NotEq (.var 5) (.var 1))) (.cons (.ret (.con (.bl false)))
 .nil) .nil)
 (.cons (.asg 7 (.bin .Mod (.bin .FloorDiv (.call "_law_cell" (.cons (.var 0) (.cons (.con (.int 1)) .nil))) (.con (.int 5))) (.blt .len (.cons (.var 1) .nil))))
 (AX le)))))))))
@[reducible] noncomputable def tN:List Str:=["_law_here","_law_there","_law_alternatives_here"]
@[reducible] noncomputable def tL:List Str:=["_law_here","_law_there"]
noncomputable def sV:Ex:=.call "_law_lets" (.cons (.var 2) (.cons (.var 0) (.cons (.var 1) .nil)))
theorem si {H:Hp} {a c:Addr} {oc:Obj} {v:V} {ys:List V} (hc:H c=some (.frz oc (.dw v))) (h:rd M H a=some (.tup ys)):rd M (era H c) a=some (.tup ys):=by
 have ne:a ≠ c:=by
  rintro rfl
  unfold rd at h
  rw[hc]at h
  cases h
 unfold rd at h ⊢
 rw[aI ne]
 exact h
theorem xI {H H':Hp} {c:Addr} {o:HO} (hc:H c=some o) (off:M c=none) (x:Ext M (era H c) H'):Ext M H (upd H' c o):=by
 refine⟨fun b u e=>?_,fun b mb e=>?_⟩
 ·by_cases hb:b=c
  ·subst hb
   rw[hc]at e
   rw[aA]
   exact e
  ·rw[ae hb]
   exact x.same b u (by rw[aI hb];exact e)
 ·rw[ae (fun z=>mb (by rw[z];exact off))]
  exact x.off b mb (bJ e)
theorem yz {Γ:bf} {F:Fx} {D:dG} (gc:Γ.cm=true) (le:Γ.has "_law_lets" =true/\Γ.fn "_law_lets" =kR M) {f:Addr} {vs:List V} {H:Hp} {Q:VK} {E:XK} (h:mJ M F D f vs H Q E):EM M F f vs H Q E\/Av Γ D tN tL sV f vs H Q E:=by
 obtain⟨bb,a,b,s,t,rfl,hf,off,ha,hb,os,ot,h⟩:=h
 rcases hf with ⟨as,h1,rfl⟩ | ⟨c,oc,sa,as,h1,h2,h3,h4,rfl⟩
 ·exact .inl ⟨as,a,b,s,t,rfl,h1,off,ha,hb,os,ot,h⟩
 ·refine .inr ⟨rfl,c,.ref sa,oc,h1,h2,?_⟩
  unfold sV
  dsimp only[Sw.wSs,Sw.wS,Sw.wE,Sw.wT,Sw.wEs,Sw.wTs,Sw.wI,Sw.wP,Sw.keyOf,Sw.vars,L2.start,Sw.ax,Sw.aw,Sw.ah,Sw.ag,Sw.ao,Sw.ak,Sw.az,Sw.ay,Sw.au,Sw.aq,Sw.aj,Sw.ai,Sw.av,Sw.ab,Nat.reduceAdd,Nat.reduceSub]
  refine⟨⟨gc,le.1⟩,?_⟩
  rw[le.2]
  exact⟨sa,as,a,b,s,t,rfl,h3,h4,si h2 ha,si h2 hb,os,ot,fun H' x=>h _ (xI h2 (qV off h2) x)⟩
theorem EO {H H':Hp} (x:bp M H H') {a:Addr} {o:HO} (h:rd M H a=some o) (ho:∀ps,o ≠ .tbl ps):rd M H' a=some o:=by
 unfold rd at h ⊢
 cases q:H a with
 | none=>
  rw[q]at h
  rw[x.off a (by intro z;rw[z]at h;cases h) q]
  exact h
 | some u=>
  have nt:∀ps,u ≠ .tbl ps:=fun ps z=>by
   rw[q,z]at h
   exact ho ps (Option.some.inj h).symm
  rw[x.same a u q nt]
  rw[q]at h
  exact h
theorem ue {H H':Hp} (x:bp M H H') {a:Addr} {xs:List V} (h:rd M H a=some (.lst xs)):rd M H' a=some (.lst xs):=EO x h (fun ps z=>nomatch z)
theorem cA.El {H H':Hp} {a:Addr} {c:Cp} (h:cA M H a c) (x:bp M H H'):cA M H' a c:=by
 obtain⟨p,q,h1,h2,h3⟩:=h
 exact⟨p,q,EO x h1 (fun ps z=>nomatch z),EO x h2 (fun ps z=>nomatch z),EO x h3 (fun ps z=>nomatch z)⟩
structure Base (M:Mo) (F:Fx) (Ts:List Tb) (H:Hp) (a l hd sa f u:Addr) (ns:List Int) (rs:List Addr) (cs:List Cp) (as:List (List Lt)) (EU:List Ent):Prop where
 Gf:rd M H a=some (.lst (ns.map V.int))
 cl:rd M H l=some (.lst (rs.map V.ref))
 CZ:rd M H hd=some (.lst (rs.map V.ref))
 cps:Paired (cA M H) rs cs
 alt:ie H sa as
 ru:AK F H f (nD as)
 Cy:aU H u EU cs cs.length (PF (cW (nD as)))
 off:cz M H
 tabs:TabsOk Ts H
theorem Base.ext {F:Fx} {Ts:List Tb} {H H':Hp} {a l hd sa f u:Addr} {ns:List Int} {rs:List Addr} {cs:List Cp} {as:List (List Lt)} {EU:List Ent} (B:Base M F Ts H a l hd sa f u ns rs cs as EU) (x:bp M H H') (t:TabsOk Ts H'):Base M F Ts H' a l hd sa f u ns rs cs as EU:=
 ⟨ue x B.Gf,ue x B.cl,ue x B.CZ,L2.Paired.fN B.cps fun r c h=>h.El x,B.alt.mono (Sub.of x),B.ru.mono (Sub.of x),B.Cy.sub (Sub.of x),fun b m=>x.off b m (B.off b m),t⟩
theorem Base.rz {F:Fx} {Ts:List Tb} {H H':Hp} {a l hd sa f u:Addr} {ns:List Int} {rs:List Addr} {cs:List Cp} {as:List (List Lt)} {EU:List Ent} (B:Base M F Ts H a l hd sa f u ns rs cs as EU) (x:Ext M H H'):Base M F Ts H' a l hd sa f u ns rs cs as EU:=
 B.ext (bp.of x) fun t ht=>(B.tabs t ht).ext x
structure Good (cs:List Cp) (as:List (List Lt)):Prop where
 un:Un cs
 l1:1<=cs.length
 vg:cs.length<=14
 ok:∀c ∈ cs,c.Ok
 CW:rO as
noncomputable def Sd.dt (s:Sd):PyData:=.tuple [.str s.g,.int s.n,.str s.m]
noncomputable def Cp.dt (c:Cp):PyData:=.tuple [.str c.n,.int c.need,.int c.rank,Sd.dt c.g,Sd.dt c.t]
theorem tj {H:Hp} {p:Addr} {s:Sd} (n:Nat) (h:bX M H p s):data M H (n + 1) (.ref p)=some (Sd.dt s):=by
 unfold data
 rw[h]
 cases n<;>rfl
theorem z_ {H:Hp} {p:Addr} {c:Cp} (n:Nat) (h:cA M H p c):data M H (n + 2) (.ref p)=some c.dt:=by
 obtain⟨a,b,h1,h2,h3⟩:=h
 unfold data
 rw[h1]
 show Option.map _ (allM (data M H (n + 1)) [V.str c.n,V.int c.need,V.int c.rank,V.ref a,V.ref b])=_
 unfold allM
 have e1:=tj (M:=M) n h2
 have e2:=tj (M:=M) n h3
 simp only[allM,e1,e2]
 rfl
theorem kH {H:Hp} {p:Addr} {rs:List Addr} {cs:List Cp} (h:rd M H p=some (.lst (rs.map V.ref))) (hp:Paired (cA M H) rs cs):data M H 16 (.ref p)=some (.list (cs.map Cp.dt)):=by
 unfold data
 rw[h]
 have e:allM (data M H 15) (rs.map V.ref)=some (cs.map Cp.dt):=by
  clear h
  induction hp with
  | nil=>rfl
  | cons r t ih=>
   simp only[List.map_cons,allM]
   rw[ih,z_ 13 r]
 show Option.map _ (allM (data M H 15) (rs.map V.ref))=_
 rw[e]
 rfl
structure A9 (Γ:bf) (M:Mo) (F:Fx) (D:dG) (Ts:List Tb):Prop where
 cm:Γ.cm=true
 mod:Γ.mod=M
 ce:Γ.has "_law_cell" =true/\Γ.fn "_law_cell" =kT M
 cp:Γ.has "_law_couples" =true/\Γ.fn "_law_couples" =gW M
 al:Γ.has "_law_alternatives" =true/\Γ.fn "_law_alternatives" =nN M
 tx:Γ.has "_law_rule_text" =true/\Γ.fn "_law_rule_text" =nI M
 ro:Γ.has "rule_of" =true/\Γ.fn "rule_of" =yJ M Ts F
 du:Γ.has "_law_due" =true/\Γ.fn "_law_due" =r6 M
 we:Γ.has "web_of" =true/\Γ.fn "web_of" =rY M F D
 is:Γ.has "_law_is" =true/\Γ.fn "_law_is" =yM M
 lm:Γ.lm=some (D,Ts)
 xi:D.xi=2
theorem Af {H:Hp} {p:Addr} {kvs:List (Key × V)} {Q:VK} (h:H p=some (.dK kvs)) (q:∀l,H l=none->M l=none->Q (.ref l) (upd H l (.lst (kvs.map fun y=>kV y.1)))):eQ M .dlist [.ref p] H Q:=by
 show(match H p with | some (.dK kvs)=>∀l,H l=none->M l=none->Q (.ref l) (upd H l (.lst (kvs.map fun y=>kV y.1))) | _=>False)
 rw[h]
 exact q
theorem CJ {H:Hp} {p:Addr} {xs:List V} {Q:VK} (h:rd M H p=some (.lst xs)) (q:∀l,H l=none->M l=none->Q (.ref l) (upd H l (.lst xs))):eQ M .list [.ref p] H Q:=by
 show(match rd M H p with
  | some (.lst xs)=>∀l,H l=none->M l=none->Q (.ref l) (upd H l (.lst xs))
  | some (.tup xs)=>∀l,H l=none->M l=none->Q (.ref l) (upd H l (.lst xs))
  | _=>False)
 rw[h]
 exact q
theorem zI {H:Hp} {p:Addr} {xs:List V} {Q:VK} (h:rd M H p=some (.lst xs)) (q:∀l,H l=none->M l=none->Q (.ref l) (upd H l (.lst xs.reverse))):pU M (.ref p) H Q:=by
 show(match rd M H p with | some (.lst xs)=>∀l,H l=none->M l=none->Q (.ref l) (upd H l (.lst xs.reverse)) | _=>False)
 rw[h]
 exact q
theorem m8 {H:Hp} {p:Addr} {kvs:List (Key × V)} {Q:VK} (h:H p=some (.dK kvs)) (q:Q .non (upd H p (.dK []))):AA M .dclear (.ref p) H=true/\f_ M .dclear (.ref p) [] H Q:=by
 constructor
 ·show(match H p with | some (.dK _)=>true | _=>false)=true
  rw[h]
 ·show(match H p with | some (.dK _)=>Q .non (upd H p (.dK [])) | _=>False)
  rw[h]
  exact q
theorem vV {α β:Type} {G:α->β->Prop}:∀ {l:List α} {m:List β},Paired G l m->Paired G l.reverse m.reverse
 | _,_,.nil=>.nil
 | _,_,.cons r t=>by rw[List.reverse_cons,List.reverse_cons];exact jx (vV t) r
theorem vX {α β:Type} {G:α->β->Prop}:∀ {l:List α} {m:List β} {l':List α} {m':List β},Paired G l m->Paired G l' m'->Paired G (l++l') (m++m')
 | _,_,_,_,.nil,h=>h
 | _,_,_,_,.cons r t,h=>.cons r (vX t h)
theorem sr {α β:Type} {G:α->β->Prop}:∀ {l:List α} {m:List β} (n:Nat),Paired G l m->Paired G (l.take n) (m.take n)
 | _,_,0,_=>by rw[List.take_zero,List.take_zero];exact .nil
 | _,_,n + 1,.nil=>.nil
 | _,_,n + 1,.cons r t=>.cons r (sr n t)
theorem su {α β:Type} {G:α->β->Prop}:∀ {l:List α} {m:List β} (n:Nat),Paired G l m->Paired G (l.drop n) (m.drop n)
 | _,_,0,h=>h
 | _,_,n + 1,.nil=>.nil
 | _,_,n + 1,.cons r t=>su n t
theorem Un.perm {cs cs':List Cp} (un:Un cs) (p:cs'.Perm cs):Un cs':=(p.map (·.n)).nodup_iff.mpr un
theorem n8 {H:Hp} {w u:Addr} {E F:List Ent} (U:dF H u F) (hw:H w=none) (fr:∀a ∈ E.map (·.2.1),H a=none):∀a ∈ w::E.map (·.2.1),a ∉ u::F.map (·.2.1):=fun a ha hm=>by
 obtain⟨kvs,e⟩:=U.at a hm
 rcases List.mem_cons.mp ha with rfl | ha
 ·rw[hw]at e;cases e
 ·rw[fr a ha]at e;cases e
theorem DN {Γ:bf} {F:Fx} {D:dG} {Ts:List Tb} (g:A9 Γ M F D Ts) {Hb H:Hp} {a l hd sa f u w:Addr} {ns:List Int} {rs:List Addr} {cs:List Cp} {as:List (List Lt)} {EU EW:List Ent} {Ξ:XS} {Dn:Ends} {o7 o8 o9:Option V} (B:Base M F Ts Hb a l hd sa f u ns rs cs as EU) (G:Good cs as) (x:bp M Hb H) (tb:TabsOk Ts H) (W:dF H w EW) (fr:∀b ∈ w::EW.map (·.2.1),Hb b=none) (q:∀H',Dn.rt (.bl true) H'):
  wSs AW Γ Ξ Dn [some (.ref a),some (.ref l),some (.ref sa),some (.ref f),some (.ref u),some (.ref hd),some (.ref w),o7,o8,o9] H:=by
 have gm:=g.mod
 obtain rfl:=gm
 have off:=(B.ext x tb).off
 unfold AW
 refine seq ?_
 dsimp only[Sw.wS,Sw.wE,Sw.wT,Sw.wEs,Sw.wTs,Sw.wI,Sw.wP,Sw.keyOf,Sw.vars,L2.start,Sw.ax,Sw.aw,Sw.ah,Sw.ag,Sw.ao,Sw.ak,Sw.az,Sw.ay,Sw.au,Sw.aq,Sw.aj,Sw.ai,Sw.av,Sw.ab,Nat.reduceAdd,Nat.reduceSub]
 refine⟨g.cm,g.cm,Af W.top fun ll hll mll=>?_⟩
 have nll:ll ∉ w::EW.map (·.2.1):=W.new hll
 have hL:upd H ll (.lst ((eG EW).map fun y=>kV y.1)) ll=some (.lst ((eG EW).map fun y=>kV y.1)):=aA
 have sm:∀b,b ≠ ll->upd H ll (.lst ((eG EW).map fun y=>kV y.1)) b=H b:=fun b hb=>ae hb
 have WL:dF (upd H ll (.lst ((eG EW).map fun y=>kV y.1))) w EW:=W.same fun b hb=>sm b (fun z=>nll (by rw[<-z];exact hb))
 generalize upd H ll (.lst ((eG EW).map fun y=>kV y.1))=HL at hL sm WL ⊢
 show bD Γ.mod (.ref ll) _ _
 unfold bD
 dsimp only
 rw[ip hL]
 dsimp only
 have llE:ll ∉ EW.map (·.2.1):=fun z=>nll (List.mem_cons_of_mem _ z)
 have wE':w ∉ EW.map (·.2.1):=(List.nodup_cons.mp W.nd).1
 refine dv (fun n σ Hn=>∃o9,σ=[some (.ref a),some (.ref l),some (.ref sa),some (.ref f),some (.ref u),some (.ref hd),some (.ref w),o7,o8,o9]/\(∀ b,b ∉ EW.map (·.2.1)->Hn b=HL b)/\(∀ b ∈ EW.map (·.2.1),∃kvs,Hn b=some (.dK kvs))) (fun n σ Hn p=>?_) ?_ ?_ ⟨o9,rfl,fun b _=>rfl,fun b hb=>WL.at b (List.mem_cons_of_mem _ hb)⟩
 ·obtain⟨_,_,z,_⟩:=p
  exact ip (by rw[z ll llE];exact hL)
 ·intro n v σ Hn D' hv pv nx ct rt bk
  obtain⟨o9,rfl,z1,z2⟩:=pv
  obtain⟨y,hy,rfl⟩:=List.mem_map.mp (List.mem_of_getElem? hv)
  obtain⟨e,he,rfl⟩:=List.mem_map.mp hy
  have me:e.2.1 ∈ EW.map (·.2.1):=List.mem_map.mpr ⟨e,he,rfl⟩
  obtain⟨kvs,hk⟩:=z2 _ me
  have hwn:rd Γ.mod Hn w=some (.dK (eG EW)):=ib (by rw[z1 w wE'];exact WL.top) g_
  refine seq ?_
  show wS (.exp _) Γ _ _ [some (.ref a),some (.ref l),some (.ref sa),some (.ref f),some (.ref u),some (.ref hd),some (.ref w),o7,o8,some (.str e.1)] Hn
  dsimp only[Sw.wS,Sw.wE,Sw.wT,Sw.wEs,Sw.wTs,Sw.wI,Sw.wP,Sw.keyOf,Sw.vars,L2.start,Sw.ax,Sw.aw,Sw.ah,Sw.ag,Sw.ao,Sw.ak,Sw.az,Sw.ay,Sw.au,Sw.aq,Sw.aj,Sw.ai,Sw.av,Sw.ab,Nat.reduceAdd,Nat.reduceSub]
  refine kE (x:=e.1) (v:=.ref e.2.1) hwn ?_ (m8 hk ?_)
  ·have z:=iP (fun y:Addr × Row=>V.ref y.1) EW e.1
   rw[lookup_mem (b:=e.2) W.keys he]at z
   exact z
  ·refine eI (Γ:=Γ) (Ξ:=X0) (nx _ _ ⟨_,rfl,fun b hb=>?_,fun b hb=>?_⟩)
   ·rw[ae (fun z=>hb (by rw[z];exact me))]
    exact z1 b hb
   ·by_cases z:b=e.2.1
    ·exact⟨[],by rw[z];exact aA⟩
    ·rw[ae z]
     exact z2 b hb
 ·intro σ Hn pv
  obtain⟨o9,rfl,z1,z2⟩:=pv
  have hwn:Hn w=some (.dK (eG EW)):=by rw[z1 w wE'];exact WL.top
  refine seq ?_
  dsimp only[Sw.wS,Sw.wE,Sw.wT,Sw.wEs,Sw.wTs,Sw.wI,Sw.wP,Sw.keyOf,Sw.vars,L2.start,Sw.ax,Sw.aw,Sw.ah,Sw.ag,Sw.ao,Sw.ak,Sw.az,Sw.ay,Sw.au,Sw.aq,Sw.aj,Sw.ai,Sw.av,Sw.ab,Nat.reduceAdd,Nat.reduceSub]
  refine m8 hwn ?_
  -- what stayed
  have keep:∀b o,H b=some o->(∀ kvs,o ≠ .dK kvs)->upd Hn w (.dK []) b=some o:=fun b o e n=>by
   have n1:b ∉ w::EW.map (·.2.1):=fun z=>by
    obtain⟨kvs,e2⟩:=W.at b z
    rw[e]at e2
    cases e2
    exact n kvs rfl
   rw[List.mem_cons,not_or]at n1
   rw[ae n1.1,z1 b n1.2,sm b (aD e hll)]
   exact e
  have old:∀b,Hb b ≠ none->upd Hn w (.dK []) b=H b:=fun b hb=>by
   have n1:b ∉ w::EW.map (·.2.1):=fun z=>hb (fr b z)
   rw[List.mem_cons,not_or]at n1
   rw[ae n1.1,z1 b n1.2,sm b (fun z=>x.yt b hb (by rw[z];exact hll))]
  have xz:bp Γ.mod Hb (upd Hn w (.dK [])):=⟨fun b o e n=>by rw[old b (by rw[e];exact Option.some_ne_none o)];exact x.same b o e n,fun b m e=>?_,fun b hb=>by rw[old b hb];exact x.yt b hb⟩
  ·have tz:TabsOk Ts (upd Hn w (.dK [])):=fun t ht=>by
    rcases tb t ht with z | ⟨c',z,z'⟩
    ·exact .inl (keep _ _ z (fun kvs y=>nomatch y))
    ·exact .inr ⟨c',keep _ _ z (fun kvs y=>nomatch y),keep _ _ z' (fun kvs y=>nomatch y)⟩
   have Bz:=B.ext xz tz
   generalize upd Hn w (.dK [])=Hz at Bz ⊢
   clear xz tz keep old hwn z1 z2 B x tb
   dsimp only[Sw.wSs,Sw.wS,Sw.wE,Sw.wT,Sw.wEs,Sw.wTs,Sw.wI,Sw.wP,Sw.keyOf,Sw.vars,L2.start,Sw.ax,Sw.aw,Sw.ah,Sw.ag,Sw.ao,Sw.ak,Sw.az,Sw.ay,Sw.au,Sw.aq,Sw.aj,Sw.ai,Sw.av,Sw.ab,Nat.reduceAdd,Nat.reduceSub]
   refine⟨⟨g.cm,g.is.1⟩,⟨g.cm,g.we.1⟩,g.cm,zI Bz.cl fun p hp mp=>?_⟩
   rw[<-List.map_reverse]
   have xp:=Ext.upd (M:=Γ.mod) (H:=Hz) (o:=.lst (rs.reverse.map V.ref)) hp mp
   have hpl:rd Γ.mod (upd Hz p (.lst (rs.reverse.map V.ref))) p=some (.lst (rs.reverse.map V.ref)):=br (by intro _ _ z;cases z)
   have Bp:=Bz.rz xp
   generalize upd Hz p (.lst (rs.reverse.map V.ref))=Hp at hpl Bp ⊢
   have pm:cs.reverse.Perm cs:=List.reverse_perm cs
   rw[g.we.2]
   refine⟨p,f,cs.reverse,_,rfl,Bp.off,⟨_,hpl,vV Bp.cps⟩,G.un.perm pm,by rw[List.length_reverse];exact G.vg,fun c hc=>G.ok c (List.mem_reverse.mp hc),.inl ⟨_,Bp.ru,rfl⟩,fun H1 w1 E1 nw=>?_⟩
   obtain⟨x1,hw1,fr1,W1⟩:=nw
   have B1:=Bp.rz x1
   try dsimp only
   rw[g.is.2]
   refine⟨w1,u,E1,EU,_,_,_,rfl,W1,B1.Cy,pm,n8 Bp.Cy.eY hw1 fr1,?_⟩
   try dsimp only
   rw[Sw.ff,if_pos rfl]
   exact eq_data (kH B1.CZ B1.cps) (kH B1.cl B1.cps) (q H1)
  ·have n1:b ∉ w::EW.map (·.2.1):=fun z=>by
    obtain⟨kvs,e2⟩:=W.at b z
    rw[off b m]at e2
    cases e2
   rw[List.mem_cons,not_or]at n1
   rw[ae n1.1,z1 b n1.2,sm b (fun z=>m (by rw[z];exact mll))]
   exact off b m
end Ow
namespace Ow
open PySem PySem.Spec PyProof.Rows L2 Sw Wd Tx Rl Lw
variable {M:Mo}
theorem DO {Γ:bf} {F:Fx} {D:dG} {Ts:List Tb} (g:A9 Γ M F D Ts) {Hb H:Hp} {a l hd sa f u w:Addr} {ns:List Int} {rs:List Addr} {cs:List Cp} {as:List (List Lt)} {EU EW:List Ent} {Ξ:XS} {Dn:Ends} {i:Nat} {o8 o9:Option V} (B:Base M F Ts Hb a l hd sa f u ns rs cs as EU) (G:Good cs as) (x:bp M Hb H) (tb:TabsOk Ts H) (W:aU H w EW cs cs.length (PF (cW (nD as)))) (fr:∀b ∈ w::EW.map (·.2.1),Hb b=none) (q:∀H',Dn.rt (.bl true) H'):
  wSs (AX D.le) Γ Ξ Dn [some (.ref a),some (.ref l),some (.ref sa),some (.ref f),some (.ref u),some (.ref hd),some (.ref w),some (.int (i:Nat)),o8,o9] H:=by
 have gm:=g.mod
 obtain rfl:=gm
 have BH:=B.ext x tb
 unfold AX
 refine seq ?_
 show wS (.asgL _ _ _ _) Γ _ _ _ _
 unfold wS
 rw[g.lm]
 dsimp only
 refine⟨rfl,⟨g.cm,g.we.1⟩,?_⟩
 dsimp only[Sw.wS,Sw.wE,Sw.wT,Sw.wEs,Sw.wTs,Sw.wI,Sw.wP,Sw.keyOf,Sw.vars,L2.start,Sw.ax,Sw.aw,Sw.ah,Sw.ag,Sw.ao,Sw.ak,Sw.az,Sw.ay,Sw.au,Sw.aq,Sw.aj,Sw.ai,Sw.av,Sw.ab,Nat.reduceAdd,Nat.reduceSub]
 refine Aw BH.cl (xY _ i) fun p1 hp1 mp1=>?_
 have x1:=Ext.upd (M:=Γ.mod) (H:=H) (o:=.lst ((rs.map V.ref).drop i)) hp1 mp1
 have h1:rd Γ.mod (upd H p1 (.lst ((rs.map V.ref).drop i))) p1=some (.lst ((rs.map V.ref).drop i)):=br (by intro _ _ z;cases z)
 have B1:=BH.rz x1
 generalize upd H p1 (.lst ((rs.map V.ref).drop i))=H1 at x1 h1 B1 ⊢
 refine Aw B1.cl (xW _ i) fun p2 hp2 mp2=>?_
 have x2:=Ext.upd (M:=Γ.mod) (H:=H1) (o:=.lst ((rs.map V.ref).take i)) hp2 mp2
 have h2:rd Γ.mod (upd H1 p2 (.lst ((rs.map V.ref).take i))) p2=some (.lst ((rs.map V.ref).take i)):=br (by intro _ _ z;cases z)
 have h12:=x2.rd h1
 have x02:=x1.trans x2
 generalize upd H1 p2 (.lst ((rs.map V.ref).take i))=H2 at x2 h2 h12 x02 ⊢
 rw[Sw.Ao,h12,h2]
 dsimp only
 have lrs:=Paired.length B.cps
 have vg:=G.vg
 refine⟨by rw[List.length_drop,List.length_take,List.length_map,sizeLine_eq];omega,fun p3 hp3 mp3=>?_⟩
 rw[<-List.map_drop,<-List.map_take,<-List.map_append]
 have x3:=Ext.upd (M:=Γ.mod) (H:=H2) (o:=.lst ((rs.drop i++rs.take i).map V.ref)) hp3 mp3
 have h3:rd Γ.mod (upd H2 p3 (.lst ((rs.drop i++rs.take i).map V.ref))) p3=some (.lst ((rs.drop i++rs.take i).map V.ref)):=br (by intro _ _ z;cases z)
 have x03:=x02.trans x3
 generalize upd H2 p3 (.lst ((rs.drop i++rs.take i).map V.ref))=H3 at x3 h3 x03 ⊢
 have B3:=BH.rz x03
 refine⟨B3.tabs,.ref sa,by rw[g.xi];rfl,fun H4 gg c x4 t4 hc mc hgg mgg lam=>?_⟩
 have B4:=B3.ext x4 t4
 obtain⟨oc,hcc⟩:=lam.dw
 have pm:(cs.drop i++cs.take i).Perm cs:=List.perm_append_comm.trans (by rw[List.take_append_drop])
 rw[g.we.2]
 refine⟨p3,gg,cs.drop i++cs.take i,cW (nD as),rfl,B4.off,⟨_,ue x4 h3,vX (su i B4.cps) (sr i B4.cps)⟩,G.un.perm pm,by rw[pm.length_eq];exact G.vg,fun c hc=>G.ok c (pm.mem_iff.mp hc),.inr ⟨c,oc,sa,as,lam,hcc,G.CW.AG,B3.alt.mono ((Sub.of x4).C5 hc),rfl⟩,fun H5 w2 E2 nw=>?_⟩
 obtain⟨x5,hw2,fr2,W2⟩:=nw
 have hc5:=x5.same _ _ hcc
 -- the cell is gone
 have x35:bp Γ.mod H3 (era H5 c):=⟨fun b o e n=>by
   rw[aI (aD e hc)]
   exact x5.same _ _ (x4.same b o e n),fun b m e=>bJ (x5.off b m (x4.off b m e)),fun b hb z=>by
   have ne:b ≠ c:=fun y=>hb (by rw[y];exact hc)
   rw[aI ne]at z
   have:=x4.yt b hb
   cases e:H4 b with
   | none=>exact this e
   | some o=>rw[x5.same b o e]at z;cases z⟩
 have ntc:∀b o,H5 b=some o->(∀ ob v,o ≠ .frz ob v)->era H5 c b=some o:=fun b o e n=>by
  rw[aI (fun z=>by rw[z,hc5]at e;cases e;exact n _ _ rfl)]
  exact e
 have t5:TabsOk Ts (era H5 c):=fun t ht=>by
  rcases(t4 t ht).ext x5 with z | ⟨c',z,z'⟩
  ·exact .inl (ntc _ _ z (fun _ _ y=>nomatch y))
  ·exact .inr ⟨c',ntc _ _ z (fun _ _ y=>nomatch y),ntc _ _ z' (fun _ _ y=>nomatch y)⟩
 have B5:=B3.ext x35 t5
 have W5:aU (era H5 c) w2 E2 (cs.drop i++cs.take i) (cs.drop i++cs.take i).length (PF (cW (nD as))):=W2.same fun b hb=>aI (fun z=>by
  rcases List.mem_cons.mp hb with rfl | hb
  ·rw[z,hcc]at hw2;cases hw2
  ·have:=fr2 b hb
   rw[z,hcc]at this;cases this)
 have xb5:bp Γ.mod Hb (era H5 c):=(x.trans (bp.of x03)).trans x35
 have Wa:aU (era H5 c) w EW cs cs.length (PF (cW (nD as))):=W.sub (Sub.of ((bp.of x03).trans x35))
 have dis:=n8 (E:=E2) B4.Cy.eY hw2 fr2
 generalize era H5 c=H6 at x35 t5 B5 W5 xb5 Wa ⊢
 clear ntc hc5 x5 x4
 refine seq ?_
 dsimp only[Sw.wS,Sw.wE,Sw.wT,Sw.wEs,Sw.wTs,Sw.wI,Sw.wP,Sw.keyOf,Sw.vars,L2.start,Sw.ax,Sw.aw,Sw.ah,Sw.ag,Sw.ao,Sw.ak,Sw.az,Sw.ay,Sw.au,Sw.aq,Sw.aj,Sw.ai,Sw.av,Sw.ab,Nat.reduceAdd,Nat.reduceSub]
 refine⟨⟨g.cm,g.is.1⟩,?_⟩
 rw[g.is.2]
 refine⟨w2,u,E2,EU,_,_,_,rfl,W5,B5.Cy,pm,dis,?_⟩
 try dsimp only
 rw[Sw.ff,if_neg (by decide)]
 refine⟨⟨g.cm,g.we.1⟩,by decide,fun p7 hp7 mp7=>?_⟩
 have x7:=Ext.upd (M:=Γ.mod) (H:=H6) (o:=.lst []) hp7 mp7
 have h7:rd Γ.mod (upd H6 p7 (.lst [])) p7=some (.lst (([]:List Addr).map V.ref)):=br (by intro _ _ z;cases z)
 have B7:=B5.rz x7
 generalize upd H6 p7 (.lst [])=H7 at x7 h7 B7 ⊢
 rw[g.we.2]
 refine⟨p7,f,[],cW (nD as),rfl,B7.off,⟨[],h7,.nil⟩,by simp[Un],by simp,(fun c hc=>by cases hc),.inl ⟨_,B7.ru,rfl⟩,fun H8 w3 E3 nw3=>?_⟩
 obtain⟨x8,hw3,fr3,W3⟩:=nw3
 have e3:E3=[]:=List.eq_nil_of_length_eq_zero W3.len
 subst e3
 intro p9 hp9 mp9
 have x9:=Ext.upd (M:=Γ.mod) (H:=H8) (o:=.dK []) hp9 mp9
 have h9:upd H8 p9 (.dK []) p9=some (.dK []):=aA
 have hw9:=x9.same _ _ W3.eY.top
 have ne9:w3 ≠ p9:=aD W3.eY.top hp9
 have x69:=(x7.trans x8).trans x9
 have B9:=B5.rz x69
 generalize upd H8 p9 (.dK [])=H9 at h9 hw9 x69 B9 ⊢
 refine⟨jg hw9,jg h9,jH hw9 h9 ne9 rfl (fun e he=>by cases he),_,rfl,?_⟩
 rw[if_neg (by decide)]
 refine eI ?_
 exact DN g B G (xb5.trans (bp.of x69)) B9.tabs (Wa.sub (Sub.mR x69)).eY fr q
theorem vq (as:List (List Lt)):(codes as).map (fun y=>y.map nE)=nD as:=by
 unfold codes nD
 rw[List.map_map]
 refine List.map_congr_left fun ts _=>?_
 show(ts.map Lt.code).map nE=ts.map tm
 rw[List.map_map]
 rfl
noncomputable def kS (M:Mo) (Ts:List Tb):Sp:=fun vs H Q _=>∃a,∃ns:List Int,vs=[.ref a]/\ns.length<=63/\rd M H a=some (.lst (ns.map V.int))/\cz M H/\TabsOk Ts H/\∀H',Q (.bl true) H'
theorem BP {Γ:bf} {F:Fx} {D:dG} {Ts:List Tb} (g:A9 Γ M F D Ts) (vs:List V) (H:Hp) (Q:VK) (E:XK) (h:kS M Ts vs H Q E):cG Γ tM 1 (yc D.le) vs H Q E:=by
 obtain⟨a,ns,rfl,hl,ha,off,tabs,h⟩:=h
 refine⟨rfl,?_⟩
 have gm:=g.mod
 obtain rfl:=gm
 unfold yc
 refine seq ?_
 dsimp only[Sw.wS,Sw.wE,Sw.wT,Sw.wEs,Sw.wTs,Sw.wI,Sw.wP,Sw.keyOf,Sw.vars,L2.start,Sw.ax,Sw.aw,Sw.ah,Sw.ag,Sw.ao,Sw.ak,Sw.az,Sw.ay,Sw.au,Sw.aq,Sw.aj,Sw.ai,Sw.av,Sw.ab,Nat.reduceAdd,Nat.reduceSub]
 refine⟨⟨g.cm,g.cp.1⟩,?_⟩
 rw[g.cp.2]
 refine⟨a,ns,rfl,hl,ha,fun H1 l cs x1 hcs un l1 vg okc=>?_⟩
 refine seq ?_
 dsimp only[Sw.wS,Sw.wE,Sw.wT,Sw.wEs,Sw.wTs,Sw.wI,Sw.wP,Sw.keyOf,Sw.vars,L2.start,Sw.ax,Sw.aw,Sw.ah,Sw.ag,Sw.ao,Sw.ak,Sw.az,Sw.ay,Sw.au,Sw.aq,Sw.aj,Sw.ai,Sw.av,Sw.ab,Nat.reduceAdd,Nat.reduceSub]
 refine⟨⟨g.cm,g.al.1⟩,⟨g.cm,g.ce.1⟩,?_⟩
 rw[g.ce.2]
 refine⟨a,_,ns,rfl,by decide,x1.rd ha,fun c1=>?_⟩
 try dsimp only
 rw[g.al.2]
 refine⟨c1,rfl,fun as H2 sa CW x2 hsa=>?_⟩
 refine seq ?_
 dsimp only[Sw.wS,Sw.wE,Sw.wT,Sw.wEs,Sw.wTs,Sw.wI,Sw.wP,Sw.keyOf,Sw.vars,L2.start,Sw.ax,Sw.aw,Sw.ah,Sw.ag,Sw.ao,Sw.ak,Sw.az,Sw.ay,Sw.au,Sw.aq,Sw.aj,Sw.ai,Sw.av,Sw.ab,Nat.reduceAdd,Nat.reduceSub]
 refine⟨⟨g.cm,g.ro.1⟩,⟨g.cm,g.tx.1⟩,?_⟩
 rw[g.tx.2]
 refine⟨sa,as,rfl,CW,hsa,fun H3 x3=>?_⟩
 try dsimp only
 rw[g.ro.2]
 have x03:=(x1.trans x2).trans x3
 refine⟨codes as,CW.codes,rfl,fun t ht=>(tabs t ht).ext x03,fun H4 f x4 t4 ru=>?_⟩
 have ru4:AK F H4 f (nD as):=by
  have:=ru.mono zF
  rwa[vq]at this
 have x04:bp Γ.mod H H4:=(bp.of x03).trans x4
 have off4:cz Γ.mod H4:=fun b m=>x04.off b m (off b m)
 have ha4:=ue x04 ha
 obtain⟨rs,hl1,hp1⟩:=hcs
 have x14:bp Γ.mod H1 H4:=(bp.of (x2.trans x3)).trans x4
 have hl4:=ue x14 hl1
 have hp4:Paired (cA Γ.mod H4) rs cs:=L2.Paired.fN hp1 fun r c h=>h.El x14
 have hsa4:ie H4 sa as:=hsa.mono ((Sub.mR x3).trans (Sub.of x4))
 have G:Good cs as:=⟨un,l1,vg,okc,CW⟩
 clear x1 x2 x3 x03 x4 ru x14 hl1 hp1 hsa
 refine seq ?_
 dsimp only[Sw.wS,Sw.wE,Sw.wT,Sw.wEs,Sw.wTs,Sw.wI,Sw.wP,Sw.keyOf,Sw.vars,L2.start,Sw.ax,Sw.aw,Sw.ah,Sw.ag,Sw.ao,Sw.ak,Sw.az,Sw.ay,Sw.au,Sw.aq,Sw.aj,Sw.ai,Sw.av,Sw.ab,Nat.reduceAdd,Nat.reduceSub]
 refine⟨⟨g.cm,g.du.1⟩,?_⟩
 rw[g.du.2]
 refine⟨l,sa,cs,as,rfl,⟨rs,hl4,hp4⟩,un,vg,okc,CW.AG,hsa4,fun H5 u EU nwU=>?_⟩
 obtain⟨x5,hu,frU,U⟩:=nwU
 refine seq ?_
 dsimp only[Sw.wS,Sw.wE,Sw.wT,Sw.wEs,Sw.wTs,Sw.wI,Sw.wP,Sw.keyOf,Sw.vars,L2.start,Sw.ax,Sw.aw,Sw.ah,Sw.ag,Sw.ao,Sw.ak,Sw.az,Sw.ay,Sw.au,Sw.aq,Sw.aj,Sw.ai,Sw.av,Sw.ab,Nat.reduceAdd,Nat.reduceSub]
 refine⟨g.cm,CJ (x5.rd hl4) fun hd hhd mhd=>?_⟩
 have x6:=Ext.upd (M:=Γ.mod) (H:=H5) (o:=.lst (rs.map V.ref)) hhd mhd
 have h6:rd Γ.mod (upd H5 hd (.lst (rs.map V.ref))) hd=some (.lst (rs.map V.ref)):=br (by intro _ _ z;cases z)
 have x46:=x5.trans x6
 have B:Base Γ.mod F Ts (upd H5 hd (.lst (rs.map V.ref))) a l hd sa f u ns rs cs as EU:=⟨x46.rd ha4,x46.rd hl4,h6,L2.Paired.fN hp4 fun r c h=>h.ext x46,hsa4.mono (Sub.mR x46),ru4.mono (Sub.mR x46),U.sub (Sub.mR x6),g9 off4 x46,fun t ht=>(t4 t ht).ext x46⟩
 generalize upd H5 hd (.lst (rs.map V.ref))=H6 at B ⊢
 clear x46 x6 h6 x5 hu frU U hp4 hsa4 ru4 hl4 ha4 off4 t4 x04
 refine seq ?_
 dsimp only[Sw.wS,Sw.wE,Sw.wT,Sw.wEs,Sw.wTs,Sw.wI,Sw.wP,Sw.keyOf,Sw.vars,L2.start,Sw.ax,Sw.aw,Sw.ah,Sw.ag,Sw.ao,Sw.ak,Sw.az,Sw.ay,Sw.au,Sw.aq,Sw.aj,Sw.ai,Sw.av,Sw.ab,Nat.reduceAdd,Nat.reduceSub]
 refine⟨⟨g.cm,g.we.1⟩,?_⟩
 rw[g.we.2]
 refine⟨hd,f,cs,cW (nD as),rfl,B.off,⟨rs,B.CZ,B.cps⟩,un,vg,okc,.inl ⟨_,B.ru,rfl⟩,fun H7 w EW nw=>?_⟩
 obtain⟨x7,hw,frW,W⟩:=nw
 have B7:=B.rz x7
 refine seq ?_
 dsimp only[Sw.wS,Sw.wE,Sw.wT,Sw.wEs,Sw.wTs,Sw.wI,Sw.wP,Sw.keyOf,Sw.vars,L2.start,Sw.ax,Sw.aw,Sw.ah,Sw.ag,Sw.ao,Sw.ak,Sw.az,Sw.ay,Sw.au,Sw.aq,Sw.aj,Sw.ai,Sw.av,Sw.ab,Nat.reduceAdd,Nat.reduceSub]
 refine⟨⟨g.cm,g.is.1⟩,?_⟩
 rw[g.is.2]
 refine⟨w,u,EW,EU,_,_,_,rfl,W,B7.Cy,List.Perm.refl _,n8 B.Cy.eY hw frW,?_⟩
 try dsimp only
 rw[Sw.ff,if_neg (by decide)]
 refine ne_data (kH B7.CZ B7.cps) (kH B7.cl B7.cps) ⟨_,rfl,?_⟩
 rw[if_neg (by decide)]
 refine eI (seq ?_)
 dsimp only[Sw.wS,Sw.wE,Sw.wT,Sw.wEs,Sw.wTs,Sw.wI,Sw.wP,Sw.keyOf,Sw.vars,L2.start,Sw.ax,Sw.aw,Sw.ah,Sw.ag,Sw.ao,Sw.ak,Sw.az,Sw.ay,Sw.au,Sw.aq,Sw.aj,Sw.ai,Sw.av,Sw.ab,Nat.reduceAdd,Nat.reduceSub]
 refine⟨⟨g.cm,g.ce.1⟩,?_⟩
 rw[g.ce.2]
 refine⟨a,_,ns,rfl,by decide,B7.Gf,fun c2=>?_⟩
 try dsimp only
 rw[Sw.v_div]
 refine⟨by decide,by decide,g.cm,?_⟩
 rw[Sw.lR,B7.cl]
 dsimp only
 rw[Sw.v_mod,List.length_map]
 have lrs:=Paired.length B.cps
 refine⟨by omega,?_⟩
 have i0:=Int.emod_nonneg (c2 / 5) (show(rs.length:Int) ≠ 0 by omega)
 obtain⟨i,ei⟩:∃i:Nat,c2 / 5 % (rs.length:Int)=(i:Int):=⟨(c2 / 5 % (rs.length:Int)).toNat,by omega⟩
 rw[ei]
 refine DO (i:=i) g B G (bp.of x7) B7.tabs W (fun b hb=>?_) h
 rcases List.mem_cons.mp hb with rfl | hb
 ·exact hw
 ·exact frW b hb
end Ow
namespace K6
open PySem PySem.Spec PyProof.Rows L2 Sw
open PySem.W (Frag codeIn codeHdIn fnOf fnX)
theorem fh {us:List Value} (h:us.length=2):∃a b,us=[a,b]:=by
 cases us with
 | nil=>cases h
 | cons a r=>
  cases r with
  | nil=>cases h
  | cons b t=>
   cases t with
   | nil=>exact⟨a,b,rfl⟩
   | cons _ _=>cases h
noncomputable def top (i:Nat):Stmt:=PySem.Challenge.pw_swapward_k06_whole_webs_of_couples.main.body.getD i (.Pass ⟨0,0,0,0⟩)
@[reducible] noncomputable def cC:Stmt:=top 6
@[reducible] noncomputable def va:List Str:=["text","signs"]
theorem uF:eZ (aa cC) Wd.jV Wd.jO (af cC):=⟨by kernel_rfl,by kernel_rfl⟩
theorem qL:aF Wd.jV va (aa cC):=⟨rfl,rfl,rfl,by decide +kernel,rfl,by decide +kernel,by decide +kernel⟩
@[reducible] noncomputable def aX:Stmt:=top 7
@[reducible] noncomputable def kg:List Str:=["text"]
theorem j6:eZ (aa aX) Wd.dU Wd.dN (af aX):=⟨by kernel_rfl,by kernel_rfl⟩
theorem js:aF Wd.dU kg (aa aX):=⟨rfl,rfl,rfl,by decide +kernel,rfl,by decide +kernel,by decide +kernel⟩
@[reducible] noncomputable def bO:Stmt:=top 8
@[reducible] noncomputable def qq:List Str:=["text"]
theorem pN:eZ (aa bO) Wd.gO Wd.gC (af bO):=⟨by kernel_rfl,by kernel_rfl⟩
theorem nQ:aF Wd.gO qq (aa bO):=⟨rfl,rfl,rfl,by decide +kernel,rfl,by decide +kernel,by decide +kernel⟩
@[reducible] noncomputable def aZ:Stmt:=top 9
@[reducible] noncomputable def ki:List Str:=["text","least","greatest"]
theorem j8:eZ (aa aZ) Wd.dX Wd.dP (af aZ):=⟨by kernel_rfl,by kernel_rfl⟩
theorem ju:aF Wd.dX ki (aa aZ):=⟨rfl,rfl,rfl,by decide +kernel,rfl,by decide +kernel,by decide +kernel⟩
@[reducible] noncomputable def fT:Stmt:=top 16
@[reducible] noncomputable def EF:List Str:=["giver","taker"]
theorem DK:eZ (aa fT) Rl.yn Rl.ye (af fT):=⟨by kernel_rfl,by kernel_rfl⟩
theorem Bb:aF Rl.yn EF (aa fT):=⟨rfl,rfl,rfl,by decide +kernel,rfl,by decide +kernel,by decide +kernel⟩
@[reducible] noncomputable def aM:Stmt:=top 17
@[reducible] noncomputable def bG:List Str:=["giver","taker"]
theorem jB:eZ (aa aM) Rl.dk Rl.dh (af aM):=⟨by kernel_rfl,by kernel_rfl⟩
theorem iZ:aF Rl.dk bG (aa aM):=⟨rfl,rfl,rfl,by decide +kernel,rfl,by decide +kernel,by decide +kernel⟩
@[reducible] noncomputable def aO:Stmt:=top 18
@[reducible] noncomputable def bL:List Str:=["giver","taker"]
theorem j_:eZ (aa aO) Rl.dZ Rl.dR (af aO):=⟨by kernel_rfl,by kernel_rfl⟩
theorem jw:aF Rl.dZ bL (aa aO):=⟨rfl,rfl,rfl,by decide +kernel,rfl,by decide +kernel,by decide +kernel⟩
@[reducible] noncomputable def aV:Stmt:=top 19
@[reducible] noncomputable def oO:List Str:=["bound"]
theorem lX:aF ["bound","fits"] oO (aa aV):=⟨rfl,rfl,rfl,by decide +kernel,rfl,by decide +kernel,by decide +kernel⟩
@[reducible] noncomputable def aH:Stmt:=(af aV).getD 0 (.Pass ⟨0,0,0,0⟩)
@[reducible] noncomputable def dS:List Str:=["giver","taker"]
theorem j9:eZ (aa aH) Rl.dY Rl.dQ (af aH):=⟨by kernel_rfl,by kernel_rfl⟩
theorem jv:cZ Rl.dY dS "bound" (aa aH):=⟨rfl,rfl,rfl,by decide +kernel,rfl,by decide +kernel,rfl,by decide +kernel,rfl,by decide +kernel,by decide +kernel⟩
@[reducible] noncomputable def bq:Stmt:=top 20
@[reducible] noncomputable def rK:List Str:=["rule"]
theorem pj:aF ["rule","fits"] rK (aa bq):=⟨rfl,rfl,rfl,by decide +kernel,rfl,by decide +kernel,by decide +kernel⟩
@[reducible] noncomputable def aN:Stmt:=(af bq).getD 0 (.Pass ⟨0,0,0,0⟩)
@[reducible] noncomputable def eT:List Str:=["giver","taker"]
theorem mv:eZ (aa aN) Rl.eU Rl.eR (af aN):=⟨by kernel_rfl,by kernel_rfl⟩
theorem kW:cZ Rl.eU eT "rule" (aa aN):=⟨rfl,rfl,rfl,by decide +kernel,rfl,by decide +kernel,rfl,by decide +kernel,rfl,by decide +kernel,by decide +kernel⟩
@[reducible] noncomputable def b8:Stmt:=top 21
@[reducible] noncomputable def ym:List Str:=["rules"]
theorem ud:aF ["rules","fits"] ym (aa b8):=⟨rfl,rfl,rfl,by decide +kernel,rfl,by decide +kernel,by decide +kernel⟩
@[reducible] noncomputable def bj:Stmt:=(af b8).getD 0 (.Pass ⟨0,0,0,0⟩)
@[reducible] noncomputable def gM:List Str:=["giver","taker"]
theorem pP:eZ (aa bj) Rl.gQ Rl.gE (af bj):=⟨by kernel_rfl,by kernel_rfl⟩
theorem nS:cZ Rl.gQ gM "rules" (aa bj):=⟨rfl,rfl,rfl,by decide +kernel,rfl,by decide +kernel,rfl,by decide +kernel,rfl,by decide +kernel,by decide +kernel⟩
@[reducible] noncomputable def bZ:Stmt:=top 22
@[reducible] noncomputable def yl:List Str:=["rules"]
theorem uc:aF ["rules","fits"] yl (aa bZ):=⟨rfl,rfl,rfl,by decide +kernel,rfl,by decide +kernel,by decide +kernel⟩
@[reducible] noncomputable def bh:Stmt:=(af bZ).getD 0 (.Pass ⟨0,0,0,0⟩)
@[reducible] noncomputable def gL:List Str:=["giver","taker"]
theorem pO:eZ (aa bh) Rl.gP Rl.gD (af bh):=⟨by kernel_rfl,by kernel_rfl⟩
theorem nR:cZ Rl.gP gL "rules" (aa bh):=⟨rfl,rfl,rfl,by decide +kernel,rfl,by decide +kernel,rfl,by decide +kernel,rfl,by decide +kernel,by decide +kernel⟩
@[reducible] noncomputable def bt:Stmt:=top 23
@[reducible] noncomputable def oP:List Str:=["text"]
theorem n_:eZ (aa bt) Rl.fE Rl.fo (af bt):=⟨by kernel_rfl,by kernel_rfl⟩
theorem lY:aF Rl.fE oP (aa bt):=⟨rfl,rfl,rfl,by decide +kernel,rfl,by decide +kernel,by decide +kernel⟩
@[reducible] noncomputable def bM:Stmt:=top 24
@[reducible] noncomputable def qp:List Str:=["text"]
theorem pM:eZ (aa bM) Rl.gN Rl.gB (af bM):=⟨by kernel_rfl,by kernel_rfl⟩
theorem nP:aF Rl.gN qp (aa bM):=⟨rfl,rfl,rfl,by decide +kernel,rfl,by decide +kernel,by decide +kernel⟩
@[reducible] noncomputable def aL:Stmt:=top 25
@[reducible] noncomputable def iI:List Str:=["text"]
theorem iu:eZ (aa aL) Rl.cS Rl.cP (af aL):=⟨by kernel_rfl,by kernel_rfl⟩
theorem hX:aF Rl.cS iI (aa aL):=⟨rfl,rfl,rfl,by decide +kernel,rfl,by decide +kernel,by decide +kernel⟩
@[reducible] noncomputable def cB:Stmt:=top 26
@[reducible] noncomputable def u_:List Str:=["text"]
theorem uE:eZ (aa cB) Rl.jU Rl.jN (af cB):=⟨by kernel_rfl,by kernel_rfl⟩
theorem qK:aF Rl.jU u_ (aa cB):=⟨rfl,rfl,rfl,by decide +kernel,rfl,by decide +kernel,by decide +kernel⟩
@[reducible] noncomputable def cb:Stmt:=top 29
@[reducible] noncomputable def rL:List Str:=["one","other","rule"]
theorem rf:eZ (aa cb) Ow.iJ Ow.iF (af cb):=⟨by kernel_rfl,by kernel_rfl⟩
theorem pk:aF Ow.iJ rL (aa cb):=⟨rfl,rfl,rfl,by decide +kernel,rfl,by decide +kernel,by decide +kernel⟩
@[reducible] noncomputable def aY:Stmt:=top 30
@[reducible] noncomputable def kh:List Str:=["one","other"]
theorem j7:eZ (aa aY) Ow.dW Ow.dO (af aY):=⟨by kernel_rfl,by kernel_rfl⟩
theorem jt:aF Ow.dW kh (aa aY):=⟨rfl,rfl,rfl,by decide +kernel,rfl,by decide +kernel,by decide +kernel⟩
@[reducible] noncomputable def cT:Stmt:=top 31
@[reducible] noncomputable def yk:List Str:=["couples","rule"]
theorem wY:eZ (aa cT) Ow.lU Ow.lP (af cT):=⟨by kernel_rfl,by kernel_rfl⟩
theorem ub:aF Ow.lU yk (aa cT):=⟨rfl,rfl,rfl,by decide +kernel,rfl,by decide +kernel,by decide +kernel⟩
@[reducible] noncomputable def bT:Stmt:=top 33
@[reducible] noncomputable def qv:List Str:=["_law_script","_law_k"]
theorem pT:eZ (aa bT) Lw.gU Lw.gI (af bT):=⟨by kernel_rfl,by kernel_rfl⟩
theorem nW:aF Lw.gU qv (aa bT):=⟨rfl,rfl,rfl,by decide +kernel,rfl,by decide +kernel,by decide +kernel⟩
@[reducible] noncomputable def cj:Stmt:=top 34
@[reducible] noncomputable def rM:List Str:=["_law_cell_here","_law_k"]
theorem rg:eZ (aa cj) Lw.iK Lw.iG (af cj):=⟨by kernel_rfl,by kernel_rfl⟩
theorem pq:aF Lw.iK rM (aa cj):=⟨rfl,rfl,rfl,by decide +kernel,rfl,by decide +kernel,by decide +kernel⟩
@[reducible] noncomputable def bx:Stmt:=top 35
@[reducible] noncomputable def oR:List Str:=["_law_found"]
theorem oh:eZ (aa bx) Lw.fG Lw.ft (af bx):=⟨by kernel_rfl,by kernel_rfl⟩
theorem l0:aF Lw.fG oR (aa bx):=⟨rfl,rfl,rfl,by decide +kernel,rfl,by decide +kernel,by decide +kernel⟩
@[reducible] noncomputable def bB:Stmt:=top 36
@[reducible] noncomputable def oV:List Str:=["_law_number"]
theorem om:eZ (aa bB) Lw.fJ Lw.fA (af bB):=⟨by kernel_rfl,by kernel_rfl⟩
theorem mh:aF Lw.fJ oV (aa bB):=⟨rfl,rfl,rfl,by decide +kernel,rfl,by decide +kernel,by decide +kernel⟩
@[reducible] noncomputable def bQ:Stmt:=top 37
@[reducible] noncomputable def qt:List Str:=["_law_cell_here","_law_k"]
theorem pR:eZ (aa bQ) Lw.gS Lw.gG (af bQ):=⟨by kernel_rfl,by kernel_rfl⟩
theorem nU:aF Lw.gS qt (aa bQ):=⟨rfl,rfl,rfl,by decide +kernel,rfl,by decide +kernel,by decide +kernel⟩
@[reducible] noncomputable def bP:Stmt:=top 38
@[reducible] noncomputable def qr:List Str:=["_law_number"]
theorem pQ:eZ (aa bP) Lw.gR Lw.gF (af bP):=⟨by kernel_rfl,by kernel_rfl⟩
theorem nT:aF Lw.gR qr (aa bP):=⟨rfl,rfl,rfl,by decide +kernel,rfl,by decide +kernel,by decide +kernel⟩
@[reducible] noncomputable def aK:Stmt:=top 39
@[reducible] noncomputable def ia:List Str:=["_law_cell_here"]
theorem h8:eZ (aa aK) Lw.cK Lw.cJ (af aK):=⟨by kernel_rfl,by kernel_rfl⟩
theorem fW:aF Lw.cK ia (aa aK):=⟨rfl,rfl,rfl,by decide +kernel,rfl,by decide +kernel,by decide +kernel⟩
@[reducible] noncomputable def aS:Stmt:=top 40
@[reducible] noncomputable def jS:List Str:=["_law_term_here"]
theorem jC:eZ (aa aS) Lw.dm Lw.di (af aS):=⟨by kernel_rfl,by kernel_rfl⟩
theorem i5:aF Lw.dm jS (aa aS):=⟨rfl,rfl,rfl,by decide +kernel,rfl,by decide +kernel,by decide +kernel⟩
@[reducible] noncomputable def aT:Stmt:=top 41
@[reducible] noncomputable def jT:List Str:=["_law_alternatives_here"]
theorem jD:eZ (aa aT) Lw.dq Lw.dj (af aT):=⟨by kernel_rfl,by kernel_rfl⟩
theorem i6:aF Lw.dq jT (aa aT):=⟨rfl,rfl,rfl,by decide +kernel,rfl,by decide +kernel,by decide +kernel⟩
@[reducible] noncomputable def bz:Stmt:=top 42
@[reducible] noncomputable def oT:List Str:=["_law_kind","_law_bound","_law_giver","_law_taker"]
theorem oi:eZ (aa bz) Lw.fH Lw.fw (af bz):=⟨by kernel_rfl,by kernel_rfl⟩
theorem l_:aF Lw.fH oT (aa bz):=⟨rfl,rfl,rfl,by decide +kernel,rfl,by decide +kernel,by decide +kernel⟩
@[reducible] noncomputable def bR:Stmt:=top 43
@[reducible] noncomputable def qu:List Str:=["_law_alternatives_here","_law_giver","_law_taker"]
theorem pS:eZ (aa bR) Lw.gT Lw.gH (af bR):=⟨by kernel_rfl,by kernel_rfl⟩
theorem nV:aF Lw.gT qu (aa bR):=⟨rfl,rfl,rfl,by decide +kernel,rfl,by decide +kernel,by decide +kernel⟩
@[reducible] noncomputable def bA:Stmt:=top 44
@[reducible] noncomputable def oU:List Str:=["_law_cell_here","_law_many"]
theorem oj:eZ (aa bA) Ow.fI Ow.fz (af bA):=⟨by kernel_rfl,by kernel_rfl⟩
theorem md:aF Ow.fI oU (aa bA):=⟨rfl,rfl,rfl,by decide +kernel,rfl,by decide +kernel,by decide +kernel⟩
@[reducible] noncomputable def bc:Stmt:=top 45
@[reducible] noncomputable def lT:List Str:=["_law_script"]
theorem lC:eZ (aa bc) Ow.eF Ow.eD (af bc):=⟨by kernel_rfl,by kernel_rfl⟩
theorem j5:aF Ow.eF lT (aa bc):=⟨rfl,rfl,rfl,by decide +kernel,rfl,by decide +kernel,by decide +kernel⟩
@[reducible] noncomputable def bw:Stmt:=top 46
@[reducible] noncomputable def oQ:List Str:=["_law_one","_law_other"]
theorem og:eZ (aa bw) Ow.fF Ow.fq (af bw):=⟨by kernel_rfl,by kernel_rfl⟩
theorem lZ:aF Ow.fF oQ (aa bw):=⟨rfl,rfl,rfl,by decide +kernel,rfl,by decide +kernel,by decide +kernel⟩
@[reducible] noncomputable def cn:Stmt:=top 47
@[reducible] noncomputable def rN:List Str:=["_law_couples_here","_law_alternatives_here"]
theorem rh:eZ (aa cn) Ow.iL Ow.iH (af cn):=⟨by kernel_rfl,by kernel_rfl⟩
theorem pz:aF Ow.iL rN (aa cn):=⟨rfl,rfl,rfl,by decide +kernel,rfl,by decide +kernel,by decide +kernel⟩
@[reducible] noncomputable def cD:Stmt:=top 48
@[reducible] noncomputable def vb:List Str:=["_law_found","_law_due_here"]
theorem uG:eZ (aa cD) Ow.jW Ow.jP (af cD):=⟨by kernel_rfl,by kernel_rfl⟩
theorem qM:aF Ow.jW vb (aa cD):=⟨rfl,rfl,rfl,by decide +kernel,rfl,by decide +kernel,by decide +kernel⟩
@[reducible] noncomputable def cy:Stmt:=top 49
@[reducible] noncomputable def ED:List Str:=["_law_script"]
theorem A_:aF Ow.tM ED (aa cy):=⟨rfl,rfl,rfl,by decide +kernel,rfl,by decide +kernel,by decide +kernel⟩
theorem mr {K:Frag} {f cc T:Addr} {fd:FuncData} (lk:∃ (oc:Value) (od:Option Addr) (kV doc pm:Value) (an:Option Addr) (ct:Value) (osl:Array (Option Value)),fd=fnOf "sizes_rule" "sizes_rule" (aB aV) (af aV) (aa aV) .none kV doc pm an (.ref cc) ct/\K.lookup f=some ⟨oc,od,.func fd,osl⟩)
  (cd:codeIn K (.ref cc) "sizes_rule" =true) (hd:codeHdIn K cc T=true):Maker K aV aH "sizes_rule" "sizes_rule" "fits" "bound" "sizes_rule.<locals>.fits" (aH).pos f cc T fd:=
 ⟨lk,cd,hd,⟨⟨42,11,42,15⟩,⟨42,4,42,15⟩,by kernel_rfl⟩,rfl,rfl,fun _=>rfl,lX,rfl,rfl,fun _ _ _=>by kernel_rfl,fun _ _ _=>rfl,fun _=>rfl,by decide,by decide⟩
theorem mB (c:Addr) (doc pm ctv cd:Value) (us:List Value) (h:us.length=dS.length):bindArgs (fnX "fits" "sizes_rule.<locals>.fits" (aB aH) (af aH) (aa aH) [("bound",c)] .none .none doc pm none cd ctv) ⟨us,[]⟩=pure (dS.zip us):=by
 obtain⟨a,b,rfl⟩:=fh h
 rfl
theorem pK {K:Frag} {f cc T:Addr} {fd:FuncData} (lk:∃ (oc:Value) (od:Option Addr) (kV doc pm:Value) (an:Option Addr) (ct:Value) (osl:Array (Option Value)),fd=fnOf "opposite" "opposite" (aB bq) (af bq) (aa bq) .none kV doc pm an (.ref cc) ct/\K.lookup f=some ⟨oc,od,.func fd,osl⟩)
  (cd:codeIn K (.ref cc) "opposite" =true) (hd:codeHdIn K cc T=true):Maker K bq aN "opposite" "opposite" "fits" "rule" "opposite.<locals>.fits" (aN).pos f cc T fd:=
 ⟨lk,cd,hd,⟨⟨47,11,47,15⟩,⟨47,4,47,15⟩,by kernel_rfl⟩,rfl,rfl,fun _=>rfl,pj,rfl,rfl,fun _ _ _=>by kernel_rfl,fun _ _ _=>rfl,fun _=>rfl,by decide,by decide⟩
theorem qk (c:Addr) (doc pm ctv cd:Value) (us:List Value) (h:us.length=eT.length):bindArgs (fnX "fits" "opposite.<locals>.fits" (aB aN) (af aN) (aa aN) [("rule",c)] .none .none doc pm none cd ctv) ⟨us,[]⟩=pure (eT.zip us):=by
 obtain⟨a,b,rfl⟩:=fh h
 rfl
theorem uD {K:Frag} {f cc T:Addr} {fd:FuncData} (lk:∃ (oc:Value) (od:Option Addr) (kV doc pm:Value) (an:Option Addr) (ct:Value) (osl:Array (Option Value)),fd=fnOf "all_of" "all_of" (aB b8) (af b8) (aa b8) .none kV doc pm an (.ref cc) ct/\K.lookup f=some ⟨oc,od,.func fd,osl⟩)
  (cd:codeIn K (.ref cc) "all_of" =true) (hd:codeHdIn K cc T=true):Maker K b8 bj "all_of" "all_of" "fits" "rules" "all_of.<locals>.fits" (bj).pos f cc T fd:=
 ⟨lk,cd,hd,⟨⟨52,11,52,15⟩,⟨52,4,52,15⟩,by kernel_rfl⟩,rfl,rfl,fun _=>rfl,ud,rfl,rfl,fun _ _ _=>by kernel_rfl,fun _ _ _=>rfl,fun _=>rfl,by decide,by decide⟩
theorem u9 (c:Addr) (doc pm ctv cd:Value) (us:List Value) (h:us.length=gM.length):bindArgs (fnX "fits" "all_of.<locals>.fits" (aB bj) (af bj) (aa bj) [("rules",c)] .none .none doc pm none cd ctv) ⟨us,[]⟩=pure (gM.zip us):=by
 obtain⟨a,b,rfl⟩:=fh h
 rfl
theorem uC {K:Frag} {f cc T:Addr} {fd:FuncData} (lk:∃ (oc:Value) (od:Option Addr) (kV doc pm:Value) (an:Option Addr) (ct:Value) (osl:Array (Option Value)),fd=fnOf "any_of" "any_of" (aB bZ) (af bZ) (aa bZ) .none kV doc pm an (.ref cc) ct/\K.lookup f=some ⟨oc,od,.func fd,osl⟩)
  (cd:codeIn K (.ref cc) "any_of" =true) (hd:codeHdIn K cc T=true):Maker K bZ bh "any_of" "any_of" "fits" "rules" "any_of.<locals>.fits" (bh).pos f cc T fd:=
 ⟨lk,cd,hd,⟨⟨57,11,57,15⟩,⟨57,4,57,15⟩,by kernel_rfl⟩,rfl,rfl,fun _=>rfl,uc,rfl,rfl,fun _ _ _=>by kernel_rfl,fun _ _ _=>rfl,fun _=>rfl,by decide,by decide⟩
theorem u7 (c:Addr) (doc pm ctv cd:Value) (us:List Value) (h:us.length=gL.length):bindArgs (fnX "fits" "any_of.<locals>.fits" (aB bh) (af bh) (aa bh) [("rules",c)] .none .none doc pm none cd ctv) ⟨us,[]⟩=pure (gL.zip us):=by
 obtain⟨a,b,rfl⟩:=fh h
 rfl
noncomputable def zL:Expr:=bo (sk ((af cy).getD 8 (.Pass ⟨0,0,0,0⟩)) 1) 2
noncomputable def lA:Expr->Arguments
 | .Lambda a _ _ _=>a
 | _=>aB cy
noncomputable def lB:Expr->Expr
 | .Lambda _ b _ _=>b
 | e=>e
noncomputable def lS:Expr->Scope
 | .Lambda _ _ s _=>s
 | _=>aa cy
noncomputable def D0:dG:=⟨275,zL.pos,"law.<locals>.<lambda>","_law_alternatives_here",2,lA zL,lB zL,lS zL⟩
theorem DI:eZ (aa cy) Ow.tM (Ow.yc D0.le) (af cy):=⟨by kernel_rfl,by kernel_rfl⟩
theorem Ba:cZ Ow.tN Ow.tL D0.x D0.scope:=⟨rfl,rfl,rfl,by decide +kernel,rfl,by decide +kernel,rfl,by decide +kernel,rfl,by decide +kernel,by decide +kernel⟩
theorem DJ:bE Ow.tN Ow.sV D0.body=D0.body/\oE D0.scope Ow.tN Ow.sV D0.body=true:=⟨by kernel_rfl,by kernel_rfl⟩
theorem CI (c:Addr) (pm ctv cd:Value) (us:List Value) (h:us.length=Ow.tL.length):bindArgs (PySem.W.kla_fn "<lambda>" D0.iq D0.args D0.body D0.scope [(D0.x,c)] pm cd ctv) ⟨us,[]⟩=pure (Ow.tL.zip us):=by
 obtain⟨a,b,rfl⟩:=fh h
 rfl
theorem DP {P:Program} {w:World} {K:Frag} {mg:Str->Option Value} {base:Heap} {f cc:Addr} {cd:Value} {Ts:List Tb} (hcd:cd=.ref cc) (hd:codeHdIn K cc 275=true) (B:base.BuiltinsAt mg 275) (t0:(D0.T,D0.pos,D0.iq) ∈ Ts) (t1:∀t ∈ Ts,t.1=D0.T->t=(D0.T,D0.pos,D0.iq))
  (A:Around) (outer:List Env) (s:Shared) (H:Hp) (E:XK):ve (gu (fP P w) P w K mg base Ow.tM "law" (aa cy) f cd A outer s H E) D0 Ts where
 cc:=⟨cc,hcd,hd⟩
 B:=B
 iq:=by kernel_rfl
 cl:=⟨s.heap.objs.size + 1,rfl,by
  show(cellsFrom (s.heap.objs.size + 1) (aa cy).names []).lookup ("_law_alternatives_here" :Str)=_
  rw[show cellsFrom (s.heap.objs.size + 1) (aa cy).names []=[(("_law_alternatives_here" :Str),(s.heap.objs.size + 1:Addr))]from rfl]
  simp,Nat.le_succ _⟩
 nm:=rfl
 vs:=by kernel_rfl
 d0:=rfl
 t0:=t0
 t1:=t1
end K6
namespace K6
open PySem PySem.Spec PyProof.Rows L2 Sw Wd
open PySem.W (Frag keepIn ktsIn mroIn kitOne nsIn findIn typeIn takerIn hasDictIn codeIn codeHdIn fnOf mg_of mg_none_of)
structure ba (K:Frag) (x:Str) (st:Stmt) (f:Addr):Prop where
 at_:nsIn K mainGlobals x=some (some (.ref f))
 fn:∃fd,qx K x x st f fd
theorem cX {K:Frag} {x:Str} {st:Stmt} {f:Addr} {oc:Value} {od an:Option Addr} {osl:Array (Option Value)} {kV doc pm cdv ct:Value} (a:nsIn K mainGlobals x=some (some (.ref f)))
  (l:K.lookup f=some ⟨oc,od,.func (fnOf x x (aB st) (af st) (aa st) .none kV doc pm an cdv ct),osl⟩) (c:codeIn K cdv x=true) (k:keepIn K (.ref f)=true):ba K x st f:=⟨a,_,rp l c k⟩
noncomputable def vx (p1 p2 p3 p4:Addr):List (Key × V):=[(.inr "O",.ref p1),(.inr "A",.ref p2),(.inr "B",.ref p3),(.inr "AB",.ref p4)]
noncomputable def gK:List Tb:=[(98,(aH).pos,"sizes_rule.<locals>.fits"),(105,(aN).pos,"opposite.<locals>.fits"),(112,(bj).pos,"all_of.<locals>.fits"),(119,(bh).pos,"any_of.<locals>.fits"),(275,D0.pos,"law.<locals>.<lambda>")]
noncomputable def d8 (gr mk:Addr):Rl.Fx:=⟨gr,mk,aH,aN,bj,bh⟩
theorem sF:∀ {l:List Tb},(l.map (·.1)).Nodup->∀t ∈ l,∀u ∈ l,t.1=u.1->t=u
 | [],_,t,ht,_,_,_=>nomatch ht
 | a::r,h,t,ht,u,hu,e=>by
  have h:=List.nodup_cons.mp h
  rcases List.mem_cons.mp ht with rfl | ht'<;>rcases List.mem_cons.mp hu with rfl | hu'
  ·rfl
  ·exact absurd (List.mem_map.mpr ⟨u,hu',e.symm⟩) h.1
  ·exact absurd (List.mem_map.mpr ⟨t,ht',e⟩) h.1
  ·exact sF h.2 t ht' u hu' e
theorem fS:∀t ∈ gK,∀u ∈ gK,t.1=u.1->t=u:=sF (l:=gK) (show [98,105,112,119,275].Nodup from by decide)
structure Txt (K:Frag) (w:World) (gr mk p1 p2 p3 p4:Addr):Prop where
 vO:∃t,nsIn K mainGlobals "FIGURES" =some (some (.str eM t))
 mi:∃t,nsIn K mainGlobals "MOST_FIGURES" =some (some (.int 12 t))
 GB:∃t,nsIn K mainGlobals "NO" =some (some (.str "no " t))
 qN:∃t,nsIn K mainGlobals "MOST_NOES" =some (some (.int 5 t))
 Bj:∃t,nsIn K mainGlobals "SIZES" =some (some (.str "sizes " t))
 uf:∃t,nsIn K mainGlobals "MOST_GAP" =some (some (.int 98 t))
 nX:∃t,nsIn K mainGlobals "LEAST_WORTH" =some (some (.int 1 t))
 GK:nsIn K mainGlobals "fits_by_groups" =some (some (.ref gr))
 GJ:nsIn K mainGlobals "fits_by_marks" =some (some (.ref mk))
 t1:aE K p1=some (.tup [.str "O",.str "A",.str "B",.str "AB"])
 t2:aE K p2=some (.tup [.str "A",.str "AB"])
 t3:aE K p3=some (.tup [.str "B",.str "AB"])
 t4:aE K p4=some (.tup [.str "AB"])
 tk:∃ (pd:Addr) (od:Option Addr) (u1 u2 u3 u4:Tok) (ep:Nat),nsIn K mainGlobals "TAKERS" =some (some (.ref pd))/\
  K.lookup pd=some ⟨.type "dict",none,.dict #[⟨hashStr w "O",.str "O" u1,.ref p1⟩,⟨hashStr w "A",.str "A" u2,.ref p2⟩,⟨hashStr w "B",.str "B" u3,.ref p3⟩,⟨hashStr w "AB",.str "AB" u4,.ref p4⟩] ep,#[]⟩
 no:∀x ∈ dD,nsIn K mainGlobals x=some none
noncomputable def Er (gr mk:Addr):List (Str × V):=[("FIGURES",.str eM),("MOST_FIGURES",.int 12),("NO",.str "no "),("MOST_NOES",.int 5),("SIZES",.str "sizes "),("MOST_GAP",.int 98),("LEAST_WORTH",.int 1),("fits_by_groups",.ref gr),("fits_by_marks",.ref mk)]
theorem pV {α:Type}:∀ {l:List (Str × α)} {x:Str} {a:α},l.lookup x=some a->(x,a) ∈ l
 | y::r,x,a,h=>by
  obtain⟨n,b⟩:=y
  rw[List.lookup_cons]at h
  cases e:(x == n)with
  | true=>rw[e]at h;cases h;rw[eq_of_beq e];exact List.mem_cons_self
  | false=>rw[e]at h;exact List.mem_cons_of_mem _ (pV h)
noncomputable def G0 (K:Frag) (gr mk p1 p2 p3 p4:Addr):bf where
 con:=fun x=>(Er gr mk).lookup x
 mod:=aE K
 has:=fun _=>false
 fn:=fun _ _ _ _ _=>False
 gd:=fun x=>if x= "TAKERS" then some (vx p1 p2 p3 p4)else none
section
variable {P:Program} {w:World} {K:Frag} {mg:Str->Option Value} {base:Heap} {gr mk p1 p2 p3 p4:Addr}
theorem gi (x:Str) (t:Tok):(aG P w).is (.inr x) (.str x t)=true:=jY P w x t
theorem tV (X:K.In base) (G:base.Ns mainGlobals mg) (T:Txt K w gr mk p1 p2 p3 p4):AM P w mg base "TAKERS" (vx p1 p2 p3 p4):=by
 obtain⟨pd,od,u1,u2,u3,u4,ep,h1,h2⟩:=T.tk
 refine⟨pd,[(.inr "O",.ref p1),(.inr "A",.ref p2),(.inr "B",.ref p3),(.inr "AB",.ref p4)],mg_of X G h1,.cons ⟨rfl,rfl⟩ (.cons ⟨rfl,rfl⟩ (.cons ⟨rfl,rfl⟩ (.cons ⟨rfl,rfl⟩ .nil))),_,_,_,X _ _ h2,⟨rfl,rfl,rfl⟩,rfl,fun e he=>?_,
  .cons (gi _ _) rfl (.cons (gi _ _) rfl (.cons (gi _ _) rfl (.cons (gi _ _) rfl .nil))),(show List.Nodup [(Sum.inr "O" :Key),.inr "A",.inr "B",.inr "AB"]from by decide +kernel)⟩
 have he:e ∈ [(⟨hashStr w "O",.str "O" u1,.ref p1⟩:DictEntry),⟨hashStr w "A",.str "A" u2,.ref p2⟩,⟨hashStr w "B",.str "B" u3,.ref p3⟩,⟨hashStr w "AB",.str "AB" u4,.ref p4⟩]:=by simpa using he
 simp only[List.mem_cons,List.not_mem_nil,or_false]at he
 rcases he with rfl | rfl | rfl | rfl
 ·exact⟨.inr "O",gi _ _,rfl⟩
 ·exact⟨.inr "A",gi _ _,rfl⟩
 ·exact⟨.inr "B",gi _ _,rfl⟩
 ·exact⟨.inr "AB",gi _ _,rfl⟩
theorem Ek (X:K.In base) (G:base.Ns mainGlobals mg) (T:Txt K w gr mk p1 p2 p3 p4):aP P w K mg base (G0 K gr mk p1 p2 p3 p4) 1:=by
 have blt:∀x ∈ dD,mg x=none:=fun x hx=>mg_none_of X G (T.no x hx)
 refine⟨n9 K,fun x v h=>?_,fun f h=>absurd (show false=true from h) Bool.false_ne_true,blt,cQ.none,fun x kvs h=>?_⟩
 ·dsimp only[G0]at h
  have hm:=pV h
  unfold Er at hm
  simp only[List.mem_cons,List.not_mem_nil,or_false,Prod.mk.injEq]at hm
  rcases hm with ⟨rfl,rfl⟩ | ⟨rfl,rfl⟩ | ⟨rfl,rfl⟩ | ⟨rfl,rfl⟩ | ⟨rfl,rfl⟩ | ⟨rfl,rfl⟩ | ⟨rfl,rfl⟩ | ⟨rfl,rfl⟩ | ⟨rfl,rfl⟩
  ·obtain⟨t,e⟩:=T.vO
   exact⟨_,mg_of X G e,t,rfl⟩
  ·obtain⟨t,e⟩:=T.mi
   exact⟨_,mg_of X G e,t,rfl⟩
  ·obtain⟨t,e⟩:=T.GB
   exact⟨_,mg_of X G e,t,rfl⟩
  ·obtain⟨t,e⟩:=T.qN
   exact⟨_,mg_of X G e,t,rfl⟩
  ·obtain⟨t,e⟩:=T.Bj
   exact⟨_,mg_of X G e,t,rfl⟩
  ·obtain⟨t,e⟩:=T.uf
   exact⟨_,mg_of X G e,t,rfl⟩
  ·obtain⟨t,e⟩:=T.nX
   exact⟨_,mg_of X G e,t,rfl⟩
  ·exact⟨_,mg_of X G T.GK,rfl⟩
  ·exact⟨_,mg_of X G T.GJ,rfl⟩
 ·dsimp only[G0]at h
  split at h
  ·rename_i e;subst e;cases h
   exact tV X G T
  ·cases h
noncomputable def _root_.Sw.bf.jm (Γ:bf) (vc:Addr->Sp):bf:={Γ with vc:=vc}
theorem _root_.Sw.aP.iO {Γ:bf} {k:Nat} {l:List (Str × Sp)} {vc:Addr->Sp} (g:aP P w K mg base (Γ.wit l) k) (F:cQ P w K mg base k vc):aP P w K mg base ((Γ.jm vc).wit l) k:=⟨g.mod,g.con,g.fn,g.no,F,g.gd⟩
theorem _root_.Sw.aP.GI {Γ:bf} {k:Nat} (g:aP P w K mg base Γ k) (D:dG) (Ts:List Tb):aP P w K mg base {Γ with lm:=some (D,Ts)} k:=⟨g.mod,g.con,g.fn,g.no,g.vc,g.gd⟩
theorem step {Γ:bf} {k:Nat} {x:Str} {st:Stmt} {f:Addr} {N ps:List Str} {body:cR} {sp:Sp} (D:ba K x st f) (S:aF N ps (aa st)) (g:aP P w K mg base Γ k) (hm:eZ (aa st) N body (af st))
  (h:∀vs H Q E,sp vs H Q E->cG Γ N ps.length body vs H Q E) (hlm:Γ.lm=none:=by rfl):∃fd,qx K x x st f fd/\cO P w K mg base (fP P w) (k + 2) f fd ps sp:=by
 obtain⟨fd,F⟩:=D.fn
 exact⟨fd,F,(zS F S g hm hlm).imp h⟩
noncomputable def rZ (M:Mo):Sp:=fun vs H Q _=>∃a b s t,vs=[.ref a,.ref b]/\Rl.bX M H a s/\Rl.bX M H b t/\s.Ok/\Q (.bl (Rl.ER s.g t.g)) H
noncomputable def kS (K:Frag):Sp:=fun vs H Q _=>∃ (a:Addr) (ns:List Int),vs=[.ref a]/\ns.length<=63/\kL K H a (ns.map V.int)/\(∀ t ∈ gK,TabAt H t)/\∀H',Q (.bl true) H'
noncomputable def L0 (K:Frag) (f6 f7:Addr):List (Str × Sp):=[]
noncomputable def L1 (K:Frag) (f6 f7:Addr):List (Str × Sp):=("made_of",Wd.iY (aE K))::L0 K f6 f7
noncomputable def L2 (K:Frag) (f6 f7:Addr):List (Str × Sp):=("writes_number",Wd.iV (aE K))::L1 K f6 f7
noncomputable def L3 (K:Frag) (f6 f7:Addr):List (Str × Sp):=("number_of",Wd.iX (aE K))::L2 K f6 f7
noncomputable def L4 (K:Frag) (f6 f7:Addr):List (Str × Sp):=("number_within",Wd.iW (aE K))::L3 K f6 f7
noncomputable def L5 (K:Frag) (f6 f7:Addr):List (Str × Sp):=("gap",Rl.oZ (aE K))::L4 K f6 f7
noncomputable def L6 (K:Frag) (f6 f7:Addr):List (Str × Sp):=("fits_by_groups",rZ (aE K))::L5 K f6 f7
noncomputable def L7 (K:Frag) (f6 f7:Addr):List (Str × Sp):=("fits_by_marks",Rl.vB (aE K))::L6 K f6 f7
noncomputable def L8 (K:Frag) (f6 f7:Addr):List (Str × Sp):=("sizes_rule",nM (aE K) gK aH "fits" "bound" "sizes_rule.<locals>.fits")::L7 K f6 f7
noncomputable def L9 (K:Frag) (f6 f7:Addr):List (Str × Sp):=("opposite",nM (aE K) gK aN "fits" "rule" "opposite.<locals>.fits")::L8 K f6 f7
noncomputable def F9 (K:Frag) (f6 f7:Addr):List (Str × Sp):=("all_of",nM (aE K) gK bj "fits" "rules" "all_of.<locals>.fits")::L9 K f6 f7
noncomputable def F8 (K:Frag) (f6 f7:Addr):List (Str × Sp):=("any_of",nM (aE K) gK bh "fits" "rules" "any_of.<locals>.fits")::F9 K f6 f7
noncomputable def F5 (K:Frag) (f6 f7:Addr):List (Str × Sp):=("plain_rule",Rl.yK (aE K) gK (d8 f6 f7))::F8 K f6 f7
noncomputable def F4 (K:Frag) (f6 f7:Addr):List (Str × Sp):=("term_rule",Rl.yI (aE K) gK (d8 f6 f7))::F5 K f6 f7
noncomputable def F3 (K:Frag) (f6 f7:Addr):List (Str × Sp):=("alternative_rule",Rl.yN (aE K) gK (d8 f6 f7))::F4 K f6 f7
noncomputable def F2 (K:Frag) (f6 f7:Addr):List (Str × Sp):=("rule_of",Rl.yJ (aE K) gK (d8 f6 f7))::F3 K f6 f7
noncomputable def F1 (K:Frag) (f6 f7:Addr):List (Str × Sp):=("_law_cell",Lw.kT (aE K))::F2 K f6 f7
noncomputable def F0 (K:Frag) (f6 f7:Addr):List (Str × Sp):=("_law_mix",Lw.mK)::F1 K f6 f7
noncomputable def FZ (K:Frag) (f6 f7:Addr):List (Str × Sp):=("_law_whole",Lw.kq (aE K))::F0 K f6 f7
noncomputable def FY (K:Frag) (f6 f7:Addr):List (Str × Sp):=("_law_marks",Lw.kx (aE K))::FZ K f6 f7
noncomputable def FX (K:Frag) (f6 f7:Addr):List (Str × Sp):=("_law_side",Lw.nK (aE K))::FY K f6 f7
noncomputable def FW (K:Frag) (f6 f7:Addr):List (Str × Sp):=("_law_term",Lw.nJ (aE K))::FX K f6 f7
noncomputable def FV (K:Frag) (f6 f7:Addr):List (Str × Sp):=("_law_alternatives",Lw.nN (aE K))::FW K f6 f7
noncomputable def FU (K:Frag) (f6 f7:Addr):List (Str × Sp):=("_law_term_text",Lw.yH (aE K))::FV K f6 f7
noncomputable def FT (K:Frag) (f6 f7:Addr):List (Str × Sp):=("_law_rule_text",Lw.nI (aE K))::FU K f6 f7
noncomputable def FR (K:Frag) (f6 f7:Addr):List (Str × Sp):=("_law_plain",Lw.kr (aE K))::FT K f6 f7
noncomputable def yx (K:Frag) (f6 f7:Addr):List (Str × Sp):=("_law_lets",Lw.kR (aE K))::FR K f6 f7
noncomputable def FQ (K:Frag) (f6 f7:Addr):List (Str × Sp):=("are_swap",Ow.r9 (aE K) (d8 f6 f7) D0)::yx K f6 f7
noncomputable def FP (K:Frag) (f6 f7:Addr):List (Str × Sp):=("worth_between",Ow.yG (aE K))::FQ K f6 f7
noncomputable def FO (K:Frag) (f6 f7:Addr):List (Str × Sp):=("web_of",Ow.rY (aE K) (d8 f6 f7) D0)::FP K f6 f7
noncomputable def FN (K:Frag) (f6 f7:Addr):List (Str × Sp):=("_law_names",Ow.ku (aE K))::FO K f6 f7
noncomputable def FL (K:Frag) (f6 f7:Addr):List (Str × Sp):=("_law_couples",Ow.gW (aE K))::FN K f6 f7
noncomputable def FK (K:Frag) (f6 f7:Addr):List (Str × Sp):=("_law_worth",Ow.yL (aE K))::FL K f6 f7
noncomputable def FJ (K:Frag) (f6 f7:Addr):List (Str × Sp):=("_law_due",Ow.r6 (aE K))::FK K f6 f7
noncomputable def GV (K:Frag) (f6 f7:Addr):List (Str × Sp):=("_law_is",Ow.yM (aE K))::FJ K f6 f7
theorem FD {f f6 f7:Addr} (X:K.In base) (G:base.Ns mainGlobals mg) (d:ba K "made_of" cC f) (g:aP P w K mg base ((G0 K f6 f7 p1 p2 p3 p4).wit (L0 K f6 f7)) 1):aP P w K mg base ((G0 K f6 f7 p1 p2 p3 p4).wit (L1 K f6 f7)) 3:=by
 obtain⟨e,F,o⟩:=step (sp:=Wd.iY (aE K)) d qL g uF (Wd.qT rfl rfl)
 exact aP.cF (g.mono (k:=3) (by decide)) (mg_of X G d.at_) F.kp o (cH F fun _ _=>fun _ _ _ _ _ _=>rfl) (by decide)
theorem FC {f f6 f7:Addr} (X:K.In base) (G:base.Ns mainGlobals mg) (d:ba K "writes_number" aX f) (g:aP P w K mg base ((G0 K f6 f7 p1 p2 p3 p4).wit (L1 K f6 f7)) 3):aP P w K mg base ((G0 K f6 f7 p1 p2 p3 p4).wit (L2 K f6 f7)) 5:=by
 obtain⟨e,F,o⟩:=step (sp:=Wd.iV (aE K)) d js g j6 (Wd.uo ⟨rfl,rfl,by exact⟨by kernel_rfl,by kernel_rfl⟩,by kernel_rfl,by kernel_rfl⟩)
 exact aP.cF (g.mono (k:=5) (by decide)) (mg_of X G d.at_) F.kp o (cI F fun _=>fun _ _ _ _ _ _=>rfl) (by decide)
theorem FA {f f6 f7:Addr} (X:K.In base) (G:base.Ns mainGlobals mg) (d:ba K "number_of" bO f) (g:aP P w K mg base ((G0 K f6 f7 p1 p2 p3 p4).wit (L2 K f6 f7)) 5):aP P w K mg base ((G0 K f6 f7 p1 p2 p3 p4).wit (L3 K f6 f7)) 7:=by
 obtain⟨e,F,o⟩:=step (sp:=Wd.iX (aE K)) d nQ g pN (Wd.uu ⟨⟨rfl,rfl,by exact⟨by kernel_rfl,by kernel_rfl⟩,by kernel_rfl,by kernel_rfl⟩,by exact⟨by kernel_rfl,by kernel_rfl⟩⟩)
 exact aP.cF (g.mono (k:=7) (by decide)) (mg_of X G d.at_) F.kp o (cI F fun _=>fun _ _ _ _ _ _=>rfl) (by decide)
theorem Fz {f f6 f7:Addr} (X:K.In base) (G:base.Ns mainGlobals mg) (d:ba K "number_within" aZ f) (g:aP P w K mg base ((G0 K f6 f7 p1 p2 p3 p4).wit (L3 K f6 f7)) 7):aP P w K mg base ((G0 K f6 f7 p1 p2 p3 p4).wit (L4 K f6 f7)) 9:=by
 obtain⟨e,F,o⟩:=step (sp:=Wd.iW (aE K)) d ju g j8 (Wd.uq ⟨⟨⟨rfl,rfl,by exact⟨by kernel_rfl,by kernel_rfl⟩,by kernel_rfl,by kernel_rfl⟩,by exact⟨by kernel_rfl,by kernel_rfl⟩⟩,by exact⟨by kernel_rfl,by kernel_rfl⟩⟩)
 exact aP.cF (g.mono (k:=9) (by decide)) (mg_of X G d.at_) F.kp o (oF F fun _ _ _=>fun _ _ _ _ _ _=>rfl) (by decide)
theorem Fy {f f6 f7:Addr} (X:K.In base) (G:base.Ns mainGlobals mg) (d:ba K "gap" fT f) (g:aP P w K mg base ((G0 K f6 f7 p1 p2 p3 p4).wit (L4 K f6 f7)) 9):aP P w K mg base ((G0 K f6 f7 p1 p2 p3 p4).wit (L5 K f6 f7)) 11:=by
 obtain⟨e,F,o⟩:=step (sp:=Rl.oZ (aE K)) d Bb g DK (Rl.BQ rfl rfl)
 exact aP.cF (g.mono (k:=11) (by decide)) (mg_of X G d.at_) F.kp o (cH F fun _ _=>fun _ _ _ _ _ _=>rfl) (by decide)
theorem Fw {f f6 f7:Addr} {cc:Addr} {fd:FuncData} (X:K.In base) (G:base.Ns mainGlobals mg) (B:∀T ∈ [98,105,112,119,275],base.BuiltinsAt mg T) (a:nsIn K mainGlobals "sizes_rule" =some (some (.ref f))) (p:keepIn K (.ref f)=true) (m:Maker K aV aH "sizes_rule" "sizes_rule" "fits" "bound" "sizes_rule.<locals>.fits" (aH).pos f cc 98 fd) (g:aP P w K mg base ((G0 K f6 f7 p1 p2 p3 p4).wit (L7 K f6 f7)) 15):aP P w K mg base ((G0 K f6 f7 p1 p2 p3 p4).wit (L8 K f6 f7)) 17:=
 aP.cF (g.mono (k:=17) (by decide)) (mg_of X G a) p (je (Ts:=gK) m g (B 98 (by decide)) (by unfold gK;simp) (fun t ht h=>fS t ht _ (by unfold gK;simp) h)) (.all fun us hl=>by
  obtain⟨_,_,_,_,_,_,_,_,q,_⟩:=m.lk
  subst q
  obtain⟨v,rfl⟩:=len_one hl
  rfl) (by decide)
theorem Fv {f f6 f7:Addr} {cc:Addr} {fd:FuncData} (X:K.In base) (G:base.Ns mainGlobals mg) (B:∀T ∈ [98,105,112,119,275],base.BuiltinsAt mg T) (a:nsIn K mainGlobals "opposite" =some (some (.ref f))) (p:keepIn K (.ref f)=true) (m:Maker K bq aN "opposite" "opposite" "fits" "rule" "opposite.<locals>.fits" (aN).pos f cc 105 fd) (g:aP P w K mg base ((G0 K f6 f7 p1 p2 p3 p4).wit (L8 K f6 f7)) 17):aP P w K mg base ((G0 K f6 f7 p1 p2 p3 p4).wit (L9 K f6 f7)) 19:=
 aP.cF (g.mono (k:=19) (by decide)) (mg_of X G a) p (je (Ts:=gK) m g (B 105 (by decide)) (by unfold gK;simp) (fun t ht h=>fS t ht _ (by unfold gK;simp) h)) (.all fun us hl=>by
  obtain⟨_,_,_,_,_,_,_,_,q,_⟩:=m.lk
  subst q
  obtain⟨v,rfl⟩:=len_one hl
  rfl) (by decide)
theorem Eh {f f6 f7:Addr} {cc:Addr} {fd:FuncData} (X:K.In base) (G:base.Ns mainGlobals mg) (B:∀T ∈ [98,105,112,119,275],base.BuiltinsAt mg T) (a:nsIn K mainGlobals "all_of" =some (some (.ref f))) (p:keepIn K (.ref f)=true) (m:Maker K b8 bj "all_of" "all_of" "fits" "rules" "all_of.<locals>.fits" (bj).pos f cc 112 fd) (g:aP P w K mg base ((G0 K f6 f7 p1 p2 p3 p4).wit (L9 K f6 f7)) 19):aP P w K mg base ((G0 K f6 f7 p1 p2 p3 p4).wit (F9 K f6 f7)) 21:=
 aP.cF (g.mono (k:=21) (by decide)) (mg_of X G a) p (je (Ts:=gK) m g (B 112 (by decide)) (by unfold gK;simp) (fun t ht h=>fS t ht _ (by unfold gK;simp) h)) (.all fun us hl=>by
  obtain⟨_,_,_,_,_,_,_,_,q,_⟩:=m.lk
  subst q
  obtain⟨v,rfl⟩:=len_one hl
  rfl) (by decide)
theorem Eg {f f6 f7:Addr} {cc:Addr} {fd:FuncData} (X:K.In base) (G:base.Ns mainGlobals mg) (B:∀T ∈ [98,105,112,119,275],base.BuiltinsAt mg T) (a:nsIn K mainGlobals "any_of" =some (some (.ref f))) (p:keepIn K (.ref f)=true) (m:Maker K bZ bh "any_of" "any_of" "fits" "rules" "any_of.<locals>.fits" (bh).pos f cc 119 fd) (g:aP P w K mg base ((G0 K f6 f7 p1 p2 p3 p4).wit (F9 K f6 f7)) 21):aP P w K mg base ((G0 K f6 f7 p1 p2 p3 p4).wit (F8 K f6 f7)) 23:=
 aP.cF (g.mono (k:=23) (by decide)) (mg_of X G a) p (je (Ts:=gK) m g (B 119 (by decide)) (by unfold gK;simp) (fun t ht h=>fS t ht _ (by unfold gK;simp) h)) (.all fun us hl=>by
  obtain⟨_,_,_,_,_,_,_,_,q,_⟩:=m.lk
  subst q
  obtain⟨v,rfl⟩:=len_one hl
  rfl) (by decide)
theorem Ef {f f6 f7:Addr} (X:K.In base) (G:base.Ns mainGlobals mg) (d:ba K "plain_rule" bt f) (g:aP P w K mg base ((G0 K f6 f7 p1 p2 p3 p4).wit (F8 K f6 f7)) 23):aP P w K mg base ((G0 K f6 f7 p1 p2 p3 p4).wit (F5 K f6 f7)) 25:=by
 obtain⟨e,F,o⟩:=step (sp:=Rl.yK (aE K) gK (d8 f6 f7)) d lY g n_ (Rl.ur ⟨rfl,rfl,by kernel_rfl,by kernel_rfl,by kernel_rfl,by kernel_rfl,by exact⟨by kernel_rfl,by kernel_rfl⟩,by exact⟨by kernel_rfl,by kernel_rfl⟩⟩)
 exact aP.cF (g.mono (k:=25) (by decide)) (mg_of X G d.at_) F.kp o (cI F fun _=>fun _ _ _ _ _ _=>rfl) (by decide)
theorem Ee {f f6 f7:Addr} (X:K.In base) (G:base.Ns mainGlobals mg) (d:ba K "term_rule" bM f) (g:aP P w K mg base ((G0 K f6 f7 p1 p2 p3 p4).wit (F5 K f6 f7)) 25):aP P w K mg base ((G0 K f6 f7 p1 p2 p3 p4).wit (F4 K f6 f7)) 27:=by
 obtain⟨e,F,o⟩:=step (sp:=Rl.yI (aE K) gK (d8 f6 f7)) d nP g pM (Rl.zx ⟨rfl,rfl,by kernel_rfl,by kernel_rfl,by exact⟨by kernel_rfl,by kernel_rfl⟩,by exact⟨by kernel_rfl,by kernel_rfl⟩⟩)
 exact aP.cF (g.mono (k:=27) (by decide)) (mg_of X G d.at_) F.kp o (cI F fun _=>fun _ _ _ _ _ _=>rfl) (by decide)
theorem Ed {f f6 f7:Addr} (X:K.In base) (G:base.Ns mainGlobals mg) (d:ba K "alternative_rule" aL f) (g:aP P w K mg base ((G0 K f6 f7 p1 p2 p3 p4).wit (F4 K f6 f7)) 27):aP P w K mg base ((G0 K f6 f7 p1 p2 p3 p4).wit (F3 K f6 f7)) 29:=by
 obtain⟨e,F,o⟩:=step (sp:=Rl.yN (aE K) gK (d8 f6 f7)) d hX g iu (Rl.BU ⟨rfl,rfl,by exact⟨by kernel_rfl,by kernel_rfl⟩,by exact⟨by kernel_rfl,by kernel_rfl⟩⟩)
 exact aP.cF (g.mono (k:=29) (by decide)) (mg_of X G d.at_) F.kp o (cI F fun _=>fun _ _ _ _ _ _=>rfl) (by decide)
theorem Ec {f f6 f7:Addr} (X:K.In base) (G:base.Ns mainGlobals mg) (d:ba K "rule_of" cB f) (g:aP P w K mg base ((G0 K f6 f7 p1 p2 p3 p4).wit (F3 K f6 f7)) 29):aP P w K mg base ((G0 K f6 f7 p1 p2 p3 p4).wit (F2 K f6 f7)) 31:=by
 obtain⟨e,F,o⟩:=step (sp:=Rl.yJ (aE K) gK (d8 f6 f7)) d qK g uE (Rl.zz ⟨rfl,rfl,by exact⟨by kernel_rfl,by kernel_rfl⟩,by exact⟨by kernel_rfl,by kernel_rfl⟩⟩)
 exact aP.cF (g.mono (k:=31) (by decide)) (mg_of X G d.at_) F.kp o (cI F fun _=>fun _ _ _ _ _ _=>rfl) (by decide)
theorem Eb {f f6 f7:Addr} (X:K.In base) (G:base.Ns mainGlobals mg) (d:ba K "_law_cell" bT f) (g:aP P w K mg base ((G0 K f6 f7 p1 p2 p3 p4).wit (F2 K f6 f7)) 31):aP P w K mg base ((G0 K f6 f7 p1 p2 p3 p4).wit (F1 K f6 f7)) 33:=by
 obtain⟨e,F,o⟩:=step (sp:=Lw.kT (aE K)) d nW g pT (Lw.zB rfl rfl)
 exact aP.cF (g.mono (k:=33) (by decide)) (mg_of X G d.at_) F.kp o (cH F fun _ _=>fun _ _ _ _ _ _=>rfl) (by decide)
theorem Ea {f f6 f7:Addr} (X:K.In base) (G:base.Ns mainGlobals mg) (d:ba K "_law_mix" cj f) (g:aP P w K mg base ((G0 K f6 f7 p1 p2 p3 p4).wit (F1 K f6 f7)) 33):aP P w K mg base ((G0 K f6 f7 p1 p2 p3 p4).wit (F0 K f6 f7)) 35:=by
 obtain⟨e,F,o⟩:=step (sp:=Lw.mK) d pq g rg (Lw.BN)
 exact aP.cF (g.mono (k:=35) (by decide)) (mg_of X G d.at_) F.kp o (cH F fun _ _=>fun _ _ _ _ _ _=>rfl) (by decide)
theorem D_ {f f6 f7:Addr} (X:K.In base) (G:base.Ns mainGlobals mg) (d:ba K "_law_whole" bx f) (g:aP P w K mg base ((G0 K f6 f7 p1 p2 p3 p4).wit (F0 K f6 f7)) 35):aP P w K mg base ((G0 K f6 f7 p1 p2 p3 p4).wit (FZ K f6 f7)) 37:=by
 obtain⟨e,F,o⟩:=step (sp:=Lw.kq (aE K)) d l0 g oh (Lw.wD rfl)
 exact aP.cF (g.mono (k:=37) (by decide)) (mg_of X G d.at_) F.kp o (cI F fun _=>fun _ _ _ _ _ _=>rfl) (by decide)
theorem D9 {f f6 f7:Addr} (X:K.In base) (G:base.Ns mainGlobals mg) (d:ba K "_law_marks" bB f) (g:aP P w K mg base ((G0 K f6 f7 p1 p2 p3 p4).wit (FZ K f6 f7)) 37):aP P w K mg base ((G0 K f6 f7 p1 p2 p3 p4).wit (FY K f6 f7)) 39:=by
 obtain⟨e,F,o⟩:=step (sp:=Lw.kx (aE K)) d mh g om (Lw.wH rfl rfl)
 exact aP.cF (g.mono (k:=39) (by decide)) (mg_of X G d.at_) F.kp o (cI F fun _=>fun _ _ _ _ _ _=>rfl) (by decide)
theorem D8 {f f6 f7:Addr} (X:K.In base) (G:base.Ns mainGlobals mg) (d:ba K "_law_side" bQ f) (g:aP P w K mg base ((G0 K f6 f7 p1 p2 p3 p4).wit (FY K f6 f7)) 39):aP P w K mg base ((G0 K f6 f7 p1 p2 p3 p4).wit (FX K f6 f7)) 41:=by
 obtain⟨e,F,o⟩:=step (sp:=Lw.nK (aE K)) d nU g pR (Lw.zy ⟨rfl,rfl,by exact⟨by kernel_rfl,by kernel_rfl⟩,by exact⟨by kernel_rfl,by kernel_rfl⟩⟩)
 exact aP.cF (g.mono (k:=41) (by decide)) (mg_of X G d.at_) F.kp o (cH F fun _ _=>fun _ _ _ _ _ _=>rfl) (by decide)
theorem D7 {f f6 f7:Addr} (X:K.In base) (G:base.Ns mainGlobals mg) (d:ba K "_law_term" bP f) (g:aP P w K mg base ((G0 K f6 f7 p1 p2 p3 p4).wit (FX K f6 f7)) 41):aP P w K mg base ((G0 K f6 f7 p1 p2 p3 p4).wit (FW K f6 f7)) 43:=by
 obtain⟨e,F,o⟩:=step (sp:=Lw.nJ (aE K)) d nT g pQ (Lw.BO rfl)
 exact aP.cF (g.mono (k:=43) (by decide)) (mg_of X G d.at_) F.kp o (cI F fun _=>fun _ _ _ _ _ _=>rfl) (by decide)
theorem D6 {f f6 f7:Addr} (X:K.In base) (G:base.Ns mainGlobals mg) (d:ba K "_law_alternatives" aK f) (g:aP P w K mg base ((G0 K f6 f7 p1 p2 p3 p4).wit (FW K f6 f7)) 43):aP P w K mg base ((G0 K f6 f7 p1 p2 p3 p4).wit (FV K f6 f7)) 45:=by
 obtain⟨e,F,o⟩:=step (sp:=Lw.nN (aE K)) d fW g h8 (Lw.zC ⟨rfl,rfl,by exact⟨by kernel_rfl,by kernel_rfl⟩,by exact⟨by kernel_rfl,by kernel_rfl⟩⟩)
 exact aP.cF (g.mono (k:=45) (by decide)) (mg_of X G d.at_) F.kp o (cI F fun _=>fun _ _ _ _ _ _=>rfl) (by decide)
theorem D5 {f f6 f7:Addr} (X:K.In base) (G:base.Ns mainGlobals mg) (d:ba K "_law_term_text" aS f) (g:aP P w K mg base ((G0 K f6 f7 p1 p2 p3 p4).wit (FV K f6 f7)) 45):aP P w K mg base ((G0 K f6 f7 p1 p2 p3 p4).wit (FU K f6 f7)) 47:=by
 obtain⟨e,F,o⟩:=step (sp:=Lw.yH (aE K)) d i5 g jC (Lw.DA rfl rfl)
 exact aP.cF (g.mono (k:=47) (by decide)) (mg_of X G d.at_) F.kp o (cI F fun _=>fun _ _ _ _ _ _=>rfl) (by decide)
theorem D4 {f f6 f7:Addr} (X:K.In base) (G:base.Ns mainGlobals mg) (d:ba K "_law_rule_text" aT f) (g:aP P w K mg base ((G0 K f6 f7 p1 p2 p3 p4).wit (FU K f6 f7)) 47):aP P w K mg base ((G0 K f6 f7 p1 p2 p3 p4).wit (FT K f6 f7)) 49:=by
 obtain⟨e,F,o⟩:=step (sp:=Lw.nI (aE K)) d i6 g jD (Lw.zw ⟨rfl,rfl,by exact⟨by kernel_rfl,by kernel_rfl⟩⟩)
 exact aP.cF (g.mono (k:=49) (by decide)) (mg_of X G d.at_) F.kp o (cI F fun _=>fun _ _ _ _ _ _=>rfl) (by decide)
theorem D3 {f f6 f7:Addr} (X:K.In base) (G:base.Ns mainGlobals mg) (d:ba K "_law_plain" bz f) (g:aP P w K mg base ((G0 K f6 f7 p1 p2 p3 p4).wit (FT K f6 f7)) 49):aP P w K mg base ((G0 K f6 f7 p1 p2 p3 p4).wit (FR K f6 f7)) 51:=by
 obtain⟨e,F,o⟩:=step (sp:=Lw.kr (aE K)) d l_ g oi (Lw.wF rfl rfl)
 exact aP.cF (g.mono (k:=51) (by decide)) (mg_of X G d.at_) F.kp o (Ad F fun _ _ _ _=>fun _ _ _ _ _ _=>rfl) (by decide)
theorem D1 {f f6 f7:Addr} (X:K.In base) (G:base.Ns mainGlobals mg) (d:ba K "_law_lets" bR f) (g:aP P w K mg base ((G0 K f6 f7 p1 p2 p3 p4).wit (FR K f6 f7)) 51):aP P w K mg base ((G0 K f6 f7 p1 p2 p3 p4).wit (yx K f6 f7)) 53:=by
 obtain⟨e,F,o⟩:=step (sp:=Lw.kR (aE K)) d nV g pS (Lw.zA ⟨rfl,rfl,by exact⟨by kernel_rfl,by kernel_rfl⟩⟩)
 exact aP.cF (g.mono (k:=53) (by decide)) (mg_of X G d.at_) F.kp o (oF F fun _ _ _=>fun _ _ _ _ _ _=>rfl) (by decide)
theorem DZ {f f6 f7:Addr} (X:K.In base) (G:base.Ns mainGlobals mg) (d:ba K "are_swap" cb f) (g:aP P w K mg base (((G0 K f6 f7 p1 p2 p3 p4).jm (Ow.mJ (aE K) (d8 f6 f7) D0)).wit (yx K f6 f7)) 63):aP P w K mg base (((G0 K f6 f7 p1 p2 p3 p4).jm (Ow.mJ (aE K) (d8 f6 f7) D0)).wit (FQ K f6 f7)) 95:=by
 obtain⟨e,F,o⟩:=step (sp:=Ow.r9 (aE K) (d8 f6 f7) D0) d pk g rf (Ow.BS ⟨rfl,rfl,rfl⟩)
 exact aP.cF (g.mono (k:=95) (by decide)) (mg_of X G d.at_) F.kp o (oF F fun _ _ _=>fun _ _ _ _ _ _=>rfl) (by decide)
theorem DY {f f6 f7:Addr} (X:K.In base) (G:base.Ns mainGlobals mg) (d:ba K "worth_between" aY f) (g:aP P w K mg base (((G0 K f6 f7 p1 p2 p3 p4).jm (Ow.mJ (aE K) (d8 f6 f7) D0)).wit (FQ K f6 f7)) 95):aP P w K mg base (((G0 K f6 f7 p1 p2 p3 p4).jm (Ow.mJ (aE K) (d8 f6 f7) D0)).wit (FP K f6 f7)) 97:=by
 obtain⟨e,F,o⟩:=step (sp:=Ow.yG (aE K)) d jt g j7 (Ow.Dz ⟨rfl,rfl,by exact⟨by kernel_rfl,by kernel_rfl⟩,by kernel_rfl⟩)
 exact aP.cF (g.mono (k:=97) (by decide)) (mg_of X G d.at_) F.kp o (cH F fun _ _=>fun _ _ _ _ _ _=>rfl) (by decide)
theorem DX {f f6 f7:Addr} (X:K.In base) (G:base.Ns mainGlobals mg) (d:ba K "web_of" cT f) (g:aP P w K mg base (((G0 K f6 f7 p1 p2 p3 p4).jm (Ow.mJ (aE K) (d8 f6 f7) D0)).wit (FP K f6 f7)) 97):aP P w K mg base (((G0 K f6 f7 p1 p2 p3 p4).jm (Ow.mJ (aE K) (d8 f6 f7) D0)).wit (FO K f6 f7)) 99:=by
 obtain⟨e,F,o⟩:=step (sp:=Ow.rY (aE K) (d8 f6 f7) D0) d ub g wY (Ow.BM ⟨rfl,rfl,by exact⟨by kernel_rfl,by kernel_rfl⟩,by exact⟨by kernel_rfl,by kernel_rfl⟩⟩)
 exact aP.cF (g.mono (k:=99) (by decide)) (mg_of X G d.at_) F.kp o (cH F fun _ _=>fun _ _ _ _ _ _=>rfl) (by decide)
theorem DW {f f6 f7:Addr} (X:K.In base) (G:base.Ns mainGlobals mg) (d:ba K "_law_names" bA f) (g:aP P w K mg base (((G0 K f6 f7 p1 p2 p3 p4).jm (Ow.mJ (aE K) (d8 f6 f7) D0)).wit (FO K f6 f7)) 99):aP P w K mg base (((G0 K f6 f7 p1 p2 p3 p4).jm (Ow.mJ (aE K) (d8 f6 f7) D0)).wit (FN K f6 f7)) 101:=by
 obtain⟨e,F,o⟩:=step (sp:=Ow.ku (aE K)) d md g oj (Ow.wG rfl rfl)
 exact aP.cF (g.mono (k:=101) (by decide)) (mg_of X G d.at_) F.kp o (cH F fun _ _=>fun _ _ _ _ _ _=>rfl) (by decide)
theorem DV {f f6 f7:Addr} (X:K.In base) (G:base.Ns mainGlobals mg) (d:ba K "_law_couples" bc f) (g:aP P w K mg base (((G0 K f6 f7 p1 p2 p3 p4).jm (Ow.mJ (aE K) (d8 f6 f7) D0)).wit (FN K f6 f7)) 101):aP P w K mg base (((G0 K f6 f7 p1 p2 p3 p4).jm (Ow.mJ (aE K) (d8 f6 f7) D0)).wit (FL K f6 f7)) 103:=by
 obtain⟨e,F,o⟩:=step (sp:=Ow.gW (aE K)) d j5 g lC (Ow.qU ⟨rfl,rfl,by exact⟨by kernel_rfl,by kernel_rfl⟩,by exact⟨by kernel_rfl,by kernel_rfl⟩,by exact⟨by kernel_rfl,by kernel_rfl⟩,by exact⟨by kernel_rfl,by kernel_rfl⟩⟩)
 exact aP.cF (g.mono (k:=103) (by decide)) (mg_of X G d.at_) F.kp o (cI F fun _=>fun _ _ _ _ _ _=>rfl) (by decide)
theorem DU {f f6 f7:Addr} (X:K.In base) (G:base.Ns mainGlobals mg) (d:ba K "_law_worth" bw f) (g:aP P w K mg base (((G0 K f6 f7 p1 p2 p3 p4).jm (Ow.mJ (aE K) (d8 f6 f7) D0)).wit (FL K f6 f7)) 103):aP P w K mg base (((G0 K f6 f7 p1 p2 p3 p4).jm (Ow.mJ (aE K) (d8 f6 f7) D0)).wit (FK K f6 f7)) 105:=by
 obtain⟨e,F,o⟩:=step (sp:=Ow.yL (aE K)) d lZ g og (Ow.DB rfl rfl)
 exact aP.cF (g.mono (k:=105) (by decide)) (mg_of X G d.at_) F.kp o (cH F fun _ _=>fun _ _ _ _ _ _=>rfl) (by decide)
theorem DS {f f6 f7:Addr} (X:K.In base) (G:base.Ns mainGlobals mg) (d:ba K "_law_due" cn f) (g:aP P w K mg base (((G0 K f6 f7 p1 p2 p3 p4).jm (Ow.mJ (aE K) (d8 f6 f7) D0)).wit (FK K f6 f7)) 105):aP P w K mg base (((G0 K f6 f7 p1 p2 p3 p4).jm (Ow.mJ (aE K) (d8 f6 f7) D0)).wit (FJ K f6 f7)) 107:=by
 obtain⟨e,F,o⟩:=step (sp:=Ow.r6 (aE K)) d pz g rh (Ow.BR ⟨rfl,rfl,by exact⟨by kernel_rfl,by kernel_rfl⟩,by exact⟨by kernel_rfl,by kernel_rfl⟩⟩)
 exact aP.cF (g.mono (k:=107) (by decide)) (mg_of X G d.at_) F.kp o (cH F fun _ _=>fun _ _ _ _ _ _=>rfl) (by decide)
theorem DR {f f6 f7:Addr} (X:K.In base) (G:base.Ns mainGlobals mg) (d:ba K "_law_is" cD f) (g:aP P w K mg base (((G0 K f6 f7 p1 p2 p3 p4).jm (Ow.mJ (aE K) (d8 f6 f7) D0)).wit (FJ K f6 f7)) 107):aP P w K mg base (((G0 K f6 f7 p1 p2 p3 p4).jm (Ow.mJ (aE K) (d8 f6 f7) D0)).wit (GV K f6 f7)) 109:=by
 obtain⟨e,F,o⟩:=step (sp:=Ow.yM (aE K)) d qM g uG (Ow.DC ⟨rfl,rfl,by exact⟨by kernel_rfl,by kernel_rfl⟩⟩)
 exact aP.cF (g.mono (k:=109) (by decide)) (mg_of X G d.at_) F.kp o (cH F fun _ _=>fun _ _ _ _ _ _=>rfl) (by decide)
theorem GH {f6 f7:Addr} {e6 e7:FuncData} (F6:qx K "fits_by_groups" "fits_by_groups" aM f6 e6) (o6:cO P w K mg base (fP P w) 13 f6 e6 bG (rZ (aE K))) (b6:Binds K e6 bG []) (F7:qx K "fits_by_marks" "fits_by_marks" aO f7 e7) (o7:cO P w K mg base (fP P w) 15 f7 e7 bL (Rl.vB (aE K))) (b7:Binds K e7 bL []) (g:aP P w K mg base ((G0 K f6 f7 p1 p2 p3 p4).wit (yx K f6 f7)) 53):cQ P w K mg base 55 (Rl.A0 (aE K) (d8 f6 f7)):=by
 refine cQ.imp ((Al (o6.mono (k:=55) (by decide)) b6 ⟨_,_,_,_,F6.ex.choose_spec.choose_spec.choose_spec.choose_spec.choose_spec.choose_spec.choose_spec.choose_spec.choose_spec.2.1⟩).or ((Al (o7.mono (k:=55) (by decide)) b7 ⟨_,_,_,_,F7.ex.choose_spec.choose_spec.choose_spec.choose_spec.choose_spec.choose_spec.choose_spec.choose_spec.choose_spec.2.1⟩).or (nC jv g j9 rfl mB))) fun f vs H Q E h=>?_
 obtain⟨p,a,b,s,t,ev,hp,off,ha,hb,os,ot,q⟩:=h
 cases p with
 | gr=>exact .inl ⟨hp,a,b,s,t,ev,ha,hb,os,q H Ext.refl⟩
 | mk=>exact .inr (.inl ⟨hp,a,b,s,t,ev,ha,hb,os,q⟩)
 | sz n=>
  obtain⟨cc,hp⟩:=hp
  exact .inr (.inr (Rl.pG (F:=(d8 f6 f7)) rfl rfl (by exact⟨by kernel_rfl,by kernel_rfl⟩) hp off ev ha hb q))
theorem GG {f6 f7:Addr} (v0:cQ P w K mg base 55 (Rl.A0 (aE K) (d8 f6 f7))) (h0:aP P w K mg base (((G0 K f6 f7 p1 p2 p3 p4).jm (Rl.A0 (aE K) (d8 f6 f7))).wit (yx K f6 f7)) 55):cQ P w K mg base 57 (Rl.spT (aE K) (d8 f6 f7)):=by
 refine cQ.imp ((v0.mono (k:=57) (by decide)).or (nC kW h0 mv rfl qk)) fun f vs H Q E h=>?_
 obtain⟨p,a,b,s,t,ev,hp,off,ha,hb,os,ot,q⟩:=h
 rcases hp with ⟨e,hp⟩ | ⟨e,cc,r,hp,hr⟩
 ·refine .inl ⟨p.p,a,b,s,t,ev,hp,off,ha,hb,os,ot,fun H' x=>?_⟩
  have:=q H' x
  unfold Rl.Tm.bb at this
  rwa[if_pos e]at this
 ·refine .inr (Rl.uv (F:=(d8 f6 f7)) rfl rfl rfl hp hr off ev ha hb os ot fun H' x=>?_)
  have:=q H' x
  unfold Rl.Tm.bb at this
  rwa[if_neg e]at this
theorem GF {f6 f7:Addr} (h1:aP P w K mg base ((((G0 K f6 f7 p1 p2 p3 p4).jm (Rl.A0 (aE K) (d8 f6 f7))).jm (Rl.spT (aE K) (d8 f6 f7))).wit (yx K f6 f7)) 57):cQ P w K mg base 59 (Rl.EN (aE K) (d8 f6 f7)):=by
 refine cQ.imp (nC nS h1 pP rfl u9) fun f vs H Q E h=>?_
 obtain⟨p,a,b,s,t,ev,⟨cc,l,rs,hp,hl,hn,hr⟩,off,ha,hb,os,ot,q⟩:=h
 exact Rl.ux (F:=(d8 f6 f7)) rfl rfl rfl hp hl hn hr off ev ha hb os ot q
theorem GD {f6 f7:Addr} (h2:aP P w K mg base (((((G0 K f6 f7 p1 p2 p3 p4).jm (Rl.A0 (aE K) (d8 f6 f7))).jm (Rl.spT (aE K) (d8 f6 f7))).jm (Rl.EN (aE K) (d8 f6 f7))).wit (yx K f6 f7)) 59):cQ P w K mg base 61 (Rl.EM (aE K) (d8 f6 f7)):=by
 refine cQ.imp (nC nR h2 pO rfl u7) fun f vs H Q E h=>?_
 obtain⟨p,a,b,s,t,ev,⟨cc,l,rs,hp,hl,hn,hr⟩,off,ha,hb,os,ot,q⟩:=h
 exact Rl.uw (F:=(d8 f6 f7)) rfl rfl rfl hp hl hn hr off ev ha hb os ot q
theorem GC {f6 f7:Addr} (v3:cQ P w K mg base 61 (Rl.EM (aE K) (d8 f6 f7))) (h3:aP P w K mg base ((((((G0 K f6 f7 p1 p2 p3 p4).jm (Rl.A0 (aE K) (d8 f6 f7))).jm (Rl.spT (aE K) (d8 f6 f7))).jm (Rl.EN (aE K) (d8 f6 f7))).jm (Rl.EM (aE K) (d8 f6 f7))).wit (yx K f6 f7)) 61):cQ P w K mg base 63 (Ow.mJ (aE K) (d8 f6 f7) D0):=cQ.imp ((v3.mono (k:=63) (by decide)).or (AO Ba h3 DJ CI)) fun f vs H Q E h=>Ow.yz rfl (by exact⟨by kernel_rfl,by kernel_rfl⟩) h
theorem Ei {f6 f7:Addr} {e6 e7:FuncData} (F6:qx K "fits_by_groups" "fits_by_groups" aM f6 e6) (o6:cO P w K mg base (fP P w) 13 f6 e6 bG (rZ (aE K))) (b6:Binds K e6 bG []) (F7:qx K "fits_by_marks" "fits_by_marks" aO f7 e7) (o7:cO P w K mg base (fP P w) 15 f7 e7 bL (Rl.vB (aE K))) (b7:Binds K e7 bL []) (g:aP P w K mg base ((G0 K f6 f7 p1 p2 p3 p4).wit (yx K f6 f7)) 53):aP P w K mg base (((G0 K f6 f7 p1 p2 p3 p4).jm (Ow.mJ (aE K) (d8 f6 f7) D0)).wit (yx K f6 f7)) 63:=by
 have v0:=GH F6 o6 b6 F7 o7 b7 g
 have h0:=aP.iO (g.mono (k:=55) (by decide)) v0
 have v1:=GG v0 h0
 have h1:=aP.iO (h0.mono (k:=57) (by decide)) v1
 have h2:=aP.iO (h1.mono (k:=59) (by decide)) (GF h1)
 have v3:=GD h2
 have h3:=aP.iO (h2.mono (k:=61) (by decide)) v3
 have z:=aP.iO (h3.mono (k:=63) (by decide)) (GC v3 h3)
 exact z
theorem Cb {f1 f2 f3 f4 f5 f6 f7 f8 f9 f10 f11 f12 f13 f14 f15 f16 f17 f18 f19 f20 f21 f22 f23 f24 f25 f26 f27 f28 f29 f30 f31 f32 f33 f34 f35 cc1 cc2 cc3 cc4:Addr} {e8 e9 e10 e11:FuncData} (X:K.In base) (G:base.Ns mainGlobals mg) (B:∀T ∈ [98,105,112,119,275],base.BuiltinsAt mg T) (T:Txt K w f6 f7 p1 p2 p3 p4) (d1:ba K "made_of" cC f1) (d2:ba K "writes_number" aX f2) (d3:ba K "number_of" bO f3) (d4:ba K "number_within" aZ f4) (d5:ba K "gap" fT f5) (d6:ba K "fits_by_groups" aM f6) (d7:ba K "fits_by_marks" aO f7) (ma1:nsIn K mainGlobals "sizes_rule" =some (some (.ref f8))) (mp1:keepIn K (.ref f8)=true) (mm1:Maker K aV aH "sizes_rule" "sizes_rule" "fits" "bound" "sizes_rule.<locals>.fits" (aH).pos f8 cc1 98 e8) (ma2:nsIn K mainGlobals "opposite" =some (some (.ref f9))) (mp2:keepIn K (.ref f9)=true) (mm2:Maker K bq aN "opposite" "opposite" "fits" "rule" "opposite.<locals>.fits" (aN).pos f9 cc2 105 e9) (ma3:nsIn K mainGlobals "all_of" =some (some (.ref f10))) (mp3:keepIn K (.ref f10)=true) (mm3:Maker K b8 bj "all_of" "all_of" "fits" "rules" "all_of.<locals>.fits" (bj).pos f10 cc3 112 e10) (ma4:nsIn K mainGlobals "any_of" =some (some (.ref f11))) (mp4:keepIn K (.ref f11)=true) (mm4:Maker K bZ bh "any_of" "any_of" "fits" "rules" "any_of.<locals>.fits" (bh).pos f11 cc4 119 e11) (d12:ba K "plain_rule" bt f12) (d13:ba K "term_rule" bM f13) (d14:ba K "alternative_rule" aL f14) (d15:ba K "rule_of" cB f15) (d16:ba K "_law_cell" bT f16) (d17:ba K "_law_mix" cj f17) (d18:ba K "_law_whole" bx f18) (d19:ba K "_law_marks" bB f19) (d20:ba K "_law_side" bQ f20) (d21:ba K "_law_term" bP f21) (d22:ba K "_law_alternatives" aK f22) (d23:ba K "_law_term_text" aS f23) (d24:ba K "_law_rule_text" aT f24) (d25:ba K "_law_plain" bz f25) (d26:ba K "_law_lets" bR f26) (d27:ba K "are_swap" cb f27) (d28:ba K "worth_between" aY f28) (d29:ba K "web_of" cT f29) (d30:ba K "_law_names" bA f30) (d31:ba K "_law_couples" bc f31) (d32:ba K "_law_worth" bw f32) (d33:ba K "_law_due" cn f33) (d34:ba K "_law_is" cD f34) (dl:∃fd cc,qx K "law" "law" cy f35 fd/\fd.code=.ref cc/\codeHdIn K cc 275=true):
  ∃fd,qx K "law" "law" cy f35 fd/\cO P w K mg base (fP P w) 111 f35 fd ["_law_script"] (kS K):=by
 have g0:aP P w K mg base ((G0 K f6 f7 p1 p2 p3 p4).wit (L0 K f6 f7)) 1:=(Ek X G T).E5
 have g5:=Fy X G d5 (Fz X G d4 (FA X G d3 (FC X G d2 (FD X G d1 (g0)))))
 obtain⟨e6,F6,o6⟩:=step (sp:=Rl.De (aE K)) d6 iZ g5 jB (Rl.uy rfl ⟨⟨p1,p2,p3,p4,rfl,T.t1,T.t2,T.t3,T.t4⟩⟩)
 have o6:=cO.off (sp':=rZ (aE K)) o6 (fun vs H Q E h=>by obtain⟨a,b,s,t,rfl,_⟩:=h;rfl) fun vs H Q E off h=>by
  obtain⟨a,b,s,t,rfl,ha,hb,ok,q⟩:=h
  exact⟨a,b,s,t,rfl,fun a ha=>(let ⟨o,e⟩:=(n9 K).look ha;off a o e),ha,hb,ok,q⟩
 have b6:Binds K e6 bG []:=cH F6 fun _ _=>fun _ _ _ _ _ _=>rfl
 have g6:aP P w K mg base ((G0 K f6 f7 p1 p2 p3 p4).wit (L6 K f6 f7)) 13:=aP.cF (g5.mono (k:=13) (by decide)) (mg_of X G d6.at_) F6.kp o6 b6 (by decide)
 obtain⟨e7,F7,o7⟩:=step (sp:=Rl.vB (aE K)) d7 jw g6 j_ (Rl.uz rfl rfl)
 have b7:Binds K e7 bL []:=cH F7 fun _ _=>fun _ _ _ _ _ _=>rfl
 have g7:aP P w K mg base ((G0 K f6 f7 p1 p2 p3 p4).wit (L7 K f6 f7)) 15:=aP.cF (g6.mono (k:=15) (by decide)) (mg_of X G d7.at_) F7.kp o7 b7 (by decide)
 have gz:=DR X G d34 (DS X G d33 (DU X G d32 (DV X G d31 (DW X G d30 (DX X G d29 (DY X G d28 (DZ X G d27 (Ei F6 o6 b6 F7 o7 b7 (D1 X G d26 (D3 X G d25 (D4 X G d24 (D5 X G d23 (D6 X G d22 (D7 X G d21 (D8 X G d20 (D9 X G d19 (D_ X G d18 (Ea X G d17 (Eb X G d16 (Ec X G d15 (Ed X G d14 (Ee X G d13 (Ef X G d12 (Eg X G B ma4 mp4 mm4 (Eh X G B ma3 mp3 mm3 (Fv X G B ma2 mp2 mm2 (Fw X G B ma1 mp1 mm1 (g7))))))))))))))))))))))))))))
 obtain⟨e35,ccl,F35,hcl,CZ⟩:=dl
 have o35:=(xH (D:=D0) (Ts:=gK) F35 A_ (aP.GI gz D0 gK) DI rfl (DP hcl CZ (B 275 (by decide)) (by unfold gK;simp[D0]) fun t ht h=>fS t ht _ (by unfold gK;simp[D0]) h)).imp (sp':=Ow.kS (aE K) gK) (Ow.BP (F:=(d8 f6 f7)) (D:=D0) (Ts:=gK) ⟨rfl,rfl,by exact⟨by kernel_rfl,by kernel_rfl⟩,by exact⟨by kernel_rfl,by kernel_rfl⟩,by exact⟨by kernel_rfl,by kernel_rfl⟩,by exact⟨by kernel_rfl,by kernel_rfl⟩,by exact⟨by kernel_rfl,by kernel_rfl⟩,by exact⟨by kernel_rfl,by kernel_rfl⟩,by exact⟨by kernel_rfl,by kernel_rfl⟩,by exact⟨by kernel_rfl,by kernel_rfl⟩,rfl,rfl⟩)
 refine⟨e35,F35,cO.mono (cO.off o35 (fun vs H Q E h=>?_) fun vs H Q E off h=>?_) (by decide)⟩
 ·obtain⟨a,ns,rfl,_⟩:=h;rfl
 ·obtain⟨a,ns,rfl,hl,hs,ht,q⟩:=h
  exact⟨a,ns,rfl,hl,t_ off hs,fun a ha=>(let ⟨o,e⟩:=(n9 K).look ha;off a o e),ht,q⟩
end
end K6
namespace K6
open PySem PySem.Spec PyProof.Rows L2 Sw Wd
open PySem.W (Frag keepIn ktsIn mroIn kitOne nsIn findIn typeIn takerIn hasDictIn codeIn codeHdIn fnOf mg_of mg_none_of noTabs tabObj)
set_option maxHeartbeats 4000000 in
theorem all_mk {l:PySem.W.OpenLaw} {w:World} {K:Frag} {h:Heap} {mg:Str->Option Value} {fa:Addr} (X:K.In h) (G:h.Ns mainGlobals mg) (hfa:mg "law" =some (.ref fa))
  {p1 p2 p3 p4 pd cc5 f1 f2 f3 f4 f5 f6 f7 f8 f9 f10 f11 f12 f13 f14 f15 f16 f17 f18 f19 f20 f21 f22 f23 f24 f25 f26 f27 f28 f29 f30 f31 f32 f33 f34 f35 cc1 cc2 cc3 cc4:Addr}
  {od1 an1 od2 an2 od3 an3 od4 an4 od5 an5 od6 an6 od7 an7 od8 an8 od9 an9 od10 an10 od11 an11 od12 an12 od13 an13 od14 an14 od15 an15 od16 an16 od17 an17 od18 an18 od19 an19 od20 an20 od21 an21 od22 an22 od23 an23 od24 an24 od25 an25 od26 an26 od27 an27 od28 an28 od29 an29 od30 an30 od31 an31 od32 an32 od33 an33 od34 an34 od35 an35:Option Addr}
  {sl1 sl2 sl3 sl4 sl5 sl6 sl7 sl8 sl9 sl10 sl11 sl12 sl13 sl14 sl15 sl16 sl17 sl18 sl19 sl20 sl21 sl22 sl23 sl24 sl25 sl26 sl27 sl28 sl29 sl30 sl31 sl32 sl33 sl34 sl35:Array (Option Value)}
  {oc1 kV1 dc1 pm1 ct1 cd1 oc2 kV2 dc2 pm2 ct2 cd2 oc3 kV3 dc3 pm3 ct3 cd3 oc4 kV4 dc4 pm4 ct4 cd4 oc5 kV5 dc5 pm5 ct5 cd5 oc6 kV6 dc6 pm6 ct6 cd6 oc7 kV7 dc7 pm7 ct7 cd7 oc8 kV8 dc8 pm8 ct8 oc9 kV9 dc9 pm9 ct9 oc10 kV10 dc10 pm10 ct10 oc11 kV11 dc11 pm11 ct11 oc12 kV12 dc12 pm12 ct12 cd12 oc13 kV13 dc13 pm13 ct13 cd13 oc14 kV14 dc14 pm14 ct14 cd14 oc15 kV15 dc15 pm15 ct15 cd15 oc16 kV16 dc16 pm16 ct16 cd16 oc17 kV17 dc17 pm17 ct17 cd17 oc18 kV18 dc18 pm18 ct18 cd18 oc19 kV19 dc19 pm19 ct19 cd19 oc20 kV20 dc20 pm20 ct20 cd20 oc21 kV21 dc21 pm21 ct21 cd21 oc22 kV22 dc22 pm22 ct22 cd22 oc23 kV23 dc23 pm23 ct23 cd23 oc24 kV24 dc24 pm24 ct24 cd24 oc25 kV25 dc25 pm25 ct25 cd25 oc26 kV26 dc26 pm26 ct26 cd26 oc27 kV27 dc27 pm27 ct27 cd27 oc28 kV28 dc28 pm28 ct28 cd28 oc29 kV29 dc29 pm29 ct29 cd29 oc30 kV30 dc30 pm30 ct30 cd30 oc31 kV31 dc31 pm31 ct31 cd31 oc32 kV32 dc32 pm32 ct32 cd32 oc33 kV33 dc33 pm33 ct33 cd33 oc34 kV34 dc34 pm34 ct34 cd34 oc35 kV35 dc35 pm35 ct35:Value}
  {t1 t2 t3 t4 t5 t6 t7 u1 u2 u3 u4 v1 v2 v3 v4 v5 v6 v7 v8 v9:Tok} {oq1 oq2 oq3 oq4:Option Addr} {np1 np2 np3 np4 ep:Nat} {sq1 sq2 sq3 sq4:Array (Option Value)} {h1 h2 h3 h4:Int}
  (a1:nsIn K mainGlobals "made_of" =some (some (.ref f1)))
  (l1:K.lookup f1=some ⟨oc1,od1,.func (fnOf "made_of" "made_of" (aB cC) (af cC) (aa cC) .none kV1 dc1 pm1 an1 cd1 ct1),sl1⟩)
  (c1:codeIn K cd1 "made_of" =true)
  (k1:keepIn K (.ref f1)=true)
  (a2:nsIn K mainGlobals "writes_number" =some (some (.ref f2)))
  (l2:K.lookup f2=some ⟨oc2,od2,.func (fnOf "writes_number" "writes_number" (aB aX) (af aX) (aa aX) .none kV2 dc2 pm2 an2 cd2 ct2),sl2⟩)
  (c2:codeIn K cd2 "writes_number" =true)
  (k2:keepIn K (.ref f2)=true)
  (a3:nsIn K mainGlobals "number_of" =some (some (.ref f3)))
  (l3:K.lookup f3=some ⟨oc3,od3,.func (fnOf "number_of" "number_of" (aB bO) (af bO) (aa bO) .none kV3 dc3 pm3 an3 cd3 ct3),sl3⟩)
  (c3:codeIn K cd3 "number_of" =true)
  (k3:keepIn K (.ref f3)=true)
  (a4:nsIn K mainGlobals "number_within" =some (some (.ref f4)))
  (l4:K.lookup f4=some ⟨oc4,od4,.func (fnOf "number_within" "number_within" (aB aZ) (af aZ) (aa aZ) .none kV4 dc4 pm4 an4 cd4 ct4),sl4⟩)
  (c4:codeIn K cd4 "number_within" =true)
  (k4:keepIn K (.ref f4)=true)
  (a5:nsIn K mainGlobals "gap" =some (some (.ref f5)))
  (l5:K.lookup f5=some ⟨oc5,od5,.func (fnOf "gap" "gap" (aB fT) (af fT) (aa fT) .none kV5 dc5 pm5 an5 cd5 ct5),sl5⟩)
  (c5:codeIn K cd5 "gap" =true)
  (k5:keepIn K (.ref f5)=true)
  (a6:nsIn K mainGlobals "fits_by_groups" =some (some (.ref f6)))
  (l6:K.lookup f6=some ⟨oc6,od6,.func (fnOf "fits_by_groups" "fits_by_groups" (aB aM) (af aM) (aa aM) .none kV6 dc6 pm6 an6 cd6 ct6),sl6⟩)
  (c6:codeIn K cd6 "fits_by_groups" =true)
  (k6:keepIn K (.ref f6)=true)
  (a7:nsIn K mainGlobals "fits_by_marks" =some (some (.ref f7)))
  (l7:K.lookup f7=some ⟨oc7,od7,.func (fnOf "fits_by_marks" "fits_by_marks" (aB aO) (af aO) (aa aO) .none kV7 dc7 pm7 an7 cd7 ct7),sl7⟩)
  (c7:codeIn K cd7 "fits_by_marks" =true)
  (k7:keepIn K (.ref f7)=true)
  (a8:nsIn K mainGlobals "sizes_rule" =some (some (.ref f8)))
  (l8:K.lookup f8=some ⟨oc8,od8,.func (fnOf "sizes_rule" "sizes_rule" (aB aV) (af aV) (aa aV) .none kV8 dc8 pm8 an8 (.ref cc1) ct8),sl8⟩)
  (c8:codeIn K (.ref cc1) "sizes_rule" =true)
  (k8:keepIn K (.ref f8)=true)
  (hd1:codeHdIn K cc1 98=true)
  (a9:nsIn K mainGlobals "opposite" =some (some (.ref f9)))
  (l9:K.lookup f9=some ⟨oc9,od9,.func (fnOf "opposite" "opposite" (aB bq) (af bq) (aa bq) .none kV9 dc9 pm9 an9 (.ref cc2) ct9),sl9⟩)
  (c9:codeIn K (.ref cc2) "opposite" =true)
  (k9:keepIn K (.ref f9)=true)
  (hd2:codeHdIn K cc2 105=true)
  (a10:nsIn K mainGlobals "all_of" =some (some (.ref f10)))
  (l10:K.lookup f10=some ⟨oc10,od10,.func (fnOf "all_of" "all_of" (aB b8) (af b8) (aa b8) .none kV10 dc10 pm10 an10 (.ref cc3) ct10),sl10⟩)
  (c10:codeIn K (.ref cc3) "all_of" =true)
  (k10:keepIn K (.ref f10)=true)
  (hd3:codeHdIn K cc3 112=true)
  (a11:nsIn K mainGlobals "any_of" =some (some (.ref f11)))
  (l11:K.lookup f11=some ⟨oc11,od11,.func (fnOf "any_of" "any_of" (aB bZ) (af bZ) (aa bZ) .none kV11 dc11 pm11 an11 (.ref cc4) ct11),sl11⟩)
  (c11:codeIn K (.ref cc4) "any_of" =true)
  (k11:keepIn K (.ref f11)=true)
  (hd4:codeHdIn K cc4 119=true)
  (a12:nsIn K mainGlobals "plain_rule" =some (some (.ref f12)))
  (l12:K.lookup f12=some ⟨oc12,od12,.func (fnOf "plain_rule" "plain_rule" (aB bt) (af bt) (aa bt) .none kV12 dc12 pm12 an12 cd12 ct12),sl12⟩)
  (c12:codeIn K cd12 "plain_rule" =true)
  (k12:keepIn K (.ref f12)=true)
  (a13:nsIn K mainGlobals "term_rule" =some (some (.ref f13)))
  (l13:K.lookup f13=some ⟨oc13,od13,.func (fnOf "term_rule" "term_rule" (aB bM) (af bM) (aa bM) .none kV13 dc13 pm13 an13 cd13 ct13),sl13⟩)
  (c13:codeIn K cd13 "term_rule" =true)
  (k13:keepIn K (.ref f13)=true)
  (a14:nsIn K mainGlobals "alternative_rule" =some (some (.ref f14)))
  (vg:K.lookup f14=some ⟨oc14,od14,.func (fnOf "alternative_rule" "alternative_rule" (aB aL) (af aL) (aa aL) .none kV14 dc14 pm14 an14 cd14 ct14),sl14⟩)
  (c14:codeIn K cd14 "alternative_rule" =true)
  (k14:keepIn K (.ref f14)=true)
  (a15:nsIn K mainGlobals "rule_of" =some (some (.ref f15)))
  (l15:K.lookup f15=some ⟨oc15,od15,.func (fnOf "rule_of" "rule_of" (aB cB) (af cB) (aa cB) .none kV15 dc15 pm15 an15 cd15 ct15),sl15⟩)
  (c15:codeIn K cd15 "rule_of" =true)
  (k15:keepIn K (.ref f15)=true)
  (a16:nsIn K mainGlobals "_law_cell" =some (some (.ref f16)))
  (l16:K.lookup f16=some ⟨oc16,od16,.func (fnOf "_law_cell" "_law_cell" (aB bT) (af bT) (aa bT) .none kV16 dc16 pm16 an16 cd16 ct16),sl16⟩)
  (c16:codeIn K cd16 "_law_cell" =true)
  (k16:keepIn K (.ref f16)=true)
  (a17:nsIn K mainGlobals "_law_mix" =some (some (.ref f17)))
  (l17:K.lookup f17=some ⟨oc17,od17,.func (fnOf "_law_mix" "_law_mix" (aB cj) (af cj) (aa cj) .none kV17 dc17 pm17 an17 cd17 ct17),sl17⟩)
  (c17:codeIn K cd17 "_law_mix" =true)
  (k17:keepIn K (.ref f17)=true)
  (a18:nsIn K mainGlobals "_law_whole" =some (some (.ref f18)))
  (l18:K.lookup f18=some ⟨oc18,od18,.func (fnOf "_law_whole" "_law_whole" (aB bx) (af bx) (aa bx) .none kV18 dc18 pm18 an18 cd18 ct18),sl18⟩)
  (c18:codeIn K cd18 "_law_whole" =true)
  (k18:keepIn K (.ref f18)=true)
  (a19:nsIn K mainGlobals "_law_marks" =some (some (.ref f19)))
  (l19:K.lookup f19=some ⟨oc19,od19,.func (fnOf "_law_marks" "_law_marks" (aB bB) (af bB) (aa bB) .none kV19 dc19 pm19 an19 cd19 ct19),sl19⟩)
  (c19:codeIn K cd19 "_law_marks" =true)
  (k19:keepIn K (.ref f19)=true)
  (a20:nsIn K mainGlobals "_law_side" =some (some (.ref f20)))
  (l20:K.lookup f20=some ⟨oc20,od20,.func (fnOf "_law_side" "_law_side" (aB bQ) (af bQ) (aa bQ) .none kV20 dc20 pm20 an20 cd20 ct20),sl20⟩)
  (c20:codeIn K cd20 "_law_side" =true)
  (k20:keepIn K (.ref f20)=true)
  (a21:nsIn K mainGlobals "_law_term" =some (some (.ref f21)))
  (l21:K.lookup f21=some ⟨oc21,od21,.func (fnOf "_law_term" "_law_term" (aB bP) (af bP) (aa bP) .none kV21 dc21 pm21 an21 cd21 ct21),sl21⟩)
  (c21:codeIn K cd21 "_law_term" =true)
  (k21:keepIn K (.ref f21)=true)
  (a22:nsIn K mainGlobals "_law_alternatives" =some (some (.ref f22)))
  (l22:K.lookup f22=some ⟨oc22,od22,.func (fnOf "_law_alternatives" "_law_alternatives" (aB aK) (af aK) (aa aK) .none kV22 dc22 pm22 an22 cd22 ct22),sl22⟩)
  (c22:codeIn K cd22 "_law_alternatives" =true)
  (k22:keepIn K (.ref f22)=true)
  (a23:nsIn K mainGlobals "_law_term_text" =some (some (.ref f23)))
  (l23:K.lookup f23=some ⟨oc23,od23,.func (fnOf "_law_term_text" "_law_term_text" (aB aS) (af aS) (aa aS) .none kV23 dc23 pm23 an23 cd23 ct23),sl23⟩)
  (c23:codeIn K cd23 "_law_term_text" =true)
  (k23:keepIn K (.ref f23)=true)
  (a24:nsIn K mainGlobals "_law_rule_text" =some (some (.ref f24)))
  (l24:K.lookup f24=some ⟨oc24,od24,.func (fnOf "_law_rule_text" "_law_rule_text" (aB aT) (af aT) (aa aT) .none kV24 dc24 pm24 an24 cd24 ct24),sl24⟩)
  (c24:codeIn K cd24 "_law_rule_text" =true)
  (k24:keepIn K (.ref f24)=true)
  (a25:nsIn K mainGlobals "_law_plain" =some (some (.ref f25)))
  (l25:K.lookup f25=some ⟨oc25,od25,.func (fnOf "_law_plain" "_law_plain" (aB bz) (af bz) (aa bz) .none kV25 dc25 pm25 an25 cd25 ct25),sl25⟩)
  (c25:codeIn K cd25 "_law_plain" =true)
  (k25:keepIn K (.ref f25)=true)
  (a26:nsIn K mainGlobals "_law_lets" =some (some (.ref f26)))
  (l26:K.lookup f26=some ⟨oc26,od26,.func (fnOf "_law_lets" "_law_lets" (aB bR) (af bR) (aa bR) .none kV26 dc26 pm26 an26 cd26 ct26),sl26⟩)
  (c26:codeIn K cd26 "_law_lets" =true)
  (k26:keepIn K (.ref f26)=true)
  (a27:nsIn K mainGlobals "are_swap" =some (some (.ref f27)))
  (l27:K.lookup f27=some ⟨oc27,od27,.func (fnOf "are_swap" "are_swap" (aB cb) (af cb) (aa cb) .none kV27 dc27 pm27 an27 cd27 ct27),sl27⟩)
  (c27:codeIn K cd27 "are_swap" =true)
  (k27:keepIn K (.ref f27)=true)
  (a28:nsIn K mainGlobals "worth_between" =some (some (.ref f28)))
  (l28:K.lookup f28=some ⟨oc28,od28,.func (fnOf "worth_between" "worth_between" (aB aY) (af aY) (aa aY) .none kV28 dc28 pm28 an28 cd28 ct28),sl28⟩)
  (c28:codeIn K cd28 "worth_between" =true)
  (k28:keepIn K (.ref f28)=true)
  (a29:nsIn K mainGlobals "web_of" =some (some (.ref f29)))
  (l29:K.lookup f29=some ⟨oc29,od29,.func (fnOf "web_of" "web_of" (aB cT) (af cT) (aa cT) .none kV29 dc29 pm29 an29 cd29 ct29),sl29⟩)
  (c29:codeIn K cd29 "web_of" =true)
  (k29:keepIn K (.ref f29)=true)
  (a30:nsIn K mainGlobals "_law_names" =some (some (.ref f30)))
  (l30:K.lookup f30=some ⟨oc30,od30,.func (fnOf "_law_names" "_law_names" (aB bA) (af bA) (aa bA) .none kV30 dc30 pm30 an30 cd30 ct30),sl30⟩)
  (c30:codeIn K cd30 "_law_names" =true)
  (k30:keepIn K (.ref f30)=true)
  (a31:nsIn K mainGlobals "_law_couples" =some (some (.ref f31)))
  (l31:K.lookup f31=some ⟨oc31,od31,.func (fnOf "_law_couples" "_law_couples" (aB bc) (af bc) (aa bc) .none kV31 dc31 pm31 an31 cd31 ct31),sl31⟩)
  (c31:codeIn K cd31 "_law_couples" =true)
  (k31:keepIn K (.ref f31)=true)
  (a32:nsIn K mainGlobals "_law_worth" =some (some (.ref f32)))
  (l32:K.lookup f32=some ⟨oc32,od32,.func (fnOf "_law_worth" "_law_worth" (aB bw) (af bw) (aa bw) .none kV32 dc32 pm32 an32 cd32 ct32),sl32⟩)
  (c32:codeIn K cd32 "_law_worth" =true)
  (k32:keepIn K (.ref f32)=true)
  (a33:nsIn K mainGlobals "_law_due" =some (some (.ref f33)))
  (l33:K.lookup f33=some ⟨oc33,od33,.func (fnOf "_law_due" "_law_due" (aB cn) (af cn) (aa cn) .none kV33 dc33 pm33 an33 cd33 ct33),sl33⟩)
  (c33:codeIn K cd33 "_law_due" =true)
  (k33:keepIn K (.ref f33)=true)
  (a34:nsIn K mainGlobals "_law_is" =some (some (.ref f34)))
  (l34:K.lookup f34=some ⟨oc34,od34,.func (fnOf "_law_is" "_law_is" (aB cD) (af cD) (aa cD) .none kV34 dc34 pm34 an34 cd34 ct34),sl34⟩)
  (c34:codeIn K cd34 "_law_is" =true)
  (k34:keepIn K (.ref f34)=true)
  (a35:nsIn K mainGlobals "law" =some (some (.ref f35)))
  (l35:K.lookup f35=some ⟨oc35,od35,.func (fnOf "law" "law" (aB cy) (af cy) (aa cy) .none kV35 dc35 pm35 an35 (.ref cc5) ct35),sl35⟩)
  (c35:codeIn K (.ref cc5) "law" =true)
  (k35:keepIn K (.ref f35)=true)
  (hd5:codeHdIn K cc5 275=true)
  (q1:nsIn K mainGlobals "FIGURES" =some (some (.str "0123456789" t1)))
  (q2:nsIn K mainGlobals "MOST_FIGURES" =some (some (.int 12 t2)))
  (q3:nsIn K mainGlobals "NO" =some (some (.str "no " t3)))
  (q4:nsIn K mainGlobals "MOST_NOES" =some (some (.int 5 t4)))
  (q5:nsIn K mainGlobals "SIZES" =some (some (.str "sizes " t5)))
  (q6:nsIn K mainGlobals "MOST_GAP" =some (some (.int 98 t6)))
  (q7:nsIn K mainGlobals "LEAST_WORTH" =some (some (.int 1 t7)))
  (da:nsIn K mainGlobals "TAKERS" =some (some (.ref pd)))
  (dl:K.lookup pd=some ⟨.type "dict",none,.dict #[⟨h1,.str "O" u1,.ref p1⟩,⟨h2,.str "A" u2,.ref p2⟩,⟨h3,.str "B" u3,.ref p3⟩,⟨h4,.str "AB" u4,.ref p4⟩] ep,#[]⟩)
  (dh1:h1=hashStr w "O")
  (dh2:h2=hashStr w "A")
  (dh3:h3=hashStr w "B")
  (dh4:h4=hashStr w "AB")
  (e1:K.lookup p1=some ⟨.type "tuple",oq1,.seq #[.str "O" v1,.str "A" v2,.str "B" v3,.str "AB" v4] np1,sq1⟩)
  (e2:K.lookup p2=some ⟨.type "tuple",oq2,.seq #[.str "A" v5,.str "AB" v6] np2,sq2⟩)
  (e3:K.lookup p3=some ⟨.type "tuple",oq3,.seq #[.str "B" v7,.str "AB" v8] np3,sq3⟩)
  (e4:K.lookup p4=some ⟨.type "tuple",oq4,.seq #[.str "AB" v9] np4,sq4⟩)
  (z0:nsIn K mainGlobals "len" =some none)
  (z1:nsIn K mainGlobals "all" =some none)
  (z2:nsIn K mainGlobals "any" =some none)
  (z3:nsIn K mainGlobals "str" =some none)
  (z4:nsIn K mainGlobals "int" =some none)
  (z5:nsIn K mainGlobals "abs" =some none)
  (z6:nsIn K mainGlobals "sorted" =some none)
  (z7:nsIn K mainGlobals "list" =some none)
  (z9:nsIn K mainGlobals "max" =some none)
  (z10:nsIn K mainGlobals "min" =some none)
  (z12:nsIn K mainGlobals "isinstance" =some none)
  (z13:nsIn K mainGlobals "range" =some none)
  (z14:nsIn K mainGlobals "bool" =some none)
  (z15:nsIn K mainGlobals "dict" =some none)
  (z18:nsIn K mainGlobals "reversed" =some none)
  (z19:nsIn K mainGlobals "enumerate" =some none):
  ∃fd:FuncData,(∀ (s:Shared) (v:Value),BindsTo s fd ⟨[v],[]⟩ [("_law_script",v)])/\∀base:Heap,K.In base->base.Ns mainGlobals mg->(∀ T ∈ [98,105,112,119,275],base.BuiltinsAt mg T)->cO l.prog w K mg base (fP l.prog w) 111 fa fd ["_law_script"] (kS K):=by
 have e:=hfa.symm.trans (mg_of X G a35)
 cases e
 have T:Txt K w f6 f7 p1 p2 p3 p4:=⟨⟨_,q1⟩,⟨_,q2⟩,⟨_,q3⟩,⟨_,q4⟩,⟨_,q5⟩,⟨_,q6⟩,⟨_,q7⟩,a6,a7,i8 ⟨_,_,_,e1,rfl,rfl,(show 4<=sizeLine from by decide),.cons ⟨_,rfl⟩ (.cons ⟨_,rfl⟩ (.cons ⟨_,rfl⟩ (.cons ⟨_,rfl⟩ .nil)))⟩,i8 ⟨_,_,_,e2,rfl,rfl,(show 2<=sizeLine from by decide),.cons ⟨_,rfl⟩ (.cons ⟨_,rfl⟩ .nil)⟩,i8 ⟨_,_,_,e3,rfl,rfl,(show 2<=sizeLine from by decide),.cons ⟨_,rfl⟩ (.cons ⟨_,rfl⟩ .nil)⟩,i8 ⟨_,_,_,e4,rfl,rfl,(show 1<=sizeLine from by decide),.cons ⟨_,rfl⟩ .nil⟩,⟨pd,none,_,_,_,_,_,da,by rw[<-dh1,<-dh2,<-dh3,<-dh4];exact dl⟩,fun x hx=>by
  unfold dD at hx
  simp only[List.mem_cons,List.not_mem_nil,or_false]at hx
  rcases hx with rfl | rfl | rfl | rfl | rfl | rfl | rfl | rfl | rfl | rfl | rfl | rfl | rfl | rfl | rfl | rfl
  ·exact z0
  ·exact z1
  ·exact z2
  ·exact z3
  ·exact z4
  ·exact z5
  ·exact z6
  ·exact z7
  ·exact z9
  ·exact z10
  ·exact z12
  ·exact z13
  ·exact z14
  ·exact z15
  ·exact z18
  ·exact z19⟩
 have F35:=rp (st:=cy) l35 c35 k35
 refine⟨fnOf "law" "law" (aB cy) (af cy) (aa cy) .none kV35 dc35 pm35 an35 (.ref cc5) ct35,fun s v=>.of_eq rfl,fun base kb nb B=>?_⟩
 obtain⟨fd,F,o⟩:=Cb (P:=l.prog) (w:=w) (base:=base) kb nb B T (cX a1 l1 c1 k1) (cX a2 l2 c2 k2) (cX a3 l3 c3 k3) (cX a4 l4 c4 k4) (cX a5 l5 c5 k5) (cX a6 l6 c6 k6) (cX a7 l7 c7 k7) a8 k8 (mr ⟨_,_,_,_,_,_,_,_,rfl,l8⟩ c8 hd1) a9 k9 (pK ⟨_,_,_,_,_,_,_,_,rfl,l9⟩ c9 hd2) a10 k10 (uD ⟨_,_,_,_,_,_,_,_,rfl,l10⟩ c10 hd3) a11 k11 (uC ⟨_,_,_,_,_,_,_,_,rfl,l11⟩ c11 hd4) (cX a12 l12 c12 k12) (cX a13 l13 c13 k13) (cX a14 vg c14 k14) (cX a15 l15 c15 k15) (cX a16 l16 c16 k16) (cX a17 l17 c17 k17) (cX a18 l18 c18 k18) (cX a19 l19 c19 k19) (cX a20 l20 c20 k20) (cX a21 l21 c21 k21) (cX a22 l22 c22 k22) (cX a23 l23 c23 k23) (cX a24 l24 c24 k24) (cX a25 l25 c25 k25) (cX a26 l26 c26 k26) (cX a27 l27 c27 k27) (cX a28 l28 c28 k28) (cX a29 l29 c29 k29) (cX a30 l30 c30 k30) (cX a31 l31 c31 k31) (cX a32 l32 c32 k32) (cX a33 l33 c33 k33) (cX a34 l34 c34 k34) ⟨_,cc5,rp l35 c35 k35,rfl,hd5⟩
 obtain⟨_,_,_,_,_,_,_,_,_,e1,e2,_⟩:=F.ex
 obtain⟨_,_,_,_,_,_,_,_,_,e3,e4,_⟩:=F35.ex
 rw[e2]at e4
 injection e4 with e4
 injection e4 with _ _ e4 _
 injection e4 with e4
 rw[<-e4]
 exact o
theorem walk {l:PySem.W.OpenLaw} {q:Program} {loose:List Str} {XP:(Str->Option Value)->Heap->Prop} {YP:World->Heap->Prop} {d:DefRec} {K:Params->PySem.W.Frag} {ts:List Addr} (hn:l.most=some 63) (hdf:d.params.defaults=[])
  (hY:∀ (w:World) (h:Heap),YP w h->(K w.params).In h/\∀T ∈ ts,h.get? T=some (tabObj #[])) (hts:∀T ∈ [98,105,112,119,275],T ∈ ts) (hno:∀w:World,noTabs (K w.params)=true) (hcd:∀w:World,∀T ∈ ts,∃c,codeHdIn (K w.params) c T=true)
  (F:∀ (w:World) (mg:Str->Option Value) (fa:Addr) (h:Heap),(K w.params).In h->h.Ns mainGlobals mg->mg d.name=some (.ref fa)->
   ∃fd:FuncData,(∀ (s:Shared) (u:Value),BindsTo s fd ⟨[u],[]⟩ [("_law_script",u)])/\∀base:Heap,(K w.params).In base->base.Ns mainGlobals mg->(∀ T ∈ [98,105,112,119,275],base.BuiltinsAt mg T)->cO l.prog w (K w.params) mg base (fP l.prog w) 111 fa fd ["_law_script"] (kS (K w.params))):
  PySem.W.WalkO q loose XP YP l.row.toRowW d [] (fun f vs=>PySem.call f vs):=
 vi (n:=63) (k:=111) (x:= "_law_script") (CX:=fun w=>fP l.prog w) (sp:=fun w=>kS (K w.params)) ts hn (by decide) hdf ⟨rfl,by decide,by decide⟩ hY hno hcd (fun w mg fa h KX G hm=>let ⟨fd,b,f⟩:=F w mg fa h KX G hm;⟨fd,b,fun base kb nb B=>f base kb nb fun T hT=>B T (hts T hT)⟩)
  (fun _ H a ns hl hT hS=>⟨a,ns,rfl,hl,hS,fun t ht=>.inl (by
   unfold gK at ht
   simp only[List.mem_cons,List.not_mem_nil,or_false]at ht
   rcases ht with rfl | rfl | rfl | rfl | rfl
   ·exact hT _ (hts _ (by decide))
   ·exact hT _ (hts _ (by decide))
   ·exact hT _ (hts _ (by decide))
   ·exact hT _ (hts _ (by decide))
   ·exact hT _ (hts _ (by decide))),fun _=>rfl⟩)
  fun w H s e s' z=>z
end K6
open PySem PySem.W PyProof.Rows
set_option maxRecDepth 100000 in
set_option maxHeartbeats 0 in
theorem PySem.Challenge.cw_swapward_k06_whole_webs_of_couples_holds : PySem.Challenge.rw_swapward_k06_whole_webs_of_couples.Holds := by
 w_on;o_law;k_head;(case hw=>w_witness2)
 k_fill
 refine K6.walk (l:=PySem.Challenge.rw_swapward_k06_whole_webs_of_couples) rfl rfl (fun w h Y=>⟨PySem.W.km_in_of Y,PySem.W.km_tabs_of Y⟩) ?hts ?hno ?hcd ?F
 case hts=>decide
 case hno=>intro w;kernel_rfl
 case hcd=>
  intro w T hT
  simp only[List.mem_cons,List.not_mem_nil,or_false]at hT
  rcases hT with rfl | rfl | rfl | rfl | rfl
  ·exact⟨102,by kernel_rfl⟩
  ·exact⟨109,by kernel_rfl⟩
  ·exact⟨116,by kernel_rfl⟩
  ·exact⟨123,by kernel_rfl⟩
  ·exact⟨279,by kernel_rfl⟩
 case F=>
  intro w mg fa h KX G hmg
  refine' K6.all_mk KX G hmg ?a1 ?l1 ?c1 ?k1 ?a2 ?l2 ?c2 ?k2 ?a3 ?l3 ?c3 ?k3 ?a4 ?l4 ?c4 ?k4 ?a5 ?l5 ?c5 ?k5 ?a6 ?l6 ?c6 ?k6 ?a7 ?l7 ?c7 ?k7 ?a8 ?l8 ?c8 ?k8 ?hd1 ?a9 ?l9 ?c9 ?k9 ?hd2 ?a10 ?l10 ?c10 ?k10 ?hd3 ?a11 ?l11 ?c11 ?k11 ?hd4 ?a12 ?l12 ?c12 ?k12 ?a13 ?l13 ?c13 ?k13 ?a14 ?vg ?c14 ?k14 ?a15 ?l15 ?c15 ?k15 ?a16 ?l16 ?c16 ?k16 ?a17 ?l17 ?c17 ?k17 ?a18 ?l18 ?c18 ?k18 ?a19 ?l19 ?c19 ?k19 ?a20 ?l20 ?c20 ?k20 ?a21 ?l21 ?c21 ?k21 ?a22 ?l22 ?c22 ?k22 ?a23 ?l23 ?c23 ?k23 ?a24 ?l24 ?c24 ?k24 ?a25 ?l25 ?c25 ?k25 ?a26 ?l26 ?c26 ?k26 ?a27 ?l27 ?c27 ?k27 ?a28 ?l28 ?c28 ?k28 ?a29 ?l29 ?c29 ?k29 ?a30 ?l30 ?c30 ?k30 ?a31 ?l31 ?c31 ?k31 ?a32 ?l32 ?c32 ?k32 ?a33 ?l33 ?c33 ?k33 ?a34 ?l34 ?c34 ?k34 ?a35 ?l35 ?c35 ?k35 ?hd5 ?q1 ?q2 ?q3 ?q4 ?q5 ?q6 ?q7 ?da ?dl ?dh1 ?dh2 ?dh3 ?dh4 ?e1 ?e2 ?e3 ?e4 ?z0 ?z1 ?z2 ?z3 ?z4 ?z5 ?z6 ?z7 ?z9 ?z10 ?z12 ?z13 ?z14 ?z15 ?z18 ?z19
  (case a1=>k_is)
  (case l1=>k_is)
  (case c1=>k_is)
  (case k1=>k_is)
  (case a2=>k_is)
  (case l2=>k_is)
  (case c2=>k_is)
  (case k2=>k_is)
  (case a3=>k_is)
  (case l3=>k_is)
  (case c3=>k_is)
  (case k3=>k_is)
  (case a4=>k_is)
  (case l4=>k_is)
  (case c4=>k_is)
  (case k4=>k_is)
  (case a5=>k_is)
  (case l5=>k_is)
  (case c5=>k_is)
  (case k5=>k_is)
  (case a6=>k_is)
  (case l6=>k_is)
  (case c6=>k_is)
  (case k6=>k_is)
  (case a7=>k_is)
  (case l7=>k_is)
  (case c7=>k_is)
  (case k7=>k_is)
  (case a8=>k_is)
  (case l8=>k_is)
  (case c8=>k_is)
  (case k8=>k_is)
  (case hd1=>kernel_rfl)
  (case a9=>k_is)
  (case l9=>k_is)
  (case c9=>k_is)
  (case k9=>k_is)
  (case hd2=>kernel_rfl)
  (case a10=>k_is)
  (case l10=>k_is)
  (case c10=>k_is)
  (case k10=>k_is)
  (case hd3=>kernel_rfl)
  (case a11=>k_is)
  (case l11=>k_is)
  (case c11=>k_is)
  (case k11=>k_is)
  (case hd4=>kernel_rfl)
  (case a12=>k_is)
  (case l12=>k_is)
  (case c12=>k_is)
  (case k12=>k_is)
  (case a13=>k_is)
  (case l13=>k_is)
  (case c13=>k_is)
  (case k13=>k_is)
  (case a14=>k_is)
  (case vg=>k_is)
  (case c14=>k_is)
  (case k14=>k_is)
  (case a15=>k_is)
  (case l15=>k_is)
  (case c15=>k_is)
  (case k15=>k_is)
  (case a16=>k_is)
  (case l16=>k_is)
  (case c16=>k_is)
  (case k16=>k_is)
  (case a17=>k_is)
  (case l17=>k_is)
  (case c17=>k_is)
  (case k17=>k_is)
  (case a18=>k_is)
  (case l18=>k_is)
  (case c18=>k_is)
  (case k18=>k_is)
  (case a19=>k_is)
  (case l19=>k_is)
  (case c19=>k_is)
  (case k19=>k_is)
  (case a20=>k_is)
  (case l20=>k_is)
  (case c20=>k_is)
  (case k20=>k_is)
  (case a21=>k_is)
  (case l21=>k_is)
  (case c21=>k_is)
  (case k21=>k_is)
  (case a22=>k_is)
  (case l22=>k_is)
  (case c22=>k_is)
  (case k22=>k_is)
  (case a23=>k_is)
  (case l23=>k_is)
  (case c23=>k_is)
  (case k23=>k_is)
  (case a24=>k_is)
  (case l24=>k_is)
  (case c24=>k_is)
  (case k24=>k_is)
  (case a25=>k_is)
  (case l25=>k_is)
  (case c25=>k_is)
  (case k25=>k_is)
  (case a26=>k_is)
  (case l26=>k_is)
  (case c26=>k_is)
  (case k26=>k_is)
  (case a27=>k_is)
  (case l27=>k_is)
  (case c27=>k_is)
  (case k27=>k_is)
  (case a28=>k_is)
  (case l28=>k_is)
  (case c28=>k_is)
  (case k28=>k_is)
  (case a29=>k_is)
  (case l29=>k_is)
  (case c29=>k_is)
  (case k29=>k_is)
  (case a30=>k_is)
  (case l30=>k_is)
  (case c30=>k_is)
  (case k30=>k_is)
  (case a31=>k_is)
  (case l31=>k_is)
  (case c31=>k_is)
  (case k31=>k_is)
  (case a32=>k_is)
  (case l32=>k_is)
  (case c32=>k_is)
  (case k32=>k_is)
  (case a33=>k_is)
  (case l33=>k_is)
  (case c33=>k_is)
  (case k33=>k_is)
  (case a34=>k_is)
  (case l34=>k_is)
  (case c34=>k_is)
  (case k34=>k_is)
  (case a35=>k_is)
  (case l35=>k_is)
  (case c35=>k_is)
  (case k35=>k_is)
  (case hd5=>kernel_rfl)
  (case q1=>k_is)
  (case q2=>k_is)
  (case q3=>k_is)
  (case q4=>k_is)
  (case q5=>k_is)
  (case q6=>k_is)
  (case q7=>k_is)
  (case da=>k_is)
  (case dl=>k_is)
  (case dh1=>kernel_rfl)
  (case dh2=>kernel_rfl)
  (case dh3=>kernel_rfl)
  (case dh4=>kernel_rfl)
  (case e1=>k_is)
  (case e2=>k_is)
  (case e3=>k_is)
  (case e4=>k_is)
  (case z0=>k_is)
  (case z1=>k_is)
  (case z2=>k_is)
  (case z3=>k_is)
  (case z4=>k_is)
  (case z5=>k_is)
  (case z6=>k_is)
  (case z7=>k_is)
  (case z9=>k_is)
  (case z10=>k_is)
  (case z12=>k_is)
  (case z13=>k_is)
  (case z14=>k_is)
  (case z15=>k_is)
  (case z18=>k_is)
  (case z19=>k_is)
